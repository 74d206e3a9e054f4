import PyProof.Rows.All
import Wide.All
import OpenK.AllK
import Wide.FinOn
import Lean
import PyProof.EqAt
import PyProof.DictItems
import PyProof.DictWalks
import PyProof.Rows.SortStr
import PyProof.Rows.SortShellK
import PyProof.Rows.SortWalk
import KE.KRevIter
import KE.KDictList
import PyProof.CollectIter
import PyProof.DictValues
import KE.KDictSum
import PyProof.EqKinds
import PyProof.TupleCall
import PyProof.ListRange
import PyProof.P3In
import PyProof.NeData
import PyProof.NsDelKeeps
import PyProof.SliceList
import KE.KLam
import KE.KIntText
import PySem.Challenge.RW_spanmap_k54_refused_line
set_option compiler.extract_closed false
set_option bootstrap.genMatcherCode false
set_option hygiene false
local macro_rules
 | `((1:))=>`((fun cdv A outer s H E hr=>?_))
 | `((2:))=>`([lk rs 0,lk rs 1,lk rs 2,lk rs 3,lk rs 4])
 | `((3:))=>`(fun H₀ H O σ ds hd out E o e h=>?_)
 | `((4:))=>`((fun ds r hl e=>zO e))
 | `((5:))=>`(fun H₀ H O σ ds hd d Q o e q=>?_)
 | `((6:))=>`((x==("__debug__" : Str)))
 | `((7:))=>`((cxOf CX0 P w K mg base N qual (zE st) f cdv A outer s H E))
 | `((8:))=>`((bE X.prog X.w))
set_option Elab.async false
set_option linter.all false
set_option maxRecDepth 100000
open PySem renaming Addr→aA,Shared→aD,starEach→aF,mainGlobals→aH,FuncData→aJ,wpAny_bind→aS,Program→aW,model→bE,wpAny→bF,Around→bL,World→bR,eval→bT,wpAny_pure→cJ,backTo→cP,swapsWith→dF,wpAny_mono→dG,keywordEach→dJ,behindInMarks→dQ,holding→eC,attributeBase→eJ,foldedSetIterable→eL,compareOp→eO,getMethod→fH,backToKw→fN,standAt→fO,mem_of_lookup→gF,wpAny_truthy_bool→gG,assignEach→gK,wpAny_Call_Name_kw→gW,bootBuiltins→gX,callWith→hW,sysModules→iI,binaryOp→kM,NameKind→kN,wpAny_field→lI,codeAny→nE,sliceBounds→nK,wpAny_passesOwn→nT,wpAny_execs_nil→nU,codeAny_mono→oM,wpAny_newObj_type→pR,wpAny_holding→pV,assign→pW,wpAny_execs_cons→sA,Keyword→sJ,letOwnedTupleGo→tE,sizeLine_eq→uW,rawInt→uX,bindArgs→uY,IsRangeIter→uZ,noteFrame→AF,tupleKind_room_in1→CV,isTrue→CW,call_meets→CY,builtinsNs→CZ,valueAt→GZ,getItem→HA,callerA→HB,wpAny_call_entry→II,tupleKind→IJ,Paired→IK,subscripted→KS,CmpOp→KW,BindsTo→NB,wpAny_setField→QP,wpAny_call→QQ,wpAny_Expr_any→QR,atKey→QS,Result→QT,Model→QV,IntMulOk→QX,evalArgs_none→RB,wpAny_standAt→TL,swapsWithSole→TM,swappedStores→TN,cellsFrom→VZ,bindL→WA,bindC→WB,truthy→ZO,seqIndex_neg→ZP
open List renaming getElem?_set_ne→aB,mem_cons→aE,mem_append_right→aG,getElem?_set_self→aK,length_cons→aM,mem_cons_of_mem→aP,mem_singleton→aR,getElem?_eq_some_iff→aT,mem_append_left→aU,mem_cons_self→aV,size_toArray→aZ,getElem?_map→bA,map_cons→bI,getElem?_eq_none→bK,getElem?_append_left→bN,length_map→bO,nodup_cons→bZ,mem_append→cA,pairwise_cons→cB,getElem?_eq_getElem→cC,length_append→cE,lookup_cons→cI,mem_map→cM,getElem?_replicate→cV,getElem?_append_right→cW,getElem?_cons_succ→dL,nodup_append→eD,length_reverse→eE,mem_filter→eF,length_nil→eG,append_nil→eI,getElem?_cons_zero→eU,append_assoc→eV,find?_cons→eX,replicate_succ→fC,mem_map_of_mem→fD,map_map→fI,filterMap_cons→gH,cons_append→gI,flatten_cons→gY,all_eq_true→iB,map_congr_left→iF,any_cons→iN,take_of_length_le→kO,mem_reverse→lN,foldl_cons→mI,map_nil→nF,set_cons_zero→nP,set_cons_succ→nQ,mem_filterMap→nR,drop_eq_getElem_cons→oJ,reverse_cons→oN,pairwise_map→oO,drop_length→pF,drop_of_length_le→pS,of_mem_zip→pY,length_singleton→rF,length_replicate→rG,length_filter_le→rH,getElem?_reverse→rJ,mem_of_mem_take→sG,all_cons→tS,take_length→CF,length_take→CG,getElem_mem→CJ,take_append_of_le_length→DD,nil_append→DY,mem_range→HH,filterMap_eq_nil_iff→IL,pairwise_singleton→MZ,any_map→NA,pairwise_reverse→QW,pairwise_append→RD,mem_of_mem_drop→RE,length_range→ZS,foldl_append→ZT,not_mem_nil→aAn,map_fst_zip→aAo,length_drop→aAp,filter_cons→aAq,any_eq_true→aAr
open PySem.W renaming nsIn→aI,Frag→aN,mg_of→bD,keepIn→bG,findIn→cF,mg_none_of→cK,kia_one→cO,kitOne→cZ,fnOf→dH,emptyDict→dY,makesIn→eT,subIn→fA,codeIn→fK,instObj→fP,callWith_K→gL,methodCall_KW→gR,tabIn→iD,plainGet→kQ,isFn→mE,typeIn→mO,kitCls→mP,hasDictIn→nN,cellsFrom_some→oW,isClsIn→pE,lookIn→pX,plainGet_of→sB,callWith_K0→sC,mroIn→sD,clsIn→sE,kitx_tuple→sI,specialIn→tN,plainOver→tP,methodObj→tQ,kitx_list→tR,takerIn→BN,tabObj→DA,noTabs→DB,excIn→HC,codeRec_of→QU,kitx_dict→RC,handedIn→TR,readsIn→WC,kitMeta→WD,findCls→WE,OpenLaw→WF,CodeHd→ZR
open PySem.Heap renaming get?_push_of_some→aL,lt_size→bB,get?_push_size→bC,get?_update_other→fJ,size_push→kP,get?_update_self→lJ
open Option renaming bind_some→aQ,map_some→cR,map_eq_some_iff→fB,isSome_iff_exists→HG,isSome_map→TV,getD_none→WG
open Nat renaming le_refl→aY,lt_of_lt_of_le→bH,ne_of_lt→bS,le_trans→dA,lt_irrefl→dO,lt_of_le_of_lt→dX,zero_le→eK,le_of_eq→nL,le_of_lt→BO,lt_succ_self→DC,le_succ→TW,lt_succ_of_lt→aAm
open Bool renaming and_eq_true→bU,false_ne_true→cL,eq_iff_iff→pZ,false_eq_true→WH,not_eq_true'→ZW,eq_false_iff→ZX
open Int renaming emod_lt_of_pos→dB,emod_nonneg→dP,le_of_lt→BQ,le_trans→QY,neg_mul→TX,cast_ofNat_Int→ZV
open PyProof.Rows renaming envOfC→fY,callWith_type1→gM,AllBare→iQ,subscriptTail→TQ,StrsAre→ZQ,IntsAre→ZU
open PySem.F renaming plainAttrs_list→iM,slot_dict_itemiterator_iter→sF,type_list_append→HD,slot_list_append→HE,slot_dict_items→HF
open Array renaming length_toList→mJ,getElem?_eq_some_iff→nM,getElem?_toList→rA,getElem?_setIfInBounds_ne→AG
open List.Perm renaming refl→BP
open PySem.W.KF renaming slot_gs→KU
namespace HT
noncomputable def sIx(n d:Nat):Option Int->Nat
 |none=>d
 |some v=>if v<0 then (v+(n:Int)).toNat else min v.toNat n
end HT
namespace L2
open PySem
abbrev Key:=Sum Int Str
noncomputable def ixN(n:Nat)(i:Int):Option Nat:=if 0<=i then (if i<n then some i.toNat else none) else if -(n:Int)<=i then some (i+n).toNat else none
noncomputable def atI{α : Type}(xs:List α)(i:Int):Option α:=(ixN xs.length i).bind fun j=>xs[j]?
end L2
namespace FL
open PySem PySem.Spec PyProof.Rows L2
theorem bnd{α β : Type}{o:Option α}{f : α->Option β}{b : β}(h:o.bind f=some b):∃a,o=some a/\f a=some b:=Option.bind_eq_some_iff.mp h
theorem mpd{α β : Type}{o:Option α}{f : α->β}{b : β}(h:o.map f=some b):∃a,o=some a/\f a=b:=fB.mp h
noncomputable def dD:Nat->Str
 |0=>"Put" | 1=>"Widen" | 2=>"Narrow" | 3=>"Move" | 4=>"Stretch" | 5=>"Mirror" | 6=>"Deed" | 7=>"Shut" | 8=>"Open" | 9=>"Endless" | 10=>"End" | 11=>"Line" | 12=>"Bundle" | 13=>"Desk"
 |20=>"Line" | 21=>"Line" | 22=>"Line" | 23=>"Line" | 24=>"Bundle" | 25=>"Desk" | _=>""
noncomputable def cQ:Nat->List Str
 |0=>["span","fill"] | 1=>["fill","at","many"] | 2=>["fill","at","many"] | 3=>["fill","far"] | 4=>["fill","top","bottom"] | 5=>["fill"] | 6=>["fill"] | 7=>["place"] | 8=>["place"] | 11=>["pieces","places","earlier","later"] | 12=>["lying"] | 13=>["lines"]
 |21=>["pieces"] | 22=>["pieces","places"] | 23=>["pieces","places","earlier"] | _=>[]
noncomputable def fnName:Nat->Str
 |0=>"either" | 1=>"if_both" | 2=>"if_alone" | 3=>"summed" | 4=>"_law_first" | 5=>"_law_both" | 6=>"_law_left" | 7=>"_law_sum" | 8=>"_law_none" | _=>""
inductive D where
 |non | bl (b:Bool) | int (i:Int) | str (x:Str) | tup (ds:List D) | lst (ds:List D)
 |dct (ks:List Key) (ds:List D) | ins (t:Nat) (ds:List D) | clo (m n:Nat) (ds:List D)
 |dcf (ks:List Key) (ds:List D)
mutual
noncomputable def flat:D->Bool
 | .non | .bl _ | .int _ | .str _=>true
 | .tup ds=>flats ds
 |_=>false
noncomputable def flats:List D->Bool
 |[]=>true
 |d::r=>flat d&&flats r
end
noncomputable def xName:Nat->Str
 |0=>"SpanError" | 1=>"Empty" | 2=>"NoEnd" | 3=>"Clash" | 4=>"NoCount" | 5=>"NoShare" | 6=>"NoName" | 7=>"NoMark" | 8=>"NoDeed" | 9=>"NoRule" | 10=>"TooMuch" | 11=>"NoText" | _=>"NoRow"
inductive OT where
 |val (d:D) | lst (l:List OT) | tup (l:List OT) | dct (ks:List Key) (l:List OT) | ins (t:Nat) (l:List OT)
mutual
noncomputable def otD:OT->D
 | .val d=>d
 | .lst l=>.lst (otDs l)
 | .tup l=>.tup (otDs l)
 | .dct ks l=>.dct ks (otDs l)
 | .ins t l=>.ins t (otDs l)
noncomputable def otDs:List OT->List D
 |[]=>[]
 |t::r=>otD t::otDs r
end
inductive Sl where
 |no | v (d:D) | own (l:List D) | exc (t:Nat) | fr (l:List D) | ob (r:Option Nat) (t:OT)
abbrev FE:=List Sl->Option D
abbrev FT:=List Sl->Option Bool
abbrev FA:=List Sl->Option (List D)
noncomputable def mkL(f:FA):FE:=fun ds=>(f ds).map D.lst
noncomputable def zW(i:Nat):FE:=fun ds=>match ds[i]? with | some (.v d)=>some d | _=>none
noncomputable def zI(i:Nat):FE:=fun ds=>match ds[i]? with | some (.v d)=>some d | some (.own l)=>some (.lst l) | _=>none
noncomputable def zB(d:D):FE:=fun _=>some d
noncomputable def zJ(op:D->D->Option D)(fa fb:FE):FE:=fun ds=>(fa ds).bind fun x=>(fb ds).bind fun y=>op x y
noncomputable def isB:D->Option Bool
 | .bl b=>some b
 |_=>none
noncomputable def zT(f:FE):FT:=fun ds=>(f ds).bind isB
noncomputable def yP:D->D->Option D
 | .int i,.int j=>some (.int (i+j))
 | .str x,.str y=>if x.length+y.length<=sizeLine then some (.str (x++y)) else none
 |_,_=>none
noncomputable def subD:D->D->Option D
 | .int i,.int j=>some (.int (i-j))
 |_,_=>none
noncomputable def divOk(j:Int):Prop:=0<j/\j.natAbs.log2<9000
noncomputable instance divOkD(j:Int):Decidable (divOk j):=Classical.propDecidable _
noncomputable def qX:D->D->Option D
 | .int i,.int j=>if divOk j then some (.int (i/j)) else none
 |_,_=>none
noncomputable def jK:D->D->Option D
 | .int i,.int j=>if 0<j then some (.int (i%j)) else none
 |_,_=>none
noncomputable def cmpI(p:Int->Int->Bool):D->D->Option D
 | .int i,.int j=>some (.bl (p i j))
 |_,_=>none
noncomputable def andT(c d:FT):FT:=fun ds=>(c ds).bind fun b=>if b=true then d ds else some false
noncomputable def orT(c d:FT):FT:=fun ds=>(c ds).bind fun b=>if b=true then some true else d ds
noncomputable def notT(c:FT):FT:=fun ds=>(c ds).map not
noncomputable def andV(f g:FE):FE:=fun ds=>(f ds).bind fun d=>match d with | .bl true=>g ds | .bl false=>some (.bl false) | _=>none
noncomputable def orV(f g:FE):FE:=fun ds=>(f ds).bind fun d=>match d with | .bl true=>some (.bl true) | .bl false=>g ds | _=>none
noncomputable def notV(f:FE):FE:=fun ds=>(f ds).bind fun d=>match d with | .bl b=>some (.bl (!b)) | _=>none
noncomputable def ifV(c:FT)(f g:FE):FE:=fun ds=>(c ds).bind fun b=>if b=true then f ds else g ds
noncomputable def chain(op op':D->D->Option D)(fa fb fc:FE):FE:=fun ds=>(fa ds).bind fun x=>(fb ds).bind fun y=>(op x y).bind fun z=>match z with
 | .bl true=>(fc ds).bind fun w=>op' y w
 | .bl false=>some (.bl false)
 |_=>none
noncomputable def zA(f:FE)(g:FA):FA:=fun ds=>(f ds).bind fun x=>(g ds).map fun r=>x::r
noncomputable def zM:FA:=fun _=>some []
noncomputable def zU(f:FA):FA:=fun ds=>(f ds).bind fun l=>if l.length<=sizeLine then some l else none
noncomputable def mkT(f:FA):FE:=fun ds=>(f ds).map D.tup
noncomputable def ixD:D->D->Option D
 | .lst l,.int i=>atI l i
 | .tup l,.int i=>atI l i
 | .str x,.int i=>if x.length<=sizeLine then (atI x.cps.toList i).map fun c=>.str ⟨#[c]⟩ else none
 |_,_=>none
inductive Ret where
 |val (d:D) | fresh (l:List D) | any (d:D) | obj (t:OT)
noncomputable def retV:Ret->Option D
 | .val d=>some d
 | .fresh l=>some (.lst l)
 | .any _=>none
 | .obj t=>some (otD t)
noncomputable def retF:Ret->Option (List D)
 | .fresh l=>some l
 |_=>none
noncomputable def qC(n:Nat)(F:List D->Option Ret)(g:FA):FE:=fun ds=>(g ds).bind fun l=>if l.length=n then (F l).bind retV else none
noncomputable def jT(n:Nat)(F:List D->Option Ret)(g:FA):FA:=fun ds=>(g ds).bind fun l=>if l.length=n then (F l).bind retF else none
noncomputable def callB(F:List D->Option D)(g:FA):FE:=fun ds=>(g ds).bind F
noncomputable def lenD:List D->Option D
 |[.lst l]=>some (.int l.length)
 |[.tup l]=>some (.int l.length)
 |[.str x]=>if x.length<=sizeLine then some (.int x.length) else none
 |_=>none
inductive Out where
 |nx (ds:List Sl) | rt (r:Ret) | bk (ds:List Sl) | ct (ds:List Sl)
abbrev FS:=List Sl->Option Out
noncomputable def qN:FS:=fun ds=>some (.nx ds)
noncomputable def qF(f g:FS):FS:=fun ds=>(f ds).bind fun o=>match o with | .nx ds'=>g ds' | o=>some o
noncomputable def ifG(c:FT)(f g:FS):FS:=fun ds=>(c ds).bind fun b=>if b=true then f ds else g ds
noncomputable def jY(i:Nat)(f:FE):FS:=fun ds=>(f ds).map fun d=>.nx (ds.set i (.v d))
noncomputable def setOG(i:Nat)(f:FA):FS:=fun ds=>(f ds).map fun l=>.nx (ds.set i (.own l))
noncomputable def flatR(d:D):Option Out:=if flat d=true then some (.rt (.val d)) else none
noncomputable def retG(f:FE):FS:=fun ds=>(f ds).bind flatR
noncomputable def flatF(l:List D):Option Out:=if flats l=true then some (.rt (.fresh l)) else none
noncomputable def retOG(f:FA):FS:=fun ds=>(f ds).bind flatF
noncomputable def retXG(i:Nat):FS:=fun ds=>match ds[i]? with | some (.own l)=>flatF l | _=>none
noncomputable def putG(i:Nat)(fk fe:FE):FS:=fun ds=>match ds[i]? with
 | some (.own l) => (fe ds).bind fun d => (fk ds).bind fun k => match k with
   | .int n=>(ixN l.length n).map fun j=>.nx (ds.set i (.own (l.set j d)))
   |_=>none
 |_=>none
noncomputable def appG(i:Nat)(fe:FE):FS:=fun ds=>match ds[i]? with
 |some (.own l)=>(fe ds).bind fun d=>if l.length<sizeLine then some (.nx (ds.set i (.own (l++[d])))) else none
 |_=>none
noncomputable def args(n:Nat)(ds:List D):List Sl:=ds.map Sl.v++List.replicate (n-ds.length) Sl.no
noncomputable def sgns(x:Str):List D:=x.cps.toList.map fun c=>D.str ⟨#[c]⟩
noncomputable def asS:D->Option (List D)
 | .str x=>some (sgns x)
 |_=>none
noncomputable def viaA(f:FE)(k:D->Option (List D)):FA:=fun ds=>(f ds).bind k
noncomputable def iC(lo:Int)(n:Nat):List D:=(List.range n).map fun(k:Nat)=>D.int (lo+(k:Int))
noncomputable def okR(j:Int):Prop:=-(2 ^ 62)<=j/\j<2 ^ 62
noncomputable instance okRD(j:Int):Decidable (okR j):=Classical.propDecidable _
noncomputable def rng1(f:FE):FA:=fun ds=>(f ds).bind fun d=>match d with | .int j=>if okR j then some (iC 0 j.toNat) else none | _=>none
noncomputable def zZ(i:Nat):D->List Sl->Option (List Sl):=fun d ds=>some (ds.set i (.v d))
noncomputable def tgNil:List D->List Sl->Option (List Sl)
 |[],ds=>some ds
 |_,_=>none
noncomputable def qH(g:D->List Sl->Option (List Sl))(h:List D->List Sl->Option (List Sl)):List D->List Sl->Option (List Sl)
 |d::r,ds=>(g d ds).bind fun ds'=>h r ds'
 |_,_=>none
noncomputable def tupG(n:Nat)(h:List D->List Sl->Option (List Sl)):D->List Sl->Option (List Sl)
 | .tup l,ds=>if l.length=n then h l ds else none
 |_,_=>none
noncomputable def jI(ga:D->List Sl->Option (List Sl))(body:FS):List D->List Sl->Option Out
 |[],ds=>some (.nx ds)
 | d :: r, ds => (ga d ds).bind fun ds1 => (body ds1).bind fun o => match o with
   | .nx ds2=>jI ga body r ds2
   | .ct ds2=>jI ga body r ds2
   | .bk ds2=>some (.nx ds2)
   | .rt r=>some (.rt r)
noncomputable def forG(fi:FA)(ga:D->List Sl->Option (List Sl))(body:FS):FS:=fun ds=>(fi ds).bind fun items=>jI ga body items ds
noncomputable def compL(ga:D->List Sl->Option (List Sl))(tt:FT)(fe:FE)(s0:List Sl):List D->Option (List D)
 |[]=>some []
 |d::r=>(ga d s0).bind fun ds1=>(tt ds1).bind fun b=>if b=true then (fe ds1).bind fun y=>(compL ga tt fe s0 r).map fun ys=>y::ys else compL ga tt fe s0 r
noncomputable def jO(mp:List (Option Nat))(ds:List Sl):List Sl:=mp.map fun o=>match o with
 |some j=>(match ds[j]? with | some (.v d)=>.v d | _=>.no)
 |none=>.no
noncomputable def compG(fi:FA)(mp:List (Option Nat))(ga:D->List Sl->Option (List Sl))(tt:FT)(fe:FE):FA:=fun ds=>(fi ds).bind fun items=>if items.length<=sizeLine then compL ga tt fe (jO mp ds) items else none
noncomputable def tyD:D->Option String
 | .non=>some "NoneType"
 | .bl _=>some "bool"
 | .int _=>some "int"
 | .str _=>some "str"
 | .tup _=>some "tuple"
 | .lst _=>some "list"
 | .dct _ _=>some "dict"
 | .ins _ _=>none
 | .clo _ _ _=>none
 | .dcf _ _=>none
noncomputable def kitN:List String:=["NoneType","bool","int","str","tuple","list","dict"]
noncomputable def kitT:List String:=["bool","int","str","tuple","list","dict"]
noncomputable def kitF(t T:String):Option Bool:=if t∈kitN/\T∈kitT then some (t==T||(t=="bool"&&T=="int")) else none
noncomputable def isiD(T:String)(d:D):Option D:=(tyD d).bind fun t=>(kitF t T).map D.bl
noncomputable def isiG(T:String)(f:FE):FE:=fun ds=>(f ds).bind (isiD T)
noncomputable def blsD:List D->Option (List Bool)
 |[]=>some []
 | .bl b::r=>(blsD r).map fun bs=>b::bs
 |_=>none
noncomputable def allD:List D->Option D
 |[.lst l]=>(blsD l).map fun bs=>.bl (bs.all id)
 |_=>none
noncomputable def negD:D->Option D
 | .int i=>some (.int (-i))
 |_=>none
noncomputable def un1(op:D->Option D)(f:FE):FE:=fun ds=>(f ds).bind op
noncomputable def inS:D->D->Option D
 | .str i,.str j=>some (.bl (!(Builtin.Str.occurrences j i 0 j.length 1).isEmpty))
 |_,_=>none
noncomputable def retDG(f:FE):FS:=fun ds=>(f ds).map fun d=>.rt (.val d)
noncomputable def runG(g:FS)(n:Nat):List D->Option Ret:=fun ds=>match g (args n ds) with
 |some (.rt r)=>some r
 |some (.nx _)=>some (.val .non)
 |_=>none
noncomputable def CPowB(i j:Int):Prop:=0<=j/\(Builtin.Int.intBits i:Int)*j<=2 ^ 27
mutual
noncomputable def toPy:D->PyData
 | .non=>.none
 | .bl b=>.bool b
 | .int i=>.int i
 | .str x=>.str x
 | .tup ds=>.tuple (toPys ds)
 | .lst ds=>.list (toPys ds)
 | .dct _ _=>.none
 | .ins _ _=>.none
 | .clo _ _ _=>.none
 | .dcf _ _=>.none
noncomputable def toPys:List D->List PyData
 |[]=>[]
 |d::r=>toPy d::toPys r
end
mutual
noncomputable def shal:Nat->D->Bool
 |_,.non=>true
 |_,.bl _=>true
 |_,.int _=>true
 |_,.str x=>PyData.strOk x
 |n,.tup ds=>shals n ds
 |n,.lst ds=>shals n ds
 |_,.dct _ _=>false
 |_,.ins _ _=>false
 |_,.clo _ _ _=>false
 |_,.dcf _ _=>false
noncomputable def shals:Nat->List D->Bool
 |_,[]=>true
 |0,_::_=>false
 |n+1,d::r=>shal n d&&shals (n+1) r
end
noncomputable def eqvD(x y:D):Bool:=PyData.eqv (toPy x) (toPy y)
noncomputable def eqvs(x y:List D):Bool:=PyData.eqvAll (toPys x) (toPys y)
noncomputable def eqD(x y:D):Option D:=if shal 40 x=true/\shal 40 y=true then some (.bl (eqvD x y)) else none
noncomputable def neD(x y:D):Option D:=if shal 40 x=true/\shal 40 y=true then some (.bl (!eqvD x y)) else none
noncomputable def isD:D->D->Option D
 | .non,.non=>some (.bl true)
 |_,.non=>some (.bl false)
 |_,_=>none
noncomputable def notD:D->D->Option D
 | .non,.non=>some (.bl false)
 |_,.non=>some (.bl true)
 |_,_=>none
noncomputable def sclD:D->Bool
 | .non | .bl _ | .int _ | .str _=>true
 |_=>false
noncomputable def asLT:D->Option (List D)
 | .lst l=>some l
 | .tup l=>some l
 |_=>none
noncomputable def inD(neg:Bool)(x y:D):Option D:=(asLT y).bind fun l=>if sclD x=true/\l.all sclD=true then some (.bl (if neg then !l.any (fun z=>eqvD z x) else l.any fun z=>eqvD z x)) else none
noncomputable instance mulOkD(i j:Int):Decidable (QX i j):=Classical.propDecidable _
noncomputable instance powOkD(i j:Int):Decidable (CPowB i j):=Classical.propDecidable _
noncomputable def mulD:D->D->Option D
 | .int i,.int j=>if QX i j then some (.int (i*j)) else none
 |_,_=>none
noncomputable def powD:D->D->Option D
 | .int i,.int j=>if CPowB i j then some (.int (i ^ j.toNat)) else none
 |_,_=>none
noncomputable def catA(fa fb:FE):FA:=fun ds=>(fa ds).bind fun x=>(fb ds).bind fun y=>match x,y with
 | .lst a,.lst b=>if a.length+b.length<=sizeLine then some (a++b) else none
 |_,_=>none
noncomputable def noP:List Sl->Option (Option Int):=fun _=>some none
noncomputable def soP(f:FE):List Sl->Option (Option Int):=fun ds=>(f ds).bind fun d=>match d with | .int i=>some (some i) | _=>none
noncomputable def cutD(l:List D)(lo hi:Option Int):List D:=(l.drop (HT.sIx l.length 0 lo)).take (HT.sIx l.length l.length hi-HT.sIx l.length 0 lo)
noncomputable def sliA(f:FE)(lo hi:List Sl->Option (Option Int)):FA:=fun ds=>(f ds).bind fun d=>(lo ds).bind fun a=>(hi ds).bind fun b=>match d with
 | .lst l=>some (cutD l a b)
 |_=>none
noncomputable def lisA(f:FE):FA:=fun ds=>(f ds).bind asLT
noncomputable def mxD:List D->Option D
 |[.int i,.int j]=>some (.int (if j>i then j else i))
 |_=>none
noncomputable def mnD:List D->Option D
 |[.int i,.int j]=>some (.int (if j<i then j else i))
 |_=>none
noncomputable def absD:List D->Option D
 |[.int i]=>some (.int (if i<0 then -i else i))
 |_=>none
noncomputable def truD:D->Option Bool
 | .non=>some false
 | .bl b=>some b
 | .int i=>some (i != 0)
 | .str x=>if x.length<=sizeLine then some ((x.length:Int) != 0) else none
 | .tup l=>some (!l.isEmpty)
 | .lst l=>some (!l.isEmpty)
 |_=>none
noncomputable def testT(f:FE):FT:=fun ds=>(f ds).bind truD
noncomputable def relS(i:Nat)(ds:List Sl):List Sl:=match ds[i]? with | some (.own l)=>ds.set i (.v (.lst l)) | _=>ds
noncomputable def asgG(ga:D->List Sl->Option (List Sl))(f:FE):FS:=fun ds=>(f ds).bind fun d=>(ga d ds).map .nx
noncomputable def extG(i:Nat)(fe:FA):FS:=fun ds=>match ds[i]? with
 |some (.own l)=>(fe ds).bind fun d=>if l.length+d.length<=sizeLine then some (.nx (ds.set i (.own (l++d)))) else none
 |_=>none
noncomputable def clrG(i:Nat):FS:=fun ds=>match ds[i]? with
 |some (.own l)=>some (.nx (ds.set i (.own [])))
 |_=>none
noncomputable def ltD:D->D->Option D:=cmpI fun i j=>decide (i<j)
noncomputable def leD:D->D->Option D:=cmpI fun i j=>decide (i<=j)
noncomputable def gtD:D->D->Option D:=cmpI fun i j=>decide (j<i)
noncomputable def geD:D->D->Option D:=cmpI fun i j=>decide (j<=i)
noncomputable def rng2(fa fb:FE):FA:=fun ds=>(fa ds).bind fun x=>(fb ds).bind fun y=>match x,y with
 | .int i,.int j=>if okR i/\okR j then some (iC i (j-i).toNat) else none
 |_,_=>none
noncomputable def UF(lo c:Int)(n:Nat):List D:=(List.range n).map fun(k:Nat)=>D.int (lo+(k:Int)*c)
noncomputable def aBe(i j c:Int):Nat:=if i<j then ((j-i-1)/c+1).toNat else 0
noncomputable def okR3(i j c:Int):Prop:=-(2 ^ 61)<=i/\i<2 ^ 61/\-(2 ^ 61)<=j/\j<2 ^ 61/\0<c/\c<1000000
noncomputable instance okR3D(i j c:Int):Decidable (okR3 i j c):=Classical.propDecidable _
noncomputable def rng3(fa fb fc:FE):FA:=fun ds=>(fa ds).bind fun x=>(fb ds).bind fun y=>(fc ds).bind fun z=>match x,y,z with
 | .int i,.int j,.int c=>if okR3 i j c then some (UF i c (aBe i j c)) else none
 |_,_,_=>none
noncomputable def revA(f:FE):FA:=fun ds=>(f ds).bind fun d=>match d with
 | .lst l=>some l.reverse
 |_=>none
noncomputable def augA(i:Nat)(f:FE):FS:=fun ds=>(zW i ds).bind fun x=>(f ds).bind fun y=>match x,y with
 | .int a,.int b=>some (.nx (ds.set i (.v (.int (a+b)))))
 |_,_=>none
noncomputable def parG(i j:Nat)(f:FA):FS:=fun ds=>(f ds).bind fun l=>match l with
 |[a,b]=>some (.nx ((ds.set i (.v a)).set j (.v b)))
 |_=>none
noncomputable def int1D:List D->Option D
 |[.int i]=>some (.int i)
 |[.bl b]=>some (.int (if b then 1 else 0))
 |_=>none
abbrev Fun2:=D->List D->Option Ret
end FL
namespace FL
open PySem PyProof.Rows L2
noncomputable def inE(neg:Bool)(x y:D):Option D:=match y with
 | .lst l=>if shal 40 x=true/\shals 40 l=true then some (.bl (if neg=true then !l.any (fun z=>eqvD z x) else l.any fun z=>eqvD z x)) else none
 |_=>none
noncomputable def repF(f:FA)(g:FE):FA:=fun ds=>(f ds).bind fun l=>(g ds).bind fun y=>match y with
 | .int k=>if 0<=k/\k<=1000/\l.length*k.toNat<=sizeLine then some (List.replicate k.toNat l).flatten else none
 |_=>none
noncomputable def fldD(ix:List (Nat×Nat)):D->Option D
 | .ins t ds=>(ix.lookup t).bind fun i=>ds[i]?
 |_=>none
noncomputable def fldG(ix:List (Nat×Nat))(f:FE):FE:=fun ds=>(f ds).bind (fldD ix)
noncomputable def methR(n:Nat)(cs:List Nat)(F:Nat->List D->Option Ret)(o:D)(l:List D):Option Ret:=match o with
 | .ins t es=>if t∈cs/\l.length=n then F t (.ins t es::l) else none
 |_=>none
noncomputable def methV(n:Nat)(cs:List Nat)(F:Nat->List D->Option Ret)(fo:FE)(g:FA):FE:=fun ds=>(fo ds).bind fun o=>(g ds).bind fun l=>(methR n cs F o l).bind retV
noncomputable def methF(n:Nat)(cs:List Nat)(F:Nat->List D->Option Ret)(fo:FE)(g:FA):FA:=fun ds=>(fo ds).bind fun o=>(g ds).bind fun l=>(methR n cs F o l).bind retF
noncomputable def makeG(t n:Nat)(G:List D->Option (List D))(g:FA):FE:=fun ds=>(g ds).bind fun l=>if l.length=n/\flats l=true then (G l).map (D.ins t) else none
abbrev FN:=List Sl->Option (List D)
noncomputable def seqN(f g:FN):FN:=fun ds=>(f ds).bind fun a=>(g ds).map fun b=>a++b
noncomputable def fldN(f:FE):FN:=fun ds=>(f ds).bind fun d=>if flat d=true then some [d] else none
noncomputable def dropN(f:FE):FN:=fun ds=>(f ds).map fun _=>[]
noncomputable def supN(G:List D->Option (List D)):FN:=fun _=>G []
noncomputable def argsN(n:Nat)(ds:List D):List Sl:=Sl.no::(ds.map Sl.v++List.replicate (n-(ds.length+1)) Sl.no)
noncomputable def runN(g:FN)(n:Nat):List D->Option (List D):=fun ds=>(g (argsN n ds)).bind fun new=>if flats new=true then some new else none
end FL
namespace FL
open PySem
noncomputable def ifX(c:FT)(a b:List Sl->Bool):List Sl->Bool:=fun ds=>match c ds with
 |some true=>a ds
 |some false=>b ds
 |none=>false
noncomputable def kL:List Sl->Bool:=fun _=>false
noncomputable def lM:List Sl->Bool:=fun _=>true
noncomputable def runX(x:List Sl->Bool)(n:Nat):List D->Bool:=fun ds=>x (args n ds)
noncomputable def goneO(i:Nat):Out->Out
 | .nx ds=>.nx (ds.set i .no)
 | .bk ds=>.bk (ds.set i .no)
 | .ct ds=>.ct (ds.set i .no)
 | .rt r=>.rt r
noncomputable def isxG(i:Nat)(tb:List (Nat×Bool)):FE:=fun ds=>match ds[i]? with
 |some (.exc t)=>(tb.lookup t).map D.bl
 |_=>none
noncomputable def argsE(n t:Nat):List Sl:=.exc t::List.replicate (n-1) .no
noncomputable def runH(g:FS)(n:Nat):Nat->Option Ret:=fun t=>match g (argsE n t) with
 |some (.rt r)=>some r
 |_=>none
noncomputable def tM(i:Nat)(F:Nat->Option Ret):List Sl->Option (List D):=fun ds=>match ds[i]? with
 |some (.exc t)=>(F t).bind retF
 |_=>none
noncomputable def okRB(i j:Int):Prop:=-(2 ^ 61)<=i/\i<2 ^ 61/\-(2 ^ 61)<=j/\j<2 ^ 61
noncomputable instance okRBD(i j:Int):Decidable (okRB i j):=Classical.propDecidable _
end FL
namespace FL
noncomputable def sltW(f:FE)(lo hi:List Sl->Option (Option Int)):FE:=fun ds=>(f ds).bind fun d=>(lo ds).bind fun a=>(hi ds).bind fun b=>match d with
 | .tup l=>some (.tup (cutD l a b))
 |_=>none
end FL
namespace FL
open PySem PyProof.Rows L2
noncomputable def rngL(fa fb:FE):FA:=fun ds=>(fa ds).bind fun x=>(fb ds).bind fun y=>match x,y with
 | .int i,.int j=>some (iC i (j-i).toNat)
 |_,_=>none
@[simp] theorem rngL_eq(fa fb:FE)(ds:List Sl):rngL fa fb ds=(fa ds).bind fun x=>(fb ds).bind fun y=>match x,y with
 | .int i,.int j=>some (iC i (j-i).toNat)
 |_,_=>none:=rfl
noncomputable def tryG3(i t u v:Nat)(g:FS)(x y z:List Sl->Bool)(h:FS):FS:=fun ds=>if x ds=true then (h (ds.set i (.exc t))).map (goneO i) else if y ds=true then (h (ds.set i (.exc u))).map (goneO i) else if z ds=true then (h (ds.set i (.exc v))).map (goneO i) else g ds
noncomputable instance mulOkSD(x:Str)(n:Int):Decidable (MulOk x n):=Classical.propDecidable _
noncomputable def slsS(f:FE)(lo hi:List Sl->Option (Option Int)):FE:=fun ds=>(f ds).bind fun d=>(lo ds).bind fun a=>(hi ds).bind fun b=>match d with
 | .str x=>if x.length<=sizeLine then some (.str (Txt.slice x a b)) else none
 |_=>none
abbrev FO:=List Sl->Option OT
abbrev FOs:=List Sl->Option (List OT)
noncomputable def getN(i:Nat):FE:=fun ds=>match ds[i]? with
 |some (.v d)=>some d
 |some (.own l)=>some (.lst l)
 |some (.ob _ t)=>some (otD t)
 |_=>none
noncomputable def vO(f:FE):FO:=fun ds=>(f ds).map OT.val
noncomputable def lO(f:FA):FO:=fun ds=>(f ds).map fun l=>.lst (l.map OT.val)
noncomputable def nilO:FOs:=fun _=>some []
noncomputable def consO(f:FO)(g:FOs):FOs:=fun ds=>(f ds).bind fun x=>(g ds).map fun r=>x::r
noncomputable def tO(f:FOs):FO:=fun ds=>(f ds).bind fun l=>if l.length<=sizeLine then some (.tup l) else none
noncomputable def sO(f:FOs):FO:=fun ds=>(f ds).bind fun l=>if l.length<=sizeLine then some (.lst l) else none
noncomputable def setB(i:Nat)(f:FO):FS:=fun ds=>(f ds).map fun t=>.nx (ds.set i (.ob none t))
mutual
noncomputable def flatO:OT->Bool
 | .val d=>flat d
 | .lst l=>oK l
 | .tup l=>oK l
 | .dct _ l=>oK l
 | .ins _ l=>oK l
noncomputable def oK:List OT->Bool
 |[]=>true
 |t::r=>flatO t&&oK r
end
noncomputable def retBG(f:FO):FS:=fun ds=>(f ds).bind fun t=>if flatO t=true then some (.rt (.obj t)) else none
noncomputable def subO:List Nat->OT->Option OT
 |[],t=>some t
 |k::p,.tup l=>(l[k]?).bind (subO p)
 |k::p,.lst l=>(l[k]?).bind (subO p)
 |k::p,.dct _ l=>(l[k]?).bind (subO p)
 |k::p,.ins _ l=>(l[k]?).bind (subO p)
 |_::_,.val _=>none
noncomputable def putO(u:OT):List Nat->OT->OT
 |[],_=>u
 |k::p,.tup l=>.tup (l.modify k (putO u p))
 |k::p,.lst l=>.lst (l.modify k (putO u p))
 |k::p,.dct ks l=>.dct ks (l.modify k (putO u p))
 |k::p,.ins t l=>.ins t (l.modify k (putO u p))
 |_::_,.val d=>.val d
abbrev FP:=List Sl->Option (Nat×List Nat×OT)
noncomputable def varP(i:Nat):FP:=fun ds=>match ds[i]? with
 |some (.ob _ t)=>some (i,[],t)
 |_=>none
noncomputable def atP(ix:List (Nat×Nat))(f:FP):FP:=fun ds=>(f ds).bind fun q=>match q.2.2 with
 | .ins t l=>(ix.lookup t).bind fun k=>(l[k]?).map fun u=>(q.1,q.2.1++[k],u)
 |_=>none
noncomputable def putP(q:Nat×List Nat×OT)(u:OT)(ds:List Sl):List Sl:=match ds[q.1]? with
 |some (.ob r t)=>ds.set q.1 (.ob r (putO u q.2.1 t))
 |_=>ds
noncomputable def retO:Ret->Option OT
 | .obj t=>some t
 |_=>none
noncomputable def callO(n:Nat)(F:List D->Option Ret)(g:FA):FO:=fun ds=>(g ds).bind fun l=>if l.length=n then (F l).bind retO else none
@[simp] theorem getN_eq(i:Nat)(ds:List Sl):getN i ds=match ds[i]? with
 |some (.v d)=>some d
 |some (.own l)=>some (.lst l)
 |some (.ob _ t)=>some (otD t)
 |_=>none:=rfl
@[simp] theorem vO_eq(f:FE)(ds:List Sl):vO f ds=(f ds).map OT.val:=rfl
@[simp] theorem lO_eq(f:FA)(ds:List Sl):lO f ds=(f ds).map fun l=>.lst (l.map OT.val):=rfl
@[simp] theorem nilO_eq(ds:List Sl):nilO ds=some []:=rfl
@[simp] theorem consO_eq(f:FO)(g:FOs)(ds:List Sl):consO f g ds=(f ds).bind fun x=>(g ds).map fun r=>x::r:=rfl
@[simp] theorem tO_eq(f:FOs)(ds:List Sl):tO f ds=(f ds).bind fun l=>if l.length<=sizeLine then some (.tup l) else none:=rfl
@[simp] theorem setB_eq(i:Nat)(f:FO)(ds:List Sl):setB i f ds=(f ds).map fun t=>.nx (ds.set i (.ob none t)):=rfl
noncomputable def valP(f:FP):FE:=fun ds=>(f ds).bind fun q=>match q.2.2 with
 | .val d=>some d
 |_=>none
noncomputable def seeP(f:FP):FE:=fun ds=>(f ds).map fun q=>otD q.2.2
noncomputable def setAt(ix:List (Nat×Nat))(f:FP)(g:FO):FS:=fun ds=>(g ds).bind fun T=>(f ds).bind fun q=>match q.2.2 with
 | .ins t l=>(ix.lookup t).bind fun k=>if k<l.length/\l.length<900 then some (.nx (putP q (.ins t (l.set k T)) ds)) else none
 |_=>none
noncomputable def appP(f:FP)(g:FE):FS:=fun ds=>(f ds).bind fun q=>(g ds).bind fun d=>match q.2.2 with
 | .lst l=>if l.length<sizeLine then some (.nx (putP q (.lst (l++[.val d])) ds)) else none
 |_=>none
noncomputable def keyD:D->Option Key
 | .int i=>some (.inl i)
 | .str x=>some (.inr x)
 |_=>none
noncomputable def putTs(k:Key)(T:OT):List Key->List OT->List OT
 |k'::ks,t::ts=>(if k'=k then T else t)::putTs k T ks ts
 |_,ts=>ts
noncomputable def hasK(k:Key)(ks:List Key):Bool:=ks.any fun k'=>decide (k'=k)
noncomputable def putKT(k:Key)(T:OT)(ks:List Key)(ts:List OT):OT:=if hasK k ks=true then .dct ks (putTs k T ks ts) else .dct (ks++[k]) (ts++[T])
noncomputable def getKD(k:Key):List Key->List D->Option D
 |k'::ks,d::ds=>if k'=k then some d else getKD k ks ds
 |_,_=>none
noncomputable def kdD:D->Option (List Key×List D)
 | .dct ks l=>some (ks,l)
 | .dcf ks l=>some (ks,l)
 |_=>none
noncomputable def dO0:FO:=fun _=>some (.dct [] [])
noncomputable def dputG(f:FP)(fk fv:FE):FS:=fun ds=>(fv ds).bind fun d=>(f ds).bind fun q=>(fk ds).bind fun y=>(keyD y).bind fun k=>match q.2.2 with
 | .dct ks ts=>if ks.length<sizeLine then some (.nx (putP q (putKT k (.val d) ks ts) ds)) else none
 |_=>none
noncomputable def dgetG(fd fk:FE):FE:=fun ds=>(fd ds).bind fun x=>(fk ds).bind fun y=>(keyD y).bind fun k=>(kdD x).bind fun p=>getKD k p.1 p.2
noncomputable def dinG(fk fd:FE):FT:=fun ds=>(fk ds).bind fun y=>(keyD y).bind fun k=>(fd ds).bind fun x=>(kdD x).map fun p=>hasK k p.1
noncomputable def dnotG(fk fd:FE):FT:=fun ds=>(dinG fk fd ds).map fun b=>!b
noncomputable def MN(fd:FE):FO:=fun ds=>(fd ds).bind fun x=>(kdD x).map fun p=>.dct p.1 (p.2.map OT.val)
noncomputable def valsO:List OT->Option (List D)
 |[]=>some []
 | .val d::r=>(valsO r).map fun l=>d::l
 |_::_=>none
noncomputable def frzDG(i:Nat)(g:FS):FS:=fun ds=>match ds[i]? with
 |some (.ob _ (.dct ks ts))=>(valsO ts).bind fun l=>g (ds.set i (.v (.dcf ks l)))
 |_=>none
noncomputable def keyDD:Key->D
 | .inl i=>.int i
 | .inr x=>.str x
noncomputable def nJ(ks:List Key)(l:List D):List D:=(ks.zip l).map fun p=>.tup [keyDD p.1,p.2]
noncomputable def tH(f:FE):FA:=fun ds=>(f ds).bind fun x=>match x with
 | .dcf ks l=>some (nJ ks l)
 |_=>none
noncomputable def argsL(n:Nat)(T:OT)(l:List D):List Sl:=.ob (some 0) T::args (n-1) l
noncomputable def ob0:Option Sl->Option OT
 |some (.ob (some 0) T)=>some T
 |_=>none
noncomputable def lentF(g:FS)(n:Nat)(T:OT)(l:List D):Option OT:=match g (argsL n T l) with
 |some (.nx ds)=>ob0 ds[0]?
 |_=>none
noncomputable def lentG(n:Nat)(cs:List Nat)(F:Nat->OT->List D->Option OT)(f:FP)(g:FA):FS:=fun ds=>(f ds).bind fun q=>(g ds).bind fun l=>match q.2.2 with
 | .ins t ts=>if t∈cs/\l.length=n then (F t (.ins t ts) l).map fun T'=>.nx (putP q T' ds) else none
 |_=>none
noncomputable def setNw(t t':Nat)(f:FP)(g:FO):FS:=fun ds=>(g ds).bind fun T=>(f ds).bind fun q=>match q.2.2 with
 | .ins c l=>if c=t/\l.length<900 then some (.nx (putP q (.ins t' (l++[T])) ds)) else none
 |_=>none
noncomputable def makeO(t n m:Nat)(F:OT->List D->Option OT)(g:FA):FO:=fun ds=>(g ds).bind fun l=>if l.length+m=n then F (.ins t []) (l++List.replicate m .non) else none
abbrev FX:=List Sl->Option (D×List Sl)
noncomputable def popX(f:FP):FX:=fun ds=>(f ds).bind fun q=>match q.2.2 with
 | .lst l => (match l.getLast? with
   |some (.val d)=>some (d,putP q (.lst l.dropLast) ds)
   |_=>none)
 |_=>none
noncomputable def lentX(cs:List Nat)(F:Nat->OT->List D->Option OT)(i:Nat)(g:FX):FS:=fun ds=>(varP i ds).bind fun q0=>match q0.2.2 with
 | .ins t _ => if t ∈ cs then (g ds).bind fun p => (varP i p.2).bind fun q => match q.2.2 with
   | .ins t' ts=>if t'=t then (F t (.ins t ts) [p.1]).map fun T=>.nx (putP q T p.2) else none
   |_=>none
   else none
 |_=>none
noncomputable def leT(a b:Str):Prop:=¬b.cps.toList<a.cps.toList
theorem JQ{a b c:Str}(h1:leT a b)(h2:leT b c):leT a c:=fun h=>by
 rcases strKind.negTrans c.cps.toList b.cps.toList a.cps.toList (decide_eq_true h) with q | q
 . exact h2 (of_decide_eq_true q)
 . exact h1 (of_decide_eq_true q)
theorem YF{a b:Str}(h:a.cps.toList<b.cps.toList):leT a b:=fun q=>List.lt_irrefl _ (List.lt_trans h q)
theorem MC{a b:Str}(h1:leT a b)(h2:leT b a):a=b:=by
 have:a.cps.toList=b.cps.toList:=List.le_antisymm (List.not_lt.mp h1) (List.not_lt.mp h2);cases a;cases b;simp only[Str.mk.injEq];exact Array.toList_inj.mp this
noncomputable def insT(k:Str):List Str->List Str
 |[]=>[k]
 |a::l=>if a.cps.toList<k.cps.toList then a::insT k l else k::a::l
noncomputable def srtT(ns:List Str):List Str:=ns.foldr insT []
theorem kE(k:Str):∀l:List Str,(insT k l).Perm (k::l)
 |[]=>BP _
 | a :: l => by
   unfold insT
   split
   . exact(List.Perm.cons a (kE k l)).trans (List.Perm.swap _ _ _)
   . exact BP _
theorem srtT_perm:∀ns:List Str,(srtT ns).Perm ns
 |[]=>BP _
 |k::ns=>(kE k _).trans (List.Perm.cons k (srtT_perm ns))
theorem VH(k:Str):∀l:List Str,l.Pairwise leT->(insT k l).Pairwise leT
 |[],_=>MZ _ _
 | a :: l, h => by
   obtain⟨h1,h2⟩:=cB.mp h;unfold insT
   split
   . rename_i hk;refine cB.mpr ⟨fun b hb=>?_,VH k l h2⟩;rcases aE.mp ((kE k l).mem_iff.mp hb) with e | hb
     . rw[e];exact YF hk
     . exact h1 b hb
   . rename_i hk;refine cB.mpr ⟨fun b hb=>?_,h⟩;rcases aE.mp hb with e | hb
     . rw[e];exact hk
     . exact JQ hk (h1 b hb)
theorem srtT_le:∀ns:List Str,(srtT ns).Pairwise leT
 |[]=>List.Pairwise.nil
 |k::ns=>VH k _ (srtT_le ns)
theorem leT_unique:∀(l m:List Str),l.Perm m->l.Pairwise leT->m.Pairwise leT->l=m
 |[],m,hp,_,_=>(List.Perm.nil_eq hp)
 |a::l,[],hp,_,_=>by have:=hp.length_eq;simp at this
 | a :: l, b :: m, hp, h1, h2 => by
   obtain⟨p1,p2⟩:=cB.mp h1;obtain⟨q1,q2⟩:=cB.mp h2
   have e:a=b:=by
    have ha:a∈b::m:=hp.mem_iff.mp (.head _);have hb:b∈a::l:=hp.mem_iff.mpr (.head _);rcases aE.mp ha with e | ha
    . exact e
    . rcases aE.mp hb with e | hb
      . exact e.symm
      . exact MC (p1 b hb) (q1 a ha)
   subst e;rw[leT_unique l m hp.cons_inv p2 q2]
theorem IY:∀(l:List Str) (p:Str),risingS p l=true->(p::l).Pairwise leT
 |[],p,_=>MZ _ _
 | x :: r, p, h => by
   simp only[risingS,bU,ZW,ltCps_eq,decide_eq_false_iff_not] at h;have ih:=IY r x h.2;obtain⟨i1,i2⟩:=cB.mp ih;refine cB.mpr ⟨fun b hb=>?_,ih⟩;rcases aE.mp hb with e | hb
   . rw[e];exact h.1
   . exact JQ h.1 (i1 b hb)
theorem sortedS_le:∀{l:List Str},sortedS l=true->l.Pairwise leT
 |[],_=>List.Pairwise.nil
 |p::l,h=>IY l p h
noncomputable def keysT:List Key->Option (List Str)
 |[]=>some []
 | .inr x::r=>(keysT r).map fun l=>x::l
 | .inl _::_=>none
theorem FM:∀{ks:List Key} {l:List Str},keysT ks=some l->ks=l.map Sum.inr
 |[],_,e=>by cases e;rfl
 | .inr x :: r, l, e => by
   unfold keysT at e;cases h:keysT r with
   |none=>rw[h] at e;cases e
   |some m=>rw[h] at e;cases e;rw[FM h];rfl
 | .inl _::_,_,e=>by cases e
noncomputable def srtDA(f:FE):FA:=fun ds=>(f ds).bind fun d=>(kdD d).bind fun p=>(keysT p.1).bind fun l=>if l.length<64 then some ((srtT l).map D.str) else none
noncomputable def relO(i:Nat)(ds:List Sl):List Sl:=match ds[i]? with | some (.ob _ T)=>ds.set i (.v (otD T)) | _=>ds
noncomputable def flV'(d:D):Option D:=if flat d=true then some d else none
noncomputable def relVO(i:Nat)(f:FE):FE:=fun ds=>(f (relO i ds)).bind flV'
noncomputable def relFO(i:Nat)(f:FA):FA:=fun ds=>(f (relO i ds)).bind fun l=>if flats l=true then some l else none
noncomputable def seeO(f:FO):FE:=fun ds=>(f ds).map otD
noncomputable def refO:OT->Bool
 | .lst _=>true
 | .dct _ _=>true
 | .ins _ _=>true
 |_=>false
noncomputable def seqR(g:FS)(f:FX):FX:=fun ds=>(g ds).bind fun o=>match o with
 | .nx ds'=>f ds'
 |_=>none
noncomputable def vR(f:FE):FX:=fun ds=>(f ds).map fun d=>(d,ds)
noncomputable def ifR(c:FT)(f g:FX):FX:=fun ds=>(c ds).bind fun b=>if b=true then f ds else g ds
noncomputable def relR(i:Nat)(f:FX):FX:=fun ds=>f (relS i ds)
noncomputable def obAt(p:Nat):Option Sl->Option OT
 |some (.ob (some q) T)=>if q=p then some T else none
 |_=>none
noncomputable def lentR(g:FX)(n p:Nat)(T:OT)(l:List D):Option (D×OT):=(g ((args n l).set p (.ob (some p) T))).bind fun q=>(obAt p (q.2[p]?)).map fun T'=>(q.1,T')
noncomputable def hereA(g:FA):FA:=fun ds=>(g ds).map fun l=>D.non::l
noncomputable def callR(n i:Nat)(F:OT->List D->Option (D×OT))(g:FA):FX:=fun ds=>(g ds).bind fun l=>match ds[i]? with
 |some (.ob r T)=>if refO T=true/\l.length=n then (F T l).map fun q=>(q.1,ds.set i (.ob r q.2)) else none
 |_=>none
noncomputable def setR(j:Nat)(f:FX):FS:=fun ds=>(f ds).map fun q=>.nx (q.2.set j (.v q.1))
noncomputable def isT(t:Nat):D->Bool
 | .ins c _=>decide (c=t)
 |_=>false
noncomputable def methX(t n:Nat)(R:List D->Bool)(fo:FE)(g:FA):List Sl->Bool:=fun ds=>match fo ds with
 | some d => match g ds with
   |some l=>isT t d&&(decide (l.length=n)&&R (d::l))
   |none=>false
 |none=>false
noncomputable def relGO(i:Nat)(f:FO):FO:=fun ds=>(f (relO i ds)).bind fun T=>if flatO T=true then some T else none
noncomputable def ofO(f:FO):FE:=fun ds=>(f ds).map otD
noncomputable def ifNR(f:FX)(a b:FS):FS:=fun ds=>(f ds).bind fun q=>match q.1 with
 | .bl true=>b q.2
 | .bl false=>a q.2
 |_=>none
end FL
namespace L2
open PySem PySem.Spec PyProof.Rows
noncomputable def keyIs:Key->Value->Bool
 | .inl k,v=>Value.isInt k v
 | .inr x,v=>Value.isStrOf x v
noncomputable def keyH(w:bR):Key->Int
 | .inl k=>hashInt k
 | .inr x=>hashStr w x
theorem qV:∀{k:Key} {v:Value},keyIs k v=true->(∃i t,k=Sum.inl i/\v=Value.int i t)\/(∃x t,k=Sum.inr x/\v=Value.str x t)
 | .inl i, v, h => by
   obtain⟨t,e⟩:=Value.isInt_shape (k:=i) (v:=v) h;exact .inl ⟨i,t,rfl,e⟩
 | .inr x, v, h => by
   obtain⟨t,e⟩:=Value.isStrOf_shape (x:=x) (v:=v) h;exact .inr ⟨x,t,rfl,e⟩
theorem YJ(i:Int)(t:Tok):keyIs (.inl i) (.int i t)=true:=by simp[keyIs,Value.isInt]
theorem YI(x:Str)(t:Tok):keyIs (.inr x) (.str x t)=true:=by simp[keyIs,Value.isStrOf]
theorem key_ll(a b:Int):decide ((Sum.inl a:Key)=Sum.inl b)=(a==b):=by
 by_cases e:a=b
 . subst e;simp
 . have h : ¬(Sum.inl a : Key)=Sum.inl b := fun q => e (Sum.inl.inj q);rw[decide_eq_false h];exact(beq_eq_false_iff_ne.mpr e).symm
theorem key_rr(a b:Str):decide ((Sum.inr a:Key)=Sum.inr b)=decide (a=b):=by
 by_cases e:a=b
 . subst e;simp
 . have h : ¬(Sum.inr a : Key)=Sum.inr b := fun q => e (Sum.inr.inj q);rw[decide_eq_false h,decide_eq_false e]
theorem key_lr(a:Int)(b:Str):decide ((Sum.inl a:Key)=Sum.inr b)=false:=decide_eq_false (fun q=>nomatch q)
theorem key_rl(a:Str)(b:Int):decide ((Sum.inr a:Key)=Sum.inl b)=false:=decide_eq_false (fun q=>nomatch q)
noncomputable def fX(prog:aW)(w:bR):PySem.KeyKind prog w Key where
 is:=keyIs
 hash:=keyH w
 inj:=fun v a b ha hb=>by
  rcases qV ha with⟨i,t,rfl,rfl⟩ | ⟨x,t,rfl,rfl⟩
  . rcases qV hb with ⟨j, u, rfl, e⟩ | ⟨y, u, rfl, e⟩
    . injection e with e1 _;rw[e1]
    . exact nomatch e
  . rcases qV hb with ⟨j, u, rfl, e⟩ | ⟨y, u, rfl, e⟩
    . exact nomatch e
    . injection e with e1 _;rw[e1]
 byValue:=fun k v h=>by
  rcases qV h with⟨i,t,rfl,rfl⟩ | ⟨x,t,rfl,rfl⟩<;>rfl
 pyHash:=fun hv h=>by
  rcases qV hv with⟨i,t,rfl,rfl⟩ | ⟨x,t,rfl,rfl⟩
  . exact wpAny_pyHash_int h
  . exact wpAny_pyHash_str h
 eqBool:=fun hu hv h=>by
  rcases qV hu with⟨i,t,rfl,rfl⟩ | ⟨x,t,rfl,rfl⟩
  . rcases qV hv with ⟨j, u, rfl, rfl⟩ | ⟨y, u, rfl, rfl⟩
    . rw[key_ll] at h;exact wpAny_eqBool_int h
    . rw[key_lr] at h;exact SeqAt.EqAt.int_str i t y u _ _ _ _ h
  . rcases qV hv with ⟨j, u, rfl, rfl⟩ | ⟨y, u, rfl, rfl⟩
    . rw[key_rl] at h;exact SeqAt.EqAt.str_int x t j u _ _ _ _ h
    . rw[key_rr] at h;exact wpAny_eqBool_str h
 «strs»:=fun k x t v h=>by
  rcases qV h with⟨i,u,rfl,e⟩ | ⟨y,u,rfl,e⟩
  . exact nomatch e
  . injection e with e1 _
    subst e1;cases v<;>rfl
theorem OU(prog:aW)(w:bR)(i:Int)(t:Tok):(fX prog w).is (.inl i) (.int i t)=true:=YJ i t
theorem OS(prog:aW)(w:bR)(x:Str)(t:Tok):(fX prog w).is (.inr x) (.str x t)=true:=YI x t
inductive V where
 |non | bl (b:Bool) | int (i:Int) | str (x:Str) | byt (b:Array UInt8) | flt (b:UInt64) | ref (a:aA) | ty (n:String)
 deriving DecidableEq
noncomputable def RelV:V->Value->Prop
 | .non,u=>u=Value.none
 | .bl b,u=>u=Value.bool b
 | .int i,u=>∃t,u=Value.int i t
 | .str x,u=>∃t,u=Value.str x t
 | .byt b,u=>∃t,u=Value.bytes b t
 | .flt b,u=>∃t,u=Value.float b t
 | .ref a,u=>u=Value.ref a
 | .ty n,u=>u=Value.type n
abbrev Vals:List V->List Value->Prop:=IK RelV
theorem Vals.length{xs:List V}{us:List Value}(r:Vals xs us):xs.length=us.length:=IK.length r
theorem Vals.get:∀{xs:List V} {us:List Value} {i:Nat} {x:V},Vals xs us->xs[i]?=some x->∃u,us[i]?=some u/\RelV x u
 |_,_,_,_,.nil,e=>by simp at e
 |_,_,0,_,.cons r _,e=>by simp at e;subst e;exact⟨_,rfl,r⟩
 | _, _, i + 1, x, .cons _ t, e => by
   obtain⟨u,h1,h2⟩:=Vals.get (i:=i) (x:=x) t (by simpa using e);exact⟨u,by simpa using h1,h2⟩
theorem Vals.set{x:V}{u:Value}(r:RelV x u):∀{xs:List V} {us:List Value} (i:Nat),Vals xs us->Vals (xs.set i x) (us.set i u)
 |_,_,_,.nil=>.nil
 |_,_,0,.cons _ t=>.cons r t
 |_,_,i+1,.cons q t=>.cons q (Vals.set r i t)
theorem Vals.append:∀{xs ys:List V} {us ws:List Value},Vals xs us->Vals ys ws->Vals (xs++ys) (us++ws)
 |_,_,_,_,.nil,s=>s
 |_,_,_,_,.cons r t,s=>.cons r (Vals.append t s)
theorem Vals.take:∀{xs:List V} {us:List Value} (n:Nat),Vals xs us->Vals (xs.take n) (us.take n)
 |_,_,0,_=>.nil
 |_,_,_+1,.nil=>.nil
 |_,_,n+1,.cons r t=>.cons r (Vals.take n t)
theorem Vals.drop:∀{xs:List V} {us:List Value} (n:Nat),Vals xs us->Vals (xs.drop n) (us.drop n)
 |_,_,0,r=>r
 |_,_,_+1,.nil=>.nil
 |_,_,n+1,.cons _ t=>Vals.drop n t
noncomputable def RelO:Option V->Option Value->Prop
 |some v,some u=>RelV v u
 |none,none=>True
 |_,_=>False
noncomputable def KV{κ : Type}: List (κ×V)->List (κ×Value)->Prop:=IK fun(p : κ×V) (q : κ×Value)=>p.1=q.1/\RelV p.2 q.2
noncomputable def kV:Key->V
 | .inl i=>.int i
 | .inr x=>.str x
inductive HO where
 |lst (xs:List V)
 |tup (xs:List V)
 |dK (kvs:List (Key×V)) | dT (kvs:List (List Key×V))
 |set (S:Int->Bool) (n:Nat)
 |ins (C dx:aA) (fs:List (Str×V))
 |own (x:aA)
 |xd (fs:List (Str×V))
 |met (f x:aA)
 |rng (lo hi:Int)
 |frz (o:Obj) (u:HO)
 |tbl (q:Nat->Nat->Str)
 |ext (φ : Heap->Prop)
abbrev Hp:=aA->Option HO
noncomputable def upd(H:Hp)(a:aA)(o:HO):Hp:=fun b=>if b=a then some o else H b
theorem bM{H:Hp}{a:aA}{o:HO}: upd H a o a=some o:=by unfold upd;rw[if_pos rfl]
theorem upd_ne{H:Hp}{a b:aA}{o:HO}(h:b≠a):upd H a o b=H b:=by unfold upd;rw[if_neg h]
theorem ne_of{H:Hp}{a b:aA}{o u:HO}(h:H a=some o)(h':H b=some u)(d:o≠u):a≠b:=by
 intro e;subst e;rw[h] at h';exact d (Option.some.inj h')
theorem qT{H:Hp}{a b:aA}{o:HO}(h:H a=some o)(h':H b=none):a≠b:=by
 intro e;subst e;rw[h] at h';cases h'
noncomputable def TblOk(H:Hp)(q:Nat->Nat->Str)(ps:Array Value):Prop:=TriplesOk ps.toList/\∀pos v,codeAmong pos ps.toList=some v->∃c o u vs t,v=.ref c/\H c=some (.frz o u)/\o.data=.fields vs/\vs[1]?=some (.str (q pos.line pos.col) t)
noncomputable def Fixed:HO->Prop
 | .tup _=>True
 | .frz o _=>∃vs,o.data=.fields vs
 |_=>False
noncomputable def Fx:={ u:HO // Fixed u }
section
variable(P:aW)(w:bR)
noncomputable def ObjOk(H:Hp)(h:Heap)(a:aA):HO->Prop
 | .lst xs=>xs.length<=sizeLine/\∃(its:List Value) (n:Nat),Vals xs its/\h.get? a=some { cls:=.type "list",data:=.seq its.toArray n }
 | .tup xs=>xs.length<=sizeLine/\∃its:List Value,Vals xs its/\IsTup h a its.toArray
 | .dK kvs=>kvs.length<=sizeLine/\(a==iI)=false/\∃vs,KV kvs vs/\h.DictOf (fX P w) a vs
 | .dT kvs=>kvs.length<=sizeLine/\(a==iI)=false/\∃xs:List (List Key×aA×Value),
    IK (fun(p:List Key×V) (q:List Key×aA×Value)=>p.1=q.1/\H q.2.1=some (.tup (p.1.map kV))/\RelV p.2 q.2.2) kvs xs ∧
    ∃o es ep,h.get? a=some o/\o.ExactDict/\o.data=.dict es ep/\es.toList=xs.map (entryOfKey (IJ (fX P w)))/\(xs.map (·.1)).Nodup
 | .set S n=>h.SetOf (intKind P w) a S n
 | .ins C dx fs=>H dx=some (.own a)/\fs.length<=1000/\dx≠a/\h.get? a=some (fP C dx) ∧
    ∃mA,h.Ns1 dx mA/\(∀f,RelO (fs.lookup f) (mA f))/\PySem.Within mA (fs.map (·.1))
 | .own _=>∃o,h.get? a=some o
 | .xd fs=>∃mA,h.Ns1 a mA/\∀f,RelO (fs.lookup f) (mA f)
 | .rng lo hi=>∃t u v,h.get? a=some { cls:=.type "range",data:=.fields #[.int lo t,.int hi u,.int 1 v] }
 | .frz o u=>h.get? a=some o/\ObjOk H h a u
 | .tbl q=>∃ps,h.get? a=some (DA ps)/\TblOk H q ps
 | .met f x=>h.get? a=some (tQ (.ref f) (.ref x))
 | .ext φ=>φ h/\(∃o,h.get? a=some o)/\∀h1 h2:Heap,φ h1->(∀o,h1.get? a=some o->h2.get? a=some o)->φ h2
noncomputable def HOk(H:Hp)(h:Heap):Prop:=∀a o,H a=some o->ObjOk P w H h a o
end
section
variable{P:aW}{w:bR}{H H':Hp}{h h':Heap}{a:aA}{o:HO}
theorem ObjOk.lt(x:ObjOk P w H h a o):a<h.objs.size:=by
 cases o with
 |lst xs=>obtain⟨_,_,_,_,e⟩:=x;exact bB e
 |tup xs=>obtain⟨_,_,_,p⟩:=x;exact p.lt
 |dK kvs=>obtain⟨_,_,_,_,o,_,_,e,_⟩:=x;exact bB e
 |dT kvs=>obtain⟨_,_,_,_,o,_,_,e,_⟩:=x;exact bB e
 |set S n=>obtain⟨o,_,_,_,e,_⟩:=x;exact bB e
 |ins C dx fs=>obtain⟨_,_,_,e,_⟩:=x;exact bB e
 |own y=>obtain⟨_,e⟩:=x;exact bB e
 |xd fs=>obtain⟨_,⟨_,_,_,e,_⟩,_⟩:=x;exact bB e
 |rng lo hi=>obtain⟨_,_,_,e⟩:=x;exact bB e
 |frz ob u=>obtain⟨e,_⟩:=x;exact bB e
 |tbl q=>obtain⟨_,e,_⟩:=x;exact bB e
 |met f y=>exact bB (show h.get? a=some _ from x)
 |ext φ=>obtain⟨_,⟨_,e⟩,_⟩:=x;exact bB e
theorem IK.mapP{α β : Type}{F G : α->β->Prop}:∀{l₁ : List α} {l₂ : List β},IK F l₁ l₂->(∀a b,F a b->G a b)->IK G l₁ l₂
 |_,_,.nil,_=>.nil
 |_,_,.cons r t,f=>.cons (f _ _ r) (IK.mapP t f)
theorem ObjOk.stay(x:ObjOk P w H h a o)(k:∀b u,(b=a\/H b=some (.own a))->h.get? b=some u->h'.get? b=some u)(ho:∀b,H b=some (.own a)->H' b=some (.own a))(ht:∀b (xs:Fx),H b=some xs.1->H' b=some xs.1):ObjOk P w H' h' a o:=by
 induction o with
 |lst xs=>obtain⟨z,its,n,r,e⟩:=x;exact⟨z,its,n,r,k _ _ (.inl rfl) e⟩
 |tup xs=>obtain⟨z,its,r,ob,e,c⟩:=x;exact⟨z,its,r,ob,k _ _ (.inl rfl) e,c⟩
 |dK kvs=>obtain⟨z,y,vs,r,ob,es,ep,e,c⟩:=x;exact⟨z,y,vs,r,ob,es,ep,k _ _ (.inl rfl) e,c⟩
 | dT kvs =>
   obtain⟨z,y,xs,r,ob,es,ep,e,c⟩:=x;exact⟨z,y,xs,IK.mapP r fun p q z=>⟨z.1,ht _ ⟨.tup _,trivial⟩ z.2.1,z.2.2⟩,ob,es,ep,k _ _ (.inl rfl) e,c⟩
 |set S n=>obtain⟨ob,es,ep,t,e,c⟩:=x;exact⟨ob,es,ep,t,k _ _ (.inl rfl) e,c⟩
 | ins C dx fs =>
   obtain⟨d,z,ne,e,mA,⟨od,es,ep,e2,c⟩,r⟩:=x;exact⟨ho _ d,z,ne,k _ _ (.inl rfl) e,mA,⟨od,es,ep,k _ _ (.inr d) e2,c⟩,r⟩
 |own y=>obtain⟨ob,e⟩:=x;exact⟨ob,k _ _ (.inl rfl) e⟩
 |xd fs=>obtain⟨mA,⟨od,es,ep,e,c⟩,r⟩:=x;exact⟨mA,⟨od,es,ep,k _ _ (.inl rfl) e,c⟩,r⟩
 |rng lo hi=>obtain⟨t,u,v,e⟩:=x;exact⟨t,u,v,k _ _ (.inl rfl) e⟩
 |frz ob u ih=>obtain⟨e,q⟩:=x;exact⟨k _ _ (.inl rfl) e,ih q⟩
 | tbl q =>
   obtain⟨ps,e,t1,t2⟩:=x;refine⟨ps,k a _ (.inl rfl) e,t1,fun pos v z=>?_⟩;obtain⟨c,o,u,vs,t,h1,h2,h3,h4⟩:=t2 pos v z;exact⟨c,o,u,vs,t,h1,ht c ⟨.frz o u,vs,h3⟩ h2,h3,h4⟩
 | met f y =>
   have e:h.get? a=some (tQ (.ref f) (.ref y)):=x;show h'.get? a=some (tQ (.ref f) (.ref y));exact k a _ (.inl rfl) e
 |ext φ=>obtain⟨p,⟨o,e⟩,st⟩:=x;exact⟨st _ _ p fun o q=>k _ _ (.inl rfl) q,⟨o,k _ _ (.inl rfl) e⟩,st⟩
theorem HOk.lt(x:HOk P w H h)(e:H a=some o):a<h.objs.size:=(x a o e).lt
theorem HOk.fresh(x:HOk P w H h)(e:h.objs.size<=a):H a=none:=by
 cases q:H a with
 |none=>rfl
 |some u=>exact absurd (bH (x.lt q) e) (dO _)
theorem HOk.kept(x:HOk P w H h)(k:∀b u,h.get? b=some u->h'.get? b=some u):HOk P w H h':=fun a o e =>
 (x a o e).stay (fun b u _ q=>k b u q) (fun _ q=>q) fun _ _ q=>q
theorem HOk.laid(x:HOk P w H h)(k:∀b u,h.get? b=some u->h'.get? b=some u)(hp:h.objs.size<=a)(new:ObjOk P w (upd H a o) h' a o):HOk P w (upd H a o) h':=fun b u e=>by
 have hn:=x.fresh hp
 by_cases hb:b=a
 . subst hb;rw[bM] at e;cases e;exact new
 . rw[upd_ne hb] at e;exact(x b u e).stay (fun c v _ q=>k c v q) (fun c q=>by rw[upd_ne (qT q hn)];exact q) fun c xs q=>by rw[upd_ne (qT q hn)];exact q
end
noncomputable def Rd(H:Hp)(a:aA)(u:HO):Prop:=H a=some u\/∃o,H a=some (.frz o u)
theorem Rd.of{H:Hp}{a:aA}{u:HO}(h:H a=some u):Rd H a u:=.inl h
theorem Rd.ok{P:aW}{w:bR}{H:Hp}{h:Heap}{a:aA}{u:HO}(r:Rd H a u)(x:HOk P w H h):ObjOk P w H h a u:=by
 rcases r with r | ⟨o,r⟩
 . exact x a u r
 . obtain⟨_, q⟩ := x a _ r;exact q
noncomputable def Mut:Option HO->Prop
 |some (.lst _)=>True
 |some (.dK _)=>True
 |some (.dT _)=>True
 |some (.set _ _)=>True
 |some (.ins _ _ _)=>True
 |some (.ext _)=>True
 |_=>False
section
variable{P:aW}{w:bR}{H:Hp}{h h':Heap}{x e:aA}{o':HO}
theorem HOk.write(ok:HOk P w H h)(mu:Mut (H x))(he:e=x\/H e=some (.own x))(k:∀b u,b≠e->h.get? b=some u->h'.get? b=some u)(heo:∃u,h'.get? e=some u)(new:ObjOk P w (upd H x o') h' x o'):HOk P w (upd H x o') h':=fun b u q=>by
 have nown:∀c y,H c=some (.own y)->c≠x:=fun c y r z=>by subst z;rw[r] at mu;exact mu
 have ntup:∀c (xs:Fx),H c=some xs.1->c≠x:=fun c xs r z=>by
  subst z;rw[r] at mu;obtain⟨u,hu⟩:=xs;cases u<;>first | exact False.elim mu | exact False.elim hu
 by_cases hb:b=x
 . subst hb;rw[bM] at q;cases q;exact new
 . rw [upd_ne hb] at q
   by_cases hbe:b=e
   . have q':H b=some (.own x):=by
      rcases he with z | z
      . exact absurd (hbe.trans z) hb
      . rw[hbe];exact z
     rw[q] at q';cases q';obtain⟨v,hv⟩:=heo;exact⟨v,by rw[hbe];exact hv⟩
   . refine (ok b u q).stay (fun c v hc r => k c v ?_ r) (fun c r => by rw [upd_ne (nown c b r)]; exact r) fun c xs r => by rw [upd_ne (ntup c xs r)]; exact r
     rcases hc with rfl | hc
     . exact hbe
     . rintro rfl;rcases he with z | z
       . exact nown c b hc z
       . rw[hc] at z;cases z;exact hb rfl
end
structure Un(fs ex:List aA)(H H':Hp)(h h':Heap):Prop where
 keep:∀b o,h.get? b=some o->H b=none->b∉fs->b∉ex->h'.get? b=some o
 slot:∀b o,h.get? b=some o->H b=none->b∈fs->b∉ex->∃sl,h'.get? b=some { o with slots:=sl }
 free:∀b o,h.get? b=some o->H b=none->b∉ex->H' b=none
 there:∀b o,h.get? b=some o->b∉ex->∃o',h'.get? b=some o'
 tups:∀b xs,H b=some (.tup xs)->H' b=some (.tup xs)
 frzs:∀b o u,H b=some (.frz o u)->H' b=some (.frz o u)
 tbls:∀b ps,H b=some (.tbl ps)->H' b=some (.tbl ps)
section
variable{fs fs' ex ex':List aA}{H H1 H2:Hp}{h h1 h2 h':Heap}{a x e:aA}{o:HO}
theorem Un.any(u:Un fs ex H H1 h h1){b:aA}{ob:Obj}(q:h.get? b=some ob)(n:H b=none)(hx:b∉ex):∃sl,h1.get? b=some { ob with slots:=sl }:=by
 by_cases hb:b∈fs
 . exact u.slot b ob q n hb hx
 . exact⟨ob.slots,u.keep b ob q n hb hx⟩
theorem Un.trans(a:Un fs ex H H1 h h1)(b:Un fs ex H1 H2 h1 h2):Un fs ex H H2 h h2 where
 keep:=fun c ob q n hc hx=>b.keep c ob (a.keep c ob q n hc hx) (a.free c ob q n hx) hc hx
 slot:=fun c ob q n hc hx=>by
  obtain⟨sl,e1⟩:=a.slot c ob q n hc hx;obtain⟨sl',e2⟩:=b.slot c _ e1 (a.free c ob q n hx) hc hx;exact⟨sl',e2⟩
 free:=fun c ob q n hx=>by
  obtain⟨o',e1⟩:=a.there c ob q hx;exact b.free c o' e1 (a.free c ob q n hx) hx
 there:=fun c ob q hx=>by
  obtain⟨o',e1⟩:=a.there c ob q hx;exact b.there c o' e1 hx
 tups:=fun c xs q=>b.tups c xs (a.tups c xs q)
 frzs:=fun c ob xs q=>b.frzs c ob xs (a.frzs c ob xs q)
 tbls:=fun c ps q=>b.tbls c ps (a.tbls c ps q)
theorem Un.kept(k:∀b u,h.get? b=some u->h'.get? b=some u):Un fs ex H H h h' :=
 ⟨fun b ob q _ _ _=>k b ob q,fun b ob q _ _ _=>⟨ob.slots,k b ob q⟩,fun _ _ _ n _=>n,fun b ob q _=>⟨ob,k b ob q⟩,fun _ _ q=>q,fun _ _ _ q=>q,fun _ _ q=>q⟩
theorem Un.refl:Un fs ex H H h h:=Un.kept fun _ _ q=>q
theorem Un.laid(k:∀b u,h.get? b=some u->h'.get? b=some u)(hp:h.objs.size<=a)(hn:H a=none):Un fs ex H (upd H a o) h h' where
 keep:=fun b u q _ _ _=>k b u q
 slot:=fun b u q _ _ _=>⟨u.slots,k b u q⟩
 free:=fun b u q n _=>by rw[upd_ne (bS (bH (bB q) hp))];exact n
 there:=fun b u q _=>⟨u,k b u q⟩
 tups:=fun b xs q=>by rw[upd_ne (qT q hn)];exact q
 frzs:=fun b u xs q=>by rw[upd_ne (qT q hn)];exact q
 tbls:=fun b ps q=>by rw[upd_ne (qT q hn)];exact q
theorem Un.write(mu:Mut (H x))(he:e=x\/H e=some (.own x))(k:∀b u,b≠e->h.get? b=some u->h'.get? b=some u)(heo:∃u,h'.get? e=some u):Un fs ex H (upd H x o) h h':=by
 have hx:∀b,H b=none->b≠x:=fun b n z=>by subst z;rw[n] at mu;exact mu
 have hb:∀b,H b=none->b≠e:=fun b n z=>by
  subst z;rcases he with r | r
  . exact hx b n r
  . rw[n] at r;cases r
 have hm:∀b u,H b=some u->¬Mut (some u)->b≠x:=fun b u q nm z=>by subst z;rw[q] at mu;exact nm mu
 refine⟨fun b u q n _ _=>k b u (hb b n) q,fun b u q n _ _=>⟨u.slots,k b u (hb b n) q⟩,fun b u q n _=>by rw[upd_ne (hx b n)];exact n,fun b u q _=>?_,
  fun b xs q=>by rw[upd_ne (hm b _ q fun z=>z)];exact q,fun b u xs q=>by rw[upd_ne (hm b _ q fun z=>z)];exact q,fun b ps q=>by rw[upd_ne (hm b _ q fun z=>z)];exact q⟩
 by_cases hbe:b=e
 . subst hbe;exact heo
 . exact⟨u,k b u hbe q⟩
end
noncomputable def trk(h:Heap)(H:Hp):List aA:=(List.range h.objs.size).filter fun a=>(H a).isSome
noncomputable def hidT(h:Heap)(H:Hp):Heap:=PySem.W.hideAll h (trk h H)
theorem YQ(h:Heap)(H:Hp):(hidT h H).objs.size=h.objs.size:=PySem.W.hideAll_size _ _
theorem PM{h:Heap}{H:Hp}{b:aA}{o:Obj}(e:h.get? b=some o)(n:H b=none):(hidT h H).get? b=some o :=
 PySem.W.hideAll_get _ e fun hm=>by
  have q:(H b).isSome=true:=(eF.mp hm).2;rw[n] at q;simp at q
theorem of_hidT{h:Heap}{H:Hp}{b:aA}{o:Obj}(e:(hidT h H).get? b=some o):h.get? b=some o/\H b=none:=by
 have e':h.get? b=some o:=PySem.W.of_hideAll (trk h H) e;refine⟨e',?_⟩;cases q:H b with
 |none=>rfl
 | some x =>
   have hm:b∈trk h H:=eF.mpr ⟨HH.mpr (bB e'),by simp[q]⟩;have z:(hidT h H).get? b=none:=PySem.W.hideAll_none (trk h H) hm;rw[z] at e;cases e
noncomputable def allNews(g h:Heap)(L:aA):List (aA×Obj):=(List.range h.objs.size).filterMap fun a=>if a=L\/(g.get? a).isSome=true then none else (h.get? a).map fun o=>(a,o)
noncomputable def rest(g h:Heap)(L d:aA):List (aA×Obj):=(allNews g h L).filter fun p=>decide (p.1≠d)
structure Mod(K:aN)(mg:Str->Option Value)(base:Heap):Prop where
 kin:K.In base
 glob:base.Ns aH mg
 blt:∃mb,base.Ns CZ mb/\∀x:Str,x≠"__name__"->mb x=gX x
 nolimit:base.NoLimit
structure Cx where
 prog:aW
 w:bR
 K:aN
 mg:Str->Option Value
 base:Heap
 A:bL
 N:List Str
 s₀ : aD
 H₀ : Hp
 env:Env
 outer:List Env
 stack:List Env
 ex:List aA
 fn:Str->Bool
 calm:Bool
 pn:List (aA×Obj)
 xe:Value->aD->Prop
noncomputable def frs(l:List Env):List aA:=l.filterMap (·.frame)
noncomputable abbrev Cx.fs(X:Cx):List aA:=frs X.outer
noncomputable def Vis(sc:Scope)(x:Str):Prop:=sc.names.lookup x=some .local\/sc.names.lookup x=some .cell\/sc.names.lookup x=some .free
noncomputable def Loc(sc:Scope)(x:Str):Prop:=sc.names.lookup x=some .local\/sc.names.lookup x=some .cell
noncomputable def Look(env:Env)(h:Heap)(m:Str->Option Value)(x:Str)(u:Value):Prop :=
 (env.kindOf x=some .local/\m x=some u)\/((env.kindOf x=some .cell\/env.kindOf x=some .free)/\∃c,env.cells.lookup x=some c/\h.IsCell c (some u))
noncomputable def makers:List Str:=["law","_law_with_itself","_law_ways","_law_way","holding","_law_any_test","_law_test","_law_turned","_law_right","wheel_run","answer_run"]
noncomputable def SI:List Stmt->Nat->Nat->Str
 |[],_,_=>"<lambda>"
 | .FunctionDef n _ _ _ _ _ _ _ _ pos::r,l,c=>if pos.line=l/\pos.col=c then n else SI r l c
 |_::r,l,c=>SI r l c
noncomputable def tI(K:aN)(x:Str)(l c:Nat):Str:=match aI K aH x with
 | some (some (.ref f)) => (match K.lookup f with
   | some ⟨_, _, .func fd, _⟩ => (match fd.body with
     | .stmts b=>x++".<locals>."++SI b l c
     |_=>x)
   |_=>x)
 |_=>x
structure TabsK(K:aN)(mg:Str->Option Value)(base:Heap)(H:Hp):Prop where
 bm:∃bm ob,mg "__builtins__" = some (.ref bm)/\bm≠CZ/\base.get? bm=some ob/\ob.cls=.type "module"/\ob.dict=some CZ/\ob.data=.plain
 tab:∀x c P,x∈makers->iD K x=some (c,P)->ZR base c P/\H P=some (.tbl (tI K x))
noncomputable def Bsz(K:aN)(mg:Str->Option Value)(base h:Heap)(H:Hp):Prop:=base.objs.size<=h.objs.size/\TabsK K mg base H
noncomputable def FreeC(X:Cx)(H:Hp)(x:Str)(c:aA):Prop:=H c=none\/(X.fn x=false/\∃o u,H c=some (.frz o u))
theorem FreeC.now{X:Cx}{H:Hp}{x:Str}{c:aA}(h:FreeC X H x c)(hf:X.fn x=true):H c=none:=h.elim id fun z=>by rw[hf] at z;cases z.1
structure Cx.Ok(X:Cx):Prop where
 mod:Mod X.K X.mg X.base
 kind:X.env.scope.kind=.function
 glob:X.env.globals=aH
 blt:X.env.builtins=CZ
 above:X.s₀.heap.objs.size<=X.env.locals
 inj:∀x y c,X.env.cells.lookup x=some c->X.env.cells.lookup y=some c->x=y
 has:∀x,(X.env.kindOf x=some .cell\/X.env.kindOf x=some .free)->∃c,X.env.cells.lookup x=some c
 cab:∀x c,X.fn x=true->X.env.cells.lookup x=some c->X.s₀.heap.objs.size<=c
 hd:X.calm=true->X.A.handled=none
 frames:X.A.frames=some X.stack
 stk:X.stack=X.outer\/(X.stack=X.env::X.outer/\X.env.frame=some X.env.locals)
 exf:∀b∈X.ex,b≠X.env.locals/\∀x c,X.env.cells.lookup x=some c->c≠b
 bs:∀b o,X.base.get? b=some o->X.s₀.heap.get? b=some o/\X.H₀ b=none
 bsz:Bsz X.K X.mg X.base X.s₀.heap X.H₀
 noex:∀b o,X.base.get? b=some o->b∉X.ex
 exfs:∀b∈X.ex,b∉X.fs
 funs:X.s₀.heap.FunFrames X.base X.outer
 frf:∀b∈X.fs,X.H₀ b=none
structure Inv(X:Cx)(aC:List (aA×Obj))(σ : List (Option V))(H:Hp)(s:aD):Prop where
 ok:X.Ok
 os:s.os=X.s₀.os
 bare:iQ s.gens
 base:Un X.fs X.ex X.H₀ H X.s₀.heap s.heap
 loc:∃m,s.heap.Ns X.env.locals m/\∀(i:Nat) (x:Str) (v:V),X.N[i]?=some x->σ[i]?=some (some v)->Vis X.env.scope x->∃u,RelV v u/\Look X.env s.heap m x u
 cell:∀x c,X.env.cells.lookup x=some c->∃v,s.heap.IsCell c v
 free:H X.env.locals=none
 freeC:∀x c,X.env.cells.lookup x=some c->FreeC X H x c
 pin:∀p∈X.pn++aC,s.heap.get? p.1=some p.2/\H p.1=none/\p.1≠X.env.locals/\p.1∉X.fs/\∀v,p.2.data≠.cell v
 hok:HOk X.prog X.w H s.heap
 len : σ.length=X.N.length
section
variable{X:Cx}{aC:List (aA×Obj)}{σ : List (Option V)}{H H':Hp}{s:aD}{h':Heap}
theorem Cx.Ok.nofr(ok:X.Ok){b:aA}{o:Obj}(e:X.base.get? b=some o):b∉X.fs:=fun hb=>by
 have:=(ok.funs.mem hb).1;rw[e] at this;cases this
theorem Inv.bs(I:Inv X aC σ H s):∀b o,X.base.get? b=some o->s.heap.get? b=some o/\H b=none:=fun b o e =>
 ⟨I.base.keep b o (I.ok.bs b o e).1 (I.ok.bs b o e).2 (I.ok.nofr e) (I.ok.noex b o e),I.base.free b o (I.ok.bs b o e).1 (I.ok.bs b o e).2 (I.ok.noex b o e)⟩
theorem Inv.bk(I:Inv X aC σ H s):∀b o,X.base.get? b=some o->s.heap.get? b=some o:=fun b o e=>(I.bs b o e).1
theorem Inv.mod(I:Inv X aC σ H s):Mod X.K X.mg X.base:=I.ok.mod
theorem Inv.kIn(I:Inv X aC σ H s):X.K.In s.heap:=I.ok.mod.kin.keeps I.bk
theorem Inv.lt(I:Inv X aC σ H s):X.env.locals<s.heap.objs.size:=let ⟨_,hn,_⟩:=I.loc;hn.lt
theorem Inv.sz(I:Inv X aC σ H s):X.s₀.heap.objs.size<=s.heap.objs.size:=dA I.ok.above (BO I.lt)
theorem Inv.nofs(I:Inv X aC σ H s){a:aA}(h:s.heap.objs.size<=a):a∉X.fs:=fun hb=>by
 obtain⟨_,o,ho,_⟩:=I.ok.funs.mem hb;exact absurd (bH (bB ho) (dA I.sz h)) (dO _)
theorem Inv.cne(I:Inv X aC σ H s):∀x c,X.env.cells.lookup x=some c->c≠X.env.locals:=fun x c e z=>by
 obtain⟨v,o,ho,hd⟩:=I.cell x c e;obtain⟨m,⟨o',es,ep,ho',hd',_⟩,_⟩:=I.loc;rw[z,ho'] at ho;cases ho;rw[hd'] at hd;cases hd
theorem Inv.funs(I:Inv X aC σ H s):s.heap.FunFrames X.base X.outer:=by
 have all:∀(l:List Env),(∀b∈frs l,b∈X.fs)->X.s₀.heap.FunFrames X.base l->s.heap.FunFrames X.base l:=by
  intro l
  induction l with
  |nil=>intro _ _;trivial
  | cons env r ih =>
    intro hs hl;obtain⟨hk,⟨L,o,hf,hn,ho,hd⟩,hr⟩:=hl;have hL:L∈X.fs:=hs L (by unfold frs;rw[gH,hf];exact aV);obtain⟨sl,e⟩:=I.base.slot L o ho (I.ok.frf L hL) hL fun z=>I.ok.exfs L z hL;exact⟨hk,⟨L,_,hf,hn,e,hd⟩,ih (fun b hb=>hs b (by unfold frs;rw[gH,hf];exact aP _ hb)) hr⟩
 exact all X.outer (fun _ hb=>hb) I.ok.funs
theorem Inv.stack(I:Inv X aC σ H s):s.heap.FunFrames X.base X.stack:=by
 rcases I.ok.stk with e | ⟨e,hf⟩
 . rw[e];exact I.funs
 . rw[e];obtain⟨m,hn,_⟩:=I.loc;refine .cons (by rw[I.ok.kind];decide) hf hn ?_ I.funs;exact Heap.get?_none_of_le (dA I.ok.bsz.1 I.ok.above)
theorem Inv.stkSub(I:Inv X aC σ H s):∀b∈frs X.stack,b∈X.env.locals::X.fs:=fun b hb=>by
 rcases I.ok.stk with e | ⟨e,hf⟩
 . rw[e] at hb;exact aP _ hb
 . rw[e] at hb;unfold frs at hb;rw[gH,hf] at hb;exact hb
theorem Inv.stkFree(I:Inv X aC σ H s):∀b∈frs X.stack,H b=none:=fun b hb=>by
 rcases aE.mp (I.stkSub b hb) with e | hb
 . rw[e];exact I.free
 . obtain⟨_, o, ho, _⟩ := I.ok.funs.mem hb;exact I.base.free b o ho (I.ok.frf b hb) fun z=>I.ok.exfs b z hb
theorem Inv.step{g':Array GenState}{t':Nat}{d':Drawn}{ch:List aA}(I:Inv X aC σ H s)(hch:∀b∈ch,(b∈X.ex\/X.s₀.heap.objs.size<=b)/\b≠X.env.locals/\(∀x c,X.env.cells.lookup x=some c->c≠b)/\∀p∈X.pn++aC,p.1≠b)(keep:∀b o,b≠X.env.locals->b∉X.fs->b∉ch->s.heap.get? b=some o->H b=none->h'.get? b=some o)(slot:∀b o,b≠X.env.locals->b∈X.fs->b∉ch->s.heap.get? b=some o->H b=none->∃sl,h'.get? b=some { o with slots:=sl })(free:∀b o,b∉ch->s.heap.get? b=some o->H b=none->H' b=none)(there:∀b o,b∉ch->s.heap.get? b=some o->∃o',h'.get? b=some o')(tups:∀b xs,H b=some (.tup xs)->H' b=some (.tup xs))(frzs:∀b o u,H b=some (.frz o u)->H' b=some (.frz o u))(tbls:∀b ps,H b=some (.tbl ps)->H' b=some (.tbl ps))(ns:∀m,s.heap.Ns X.env.locals m->h'.Ns X.env.locals m)(hok:HOk X.prog X.w H' h')(hg:iQ g') :
  Inv X aC σ H' { s with heap:=h',gens:=g',drawn:=d',toks:=t' }:=by
 have neL:∀b o,X.s₀.heap.get? b=some o->b≠X.env.locals:=fun b o e=>bS (bH (bB e) I.ok.above)
 have neC:∀b o,X.s₀.heap.get? b=some o->b∉X.ex->b∉ch:=fun b o e hx hb=>by
  rcases(hch b hb).1 with z | z
  . exact hx z
  . exact absurd (bH (bB e) z) (dO _)
 have cellK:∀x c,X.env.cells.lookup x=some c->∀v,s.heap.IsCell c v->h'.IsCell c v:=fun x c e v ⟨o,ho,hd⟩=>by
  have nch:c∉ch:=fun z=>(hch c z).2.2.1 x c e rfl;rcases I.freeC x c e with fr | ⟨_,of,uf,fr⟩
  . by_cases hc : c ∈ X.fs
    . obtain⟨sl, q⟩ := slot c o (I.cne x c e) hc nch ho fr;exact⟨_,q,hd⟩
    . exact⟨o,keep c o (I.cne x c e) hc nch ho fr,hd⟩
  . obtain⟨e1, _⟩ := I.hok c _ fr;obtain⟨e2,_⟩:=hok c _ (frzs c of uf fr);rw[ho] at e1;cases e1;exact⟨o,e2,hd⟩
 refine⟨I.ok,I.os,hg,⟨fun b o e n hb hx=>?_,fun b o e n hb hx=>?_,fun b o e n hx=>?_,fun b o e hx=>?_,fun b xs e=>tups b xs (I.base.tups b xs e),fun b o xs e=>frzs b o xs (I.base.frzs b o xs e),fun b ps e=>?_⟩,?_,fun x c e=>?_,?_,fun x c e=>?_,fun p hp=>?_,hok,I.len⟩
 . exact keep b o (neL b o e) hb (neC b o e hx) (I.base.keep b o e n hb hx) (I.base.free b o e n hx)
 . obtain⟨sl, e1⟩ := I.base.slot b o e n hb hx;obtain⟨sl',e2⟩:=slot b _ (neL b o e) hb (neC b o e hx) e1 (I.base.free b o e n hx);exact⟨sl',e2⟩
 . obtain⟨o', e1⟩ := I.base.there b o e hx;exact free b o' (neC b o e hx) e1 (I.base.free b o e n hx)
 . obtain⟨o', e1⟩ := I.base.there b o e hx;exact there b o' (neC b o e hx) e1
 . exact tbls b ps (I.base.tbls b ps e)
 . obtain ⟨m, hn, hl⟩ := I.loc;refine ⟨m,ns m hn,fun i x v e1 e2 e3=>?_⟩;obtain ⟨u,r,l⟩:=hl i x v e1 e2 e3;refine ⟨u,r,?_⟩;rcases l with l | ⟨k,c,e,z⟩
   . exact .inl l
   . exact .inr ⟨k,c,e,cellK x c e _ z⟩
 . obtain⟨v, z⟩ := I.cell x c e;exact⟨v,cellK x c e v z⟩
 . obtain⟨m, ⟨o, _, _, ho, _⟩, _⟩ := I.loc;exact free _ o (fun z=>(hch _ z).2.1 rfl) ho I.free
 . obtain⟨v, o, ho, hd⟩ := I.cell x c e;exact(I.freeC x c e).elim (fun fr=>.inl (free c o (fun z=>(hch c z).2.2.1 x c e rfl) ho fr)) fun⟨h1,of,uf,fr⟩=>.inr ⟨h1,of,uf,frzs c of uf fr⟩
 . obtain⟨e, n, ne, nf, d⟩ := I.pin p hp;have nch:p.1∉ch:=fun z=>(hch p.1 z).2.2.2 p hp rfl;exact⟨keep p.1 p.2 ne nf nch e n,free p.1 p.2 nch e n,ne,nf,d⟩
theorem Inv.un{t':Nat}(I:Inv X aC σ H s)(u:Un X.fs [] H H' s.heap h')(hok:HOk X.prog X.w H' h'):Inv X aC σ H' { s with heap:=h',toks:=t' }:=by
 obtain⟨m,⟨o,es,ep,ho,r⟩,_⟩:=id I.loc;obtain⟨sl,hL⟩:=u.any ho I.free (by simp)
 exact I.step (g':=s.gens) (d':=s.drawn) (ch:=[]) (fun _ z=>nomatch z) (fun b o _ hb _ e n=>u.keep b o e n hb (by simp)) (fun b o _ hb _ e n=>u.slot b o e n hb (by simp)) (fun b o _ e n=>u.free b o e n (by simp)) (fun b o _ e=>u.there b o e (by simp)) u.tups u.frzs u.tbls (fun m' hm=>by
  obtain⟨o',es',ep',ho',r'⟩:=hm;rw[ho] at ho';cases ho'
  exact⟨_,es',ep',hL,r'⟩) hok I.bare
theorem Inv.call{g':Array GenState}{t':Nat}{d':Drawn}{ch:List aA}(I:Inv X aC σ H s)(u:Un (frs X.stack) ch H H' s.heap h')(hok:HOk X.prog X.w H' h')(hg:iQ g')(hch:∀b∈ch,(b∈X.ex\/X.s₀.heap.objs.size<=b)/\b≠X.env.locals/\(∀x c,X.env.cells.lookup x=some c->c≠b)/\∀p∈X.pn++aC,p.1≠b) :
  Inv X aC σ H' { s with heap:=h',gens:=g',drawn:=d',toks:=t' }:=by
 obtain⟨m,⟨o,es,ep,ho,r⟩,_⟩:=id I.loc;obtain⟨sl,hL⟩:=u.any ho I.free fun z=>(hch _ z).2.1 rfl
 exact I.step (ch:=ch) hch (fun b o hL hb hc e n=>u.keep b o e n (fun z=>(aE.mp (I.stkSub b z)).elim hL hb) hc) (fun b o _ _ hc e n=>u.any e n hc) (fun b o hc e n=>u.free b o e n hc) (fun b o hc e=>u.there b o e hc) u.tups u.frzs u.tbls (fun m' hm=>by
  obtain⟨o',es',ep',ho',r'⟩:=hm;rw[ho] at ho';cases ho'
  exact⟨_,es',ep',hL,r'⟩) hok hg
theorem Inv.turned{t':Nat}{it:aA}(I:Inv X aC σ H s)(k:∀b o,b≠it->s.heap.get? b=some o->h'.get? b=some o)(hn:H it=none)(hL:it≠X.env.locals)(h1:it∈X.ex\/X.s₀.heap.objs.size<=it)(h2:∀x c,X.env.cells.lookup x=some c->c≠it)(h3:∀p∈X.pn++aC,p.1≠it):Inv X aC σ H { s with heap:=h',toks:=t' }:=by
 have nit:∀b u,H b=some u->b≠it:=fun b u e z=>by rw[z,hn] at e;cases e
 refine I.step (g':=s.gens) (d':=s.drawn) (ch:=[it]) (fun b hb=>?_) (fun b o _ _ hc e _=>k b o (fun z=>hc (by simp[z])) e) (fun b o _ _ hc e _=>⟨o.slots,k b o (fun z=>hc (by simp[z])) e⟩) (fun _ _ _ _ n=>n)
  (fun b o hc e=>⟨o,k b o (fun z=>hc (by simp[z])) e⟩) (fun _ _ e=>e) (fun _ _ _ e=>e) (fun _ _ e=>e) (fun m hm=>?_) (fun b u e=>?_) I.bare
 . have e : b = it := by simpa using hb
   subst e;exact⟨h1,hL,h2,h3⟩
 . obtain⟨o, es, ep, ho, r⟩ := hm;exact⟨o,es,ep,k _ o (Ne.symm hL) ho,r⟩
 . refine (I.hok b u e).stay (fun c v hc q => k c v ?_ q) (fun _ q => q) fun _ _ q => q;rcases hc with z | z
   . rw[z];exact nit b u e
   . exact nit c _ z
theorem Inv.tok(I:Inv X aC σ H s)(t:Nat):Inv X aC σ H { s with toks:=t }:=I.un (h':=s.heap) (t':=t) Un.refl I.hok
theorem Inv.kept{t':Nat}(I:Inv X aC σ H s)(k:∀b u,s.heap.get? b=some u->h'.get? b=some u):Inv X aC σ H { s with heap:=h',toks:=t' }:=I.un (Un.kept k) (I.hok.kept k)
theorem Inv.laid{a:aA}{o:HO}{t':Nat}(I:Inv X aC σ H s)(k:∀b u,s.heap.get? b=some u->h'.get? b=some u)(hp:s.heap.objs.size<=a)(new:ObjOk X.prog X.w (upd H a o) h' a o) :
  Inv X aC σ (upd H a o) { s with heap:=h',toks:=t' }:=I.un (Un.laid k hp (I.hok.fresh hp)) (I.hok.laid k hp new)
theorem Inv.write{x e:aA}{o:HO}{t':Nat}(I:Inv X aC σ H s)(mu:Mut (H x))(he:e=x\/H e=some (.own x))(k:∀b u,b≠e->s.heap.get? b=some u->h'.get? b=some u)(heo:∃u,h'.get? e=some u)(new:ObjOk X.prog X.w (upd H x o) h' x o):Inv X aC σ (upd H x o) { s with heap:=h',toks:=t' }:=I.un (Un.write mu he k heo) (I.hok.write mu he k heo new)
theorem Inv.pins_of{pins':List (aA×Obj)}(I:Inv X aC σ H s)(h:∀p∈pins',s.heap.get? p.1=some p.2/\H p.1=none/\p.1≠X.env.locals/\p.1∉X.fs/\∀v,p.2.data≠.cell v):Inv X pins' σ H s :=
 ⟨I.ok,I.os,I.bare,I.base,I.loc,I.cell,I.free,I.freeC,fun p hp=>(cA.mp hp).elim (fun z=>I.pin p (aU _ z)) (h p),I.hok,I.len⟩
theorem FC{N:List Str}(hN:N.Nodup){i j:Nat}{x:Str}(a:N[i]?=some x)(b:N[j]?=some x):i=j:=by
 obtain⟨h1,e1⟩:=aT.mp a;obtain⟨h2,e2⟩:=aT.mp b;exact(List.getElem_inj hN).mp (e1.trans e2.symm)
theorem IU{M:QV}{A:bL}{E:Value->aD->Prop}{i:Nat}{x:Str}{v:V}{u:Value}{Q:Unit->aD->Prop}(I:Inv X aC σ H s)(hN:X.N.Nodup)(hi:X.N[i]?=some x)(hx:Loc X.env.scope x)(r:RelV v u)(h:∀s',Inv X aC (σ.set i (some v)) H s'->(∃a,Heap.SameBut a s.heap s'.heap/\(a=X.env.locals\/X.env.cells.lookup x=some a))->Q () s')(hf:X.fn x=true\/X.env.scope.names.lookup x=some .local:=by first | exact .inl rfl | exact .inr rfl | assumption):bF M A (storeName X.env x u) Q E s:=by
 obtain⟨m,hn,hl⟩:=id I.loc;have hcls:(X.env.scope.kind==.class||(X.env.scope.kind==.module&&X.env.locals != X.env.globals))=false:=by rw[I.ok.kind];rfl
 have hiσ : i<σ.length:=by rw[I.len];exact(aT.mp hi).1
 have cne:=I.cne
 have tracked:∀{a:aA} {h':Heap},(∃o,s.heap.get? a=some o/\H a=none)->Heap.SameBut a s.heap h'->HOk X.prog X.w H h':=fun {a h'} ha hs b ob e=>by
  obtain⟨_,_,hfree⟩:=ha;refine(I.hok b ob e).stay (fun c w' hc q=>(hs.2 c ?_).trans q) (fun _ q=>q) fun _ _ q=>q;rintro rfl;rcases hc with rfl | hc
  . rw[hfree] at e;cases e
  . rw[hfree] at hc;cases hc
 rcases hx with hk | hk
 . refine wpAny_storeName_local hk hn (fun h' hn' hs => ?_) hcls;obtain ⟨oL,_,_,hoL,_⟩:=id hn;refine h _ ⟨I.ok,I.os,I.bare,⟨fun b o e n hb hx=>?_,fun b o e n hb hx=>?_,I.base.free,fun b o e hx=>?_,I.base.tups,I.base.frzs,I.base.tbls⟩,⟨_,hn',fun j y v' e1 e2 e3=>?_⟩,fun y c e=>?_,I.free,I.freeC,fun p hp=>?_,tracked ⟨oL,hoL,I.free⟩ hs,by simpa using I.len⟩ ⟨_,hs,.inl rfl⟩
   . exact(hs.2 b (bS (bH (bB e) I.ok.above))).trans (I.base.keep b o e n hb hx)
   . obtain⟨sl, e1⟩ := I.base.slot b o e n hb hx;exact⟨sl,(hs.2 b (bS (bH (bB e) I.ok.above))).trans e1⟩
   . obtain⟨o', e1⟩ := I.base.there b o e hx;exact⟨o',(hs.2 b (bS (bH (bB e) I.ok.above))).trans e1⟩
   . by_cases hj : j = i
     . subst hj;rw[hi] at e1;cases e1;rw[aK hiσ] at e2;cases e2;exact⟨u,r,.inl ⟨hk,by simp⟩⟩
     . rw [aB (Ne.symm hj)] at e2;obtain ⟨u',r',q⟩:=hl j y v' e1 e2 e3;refine ⟨u',r',?_⟩;rcases q with ⟨k,e⟩ | ⟨k,c,e,z⟩
       . refine .inl ⟨k, ?_⟩;have:y≠x:=fun e=>hj (FC hN e1 (e▸hi));simp[this,e]
       . exact .inr ⟨k,c,e,z.sameBut hs (cne y c e)⟩
   . obtain⟨w', z⟩ := I.cell y c e;exact⟨w',z.sameBut hs (cne y c e)⟩
   . obtain⟨e, n, ne, nf, d⟩ := I.pin p hp;exact⟨(hs.2 p.1 ne).trans e,n,ne,nf,d⟩
 . have hfn:X.fn x=true:=by
    rcases hf with z | z
    . exact z
    . rw[z] at hk;cases hk
   obtain⟨c,hc⟩:=I.ok.has x (.inl hk);obtain⟨w',z⟩:=I.cell x c hc;refine wpAny_storeName_cell I.ok.kind hk hc z (fun h' hc' hs=>?_);obtain⟨oc,hoc,hocd⟩:=id z;refine h { s with heap:=h' } ⟨I.ok,I.os,I.bare,⟨fun b o e n hb hx=>?_,fun b o e n hb hx=>?_,I.base.free,fun b o e hx=>?_,I.base.tups,I.base.frzs,I.base.tbls⟩,⟨m,hn.sameBut hs (Ne.symm (cne x c hc)),fun j y v' e1 e2 e3=>?_⟩,fun y c' e=>?_,I.free,I.freeC,fun p hp=>?_,tracked ⟨oc,hoc,(I.freeC x c hc).now hfn⟩ hs,by simpa using I.len⟩ ⟨c,hs,.inr hc⟩
   . exact(hs.2 b (bS (bH (bB e) (I.ok.cab x c hfn hc)))).trans (I.base.keep b o e n hb hx)
   . obtain⟨sl, e1⟩ := I.base.slot b o e n hb hx;exact⟨sl,(hs.2 b (bS (bH (bB e) (I.ok.cab x c hfn hc)))).trans e1⟩
   . obtain⟨o', e1⟩ := I.base.there b o e hx;exact⟨o',(hs.2 b (bS (bH (bB e) (I.ok.cab x c hfn hc)))).trans e1⟩
   . by_cases hj : j = i
     . subst hj;rw[hi] at e1;cases e1;rw[aK hiσ] at e2;cases e2;exact⟨u,r,.inr ⟨.inl hk,c,hc,hc'⟩⟩
     . rw [aB (Ne.symm hj)] at e2;obtain ⟨u',r',q⟩:=hl j y v' e1 e2 e3;refine ⟨u',r',?_⟩;rcases q with q | ⟨k,c',e,z'⟩
       . exact .inl q
       . refine .inr ⟨k, c', e, z'.sameBut hs ?_⟩;rintro rfl;exact hj (FC hN e1 (I.ok.inj _ _ _ e hc▸hi))
   . by_cases hcc : c' = c
     . subst hcc;exact⟨_,hc'⟩
     . obtain⟨w2, z2⟩ := I.cell y c' e;exact⟨w2,z2.sameBut hs hcc⟩
   . obtain⟨e, n, ne, nf, d⟩ := I.pin p hp;refine⟨(hs.2 p.1 ?_).trans e,n,ne,nf,d⟩;intro q;rw[q,hoc] at e;have q':oc=p.2:=Option.some.inj e;exact d w' (by rw[<- q'];exact hocd)
theorem EG{M:QV}{A:bL}{E:Value->aD->Prop}{i:Nat}{x:Str}{v:V}{u:Value}{Q:Unit->aD->Prop}(I:Inv X aC σ H s)(hN:X.N.Nodup)(hi:X.N[i]?=some x)(hx:Loc X.env.scope x)(r:RelV v u)(h:∀s',Inv X aC (σ.set i (some v)) H s'->Q () s')(hf:X.fn x=true\/X.env.scope.names.lookup x=some .local:=by first | exact .inl rfl | exact .inr rfl | assumption):bF M A (storeName X.env x u) Q E s :=
 IU I hN hi hx r (fun s' I' _=>h s' I') hf
theorem Inv.call'{s':aD}{ch:List aA}(I:Inv X aC σ H s)(ho:s'.os=s.os)(u:Un (frs X.stack) ch H H' s.heap s'.heap)(hok:HOk X.prog X.w H' s'.heap)(hg:iQ s'.gens)(hch:∀b∈ch,(b∈X.ex\/X.s₀.heap.objs.size<=b)/\b≠X.env.locals/\(∀x c,X.env.cells.lookup x=some c->c≠b)/\∀p∈X.pn++aC,p.1≠b):Inv X aC σ H' s':=by
 obtain⟨h',g',d',t',o'⟩:=s';have e:o'=s.os:=ho;subst e;exact I.call (g':=g') (t':=t') (d':=d') u hok hg hch
end
abbrev XK:=Value->Option aA->Hp->Prop
abbrev St:=List (Option V)
abbrev VK:=V->Hp->Prop
abbrev TE:=St->Hp->VK->Prop
abbrev TT:=St->Hp->(Bool->Hp->Prop)->Prop
abbrev TA:=St->Hp->(List V->Hp->Prop)->Prop
structure Ends where
 nx:St->Hp->Prop
 rt:VK
 bk:St->Hp->Prop:=fun _ _=>False
 ct:St->Hp->Prop:=fun _ _=>False
abbrev TS:=Ends->St->Hp->Prop
noncomputable def EP(X:Cx)(aC:List (aA×Obj))(σ : St)(Q:VK)(u:Value)(s':aD):Prop:=∃v H',Inv X aC σ H' s'/\RelV v u/\Q v H'
noncomputable def TP(X:Cx)(aC:List (aA×Obj))(σ : St)(Q:Bool->Hp->Prop)(b:Bool)(s':aD):Prop:=∃H',Inv X aC σ H' s'/\Q b H'
noncomputable def AP(X:Cx)(aC:List (aA×Obj))(σ : St)(Q:List V->Hp->Prop)(us:List Value)(s':aD):Prop:=∃vs H',Inv X aC σ H' s'/\Vals vs us/\Q vs H'
noncomputable def SP(X:Cx)(aC:List (aA×Obj))(D:Ends)(f:Flow)(s':aD):Prop :=
 match f with
 | .next=>∃σ' H',Inv X aC σ' H' s'/\D.nx σ' H'
 | .brk=>∃σ' H',Inv X aC σ' H' s'/\D.bk σ' H'
 | .cont=>∃σ' H',Inv X aC σ' H' s'/\D.ct σ' H'
 | .ret u=>∃v σ' H',Inv X aC σ' H' s'/\RelV v u/\D.rt v H'
noncomputable def PE(X:Cx)(e:Expr)(t:TE):Prop :=
 ∀(aC:List (aA×Obj)) (s:aD) (σ : St) (H:Hp) (Q:VK),Inv X aC σ H s->t σ H Q->bF (8:) X.A (bT e X.env) (EP X aC σ Q) X.xe s
noncomputable def PT(X:Cx)(e:Expr)(t:TT):Prop :=
 ∀(aC:List (aA×Obj)) (s:aD) (σ : St) (H:Hp) (Q:Bool->Hp->Prop),Inv X aC σ H s->t σ H Q->bF (8:) X.A (CW e X.env (bT e X.env)) (TP X aC σ Q) X.xe s
noncomputable def PW(X:Cx)(e:Expr)(t:TT):Prop :=
 ∀(whole:Sem Value) (aC:List (aA×Obj)) (s:aD) (σ : St) (H:Hp) (Q:Bool->Hp->Prop),Inv X aC σ H s->t σ H Q->bF (8:) X.A (CW e X.env whole) (TP X aC σ Q) X.xe s
theorem PW.pt{X:Cx}{e:Expr}{t:TT}(h:PW X e t):PT X e t:=h _
noncomputable def PA(X:Cx)(es:List Expr)(t:TA):Prop :=
 ∀(pos:Pos) (aC:List (aA×Obj)) (s:aD) (σ : St) (H:Hp) (Q:List V->Hp->Prop),Inv X aC σ H s->t σ H Q->bF (8:) X.A (spliced (cP pos (aF es X.env))) (AP X aC σ Q) X.xe s
noncomputable def PS(X:Cx)(st:Stmt)(t:TS):Prop :=
 ∀(aC:List (aA×Obj)) (s:aD) (σ : St) (H:Hp) (D:Ends),Inv X aC σ H s->t D σ H->bF (8:) X.A (exec st X.env) (SP X aC D) X.xe s
noncomputable def PSs(X:Cx)(st:List Stmt)(t:TS):Prop :=
 ∀(aC:List (aA×Obj)) (s:aD) (σ : St) (H:Hp) (D:Ends),Inv X aC σ H s->t D σ H->bF (8:) X.A (execs st X.env) (SP X aC D) X.xe s
theorem thn{α : Type}{t:Sem α}{Q Q' : α->aD->Prop}{M:QV}{A:bL}{E:Value->aD->Prop}{s:aD}(h:bF M A t Q E s)(hQ:∀a s,Q a s->Q' a s):bF M A t Q' E s:=dG h hQ fun _ _ x=>x
section
variable{X:Cx}
noncomputable def tVar(i:Nat):TE:=fun σ H Q=>∃v,σ[i]?=some (some v)/\Q v H
noncomputable def tC(v:V):TE:=fun _ H Q=>Q v H
theorem yL{i:Nat}{x:Str}{pos:Pos}(hN:X.N[i]?=some x)(hv:Vis X.env.scope x)(hd:(6:)=false:=by decide)(hcd:(x==("__classdict__" : Str))=false:=by decide):PE X (.Name x pos) (tVar i):=by
 intro aC s σ H Q I h;obtain⟨v,e,h⟩:=h;obtain⟨m,hn,hl⟩:=I.loc;obtain⟨u,r,l⟩:=hl i x v hN e hv;have fin:EP X aC σ Q u s:=⟨v,H,I,r,h⟩
 rcases l with⟨hk,hm⟩ | ⟨hk,c,hc,hcell⟩
 . exact wpAny_Name (wpAny_loadName_local I.ok.kind hk hn hm fin) hd
 . rcases hk with hk | hk
   . exact wpAny_Name (wpAny_loadName_cell I.ok.kind hk hc hcell fin) hd
   . exact wpAny_Name (wpAny_loadName_free I.ok.kind hk hc hcell fin hcd) hd
theorem pe_int{i j pos}: PE X (.Constant (.int i) j pos) (tC (.int i)):=fun _ _ _ H _ I h=>wpAny_Constant_int ⟨.int i,H,I.tok _,⟨_,rfl⟩,h⟩
theorem pe_bl{b j pos}: PE X (.Constant (.bool b) j pos) (tC (.bl b)):=fun _ _ _ H _ I h=>Constant_bool ⟨.bl b,H,I,rfl,h⟩
theorem pe_non{j pos}: PE X (.Constant .none j pos) (tC .non):=fun _ _ _ H _ I h=>Constant_none ⟨.non,H,I,rfl,h⟩
theorem pe_str{x j pos}: PE X (.Constant (.str x) j pos) (tC (.str x)):=fun _ _ _ H _ I h=>Calls.Constant_str ⟨.str x,H,I.tok _,⟨_,rfl⟩,h⟩
noncomputable def Gl(X:Cx)(x:Str):Prop:=X.env.kindOf x=some .globalImplicit
theorem xJ{E:Value->aD->Prop}{aC:List (aA×Obj)}{s:aD}{σ : St}{H:Hp}{x:Str}{u:Value}{pos:Pos}{Q:Value->aD->Prop}(I:Inv X aC σ H s)(hg:Gl X x)(hm:X.mg x=some u)(h:Q u s)(hd:(6:)=false:=by decide):bF (8:) X.A (bT (.Name x pos) X.env) Q E s :=
 Calls.Name_function_global I.ok.kind hg (Calls.loadGlobal_global (by rw[I.ok.glob];exact I.mod.glob.keeps I.bk) hm h) hd
theorem AT{E:Value->aD->Prop}{aC:List (aA×Obj)}{s:aD}{σ : St}{H:Hp}{x:Str}{u:Value}{pos:Pos}{Q:Value->aD->Prop}(I:Inv X aC σ H s)(hg:Gl X x)(hm:X.mg x=none)(hv:gX x=some u)(h:Q u s)(hn:x≠"__name__":=by decide)(hd:(6:)=false:=by decide):bF (8:) X.A (bT (.Name x pos) X.env) Q E s:=by
 obtain⟨mb,h1,h2⟩:=I.mod.blt;exact Calls.Name_function_global I.ok.kind hg (Calls.loadGlobal_builtin (by rw[I.ok.glob];exact I.mod.glob.keeps I.bk) hm (by rw[I.ok.blt];exact h1.keeps I.bk) ((h2 x hn).trans hv) h) hd
theorem UP{x:Str}{v:V}{u:Value}{pos:Pos}(hg:Gl X x)(hm:X.mg x=some u)(r:RelV v u)(hd:(6:)=false:=by decide):PE X (.Name x pos) (tC v):=
 fun _ _ _ H _ I h=>xJ I hg hm ⟨v,H,I,r,h⟩ hd
theorem UR{x:Str}{v:V}{u:Value}{pos:Pos}(hg:Gl X x)(hm:X.mg x=none)(hv:gX x=some u)(r:RelV v u)(hn:x≠"__name__":=by decide)(hd:(6:)=false:=by decide):PE X (.Name x pos) (tC v):=
 fun _ _ _ H _ I h=>AT I hg hm hv ⟨v,H,I,r,h⟩ hn hd
variable{a b:Expr}{ta tb:TE}{pos:Pos}
noncomputable def PC(X:Cx)(op:KW)(a b:Expr)(t:TE):Prop :=
 ∀(aC:List (aA×Obj)) (s:aD) (σ : St) (H:Hp) (Q:VK),Inv X aC σ H s->t σ H Q →
  bF (8:) X.A (bT a X.env) (fun v s₁=>bF (8:) X.A (bT b X.env) (fun u s₂=>bF (8:) X.A (eO op v u) (EP X aC σ Q) X.xe s₂) X.xe s₁) X.xe s
theorem aDj(b:Expr){op:KW}(h:op≠.In)(h2:op≠.NotIn):dQ op b=false:=by
 have e1:(op==KW.In)=false:=by cases op<;>first | rfl | exact absurd rfl h
 have e2:(op==KW.NotIn)=false:=by cases op<;>first | rfl | exact absurd rfl h2
 cases b<;>simp[dQ,e1,e2]
noncomputable def tB(t:TE):TT:=fun σ H Q=>t σ H fun x H1=>∃c,x=.bl c/\Q c H1
theorem pt_cmp{op:KW}{t:TE}(h:PC X op a b t)(h1:dQ op b=false:=by first | exact aDj _ (by decide) (by decide) | rfl):PT X (.Compare a [op] [b] pos) (tB t):=by
 intro aC s σ H Q I hw;refine wpAny_isTrue_Compare1 (thn (h aC s σ H _ I hw) fun v s1 h1=>thn h1 fun u s2 h2=>thn h2 fun c s3 zq=>?_) h1;obtain⟨x,H1,I1,r1,q1⟩:=zq;obtain⟨d,rfl,q⟩:=q1;cases r1;exact gG ⟨H1,I1,q⟩
theorem aCe{e:Expr}{t:TE}(h:PE X e t)(he:∀whole,CW e X.env whole=(do let v <- whole;fO e.pos;eC [v] (ZO v)):=by intro _;rfl):PT X e (tB t):=by
 intro aC s σ H Q I hw;refine isTrue_plain (thn (h aC s σ H _ I hw) fun v s1 zq=>?_) (he _);obtain⟨x,H1,I1,r1,q1⟩:=zq;obtain⟨d,rfl,q⟩:=q1;cases r1;exact gG ⟨H1,I1,q⟩
variable{tA tB':TT}{rest:List Expr}
noncomputable def tAnd(t u:TT):TT:=fun σ H Q=>t σ H fun c H1=>if c=true then u σ H1 Q else Q false H1
noncomputable def tOr(t u:TT):TT:=fun σ H Q=>t σ H fun c H1=>if c=true then Q true H1 else u σ H1 Q
noncomputable def tNot(t:TT):TT:=fun σ H Q=>t σ H fun c H1=>Q (!c) H1
theorem pw_and1(ha:PT X a tA):PW X (.BoolOp .And [a] pos) tA:=by
 intro wh aC s σ H Q I h;refine isTrue_and (thn (ha aC s σ H Q I h) fun c s1 e=>?_);cases c with
 |true=>exact isTrue_and_nil e
 |false=>exact e
theorem pw_or1(ha:PT X a tA):PW X (.BoolOp .Or [a] pos) tA:=by
 intro wh aC s σ H Q I h;refine isTrue_or (thn (ha aC s σ H Q I h) fun c s1 e=>?_);cases c with
 |false=>exact isTrue_or_nil e
 |true=>exact e
theorem pw_and(ha:PT X a tA)(hb:PW X (.BoolOp .And (b::rest) pos) tB'):PW X (.BoolOp .And (a::b::rest) pos) (tAnd tA tB'):=by
 intro wh aC s σ H Q I h;refine isTrue_and (thn (ha aC s σ H _ I h) fun c s1 zq=>?_);obtain⟨H1,I1,q1⟩:=zq;cases c with
 |true=>exact hb wh aC s1 σ H1 Q I1 q1
 |false=>exact⟨H1,I1,q1⟩
theorem pw_or(ha:PT X a tA)(hb:PW X (.BoolOp .Or (b::rest) pos) tB'):PW X (.BoolOp .Or (a::b::rest) pos) (tOr tA tB'):=by
 intro wh aC s σ H Q I h;refine isTrue_or (thn (ha aC s σ H _ I h) fun c s1 zq=>?_);obtain⟨H1,I1,q1⟩:=zq;cases c with
 |true=>exact⟨H1,I1,q1⟩
 |false=>exact hb wh aC s1 σ H1 Q I1 q1
theorem aCh(ha:PT X a tA):PT X (.UnaryOp .Not a pos) (tNot tA):=by
 intro aC s σ H Q I h;exact isTrue_not (ha aC s σ H (fun c H1=>Q (!c) H1) I h)
noncomputable def tAndV(ta tb:TE):TE:=fun σ H Q=>ta σ H fun x H1=>∃c,x=.bl c/\if c=true then tb σ H1 Q else Q (.bl false) H1
noncomputable def tOrV(ta tb:TE):TE:=fun σ H Q=>ta σ H fun x H1=>∃c,x=.bl c/\if c=true then Q (.bl true) H1 else tb σ H1 Q
theorem pe_one{op}{t:TE}(h:PE X a t):PE X (.BoolOp op [a] pos) t:=fun aC s σ H Q I hw=>BoolOp_one (h aC s σ H Q I hw)
theorem pe_and(ha:PE X a ta)(hb:PE X (.BoolOp .And (b::rest) pos) tb):PE X (.BoolOp .And (a::b::rest) pos) (tAndV ta tb):=by
 intro aC s σ H Q I h;refine BoolOp_and (thn (ha aC s σ H _ I h) fun v s1 zq=>?_);obtain⟨x,H1,I1,r1,q1⟩:=zq;obtain⟨c,rfl,q1⟩:=q1;cases r1;refine gG ?_;cases c with
 |true=>exact hb aC s1 σ H1 Q I1 q1
 |false=>exact⟨.bl false,H1,I1,rfl,q1⟩
theorem pe_or(ha:PE X a ta)(hb:PE X (.BoolOp .Or (b::rest) pos) tb):PE X (.BoolOp .Or (a::b::rest) pos) (tOrV ta tb):=by
 intro aC s σ H Q I h;refine BoolOp_or (thn (ha aC s σ H _ I h) fun v s1 zq=>?_);obtain⟨x,H1,I1,r1,q1⟩:=zq;obtain⟨c,rfl,q1⟩:=q1;cases r1;refine gG ?_;cases c with
 |false=>exact hb aC s1 σ H1 Q I1 q1
 |true=>exact⟨.bl true,H1,I1,rfl,q1⟩
noncomputable def tIf(t:TT)(ta tb:TE):TE:=fun σ H Q=>t σ H fun c H1=>if c=true then ta σ H1 Q else tb σ H1 Q
theorem aCx{c:Expr}(hc:PT X c tA)(ha:PE X a ta)(hb:PE X b tb):PE X (.IfExp c a b pos) (tIf tA ta tb):=by
 intro aC s σ H Q I h;refine wpAny_IfExp (thn (hc aC s σ H _ I h) fun d s1 zq=>?_);obtain⟨H1,I1,q1⟩:=zq;cases d with
 |true=>exact ha aC s1 σ H1 Q I1 q1
 |false=>exact hb aC s1 σ H1 Q I1 q1
end
noncomputable def SqL(K:aN)(H:Hp)(a:aA)(xs:List V):Prop :=
 Rd H a (.lst xs) ∨
  ∃(o:Obj) (its:Array Value) (n:Nat),K.lookup a=some o/\o.cls=.type "list"/\o.dict=none/\o.data=.seq its n/\its.size<=sizeLine/\Vals xs its.toList
noncomputable def SqT(K:aN)(H:Hp)(a:aA)(xs:List V):Prop :=
 Rd H a (.tup xs) ∨
  ∃(o:Obj) (its:Array Value) (n:Nat),K.lookup a=some o/\o.cls=.type "tuple"/\o.data=.seq its n/\its.size<=sizeLine/\Vals xs its.toList
noncomputable def absV:Value->Option V
 | .none=>some .non
 | .bool b=>some (.bl b)
 | .int i _=>some (.int i)
 | .str x _=>some (.str x)
 | .bytes b _=>some (.byt b)
 | .float b _=>some (.flt b)
 | .ref a=>some (.ref a)
 | .type n=>some (.ty n)
 |_=>none
theorem RelV.abs{x:V}{u:Value}(r:RelV x u):absV u=some x:=by
 cases x with
 |non=>cases r;rfl
 |bl _=>cases r;rfl
 |int _=>obtain⟨t,rfl⟩:=r;rfl
 |str _=>obtain⟨t,rfl⟩:=r;rfl
 |byt _=>obtain⟨t,rfl⟩:=r;rfl
 |flt _=>obtain⟨t,rfl⟩:=r;rfl
 |ref _=>cases r;rfl
 |ty _=>cases r;rfl
theorem RelV.inj{x y:V}{u:Value}(r:RelV x u)(q:RelV y u):x=y:=Option.some.inj (r.abs.symm.trans q.abs)
theorem Vals.inj:∀{xs ys:List V} {us:List Value},Vals xs us->Vals ys us->xs=ys
 |_,_,_,.nil,.nil=>rfl
 |_,_,_,.cons r t,.cons r' t'=>by rw[r.inj r',Vals.inj t t']
section
variable{X:Cx}{aC:List (aA×Obj)}{σ : St}{H:Hp}{s:aD}{a:aA}{xs ys:List V}
theorem SqL.of{K:aN}(h:H a=some (.lst xs)):SqL K H a xs:=.inl (.inl h)
theorem SqT.of{K:aN}(h:H a=some (.tup xs)):SqT K H a xs:=.inl (.inl h)
theorem Inv.list(I:Inv X aC σ H s)(h:SqL X.K H a xs):∃its:List Value,Vals xs its/\PlainL s.heap a its.toArray/\xs.length<=sizeLine:=by
 rcases h with h | ⟨o,its,n,hk,hc,hd,hs,hz,r⟩
 . obtain⟨z, its, n, r, e⟩ := h.ok I.hok;exact⟨its,r,⟨_,n,e,rfl,rfl,rfl⟩,z⟩
 . refine⟨its.toList, r, ⟨o, n, I.kIn a o hk, hc, hd, by simpa using hs⟩, ?_⟩;have e:=r.length;simp only[mJ] at e;omega
theorem Inv.tuple(I:Inv X aC σ H s)(h:SqT X.K H a xs):∃its:List Value,Vals xs its/\IsTup s.heap a its.toArray/\xs.length<=sizeLine:=by
 rcases h with h | ⟨o,its,n,hk,hc,hs,hz,r⟩
 . obtain⟨z, its, r, p⟩ := h.ok I.hok;exact⟨its,r,p,z⟩
 . refine⟨its.toList, r, ⟨o, I.kIn a o hk, hc, n, by simpa using hs⟩, ?_⟩;have e:=r.length;simp only[mJ] at e;omega
theorem Inv.list_inj(I:Inv X aC σ H s)(h:SqL X.K H a xs)(h':SqL X.K H a ys):xs=ys:=by
 obtain⟨its,r,⟨o,n,e,_,_,d⟩,_⟩:=I.list h;obtain⟨its',r',⟨o',n',e',_,_,d'⟩,_⟩:=I.list h';rw[e] at e';cases e';rw[d] at d';injection d' with d1 _
 have:its=its':=by simpa using congrArg Array.toList d1
 subst this;exact r.inj r'
theorem Inv.tuple_inj(I:Inv X aC σ H s)(h:SqT X.K H a xs)(h':SqT X.K H a ys):xs=ys:=by
 obtain⟨its,r,⟨o,e,_,n,d⟩,_⟩:=I.tuple h;obtain⟨its',r',⟨o',e',_,n',d'⟩,_⟩:=I.tuple h';rw[e] at e';cases e';rw[d] at d';injection d' with d1 _
 have:its=its':=by simpa using congrArg Array.toList d1
 subst this;exact r.inj r'
end
noncomputable abbrev Cx.wish(X:Cx)(E:Value->aD->Prop):Cx:={ X with xe:=E }
noncomputable abbrev Cx.nox(X:Cx):Cx:=X.wish fun _ _=>False
theorem Cx.Ok.wish{X:Cx}(ok:X.Ok)(E:Value->aD->Prop):(X.wish E).Ok :=
 ⟨ok.mod,ok.kind,ok.glob,ok.blt,ok.above,ok.inj,ok.has,ok.cab,ok.hd,ok.frames,ok.stk,ok.exf,ok.bs,ok.bsz,ok.noex,ok.exfs,ok.funs,ok.frf⟩
theorem Cx.Ok.unwish{X:Cx}{E:Value->aD->Prop}(ok:(X.wish E).Ok):X.Ok :=
 ⟨ok.mod,ok.kind,ok.glob,ok.blt,ok.above,ok.inj,ok.has,ok.cab,ok.hd,ok.frames,ok.stk,ok.exf,ok.bs,ok.bsz,ok.noex,ok.exfs,ok.funs,ok.frf⟩
section
variable{X:Cx}{aC:List (aA×Obj)}{σ : St}{H:Hp}{s:aD}{E:Value->aD->Prop}
theorem Inv.wish(I:Inv X aC σ H s)(E:Value->aD->Prop):Inv (X.wish E) aC σ H s:=⟨I.ok.wish E,I.os,I.bare,I.base,I.loc,I.cell,I.free,I.freeC,I.pin,I.hok,I.len⟩
theorem Inv.unwish(I:Inv (X.wish E) aC σ H s):Inv X aC σ H s:=⟨I.ok.unwish,I.os,I.bare,I.base,I.loc,I.cell,I.free,I.freeC,I.pin,I.hok,I.len⟩
theorem SP.unwish{D:Ends}{f:Flow}{s':aD}(h:SP (X.wish E) aC D f s'):SP X aC D f s':=by
 cases f with
 |next=>obtain⟨σ',H',I,q⟩:=h;exact⟨σ',H',I.unwish,q⟩
 |brk=>obtain⟨σ',H',I,q⟩:=h;exact⟨σ',H',I.unwish,q⟩
 |cont=>obtain⟨σ',H',I,q⟩:=h;exact⟨σ',H',I.unwish,q⟩
 |ret u=>obtain⟨v,σ',H',I,r,q⟩:=h;exact⟨v,σ',H',I.unwish,r,q⟩
theorem PSs.nox{st:List Stmt}{t:TS}(h:PSs X.nox st t):PSs X st t:=fun aC s σ H D I hw =>
 dG (h aC s σ H D (I.wish _) hw) (fun _ _ q=>q.unwish) fun _ _ z=>False.elim z
end
section
variable{X:Cx}{st:Stmt}{rest:List Stmt}{t u:TS}{e:Expr}{te:TE}{pos:Pos}
noncomputable def tNext:TS:=fun D σ H=>D.nx σ H
noncomputable def tSeq(t u:TS):TS:=fun D σ H=>t { D with nx:=u D } σ H
theorem UN:PSs X [] tNext:=fun _ _ σ H _ I h=>nU ⟨σ,H,I,h⟩
theorem wT(h1:PS X st t)(h2:PSs X rest u):PSs X (st::rest) (tSeq t u):=by
 intro aC s σ H D I h;refine sA (thn (h1 aC s σ H { D with nx:=u D } I h) fun f s1 q=>?_);cases f with
 | next =>
   obtain⟨σ',H',I',q⟩:=q;exact h2 aC s1 σ' H' D I' q
 |ret v=>exact q
 |brk=>exact q
 |cont=>exact q
theorem LO(h1:PS X st t):PSs X [st] t:=by
 intro aC s σ H D I h;refine sA (thn (h1 aC s σ H D I h) fun f s1 q=>?_);cases f with
 |next=>exact nU q
 |ret v=>exact q
 |brk=>exact q
 |cont=>exact q
noncomputable def tCont:TS:=fun D σ H=>D.ct σ H
theorem OD:PS X (.Continue pos) tCont:=fun _ _ σ H _ I h=>wpAny_Continue ⟨σ,H,I,h⟩
theorem Inv.quiet{aC:List (aA×Obj)}{σ : St}{H:Hp}{s:aD}(I:Inv X aC σ H s):interactive X.env=false:=by simp[interactive,I.ok.kind]
noncomputable def tDrop(te:TE):TS:=fun D σ H=>te σ H fun _ H1=>D.nx σ H1
theorem xC(he:PE X e te)(hs:dF e none pos.line X.env=pure false:=by rfl):PS X (.Expr e pos) (tDrop te):=by
 intro aC s σ H D I h;exact QR (thn (he aC s σ H _ I h) fun v s1 ⟨x,H1,I1,r1,q1⟩=>⟨σ,H1,I1,q1⟩) I.quiet hs
noncomputable def tRet(te:TE):TS:=fun D σ H=>te σ H D.rt
theorem AO(he:PE X e te):PS X (.Return (some e) pos) (tRet te):=by
 intro aC s σ H D I h;exact wpAny_Return_some (thn (he aC s σ H _ I h) fun v s1 ⟨x,H1,I1,r1,q1⟩=>⟨x,σ,H1,I1,r1,q1⟩)
noncomputable def tIfS(c:TT)(t u:TS):TS:=fun D σ H=>c σ H fun b H1=>if b=true then t D σ H1 else u D σ H1
theorem UO{c:Expr}{a b:List Stmt}{tc:TT}(hc:PT X c tc)(ha:PSs X a t)(hb:PSs X b u):PS X (.If c a b pos) (tIfS tc t u):=by
 intro aC s σ H D I h;refine wpAny_If (thn (hc aC s σ H _ I h) fun d s1 zq=>?_);obtain⟨H1,I1,q1⟩:=zq;cases d with
 |true=>exact ha aC s1 σ H1 D I1 q1
 |false=>exact hb aC s1 σ H1 D I1 q1
noncomputable def tNever:TS:=fun _ _ _=>False
theorem aCq:PS X st tNever:=fun _ _ _ _ _ _ h=>h.elim
end
abbrev TG:=V->St->Hp->(St->Hp->Prop)->Prop
abbrev TGs:=List V->St->Hp->(St->Hp->Prop)->Prop
noncomputable def PG(X:Cx)(target:Expr)(t:TG):Prop :=
 ∀(aC:List (aA×Obj)) (s:aD) (σ : St) (H:Hp) (v:V) (u:Value) (Q:St->Hp->Prop),Inv X aC σ H s->RelV v u->t v σ H Q →
  bF (8:) X.A (pW target X.env u) (fun _ s'=>∃σ' H',Inv X aC σ' H' s'/\Q σ' H') X.xe s
noncomputable def PGs(X:Cx)(ts:List Expr)(t:TGs):Prop :=
 ∀(aC:List (aA×Obj)) (s:aD) (σ : St) (H:Hp) (vs:List V) (us:List Value) (Q:St->Hp->Prop),Inv X aC σ H s->Vals vs us->t vs σ H Q →
  bF (8:) X.A (assignInOrder ((gK ts X.env).map (·.2)) us) (fun _ s'=>∃σ' H',Inv X aC σ' H' s'/\Q σ' H') X.xe s
abbrev TSet:=V->V->V->Hp->(Hp->Prop)->Prop
noncomputable def PSet(X:Cx)(t:TSet):Prop :=
 ∀(aC:List (aA×Obj)) (s:aD) (σ : St) (H:Hp) (o i v:V) (ov iv u:Value) (Q:Hp->Prop),Inv X aC σ H s->RelV o ov->RelV i iv->RelV v u->t o i v H Q →
  bF (8:) X.A (setItem ov iv u) (fun _ s'=>∃H',Inv X aC σ H' s'/\Q H') X.xe s
section
variable{X:Cx}{pos:Pos}
noncomputable def gName(i:Nat):TG:=fun v σ H Q=>Q (σ.set i (some v)) H
theorem pg_name{i:Nat}{x:Str}(hN:X.N.Nodup)(hi:X.N[i]?=some x)(hx:Loc X.env.scope x)(hf:X.fn x=true\/X.env.scope.names.lookup x=some .local:=by first | exact .inl rfl | exact .inr rfl | assumption):PG X (.Name x pos) (gName i):=by
 intro aC s σ H v u Q I r h;exact wpAny_assign_Name (EG I hN hi hx r (fun s' I'=>⟨_,H,I',h⟩) hf)
noncomputable def gNil:TGs:=fun vs σ H Q=>vs=[]/\Q σ H
noncomputable def gCons(t:TG)(u:TGs):TGs:=fun vs σ H Q=>∃v r,vs=v::r/\t v σ H fun σ' H'=>u r σ' H' Q
theorem pgs_nil:PGs X [] gNil:=by
 intro aC s σ H vs us Q I r h;obtain⟨e,h⟩:=h;subst e;cases r;exact assignInOrder_nil ⟨σ,H,I,h⟩
theorem aCt{e:Expr}{es:List Expr}{t:TG}{u:TGs}(h1:PG X e t)(h2:PGs X es u)(hs:(gK (e::es) X.env).map (·.2)=pW e X.env::(gK es X.env).map (·.2):=by rfl):PGs X (e::es) (gCons t u):=by
 intro aC s σ H vs us Q I r h;obtain⟨v,vr,e1,h⟩:=h;subst e1;cases r with
 | cons r rr =>
   rw[hs];refine assignInOrder_cons (thn (h1 aC s σ H _ _ _ I r h) fun _ s1 zq=>?_);obtain⟨σ1,H1,I1,q1⟩:=zq;exact h2 aC s1 σ1 H1 _ _ Q I1 rr q1
noncomputable def gTup(K:aN)(n:Nat)(t:TGs):TG:=fun v σ H Q=>∃a xs,v=.ref a/\SqT K H a xs/\xs.length=n/\t xs σ H Q
theorem pg_tup{es:List Expr}{k:Nat}{t:TGs}{n:Nat}(hc:X.calm=true)(h:PGs X es t)(hn:(gK es X.env).length=n:=by rfl)(hst:(gK es X.env).findIdx? (·.1)=none:=by rfl):PG X (.Tuple es k pos) (gTup X.K n t):=by
 intro aC s σ H v u Q I r hw;obtain⟨a,xs,e1,hq,hl,hw⟩:=hw;subst e1;cases r;obtain⟨its,rv,ht,hz⟩:=I.tuple hq;refine assign_Tuple_tuple (I.ok.hd hc) ht (by simp[hn,<- hl,rv.length]) hst fun h' hx=>?_;have I1:Inv X aC σ H { s with heap:=h' }:=I.kept (t':=s.toks) fun b o e=>hx b o (bS (bB e)) e;exact h aC _ σ H xs _ Q I1 (by simpa using rv) hw
noncomputable def gSub(to ti:TE)(t:TSet):TG:=fun v σ H Q=>to σ H fun o H1=>ti σ H1 fun i H2=>t o i v H2 fun H3=>Q σ H3
theorem pg_sub{o i:Expr}{to ti:TE}{t:TSet}(ho:PE X o to)(hi:PE X i ti)(hs:PSet X t)(ha:∀v,pW (.Subscript o i pos) X.env v=(do
    let ov <- eC [v] (bT o X.env)
    let iv <- eC [v,ov] (bT i X.env)
    fO pos
    eC [v,ov,iv] (setItem ov iv v)
    release [v,ov,iv] []):=by intro _;rfl):PG X (.Subscript o i pos) (gSub to ti t):=by
 intro aC s σ H v u Q I r h;rw[ha];refine aS (pV (thn (ho aC s σ H _ I h) fun ov s1 zq=>?_));obtain⟨x,H1,I1,r1,q1⟩:=zq;refine aS (pV (thn (hi aC s1 σ H1 _ I1 q1) fun iv s2 zq=>?_));obtain⟨y,H2,I2,r2,q2⟩:=zq;refine aS (TL (aS (pV (thn (hs aC s2 σ H2 x y v ov iv u _ I2 r1 r2 r q2) fun _ s3 zq=>?_))));obtain⟨H3,I3,q3⟩:=zq;exact wpAny_release ⟨σ,H3,I3,q3⟩
noncomputable def tAsg(te:TE)(g:TG):TS:=fun D σ H=>te σ H fun x H1=>g x σ H1 D.nx
theorem aCs{tg e:Expr}{te:TE}{g:TG}(he:PE X e te)(hg:PG X tg g)(hs:TM [tg] e pos.line X.env=pure false:=by rfl)(hw:TN [tg] e X.env=pure none:=by rfl)(h1:(gK [tg] X.env).map (·.2)=[pW tg X.env]:=by rfl):PS X (.Assign [tg] e pos) (tAsg te g):=by
 intro aC s σ H D I h;refine wpAny_Assign_stores (thn (he aC s σ H _ I h) fun v s1 zq=>?_) hs hw;obtain⟨x,H1,I1,r1,q1⟩:=zq;rw[h1];exact thn (hg aC s1 σ H1 x v _ I1 r1 q1) fun _ s2 q=>q
theorem LP{i:Nat}{x:Str}{e:Expr}{te:TE}{pos':Pos}(hN:X.N.Nodup)(hi:X.N[i]?=some x)(hx:Loc X.env.scope x)(he:PE X e te)(hs:dF e (some (.Name x pos')) pos.line X.env=pure false:=by rfl)(hf:X.fn x=true\/X.env.scope.names.lookup x=some .local:=by first | exact .inl rfl | exact .inr rfl | assumption) :
  PS X (.Assign [.Name x pos'] e pos) (tAsg te (gName i)):=by
 intro aC s σ H D I h;refine wpAny_Assign_Name (thn (he aC s σ H _ I h) fun v s1 zq=>?_) hs;obtain⟨y,H1,I1,r1,q1⟩:=zq;exact EG I1 hN hi hx r1 (fun s2 I2=>⟨_,H1,I2,q1⟩) hf
end
section
variable{X:Cx}{pos:Pos}
end
structure It where
 go:Nat->Hp->Prop
 yld:Nat->Hp->V->Hp->Prop
 stop:Nat->Hp->Prop
noncomputable def FpOk(X:Cx)(aC:List (aA×Obj))(H:Hp)(b:aA):Prop :=
 H b=none/\b≠X.env.locals/\b∉X.fs/\(b∈X.ex\/X.s₀.heap.objs.size<=b)/\(∀x c,X.env.cells.lookup x=some c->c≠b)/\∀p∈X.pn++aC,p.1≠b
theorem Inv.fpOk{X:Cx}{aC:List (aA×Obj)}{σ : St}{H H':Hp}{s:aD}{b:aA}(I:Inv X aC σ H s)(hb:s.heap.objs.size<=b)(hn:H' b=none):FpOk X aC H' b:=by
 refine⟨hn,Nat.ne_of_gt (bH I.lt hb),I.nofs hb,.inr (dA I.sz hb),fun x c e z=>?_,fun p hp z=>?_⟩
 . obtain⟨v, q⟩ := I.cell x c e;exact absurd (bH q.lt (by rw[z];exact hb)) (dO _)
 . exact absurd (bH (bB (I.pin p hp).1) (by rw[z];exact hb)) (dO _)
structure Turn(P:aW)(w:bR)(K:aN)(tg:Expr)(J:It)(fp:List aA)(it:aA)(tn:Nat->Heap->Prop)(cm:Cx->Prop:=fun X=>X.calm=true):Prop where
 mem:it∈fp
 obj:∀i h,tn i h->∀b∈fp,∃o,h.get? b=some o/\∀v,o.data≠.cell v
 keep:∀i h h',tn i h->(∀b∈fp,∀o,h.get? b=some o->h'.get? b=some o)->tn i h'
 item:∀(X:Cx),X.prog=P->X.w=w->X.K=K->cm X->∀(i:Nat) (aC:List (aA×Obj)) (s:aD) (σ : St) (H:Hp) (E:Value->aD->Prop),Inv X aC σ H s->(∀b∈fp,FpOk X aC H b)->tn i s.heap->J.go i H →
  bF (bE P w) X.A (pyNext (.ref it)) (fun r s1=>∃u,r=some u ∧
   bF (bE P w) X.A (tE tg (.ref it) u) (fun _ s2=>∃x H',Inv X aC σ H' s2/\RelV x u/\J.yld i H x H'/\tn (i+1) s2.heap/\∀b∈fp,H' b=none) E s1) E s
 done:∀(X:Cx),X.prog=P->X.w=w->X.K=K->cm X->∀(i:Nat) (aC:List (aA×Obj)) (s:aD) (σ : St) (H:Hp) (E:Value->aD->Prop),Inv X aC σ H s->(∀b∈fp,FpOk X aC H b)->tn i s.heap->J.stop i H →
  bF (bE P w) X.A (pyNext (.ref it)) (fun r s1=>r=none/\Inv X aC σ H s1) E s
 self:∀(A:bL) (i:Nat) (s:aD) (Q:Value->aD->Prop) (E:Value->aD->Prop),tn i s.heap->Q (.ref it) s->bF (bE P w) A (pyIter (.ref it)) Q E s
abbrev TI:=St->Hp->(It->Hp->Prop)->Prop
noncomputable def PIE(X:Cx)(aC:List (aA×Obj))(σ : St)(tg:Expr)(R:It->Hp->Prop)(cm:Cx->Prop:=fun X=>X.calm=true)(itv:Value)(s2:aD):Prop :=
 ∃(it:aA) (fp:List aA) (tn:Nat->Heap->Prop) (J:It) (H':Hp),itv=.ref it/\Inv X aC σ H' s2/\Turn X.prog X.w X.K tg J fp it tn cm/\tn 0 s2.heap/\(∀b∈fp,FpOk X aC H' b)/\R J H'
noncomputable def PI(X:Cx)(tg iter:Expr)(wi:TI)(cm:Cx->Prop:=fun X=>X.calm=true):Prop :=
 ∀(aC:List (aA×Obj)) (s:aD) (σ : St) (H:Hp) (R:It->Hp->Prop),Inv X aC σ H s->wi σ H R →
  bF (8:) X.A (bT iter X.env) (fun v s1=>bF (8:) X.A (pyIter v) (PIE X aC σ tg R cm) X.xe s1) X.xe s
theorem JW{M:QV}{A:bL}{E:Value->aD->Prop}{s:aD}{tg:Expr}{it:aA}{u:Value}{o:Obj}{n:String}{vs:Array Value}{Q:Unit->aD->Prop}(ho:s.heap.get? it=some o)(hc:o.cls=.type n)(hd:o.data=.fields vs)(hn:["enumerate","zip","dict_itemiterator","dict_reverseitemiterator","odict_iterator","itertools.zip_longest","itertools.pairwise"].contains n=false)(hQ:Q () s):bF M A (tE tg (.ref it) u) Q E s:=by
 unfold tE
 cases tg<;>first
  |exact cJ hQ
  |(cases u<;>first
      |exact cJ hQ
      | (refine aS (wpAny_load ho ?_)
         rw[hc,hd];show bF M A (if (["enumerate","zip","dict_itemiterator","dict_reverseitemiterator","odict_iterator","itertools.zip_longest","itertools.pairwise"].contains n&&vs[0]?==some (uX _))=true then _ else _) Q E s;rw[if_neg (by intro h;rw[hn,Bool.false_and] at h;cases h)]
         exact cJ hQ))
noncomputable def Itl(K:aN)(a:aA):It :=
 ⟨fun i H=>∃xs x,SqL K H a xs/\xs[i]?=some x,fun i H x H'=>H'=H/\∀xs,SqL K H a xs->xs[i]?=some x,fun i H=>∃xs,SqL K H a xs/\xs.length<=i⟩
noncomputable def Itt(K:aN)(a:aA):It :=
 ⟨fun i H=>∃xs x,SqT K H a xs/\xs[i]?=some x,fun i H x H'=>H'=H/\∀xs,SqT K H a xs->xs[i]?=some x,fun i H=>∃xs,SqT K H a xs/\xs.length<=i⟩
noncomputable def Itr(lo:Int)(n:Nat):It:=⟨fun i _=>i<n,fun i H x H'=>H'=H/\x=.int (lo+i),fun i _=>n<=i⟩
theorem WK{P:aW}{w:bR}{K:aN}{tg:Expr}(a it:aA):Turn P w K tg (Itl K a) [it] it (fun i h=>h.IsListIter it a i) where
 mem:=by simp
 obj:=fun i h st b hb=>by
  have e:b=it:=by simpa using hb
  subst e;obtain⟨o,e,c,d⟩:=st;exact⟨o,e,fun v z=>by rw[d] at z;cases z⟩
 keep:=fun i h h' st k=>st.at fun o e=>k it (by simp) o e
 item:=by
  intro X hP hw hK hc i aC s σ H E I hf st hg;subst hP hw hK;obtain⟨xs,x,hq,hx⟩:=hg;obtain⟨its,rv,p,hz⟩:=I.list hq;obtain⟨u,hu,ru⟩:=rv.get hx;obtain⟨f0,f1,f2,f3,f4,f5⟩:=hf it (by simp);refine wpAny_pyNext_list_item st p.isList (x:=u) (by simpa using hu) fun h' st' sb=>?_;have I1:Inv X aC σ H { s with heap:=h' }:=I.turned (t':=s.toks) (fun b o hb e=>(sb.2 b hb).trans e) f0 f1 f3 f4 f5;obtain⟨o,e,c,d⟩:=id st';exact⟨u,rfl,JW (s:={ s with heap:=h' }) e c d (by decide) ⟨x,H,I1,ru,⟨rfl,fun ys hy=>by rw[I.list_inj hy hq];exact hx⟩,st',fun b hb=>(hf b hb).1⟩⟩
 done:=by
  intro X hP hw hK hc i aC s σ H E I hf st hg;subst hP hw hK;obtain⟨xs,hq,hx⟩:=hg;obtain⟨its,rv,p,hz⟩:=I.list hq;obtain⟨f0,f1,f2,f3,f4,f5⟩:=hf it (by simp);have hl:=rv.length;exact wpAny_pyNext_list_end (I.ok.hd hc) st p.isList (by simp;omega) fun h' eb=>⟨rfl,I.turned (t':=s.toks) (fun b o hb e=>eb b o hb e) f0 f1 f3 f4 f5⟩
 self:=fun _ _ _ _ _ st h=>wpAny_pyIter_listiter st h
theorem RI{P:aW}{w:bR}{K:aN}{tg:Expr}(a it:aA):Turn P w K tg (Itt K a) [it] it (fun i h=>h.IsTupleIter it a i) where
 mem:=by simp
 obj:=fun i h st b hb=>by
  have e:b=it:=by simpa using hb
  subst e;obtain⟨o,e,c,d⟩:=st;exact⟨o,e,fun v z=>by rw[d] at z;cases z⟩
 keep:=fun i h h' st k=>st.at fun o e=>k it (by simp) o e
 item:=by
  intro X hP hw hK hc i aC s σ H E I hf st hg;subst hP hw hK;obtain⟨xs,x,hq,hx⟩:=hg;obtain⟨its,rv,p,hz⟩:=I.tuple hq;obtain⟨u,hu,ru⟩:=rv.get hx;obtain⟨f0,f1,f2,f3,f4,f5⟩:=hf it (by simp);refine wpAny_pyNext_tuple_item st (show s.heap.IsTuple a its.toArray from p) (x:=u) (by simpa using hu) fun h' st' sb=>?_;have I1:Inv X aC σ H { s with heap:=h' }:=I.turned (t':=s.toks) (fun b o hb e=>(sb.2 b hb).trans e) f0 f1 f3 f4 f5;obtain⟨o,e,c,d⟩:=id st';exact⟨u,rfl,JW (s:={ s with heap:=h' }) e c d (by decide) ⟨x,H,I1,ru,⟨rfl,fun ys hy=>by rw[I.tuple_inj hy hq];exact hx⟩,st',fun b hb=>(hf b hb).1⟩⟩
 done:=by
  intro X hP hw hK hc i aC s σ H E I hf st hg;subst hP hw hK;obtain⟨xs,hq,hx⟩:=hg;obtain⟨its,rv,p,hz⟩:=I.tuple hq;obtain⟨f0,f1,f2,f3,f4,f5⟩:=hf it (by simp);have hl:=rv.length;exact wpAny_pyNext_tuple_end (I.ok.hd hc) st (show s.heap.IsTuple a its.toArray from p) (by simp;omega) fun h' eb=>⟨rfl,I.turned (t':=s.toks) (fun b o hb e=>eb b o hb e) f0 f1 f3 f4 f5⟩
 self:=fun _ _ _ _ _ st h=>wpAny_pyIter_tupleiter st h
theorem vI{P:aW}{w:bR}{K:aN}{tg:Expr}(it:aA)(lo:Int)(n:Nat):Turn P w K tg (Itr lo n) [it] it (fun i h=>uZ h it (lo+(i:Nat)*1) ((n:Int)-(i:Nat)) 1) where
 mem:=by simp
 obj:=fun i h st b hb=>by
  have e:b=it:=by simpa using hb
  subst e
  exact⟨_,st,fun v z=>by
   have z':Data.fields _=Data.cell v:=z
   cases z'⟩
 keep:=fun i h h' st k=>k it (by simp) _ st
 item:=by
  intro X hP hw hK hc i aC s σ H E I hf st hg;subst hP hw hK;obtain⟨f0,f1,f2,f3,f4,f5⟩:=hf it (by simp);have W:=Walks.range (prog:=X.prog) (w:=X.w) (I.ok.hd hc) it lo 1 n;refine W.item i s _ _ hg st fun v h' tk hv st' kk=>?_;obtain⟨t,rfl⟩:=hv;have I1:Inv X aC σ H { s with heap:=h',toks:=tk }:=I.turned (fun b o hb e=>kk b o (by simpa using hb) e) f0 f1 f3 f4 f5;refine⟨_,rfl,JW (s:={ s with heap:=h',toks:=tk }) (n:="range_iterator") st' rfl rfl (by decide) ⟨.int (lo+i),H,I1,⟨t,?_⟩,⟨rfl,rfl⟩,st',fun b hb=>(hf b hb).1⟩⟩;rw[Int.mul_one]
 done:=by
  intro X hP hw hK hc i aC s σ H E I hf st hg;subst hP hw hK;obtain⟨f0,f1,f2,f3,f4,f5⟩:=hf it (by simp);exact wpAny_pyNext_range_end (I.ok.hd hc) st (by have:n<=i:=hg;omega) fun h' eb=>⟨rfl,I.turned (t':=s.toks) (fun b o hb e=>eb b o hb e) f0 f1 f3 f4 f5⟩
 self:=fun _ _ _ _ _ st h=>wpAny_pyIter_rangeiter st h
section
variable{X:Cx}{tg:Expr}
noncomputable def iList(K:aN)(tl:TE):TI:=fun σ H R=>tl σ H fun x H1=>∃a,x=.ref a/\(∃xs,SqL K H1 a xs)/\R (Itl K a) H1
noncomputable def iTup(K:aN)(tl:TE):TI:=fun σ H R=>tl σ H fun x H1=>∃a,x=.ref a/\(∃xs,SqT K H1 a xs)/\R (Itt K a) H1
theorem pi_list{l:Expr}{tl:TE}(hl:PE X l tl):PI X tg l (iList X.K tl):=by
 intro aC s σ H R I h;refine thn (hl aC s σ H _ I h) fun v s1 zq=>?_;obtain⟨x,H1,I1,r1,q1⟩:=zq;obtain⟨a,e,⟨xs,hq⟩,q⟩:=q1;subst e;cases r1;obtain⟨its,rv,p,hz⟩:=I1.list hq;refine wpAny_pyIter_list p.isList ?_;refine⟨s1.heap.objs.size,[s1.heap.objs.size],_,_,H1,rfl,I1.kept (t':=s1.toks) fun b o e=>aL _ e,WK a _,⟨_,bC _ rfl,rfl,rfl⟩,fun b hb=>?_,q⟩;have e:b=s1.heap.objs.size:=by simpa using hb
 subst e;exact I1.fpOk (aY _) (I1.hok.fresh (aY _))
theorem pi_tup{l:Expr}{tl:TE}(hl:PE X l tl):PI X tg l (iTup X.K tl):=by
 intro aC s σ H R I h;refine thn (hl aC s σ H _ I h) fun v s1 zq=>?_;obtain⟨x,H1,I1,r1,q1⟩:=zq;obtain⟨a,e,⟨xs,hq⟩,q⟩:=q1;subst e;cases r1;obtain⟨its,rv,p,hz⟩:=I1.tuple hq;refine wpAny_pyIter_tuple (show s1.heap.IsTuple a its.toArray from p) ?_;refine⟨s1.heap.objs.size,[s1.heap.objs.size],_,_,H1,rfl,I1.kept (t':=s1.toks) fun b o e=>aL _ e,RI a _,⟨_,bC _ rfl,rfl,rfl⟩,fun b hb=>?_,q⟩;have e:b=s1.heap.objs.size:=by simpa using hb
 subst e;exact I1.fpOk (aY _) (I1.hok.fresh (aY _))
theorem aBr{aC:List (aA×Obj)}{σ : St}{H:Hp}{s:aD}{R:It->Hp->Prop}{E:Value->aD->Prop}{lo hi:Int}{t u v:Tok}{tk:Nat}(I:Inv X aC σ H s)(h1 : -(2 ^ 62)<=lo)(h2:lo<2 ^ 62)(h3 : -(2 ^ 62)<=hi)(h4:hi<2 ^ 62)(q:R (Itr lo (hi-lo).toNat) H):bF (8:) X.A (pyIter (.ref s.heap.objs.size)) (PIE X aC σ tg R) E { s with heap:=s.heap.push { cls:=.type "range",data:=.fields #[.int lo t,.int hi u,.int 1 v] },toks:=tk }:=by
 refine wpAny_pyIter_range (IsRange.new ..) (small_one h1 h2 h3 h4) ?_;have I1:Inv X aC σ H { s with heap:=s.heap.push { cls:=.type "range",data:=.fields #[.int lo t,.int hi u,.int 1 v] },toks:=tk }:=I.kept fun b o e=>aL _ e
 refine⟨(s.heap.push { cls:=.type "range",data:=.fields #[.int lo t,.int hi u,.int 1 v] }).objs.size,[(s.heap.push { cls:=.type "range",data:=.fields #[.int lo t,.int hi u,.int 1 v] }).objs.size],_,_,H,rfl,
  I1.kept (t':=tk) fun b o e=>aL _ e,vI _ lo (hi-lo).toNat,?_,fun b hb=>?_,q⟩
 . have e1 : lo + ((0 : Nat) : Int) * 1 = lo := by simp
   have e2:(((hi-lo).toNat:Nat):Int)-((0:Nat):Int)=Builtin.Range.rangeSize lo hi 1:=by rw[rangeSize_one];split<;>omega
   show uZ _ _ (lo+((0:Nat):Int)*1) ((((hi-lo).toNat:Nat):Int)-((0:Nat):Int)) 1;rw[e1,e2];exact bC _ rfl
 . have e : b = (s.heap.push { cls := .type "range", data := .fields #[.int lo t, .int hi u, .int 1 v] }).objs.size := by simpa using hb
   subst e;exact I1.fpOk (aY _) (I1.hok.fresh (aY _))
noncomputable def iRng1(ta:TA):TI:=fun σ H R=>ta σ H fun vs H1=>∃j:Int,vs=[.int j]/\-(2 ^ 62)<=j/\j<2 ^ 62/\R (Itr 0 j.toNat) H1
theorem XA{a:Expr}{ta:TA}{p pos:Pos}(hg:Gl X "range")(hm:X.mg "range" = none)(ha:PA X [a] ta)(hs:aF [a] X.env=[(false,bT a X.env)]:=by rfl):PI X tg (.Call (.Name "range" p) [a] [] pos) (iRng1 ta):=by
 intro aC s σ H R I h;refine Call_ (AT I hg hm boot_range (gM (thn (ha pos aC s σ H _ I h) fun us s1 zq=>?_) hs rfl));obtain⟨vs,H1,I1,r1,q1⟩:=zq;obtain⟨j,e,q1,q2,q⟩:=q1;subst e;cases r1 with
 | cons r rr =>
   cases rr;obtain⟨t,rfl⟩:=r;exact call_range_1 (aBr I1 (by omega) (by omega) q1 q2 (by simpa using q))
noncomputable def tFor(wi:TI)(g:TG)(tb:TS):TS:=fun D σ H=>wi σ H fun J H1=>∃W:Nat->Nat->St->Hp->Prop,(∃m,W 0 m σ H1)/\∀i m σ H,W i m σ H →
 (J.stop i H/\D.nx σ H)\/(J.go i H/\∃N:St->Hp->Prop,(∀σ' H',N σ' H'->∃m',m'<m/\W (i+1) m' σ' H')/\∀x H',J.yld i H x H'->g x σ H' fun σ2 H2=>tb { D with nx:=N,ct:=N,bk:=D.nx } σ2 H2)
noncomputable def EX(fp:List aA)(h:Heap):List (aA×Obj):=fp.filterMap fun b=>(h.get? b).map fun o=>(b,o)
theorem xP{fp:List aA}{h:Heap}{b:aA}{o:Obj}(hb:b∈fp)(e:h.get? b=some o):(b,o)∈EX fp h:=nR.mpr ⟨b,hb,by rw[e];rfl⟩
theorem XM{fp:List aA}{h:Heap}{p:aA×Obj}(hp:p∈EX fp h):p.1∈fp/\h.get? p.1=some p.2:=by
 obtain⟨b,hb,e⟩:=nR.mp hp;cases q:h.get? b with
 |none=>rw[q] at e;cases e
 | some o =>
   rw[q] at e;have e':(b,o)=p:=Option.some.inj e;subst e';exact⟨hb,q⟩
theorem Inv.pinned{aC:List (aA×Obj)}{σ : St}{H:Hp}{s:aD}{fp:List aA}(I:Inv X aC σ H s)(hf:∀b∈fp,FpOk X aC H b)(ho:∀b∈fp,∃o,s.heap.get? b=some o/\∀v,o.data≠.cell v):Inv X (aC++EX fp s.heap) σ H s :=
 I.pins_of fun p hp=>(cA.mp hp).elim (fun z=>I.pin p (aG _ z)) fun z=>by
  obtain⟨hb,e⟩:=XM z;obtain⟨f0,f1,f2,_⟩:=hf p.1 hb;obtain⟨o,e',d⟩:=ho p.1 hb;rw[e] at e';cases e';exact⟨e,f0,f1,f2,d⟩
theorem Inv.unpinned{aC pl:List (aA×Obj)}{σ : St}{H:Hp}{s:aD}(I:Inv X (aC++pl) σ H s):Inv X aC σ H s:=I.pins_of fun p hp=>I.pin p (aG _ (aU _ hp))
theorem aCr{iter:Expr}{body:List Stmt}{wi:TI}{g:TG}{tb:TS}{pos:Pos}(hp:PassesOwn (8:) X.A X.env X.xe)(hc:X.calm=true)(hi:PI X tg iter wi)(hg:PG X tg g)(hb:PSs X body tb)(hs:∀x,eL iter X.env x=pure x:=by intro _;rfl):PS X (.For tg iter body [] pos) (tFor wi g tb):=by
 intro aC s σ H D I h;refine wpAny_For (thn (hi aC s σ H _ I h) fun v s1 h1=>thn h1 fun itv s2 h2=>?_) hs;obtain⟨it,fp,tn,J,H2,e,I2,T,st2,f2,W,⟨m0,w0⟩,turn⟩:=h2;subst e;have stat:∀{H':Hp},(∀b∈fp,H' b=none)->∀b∈fp,FpOk X aC H' b:=fun hn b hb=>⟨hn b hb,(f2 b hb).2⟩
 refine codeAny_forLoop_any (fun n s'=>∃i σ' H',Inv X aC σ' H' s'/\tn i s'.heap/\(∀b∈fp,H' b=none)/\W i n σ' H') ?_ m0 ⟨0,σ,H2,I2,st2,fun b hb=>(f2 b hb).1,w0⟩;rintro n s3 ⟨i,σ3,H3,I3,st3,fr3,w3⟩;rcases turn i n σ3 H3 w3 with⟨stop,qn⟩ | ⟨go,N,hN,step⟩
 . refine nT hp (thn (T.done X rfl rfl rfl hc i aC s3 σ3 H3 X.xe I3 (stat fr3) st3 stop) fun r s4 zq => ?_);obtain⟨hr,I4⟩:=zq;subst hr;exact nU ⟨σ3,H3,I4,qn⟩
 . refine nT hp (thn (T.item X rfl rfl rfl hc i aC s3 σ3 H3 X.xe I3 (stat fr3) st3 go) fun r s4 zq => ?_);obtain ⟨u,hr,h4⟩:=zq;subst hr;refine nT hp (thn h4 fun _ s5 zq=>?_);obtain ⟨x,H5,I5,r5,y5,st5,fr5⟩:=zq;have I5':=I5.pinned (stat fr5) (T.obj _ _ st5);refine nT hp (thn (hg _ s5 σ3 H5 x u _ I5' r5 (step x H5 y5)) fun _ s6 zq=>?_);obtain ⟨σ6,H6,I6,q6⟩:=zq;refine nT hp (thn (hb _ s6 σ6 H6 _ I6 q6) fun f s7 q7=>?_)
   have again:∀{σ7:St} {H7:Hp},Inv X (aC++EX fp s5.heap) σ7 H7 s7->N σ7 H7->∃m,m<n/\∃i σ' H',Inv X aC σ' H' s7/\tn i s7.heap/\(∀b∈fp,H' b=none)/\W i m σ' H':=fun {σ7 H7} I7 n7=>by
    obtain⟨m',hm,w7⟩:=hN σ7 H7 n7;refine⟨m',hm,i+1,σ7,H7,I7.unpinned,T.keep _ _ _ st5 fun b hb o e=>(I7.pin (b,o) (aG _ (aG _ (xP hb e)))).1,fun b hb=>?_,w7⟩;obtain⟨o,e,d⟩:=T.obj _ _ st5 b hb;exact(I7.pin (b,o) (aG _ (aG _ (xP hb e)))).2.1
   cases f with
   |next=>obtain⟨σ7,H7,I7,n7⟩:=q7;exact again I7 n7
   |cont=>obtain⟨σ7,H7,I7,n7⟩:=q7;exact again I7 n7
   |brk=>obtain⟨σ7,H7,I7,q7⟩:=q7;exact⟨σ7,H7,I7.unpinned,q7⟩
   |ret v=>obtain⟨x7,σ7,H7,I7,r7,q7⟩:=q7;exact⟨x7,σ7,H7,I7.unpinned,r7,q7⟩
end
abbrev R2:=V->V->Hp->VK->Prop
noncomputable def OpR(X:Cx)(f:Value->Value->Sem Value)(r:R2):Prop :=
 ∀(aC:List (aA×Obj)) (s:aD) (σ : St) (H:Hp) (x y:V) (v u:Value) (Q:VK),Inv X aC σ H s->RelV x v->RelV y u->r x y H Q →
  bF (8:) X.A (f v u) (EP X aC σ Q) X.xe s
noncomputable def UnR(X:Cx)(f:Value->Sem Value)(r:V->Hp->VK->Prop):Prop :=
 ∀(aC:List (aA×Obj)) (s:aD) (σ : St) (H:Hp) (x:V) (v:Value) (Q:VK),Inv X aC σ H s->RelV x v->r x H Q →
  bF (8:) X.A (f v) (EP X aC σ Q) X.xe s
noncomputable def CallR(X:Cx)(f:Value)(r:List V->Hp->VK->Prop):Prop :=
 ∀(aC:List (aA×Obj)) (s:aD) (σ : St) (H:Hp) (xs:List V) (us:List Value) (Q:VK),Inv X aC σ H s->Vals xs us->r xs H Q →
  bF (8:) X.A (call f us) (EP X aC σ Q) X.xe s
noncomputable def TruR(X:Cx)(r:V->Hp->(Bool->Hp->Prop)->Prop):Prop :=
 ∀(aC:List (aA×Obj)) (s:aD) (σ : St) (H:Hp) (x:V) (v:Value) (Q:Bool->Hp->Prop),Inv X aC σ H s->RelV x v->r x H Q →
  bF (8:) X.A (ZO v) (TP X aC σ Q) X.xe s
noncomputable def tOp(r:R2)(ta tb:TE):TE:=fun σ H Q=>ta σ H fun x H1=>tb σ H1 fun y H2=>r x y H2 Q
noncomputable def tUn(r:V->Hp->VK->Prop)(ta:TE):TE:=fun σ H Q=>ta σ H fun x H1=>r x H1 Q
noncomputable def rI(C:Int->Int->Prop)(g:Int->Int->V):R2:=fun x y H Q=>∃i j,x=.int i/\y=.int j/\C i j/\Q (g i j) H
noncomputable def rI0(g:Int->Int->V):R2:=fun x y H Q=>∃i j,x=.int i/\y=.int j/\Q (g i j) H
noncomputable def rU(g:Int->V):V->Hp->VK->Prop:=fun x H Q=>∃i,x=.int i/\Q (g i) H
section
variable{X:Cx}{a b c:Expr}{ta tb tc:TE}{pos:Pos}
theorem binT(ha:PE X a ta)(hb:PE X b tb){aC:List (aA×Obj)}{s:aD}{σ : St}{H:Hp}{R:V->V->Hp->Prop}(I:Inv X aC σ H s)(h:ta σ H fun x H1=>tb σ H1 fun y H2=>R x y H2){Q:Value->aD->Prop}{f:Value->Value->Sem Value}(hf:∀v u s2 x y H2,Inv X aC σ H2 s2->RelV x v->RelV y u->R x y H2->bF (8:) X.A (f v u) Q X.xe s2) :
  bF (8:) X.A (bT a X.env) (fun v s₁=>bF (8:) X.A (bT b X.env) (fun u s₂=>bF (8:) X.A (f v u) Q X.xe s₂) X.xe s₁) X.xe s:=by
 refine thn (ha aC s σ H _ I h) fun v s1 zq=>?_;obtain⟨x,H1,I1,r1,q1⟩:=zq;refine thn (hb aC s1 σ H1 _ I1 q1) fun u s2 zq=>?_;obtain⟨y,H2,I2,r2,q2⟩:=zq;exact hf v u s2 x y H2 I2 r1 r2 q2
theorem aCv{op:Operator}{r:R2}(ho:OpR X (kM op) r)(ha:PE X a ta)(hb:PE X b tb):PE X (.BinOp a op b pos) (tOp r ta tb):=by
 intro aC s σ H Q I h;exact wpAny_BinOp (binT ha hb I h fun v u s2 x y H2 I2 rx ry q=>ho aC s2 σ H2 x y v u Q I2 rx ry q)
theorem pe_un{op:UnaryOp}{r:V->Hp->VK->Prop}(ho:UnR X (unaryOp op) r)(ha:PE X a ta):PE X (.UnaryOp op a pos) (tUn r ta):=by
 intro aC s σ H Q I h;exact UnaryOp_ (thn (ha aC s σ H _ I h) fun v s1 ⟨x,H1,I1,r1,q1⟩=>ho aC s1 σ H1 x v Q I1 r1 q1)
theorem opI{f:Value->Value->Sem Value}{C:Int->Int->Prop}{g:Int->Int->Int}(rule:∀(i j:Int) (t u:Tok) (s:aD) (Q:Value->aD->Prop) (E:Value->aD->Prop),C i j->Q (.int (g i j) s.toks) { s with toks:=s.toks+1 }->bF (8:) X.A (f (.int i t) (.int j u)) Q E s) :
  OpR X f (rI C fun i j=>.int (g i j)):=by
 intro aC s σ H x y v u Q I rx ry h;obtain⟨i,j,rfl,rfl,hc,q⟩:=h;obtain⟨t,rfl⟩:=rx;obtain⟨t',rfl⟩:=ry;exact rule i j t t' s _ _ hc ⟨.int (g i j),H,I.tok _,⟨_,rfl⟩,q⟩
theorem opI0{f:Value->Value->Sem Value}{g:Int->Int->Int}(rule:∀(i j:Int) (t u:Tok) (s:aD) (Q:Value->aD->Prop) (E:Value->aD->Prop),Q (.int (g i j) s.toks) { s with toks:=s.toks+1 }->bF (8:) X.A (f (.int i t) (.int j u)) Q E s) :
  OpR X f (rI0 fun i j=>.int (g i j)):=by
 intro aC s σ H x y v u Q I rx ry h;obtain⟨i,j,rfl,rfl,q⟩:=h;obtain⟨t,rfl⟩:=rx;obtain⟨t',rfl⟩:=ry;exact rule i j t t' s _ _ ⟨.int (g i j),H,I.tok _,⟨_,rfl⟩,q⟩
theorem opB0{f:Value->Value->Sem Value}{g:Int->Int->Bool}(rule:∀(i j:Int) (t u:Tok) (s:aD) (Q:Value->aD->Prop) (E:Value->aD->Prop),Q (.bool (g i j)) s->bF (8:) X.A (f (.int i t) (.int j u)) Q E s) :
  OpR X f (rI0 fun i j=>.bl (g i j)):=by
 intro aC s σ H x y v u Q I rx ry h;obtain⟨i,j,rfl,rfl,q⟩:=h;obtain⟨t,rfl⟩:=rx;obtain⟨t',rfl⟩:=ry;exact rule i j t t' s _ _ ⟨.bl (g i j),H,I,rfl,q⟩
theorem op_add:OpR X (kM .Add) (rI0 fun i j=>.int (i+j)):=opI0 fun _ _ _ _ _ _ _ q=>add_int q
theorem op_sub:OpR X (kM .Sub) (rI0 fun i j=>.int (i-j)):=opI0 fun _ _ _ _ _ _ _ q=>sub_int q
theorem op_mod:OpR X (kM .Mod) (rI (fun _ j=>0<j) fun i j=>.int (i%j)):=opI fun i j _ _ _ _ _ hc q=>by
 have h1:(0:Int)<j:=hc;exact mod_int' (by omega) (by rw[Int.fmod_eq_emod_of_nonneg i (by omega)];exact q)
theorem unI{f:Value->Sem Value}{g:Int->Int}(rule:∀(i:Int) (t:Tok) (s:aD) (Q:Value->aD->Prop) (E:Value->aD->Prop),Q (.int (g i) s.toks) { s with toks:=s.toks+1 }->bF (8:) X.A (f (.int i t)) Q E s) :
  UnR X f (rU fun i=>.int (g i)):=by
 intro aC s σ H x v Q I rx h;obtain⟨i,rfl,q⟩:=h;obtain⟨t,rfl⟩:=rx;exact rule i t s _ _ ⟨.int (g i),H,I.tok _,⟨_,rfl⟩,q⟩
theorem un_neg:UnR X (unaryOp .USub) (rU fun i=>.int (-i)):=unI fun _ _ _ _ _ q=>neg_int q
end
section
variable{X:Cx}{a b c:Expr}{ta tb tc:TE}{pos:Pos}
theorem SU{aC:List (aA×Obj)}{σ : St}{H:Hp}{s:aD}{Q:VK}{k k':Bool}(I:Inv X aC σ H s)(q:Q (.bl k) H)(e:k=k'):EP X aC σ Q (.bool k') s:=by
 subst e;exact⟨.bl k,H,I,rfl,q⟩
theorem op_lt:OpR X (eO .Lt) (rI0 fun i j=>.bl (decide (i<j))):=opB0 fun _ _ _ _ _ _ _ q=>lt_int q
theorem op_le:OpR X (eO .LtE) (rI0 fun i j=>.bl (decide (i<=j))):=opB0 fun _ _ _ _ _ _ _ q=>le_int q
theorem op_gt:OpR X (eO .Gt) (rI0 fun i j=>.bl (decide (j<i))):=opB0 fun _ _ _ _ _ _ _ q=>gt_int q
theorem XG:OpR X (eO .In) (fun x y H Q=>∃i j,x=.str i/\y=.str j/\Q (.bl (!(Builtin.Str.occurrences j i 0 j.length 1).isEmpty)) H):=by
 intro aC s σ H x y v u Q I rx ry h;obtain⟨i,j,rfl,rfl,q⟩:=h;obtain⟨t,rfl⟩:=rx;obtain⟨t',rfl⟩:=ry;exact in_str (SU I q rfl)
theorem aDe:OpR X (eO .Is) (fun x y H Q=>y=.non/\Q (.bl (decide (x=.non))) H):=by
 intro aC s σ H x y v u Q I rx ry h;obtain⟨rfl,q⟩:=h;cases ry;refine is_none_gen (SU I q ?_)
 cases x<;>first
  |(cases rx;rfl)
  |(obtain⟨t,rfl⟩:=rx;rfl)
theorem US:OpR X (eO .IsNot) (fun x y H Q=>y=.non/\Q (.bl (!decide (x=.non))) H):=by
 intro aC s σ H x y v u Q I rx ry h;obtain⟨rfl,q⟩:=h;cases ry;refine isnot_none_gen (SU I q ?_)
 cases x<;>first
  |(cases rx;rfl)
  |(obtain⟨t,rfl⟩:=rx;rfl)
theorem OpR.or{f:Value->Value->Sem Value}{r r':R2}(h:OpR X f r)(h':OpR X f r'):OpR X f (fun x y H Q=>r x y H Q\/r' x y H Q):=by
 intro aC s σ H x y v u Q I rx ry q;rcases q with q | q
 . exact h aC s σ H x y v u Q I rx ry q
 . exact h' aC s σ H x y v u Q I rx ry q
theorem nI(b:Expr){op:KW}(h:op≠.In:=by decide)(h2:op≠.NotIn:=by decide):dQ op b=false:=by
 have e1:(op==KW.In)=false:=by cases op<;>first | rfl | exact absurd rfl h
 have e2:(op==KW.NotIn)=false:=by cases op<;>first | rfl | exact absurd rfl h2
 cases b<;>simp[dQ,e1,e2]
theorem UQ{op:KW}{r:R2}(ho:OpR X (eO op) r)(ha:PE X a ta)(hb:PE X b tb)(hm:dQ op b=false):PE X (.Compare a [op] [b] pos) (tOp r ta tb):=by
 intro aC s σ H Q I h;exact wpAny_Compare1 (binT ha hb I h fun v u s2 x y H2 I2 rx ry q=>ho aC s2 σ H2 x y v u Q I2 rx ry q) hm
noncomputable def tTest(t:TE):TT:=fun σ H Q=>t σ H fun x H'=>∃k,x=.bl k/\Q k H'
theorem UL{op:KW}{r:R2}(ho:OpR X (eO op) r)(ha:PE X a ta)(hb:PE X b tb)(hm:dQ op b=false):PT X (.Compare a [op] [b] pos) (tTest (tOp r ta tb)):=by
 intro aC s σ H Q I h
 refine wpAny_isTrue_Compare1 (thn (ha aC s σ H _ I h) fun v s1 ⟨x,H1,I1,r1,q1⟩=>thn (hb aC s1 σ H1 _ I1 q1) fun u s2 ⟨y,H2,I2,r2,q2⟩ =>
  thn (ho aC s2 σ H2 x y v u _ I2 r1 r2 q2) fun c s3 ⟨z,H3,I3,r3,k,e,q3⟩=>?_) hm
 subst e;cases r3;exact gG ⟨H3,I3,q3⟩
noncomputable def TruV(K:aN)(x:V)(H:Hp)(k:Bool):Prop :=
 match x with
 | .non=>k=false
 | .bl b=>k=b
 | .int i=>k=(i != 0)
 | .str y=>y.length<=sizeLine/\k=((y.length:Int) != 0)
 | .byt y=>y.size<=sizeLine/\k=((y.size:Int) != 0)
 | .ref p=>(∃xs,SqL K H p xs/\k=!xs.isEmpty)\/(∃xs,SqT K H p xs/\k=!xs.isEmpty)\/∃kvs,H p=some (.dK kvs)/\k=!kvs.isEmpty
 |_=>False
theorem SG{κ : Type}{kvs:List (κ×V)}{vs:List (κ×Value)}(r:KV kvs vs):(!vs.isEmpty)=!kvs.isEmpty:=by
 cases r<;>rfl
theorem FR{xs:List V}{its:List Value}(r:Vals xs its):(!its.toArray.isEmpty)=!xs.isEmpty:=by
 cases r<;>simp
theorem tG:(sizeLine:Nat)<2 ^ 63:=by rw[uW];decide
theorem tru_ok:TruR X (fun x H Q=>∃k,TruV X.K x H k/\Q k H):=by
 intro aC s σ H x v Q I rx h;obtain⟨k,e,q⟩:=h;have hl:=tG;have hs:sizeLine=16777216:=uW;cases x with
 | non =>
   cases rx;have e':k=false:=e;subst e';exact truthy_none ⟨H,I,q⟩
 | bl b =>
   cases rx;have e':k=b:=e;subst e';exact gG ⟨H,I,q⟩
 | int i =>
   obtain⟨t,rfl⟩:=rx;have e':k=(i != 0):=e;subst e';exact PySem.P.truthy_int ⟨H,I,q⟩
 | str y =>
   obtain⟨t,rfl⟩:=rx;obtain⟨hy,e'⟩:y.length<=sizeLine/\k=((y.length:Int) != 0):=e;subst e';exact PySem.P.truthy_str (by omega) ⟨H,I.tok _,q⟩
 | byt y =>
   obtain⟨t,rfl⟩:=rx;obtain⟨hy,e'⟩:y.size<=sizeLine/\k=((y.size:Int) != 0):=e;subst e';exact PySem.W.truthy_bytes (by omega) ⟨H,I.tok _,q⟩
 | ref p =>
   cases rx;have e':(∃xs,SqL X.K H p xs/\k=!xs.isEmpty)\/(∃xs,SqT X.K H p xs/\k=!xs.isEmpty)\/∃kvs,H p=some (.dK kvs)/\k=!kvs.isEmpty:=e;rcases e' with⟨xs,hx,e'⟩ | ⟨xs,hx,e'⟩ | ⟨kvs,hx,e'⟩
   . subst e';obtain⟨its,r,pl,hz⟩:=I.list hx;have hlen:=r.length;exact wpAny_truthy_list pl.isList (by simp only[aZ];omega) ⟨H,I.tok _,by rw[FR r];exact q⟩
   . subst e';obtain⟨its,r,pl,hz⟩:=I.tuple hx;have hlen:=r.length;exact truthy_tuple pl (by simp only[aZ];omega) ⟨H,I.tok _,by rw[FR r];exact q⟩
   . subst e';obtain⟨hz,hS,vs,r,m⟩:kvs.length<=sizeLine/\(p==iI)=false/\∃vs,KV kvs vs/\s.heap.DictOf (fX X.prog X.w) p vs:=I.hok p _ hx;have hlen:kvs.length=vs.length:=IK.length r;exact wpAny_truthy_dict hS m (by omega) ⟨H,I.tok _,by rw[SG r];exact q⟩
 |_=>exact(show False from e).elim
theorem aCf(ha:PE X a ta)(he:∀whole,CW a X.env whole=(do let v <- whole;fO a.pos;eC [v] (ZO v))) :
  PT X a (fun σ H Q=>ta σ H fun x H'=>∃k,TruV X.K x H' k/\Q k H'):=by
 intro aC s σ H Q I h;exact isTrue_plain (thn (ha aC s σ H _ I h) fun v s1 ⟨x,H1,I1,r1,q1⟩=>tru_ok aC s1 σ H1 x v Q I1 r1 q1) (he _)
theorem RU:OpR X (kM .Add) (fun x y H Q=>∃i j,x=.str i/\y=.str j/\i.length+j.length<=sizeLine/\Q (.str (i++j)) H):=by
 intro aC s σ H x y v u Q I rx ry h;obtain⟨i,j,rfl,rfl,hz,q⟩:=h;obtain⟨t,rfl⟩:=rx;obtain⟨t',rfl⟩:=ry;exact add_str (fun t' tk=>⟨.str (i++j),H,I.tok _,⟨_,rfl⟩,q⟩) hz
theorem vals1{x:V}{us:List Value}(r:Vals [x] us):∃u,us=[u]/\RelV x u:=by
 cases r with
 |cons r1 r2=>cases r2;exact⟨_,rfl,r1⟩
theorem vals2{x y:V}{us:List Value}(r:Vals [x,y] us):∃u w',us=[u,w']/\RelV x u/\RelV y w':=by
 cases r with
 | cons r1 r2 =>
   cases r2 with
   |cons r3 r4=>cases r4;exact⟨_,_,rfl,r1,r3⟩
theorem ZG(hc:X.calm=true):CallR X (.builtin "max") (fun xs H Q=>∃i j,xs=[.int i,.int j]/\Q (.int (if j>i then j else i)) H):=by
 intro aC s σ H xs us Q I r h;obtain⟨i,j,rfl,q⟩:=h;obtain⟨u,w',rfl,⟨t,rfl⟩,⟨t',rfl⟩⟩:=vals2 r;refine max_two_ints (I.ok.hd hc) fun h' tk k=>⟨_,H,I.kept k,?_,q⟩
 by_cases hj:j>i
 . rw[if_pos hj,if_pos hj];exact⟨_,rfl⟩
 . rw[if_neg hj,if_neg hj];exact⟨_,rfl⟩
theorem ZF(hc:X.calm=true):CallR X (.builtin "min") (fun xs H Q=>∃i j,xs=[.int i,.int j]/\Q (.int (if j<i then j else i)) H):=by
 intro aC s σ H xs us Q I r h;obtain⟨i,j,rfl,q⟩:=h;obtain⟨u,w',rfl,⟨t,rfl⟩,⟨t',rfl⟩⟩:=vals2 r;refine min_two_ints (I.ok.hd hc) fun h' tk k=>⟨_,H,I.kept k,?_,q⟩
 by_cases hj:j<i
 . rw[if_pos hj,if_pos hj];exact⟨_,rfl⟩
 . rw[if_neg hj,if_neg hj];exact⟨_,rfl⟩
theorem ZI:CallR X (.type "int") (fun xs H Q=>(∃i,xs=[.int i]/\Q (.int i) H)\/∃k,xs=[.bl k]/\Q (.int (if k then 1 else 0)) H):=by
 intro aC s σ H xs us Q I r h;rcases h with⟨i,rfl,q⟩ | ⟨k,rfl,q⟩
 . obtain⟨u, rfl, t, rfl⟩ := vals1 r;exact call_int_int ⟨.int i,H,I,⟨_,rfl⟩,q⟩
 . obtain⟨u, rfl, r1⟩ := vals1 r;cases r1;exact call_int_bool ⟨.int (if k then 1 else 0),H,I.tok _,⟨_,rfl⟩,q⟩
end
structure ObjM(h:Heap)(x dx C:aA)(mA:Str->Option Value):Prop where
 obj:h.get? x=some (fP C dx)
 ns:h.Ns1 dx mA
 ne:dx≠x
theorem YD{h:Heap}{dx:aA}{mA:Str->Option Value}(n:h.Ns1 dx mA):∃od,h.get? dx=some od/\∀name,pX name od=some (mA name):=by
 obtain⟨o,es,ep,ho,hd,hk,_,hm⟩:=n;refine⟨o,ho,fun name=>?_⟩;have e:=hm name;unfold nsFind findBy at e;rw[<- Array.find?_toList] at e;unfold pX;rw[hd];dsimp only
 split
 . rename_i y q;rw[q] at e;exact congrArg some e
 . rename_i q;rw [q] at e
   have a:es.toList.any (·.refKey)=false:=by
    rw[List.any_eq_false];intro y hy;obtain⟨z,t,hkey⟩:=hk y (Array.mem_toList_iff.mp hy);simp[DictEntry.refKey,hkey]
   have a' : ¬es.toList.any (·.refKey)=true:=by rw[a];exact cL
   rw[if_neg a'];exact congrArg some e
theorem ObjM.look{h:Heap}{x dx C:aA}{mA:Str->Option Value}(I:ObjM h x dx C mA):∃od,PySem.W.InstAt h x (fP C dx) C (some od)/\∀name,pX name od=some (mA name):=
 let ⟨od,ho,hl⟩:=YD I.ns
 ⟨od,⟨I.obj,rfl,rfl,ho⟩,hl⟩
section
variable{prog:aW}{w:bR}{A:bL}{E:Value->aD->Prop}{s:aD}{K:aN}{x dx C f:aA}{mA:Str->Option Value}{name:Str}{v:Value}
theorem get_map{expr:Bool}{Q:Value->aD->Prop}(X:K.In s.heap)(I:ObjM s.heap x dx C mA)(hg:kQ K C name=true)(hh:nN K C=true)(ha:cF K (.ref C) name=some none)(hv:mA name=some v)(hv':TR v=true)(h:Q v { s with toks:=s.toks+1 }) :
  bF (bE prog w) A (getAttr (.ref x) name expr) Q E s:=by
 obtain⟨od,J,hl⟩:=I.look;exact PySem.W.get_value X J (sB hg).1 (PySem.W.findObj_own hh ha rfl (by rw[hl,hv])) hv' h
theorem aEk{pl:Sem Bool}{Q:Value×List Value->aD->Prop}(X:K.In s.heap)(I:ObjM s.heap x dx C mA)(hg:kQ K C name=true)(hf:cF K (.ref C) name=some (some (.ref f)))(ht:mE K (.ref f)=true)(hv:mA name=none)(h:Q (.ref f,[.ref x]) s) :
  bF (bE prog w) A (fH (.ref x) name pl) Q E s:=by
 obtain⟨od,J,hl⟩:=I.look;exact PySem.W.method_fn X J (sB hg).1 (sB hg).2 hf (beq_iff_eq.mp ht) (by show(pX name od).map (·.isSome)=some false;rw[hl,hv];rfl) h
theorem set_map{ns:List Str}{Q:Unit->aD->Prop}(X:K.In s.heap)(I:ObjM s.heap x dx C mA)(hs:cF K (.ref C) "__setattr__" = some (some (.builtin "object.__setattr__")))(hp:tP K C=true)(ht:BN K C name=some none)(hh:nN K C=true)(hw:PySem.Within mA ns)(hsz:ns.length<=sizeLine)(h:∀h',ObjM h' x dx C (fun y=>if y=name then some v else mA y)->Heap.SameBut dx s.heap h'->Q () { s with heap:=h',toks:=s.toks+2 }) :
  bF (bE prog w) A (setAttr (.ref x) name v) Q E s:=by
 obtain⟨od,J,hl⟩:=I.look;refine PySem.W.set_plain X J hs (PySem.W.osa_open (s:={ s with toks:=s.toks+1 }) (r:=none) X J hp ht fun b=>?_);obtain⟨cd,hc,hd'⟩:=PySem.W.any_some hh;have hx:s.heap.get? x=some ⟨.ref C,some dx,.plain,#[]⟩:=I.obj;refine aS (cJ (aS (aS (wpAny_loadPart hx (aS (PySem.W.Looks.here (s:={ s with toks:=s.toks+1 }) (PySem.W.looks_clsIn X hc) ?_))))));rw[hd'];refine cJ (a:=some dx) (aS (cJ (aS ?_)));refine wpAny_nsSet1 (s:={ s with toks:=s.toks+1 }) I.ns fun h' hn2 hs2=>?_;obtain⟨oD,esD,epD,hoD,hdD,hcD⟩:=hn2.count (PySem.Within.cons name v hw);refine aS (wpAny_lookBehind hoD (by rw[hdD];exact pastItsLine_dict (dA hcD (by rw[aM];omega))) ?_);exact cJ (h _ ⟨(hs2.2 _ (Ne.symm I.ne)).trans I.obj,hn2,I.ne⟩ hs2)
theorem aDv{R:QT->aD->Prop}{vs:List Value}{kw:List (Str×Value)}(X:K.In s.heap)(hm:eT K C=true)(hi:cF K (.ref C) "__init__" = some (some (.ref f)))(hf:mO K (.ref f)=some (.type "function"))(h:nE (bE prog w) (A.under (.builtin "type.__call__" ⟨.ref C::vs,kw⟩)) (.call (.ref f) ⟨.ref (s.heap.objs.size+1)::vs,kw⟩) (PySem.W.InitBack (s.heap.objs.size+1) R)
    { s with heap:=(s.heap.push dY).push (fP C s.heap.objs.size) }) :
  nE (bE prog w) A (.call (.ref C) ⟨vs,kw⟩) R s:=by
 obtain⟨hh,g,d,t,os⟩:=s;exact PySem.W.make_core (PySem.W.makes_of X hm) (PySem.W.looks_findIn X hi) (fun self=>PySem.W.bind_fn X self hf) (.inl rfl) h
end
noncomputable def putF(f:Str)(v:V):List (Str×V)->List (Str×V)
 |[]=>[(f,v)]
 |(g,x)::r=>if g=f then (g,v)::r else (g,x)::putF f v r
theorem BZ(f g:Str)(v:V):∀fs:List (Str×V),(putF f v fs).lookup g=if g=f then some v else fs.lookup g
 | [] => by
   show List.lookup g [(f,v)]=_
   by_cases h:g=f
   . have hb : (g==f)=true := beq_iff_eq.mpr h;simp only[List.lookup,hb,if_pos h]
   . have hb : (g==f)=false := beq_eq_false_iff_ne.mpr h;simp only[List.lookup,hb,if_neg h]
 | (k, x) :: r => by
   have ih:=BZ f g v r;rw[show putF f v ((k,x)::r)=(if k=f then (k,v)::r else (k,x)::putF f v r) from rfl]
   by_cases hk:k=f
   . rw [if_pos hk]
     by_cases h:g=k
     . have hb : (g==k)=true := beq_iff_eq.mpr h;simp only[List.lookup,hb,if_pos (h.trans hk)]
     . have hb : (g==k)=false := beq_eq_false_iff_ne.mpr h;simp only[List.lookup,hb,if_neg (fun e:g=f=>h (e.trans hk.symm))]
   . rw [if_neg hk]
     by_cases h:g=k
     . have hb : (g==k)=true := beq_iff_eq.mpr h;simp only[List.lookup,hb,if_neg (fun e:g=f=>hk (h.symm.trans e))]
     . have hb : (g==k)=false := beq_eq_false_iff_ne.mpr h;simp only[List.lookup,hb];exact ih
theorem AU(f:Str)(v:V):∀fs:List (Str×V),f∈(putF f v fs).map (·.1)/\∀g,g∈fs.map (·.1)->g∈(putF f v fs).map (·.1)
 |[]=>⟨by simp[putF],fun g h=>by simp at h⟩
 | (k, x) :: r => by
   obtain⟨i1,i2⟩:=AU f v r;rw[show putF f v ((k,x)::r)=(if k=f then (k,v)::r else (k,x)::putF f v r) from rfl]
   by_cases hk:k=f
   . rw[if_pos hk];subst hk;exact⟨by simp,fun g h=>by simpa using h⟩
   . rw [if_neg hk];refine ⟨?_,fun g h=>?_⟩
     . rw[bI];exact aP _ i1
     . rw [bI] at h ⊢;rcases aE.mp h with e | e
       . exact aE.mpr (.inl e)
       . exact aP _ (i2 g e)
theorem wB(f:Str)(v:V):∀fs:List (Str×V),(putF f v fs).length<=fs.length+1
 |[]=>by simp[putF]
 | (k, x) :: r => by
   have ih:=wB f v r;rw[show putF f v ((k,x)::r)=(if k=f then (k,v)::r else (k,x)::putF f v r) from rfl]
   by_cases hk:k=f
   . rw[if_pos hk,aM,aM];omega
   . rw[if_neg hk,aM,aM];omega
theorem RelO.some_of{v:V}{o:Option Value}(r:RelO (some v) o):∃u,o=some u/\RelV v u:=by
 cases o with
 |none=>exact(show False from r).elim
 |some u=>exact⟨u,rfl,r⟩
theorem RelO.none_of{o:Option Value}(r:RelO none o):o=none:=by
 cases o with
 |none=>rfl
 |some u=>exact(show False from r).elim
theorem YS{v:V}{u:Value}(r:RelV v u):TR u=true:=by
 cases v with
 |non=>cases(show u=Value.none from r);rfl
 |bl b=>cases(show u=Value.bool b from r);rfl
 |int i=>obtain⟨t,e⟩:=(show ∃t,u=Value.int i t from r);cases e;rfl
 |str x=>obtain⟨t,e⟩:=(show ∃t,u=Value.str x t from r);cases e;rfl
 |byt b=>obtain⟨t,e⟩:=(show ∃t,u=Value.bytes b t from r);cases e;rfl
 |flt b=>obtain⟨t,e⟩:=(show ∃t,u=Value.float b t from r);cases e;rfl
 |ref a=>cases(show u=Value.ref a from r);rfl
 |ty n=>cases(show u=Value.type n from r);rfl
section
variable{P:aW}{w:bR}{H H':Hp}{h h':Heap}{a C dx:aA}{fs fs':List (Str×V)}
theorem DQ(hok:HOk P w H h)(e:H a=some (.ins C dx fs)):∃mA,ObjM h a dx C mA/\(∀f,RelO (fs.lookup f) (mA f))/\PySem.Within mA (fs.map (·.1))/\fs.length<=1000/\H dx=some (.own a):=by
 obtain⟨d,z,ne,ob,mA,n,r,q⟩:=(show ObjOk P w H h a (.ins C dx fs) from hok a _ e)
 exact⟨mA,⟨ob,n,ne⟩,r,q,z,d⟩
end
structure Cls(K:aN)(C:aA):Prop where
 pg:kQ K C Str.empty=true
 hd:nN K C=true
 po:tP K C=true
 sa:cF K (.ref C) "__setattr__" = some (some (.builtin "object.__setattr__"))
theorem Cls.get{K:aN}{C:aA}(c:Cls K C)(f:Str):kQ K C f=true:=c.pg
noncomputable def NoAttr(K:aN)(C:aA)(f:Str):Prop:=cF K (.ref C) f=some none
theorem NoAttr.taker{K:aN}{C:aA}{f:Str}(n:NoAttr K C f):BN K C f=some none:=by
 unfold BN;rw[show cF K (.ref C) f=some none from n];rfl
structure Meth(K:aN)(C:aA)(m:Str)(f:aA):Prop where
 at_:cF K (.ref C) m=some (some (.ref f))
 fn:mE K (.ref f)=true
 kp:bG K (.ref f)=true
section
variable{X:Cx}{aC:List (aA×Obj)}{σ : St}{H:Hp}{s:aD}{a C dx:aA}{fs:List (Str×V)}{f:Str}{v:V}{A:bL}{E:Value->aD->Prop}
theorem SM{b:Bool}{Q:Value->aD->Prop}(I:Inv X aC σ H s)(e:H a=some (.ins C dx fs))(c:Cls X.K C)(n:NoAttr X.K C f)(l:fs.lookup f=some v)(h:∀u s',Inv X aC σ H s'->RelV v u->Q u s'):bF (8:) A (getAttr (.ref a) f b) Q E s:=by
 obtain⟨mA,O,r,_,_,_⟩:=DQ I.hok e;obtain⟨u,hu,ru⟩:=RelO.some_of (v:=v) (o:=mA f) (by rw[<- l];exact r f);exact get_map I.kIn O (c.get f) c.hd n hu (YS ru) (h u _ (I.tok _) ru)
theorem xR{m:Str}{g:aA}{pl:Sem Bool}{Q:Value×List Value->aD->Prop}(I:Inv X aC σ H s)(e:H a=some (.ins C dx fs))(c:Cls X.K C)(k:Meth X.K C m g)(l:fs.lookup m=none)(h:Q (.ref g,[.ref a]) s):bF (8:) A (fH (.ref a) m pl) Q E s:=by
 obtain⟨mA,O,r,_,_,_⟩:=DQ I.hok e;have hn:mA m=none:=RelO.none_of (by rw[<- l];exact r m);exact aEk I.kIn O (c.get m) k.at_ k.fn hn h
theorem RM{y:V}{u:Value}{Q:Unit->aD->Prop}(I:Inv X aC σ H s)(e:H a=some (.ins C dx fs))(c:Cls X.K C)(n:NoAttr X.K C f)(hl:fs.length<1000)(ry:RelV y u)(h:∀s',Inv X aC σ (upd H a (.ins C dx (putF f y fs))) s'->Q () s'):bF (8:) A (setAttr (.ref a) f u) Q E s:=by
 obtain⟨mA,O,r,wi,_,ho⟩:=DQ I.hok e;have hz:(fs.map (·.1)).length<=sizeLine:=by rw[bO,uW];omega
 refine set_map I.kIn O c.sa c.po n.taker c.hd wi hz fun h' O' sb=>h _ ?_;have hd:∃o,h'.get? dx=some o:=let ⟨o,_,_,e',_⟩:=O'.ns;⟨o,e'⟩;refine I.write (x:=a) (e:=dx) (by rw[e];exact True.intro) (.inr ho) (fun b q hb z=>(sb.2 b hb).trans z) hd ?_;refine⟨by rw[upd_ne O.ne];exact ho,?_,O.ne,O'.obj,_,O'.ns,fun g=>?_,fun g hg=>?_⟩
 . have:=wB f y fs;omega
 . show RelO ((putF f y fs).lookup g) (if g = f then some u else mA g);rw [BZ]
   by_cases q:g=f
   . rw[if_pos q,if_pos q];exact ry
   . rw[if_neg q,if_neg q];exact r g
 . by_cases q : g = f
   . rw[q];exact(AU f y fs).1
   . refine(AU f y fs).2 g (wi g fun z => hg ?_);show(if g=f then some u else mA g)=none;rw[if_neg q];exact z
theorem Inv.made(I:Inv X aC σ H s):Inv X aC σ (upd (upd H s.heap.objs.size (.own (s.heap.objs.size+1))) (s.heap.objs.size+1) (.ins C s.heap.objs.size []))
  { s with heap:=(s.heap.push dY).push (fP C s.heap.objs.size) }:=by
 have e1:(s.heap.push dY).get? s.heap.objs.size=some dY:=bC s.heap rfl
 have e2:((s.heap.push dY).push (fP C s.heap.objs.size)).get? (s.heap.objs.size+1)=some (fP C s.heap.objs.size):=by
  have:=bC (s.heap.push dY) (o:=fP C s.heap.objs.size) rfl
  rwa [kP] at this
 have e3:(s.heap.push dY).Ns s.heap.objs.size (fun _=>none):=⟨dY,#[],_,e1,rfl,(fun e he=>absurd he (by simp)),fun _=>rfl⟩
 have I1:=I.laid (a:=s.heap.objs.size) (o:=.own (s.heap.objs.size+1)) (h':=s.heap.push dY) (t':=s.toks) (fun b u q=>aL _ q) (aY _) ⟨_,e1⟩;refine I1.laid (a:=s.heap.objs.size+1) (o:=.ins C s.heap.objs.size []) (t':=s.toks) (fun b u q=>aL _ q) (nL (kP _ _)) ?_;have ne:s.heap.objs.size≠s.heap.objs.size+1:=bS (DC _);refine⟨by rw[upd_ne ne,bM],eK _,ne,e2,fun _=>none,(Heap.Ns1.of_empty e3).at fun o q=>aL _ q,fun _=>True.intro,fun y hy=>absurd rfl hy⟩
theorem attr_of{prog:aW}{w:bR}{env:Env}{e:Expr}{f:Str}{pos:Pos}{s:aD}{Q:Value->aD->Prop}(hb:eJ e f env (bT e env)=bT e env)(h:bF (bE prog w) A (bT e env) (fun o s₁=>bF (bE prog w) A (getAttr o f true) Q E s₁) E s):bF (bE prog w) A (bT (.Attribute e f pos) env) Q E s :=
 Attribute_any_ h (by rw[arm_eval_Attribute,hb])
end
noncomputable def tFld(K:aN)(ta:TE)(f:Str):TE:=fun σ H Q=>ta σ H fun x H1=>∃a C dx fs v,x=.ref a/\H1 a=some (.ins C dx fs)/\Cls K C/\NoAttr K C f/\fs.lookup f=some v/\Q v H1
noncomputable def sFld(K:aN)(ta tv:TE)(f:Str):TS:=fun D σ H=>tv σ H fun y H1=>ta σ H1 fun x H2=>∃a C dx fs,x=.ref a/\H2 a=some (.ins C dx fs)/\Cls K C/\NoAttr K C f/\fs.length<1000 ∧
 D.nx σ (upd H2 a (.ins C dx (putF f y fs)))
section
variable{X:Cx}{o e value:Expr}{f:Str}{pos pos' tpos:Pos}{ta tv:TE}
theorem aCy(he:PE X e ta)(hb:eJ e f X.env (bT e X.env)=bT e X.env):PE X (.Attribute e f pos) (tFld X.K ta f):=by
 intro aC s σ H Q I h;refine attr_of hb (thn (he aC s σ H _ I h) fun u s1 zq=>?_);obtain⟨x,H1,I1,rx,a,C,dx,fs,v,ex,ea,c,n,l,q⟩:=zq;subst ex;obtain rfl:u=Value.ref a:=rx;exact SM I1 ea c n l fun u' s2 I2 ru=>⟨v,H1,I2,ru,q⟩
theorem RQ(ha:PE X o ta)(hv:PE X value tv)(hs:dF value (some (.Attribute o f pos')) pos.line X.env=pure false):PS X (.Assign [.Attribute o f pos'] value pos) (sFld X.K ta tv f):=by
 intro aC s σ H D I h;refine plainObj_wpAny_Assign_Attribute (thn (hv aC s σ H _ I h) fun u s1 ⟨y,H1,I1,ry,q⟩=>thn (ha aC s1 σ H1 _ I1 q) fun ov s2 zq=>?_) hs;obtain⟨x,H2,I2,rx,a,C,dx,fs,ex,ea,c,n,l,q2⟩:=zq;subst ex;obtain rfl:ov=Value.ref a:=rx;exact RM I2 ea c n l ry fun s3 I3=>⟨σ,_,I3,q2⟩
end
section
variable{X:Cx}{aC:List (aA×Obj)}{σ : St}{H:Hp}{s:aD}{A:bL}{E:Value->aD->Prop}{Q:Value->aD->Prop}{c:Value}{b:Bool}
inductive TyOf(K:aN)(H:Hp):V->Value->Prop where
 |non:TyOf K H .non (.type "NoneType")
 |bl (x:Bool):TyOf K H (.bl x) (.type "bool")
 |int (i:Int):TyOf K H (.int i) (.type "int")
 |str (x:Str):TyOf K H (.str x) (.type "str")
 |flt (x:UInt64):TyOf K H (.flt x) (.type "float")
 |lst {a:aA} {xs:List V} (e:H a=some (.lst xs)):TyOf K H (.ref a) (.type "list")
 |frz {a:aA} {o:Obj} {xs:List V} (e:H a=some (.frz o (.lst xs))):TyOf K H (.ref a) (.type "list")
 |tup {a:aA} {xs:List V} (e:H a=some (.tup xs)):TyOf K H (.ref a) (.type "tuple")
 |dK {a:aA} {kvs:List (Key×V)} (e:H a=some (.dK kvs)):TyOf K H (.ref a) (.type "dict")
 |dT {a:aA} {kvs:List (List Key×V)} (e:H a=some (.dT kvs)):TyOf K H (.ref a) (.type "dict")
 |ins {a C dx:aA} {fs:List (Str×V)} (e:H a=some (.ins C dx fs)) (cl:Cls K C) (ha:cF K (.ref C) "__class__" = some (some (.builtin "object.__class__")))
    (hn:tN K (.builtin "object.__class__") "__get__" = some (some (.builtin "getset_descriptor.__get__"))) (htk:PySem.W.takesIn K (.builtin "object.__class__")=some true)
    (hm:sD K C (.type "object")=some true):TyOf K H (.ref a) (.ref C)
theorem YK{x:V}{u t:Value}(I:Inv X aC σ H s)(rx:RelV x u)(ty:TyOf X.K H x t)(e:cZ X.K t c=some b)(h:∀tk,Q (.bool b) { s with toks:=tk }) :
  bF (8:) A (call (.builtin "isinstance") [u,c]) Q E s:=by
 cases ty with
 |non=>cases(show u=Value.none from rx);exact cO PySem.W.kitx_none I.kIn True.intro e (fun z=>nomatch z) h
 |bl y=>cases(show u=Value.bool y from rx);exact cO PySem.W.kitx_bool I.kIn True.intro e (fun z=>nomatch z) h
 |int i=>obtain⟨t,q⟩:=(show ∃t,u=Value.int i t from rx);cases q;exact cO PySem.W.kitx_int I.kIn True.intro e (fun z=>nomatch z) h
 |str y=>obtain⟨t,q⟩:=(show ∃t,u=Value.str y t from rx);cases q;exact cO PySem.W.kitx_str I.kIn True.intro e (fun z=>nomatch z) h
 |flt y=>obtain⟨t,q⟩:=(show ∃t,u=Value.float y t from rx);cases q;exact cO PySem.W.kitx_float I.kIn True.intro e (fun z=>nomatch z) h
 | @lst a xs ea =>
   cases(show u=Value.ref a from rx);obtain⟨_,_,n,_,h1⟩:=(show ObjOk X.prog X.w H s.heap a (.lst xs) from I.hok a _ ea)
   exact cO tR I.kIn ⟨_,h1,rfl⟩ e (fun z=>nomatch z) h
 | @frz a ob xs ea =>
   cases(show u=Value.ref a from rx);obtain⟨_,_,_,n,_,h1⟩:=(show ObjOk X.prog X.w H s.heap a (.frz ob (.lst xs)) from I.hok a _ ea)
   exact cO tR I.kIn ⟨_,h1,rfl⟩ e (fun z=>nomatch z) h
 | @tup a xs ea =>
   cases(show u=Value.ref a from rx);obtain⟨_,_,_,p⟩:=(show ObjOk X.prog X.w H s.heap a (.tup xs) from I.hok a _ ea)
   obtain⟨o,h1,h2,_⟩:=p;exact cO sI I.kIn ⟨o,h1,h2⟩ e (fun z=>nomatch z) h
 | @dK a kvs ea =>
   cases(show u=Value.ref a from rx);obtain⟨_,_,vs,_,p⟩:=(show ObjOk X.prog X.w H s.heap a (.dK kvs) from I.hok a _ ea)
   obtain⟨o,es,ep,h1,h2,_⟩:=p;exact cO RC I.kIn ⟨o,h1,h2.1⟩ e (fun z=>nomatch z) h
 | @dT a kvs ea =>
   cases(show u=Value.ref a from rx);obtain⟨_,_,xs,_,o,es,ep,h1,h2,_⟩:=(show ObjOk X.prog X.w H s.heap a (.dT kvs) from I.hok a _ ea)
   exact cO RC I.kIn ⟨o,h1,h2.1⟩ e (fun z=>nomatch z) h
 | @ins a C dx fs ea cl ha hn htk hm =>
   cases(show u=Value.ref a from rx);obtain⟨mA,O,_⟩:=DQ I.hok ea;obtain⟨od,J,_⟩:=O.look;exact cO (PySem.W.kitx_own (cl.get _) cl.hd ha hn htk hm) I.kIn J e (fun z=>nomatch z) h
end
structure Room(k:Nat)(A:bL):Prop where
 hd:A.handled=none
 dp:A.depth+3*k+5<recursionLimit
 un:A.units+16*k+200<cLine
theorem Room.mono{j k:Nat}{A:bL}(r:Room k A)(h:j<=k):Room j A:=⟨r.hd,by have:=r.dp;omega,by have:=r.un;omega⟩
theorem Room.deeper{k:Nat}{A:bL}(r:Room (k+1) A)(env:Env):Room k (A.deeper env):=
 ⟨r.hd,by have:=r.dp;show A.depth+1+3*k+5<_;omega,by have:=r.un;show A.units+3+16*k+200<_;omega⟩
theorem SE{A:bL}{C:aA}{us:List Value}{kw:List (Str×Value)}:(A.under (.builtin "type.__call__" ⟨.ref C::us,kw⟩)).depth=A.depth+1:=by
 first | rfl | simp[bL.under,Code.weight,Code.isCreation,Code.isGuard,Code.isCaller,Code.frames,Code.isFrame,guardIds]
theorem SD{A:bL}{C:aA}{us:List Value}{kw:List (Str×Value)}:(A.under (.builtin "type.__call__" ⟨.ref C::us,kw⟩)).units=A.units+1:=by
 first | rfl | simp[bL.under,Code.cUnits,Code.frames,Code.isFrame]
theorem Room.make{k:Nat}{A:bL}(r:Room (k+1) A)(C:aA)(us:List Value)(kw:List (Str×Value)):Room k (A.under (.builtin "type.__call__" ⟨.ref C::us,kw⟩)):=
 ⟨r.hd,by have:=r.dp;rw[SE];omega,by have:=r.un;rw[SD];omega⟩
theorem Room.depth{k:Nat}{A:bL}(r:Room k A):A.depth<recursionLimit:=by have:=r.dp;omega
noncomputable def tNil:TA:=fun _ H Q=>Q [] H
noncomputable def tCons(ta:TE)(tr:TA):TA:=fun σ H Q=>ta σ H fun x H1=>tr σ H1 fun xs H2=>Q (x::xs) H2
section
variable{X:Cx}{e:Expr}{es:List Expr}{te:TE}{t:TA}{pos:Pos}
theorem jW:PA X [] tNil:=fun _ _ _ _ H Q I h=>Calls.spliced_nil ⟨[],H,I,.nil,h⟩
theorem qY(ha:PE X e te)(hr:PA X es t)(hs:aF (e::es) X.env=(false,bT e X.env)::aF es X.env:=by rfl):PA X (e::es) (tCons te t):=by
 intro pos aC s σ H Q I h;rw[hs];show bF _ _ (spliced ((false,bT e X.env)::cP pos (aF es X.env))) _ _ s;refine Calls.spliced_cons (thn (ha aC s σ H _ I h) fun u s1 zq=>?_);obtain⟨x,H1,I1,r1,q1⟩:=zq;exact thn (hr pos aC s1 σ H1 _ I1 q1) fun us s2 ⟨xs,H2,I2,r2,q2⟩=>⟨x::xs,H2,I2,.cons r1 r2,q2⟩
noncomputable def tTup(t:TA):TE:=fun σ H Q=>t σ H fun xs H1=>xs.length<=sizeLine/\∀p,H1 p=none->Q (.ref p) (upd H1 p (.tup xs))
noncomputable def tLst(t:TA):TE:=fun σ H Q=>t σ H fun xs H1=>xs.length<=sizeLine/\∀p,H1 p=none->Q (.ref p) (upd H1 p (.lst xs))
theorem aCu{x1}(h:PA X es t):PE X (.Tuple es x1 pos) (tTup t):=by
 intro aC s σ H Q I hq;refine wpAny_Tuple_spliced (thn (h pos aC s σ H _ I hq) fun us s1 ⟨xs,H1,I1,r,z,q⟩=>⟨by rw[<- r.length];exact z,?_⟩);have hf:H1 s1.heap.objs.size=none:=I1.hok.fresh (aY _);refine⟨.ref s1.heap.objs.size,upd H1 s1.heap.objs.size (.tup xs),I1.laid (t':=s1.toks) (fun b u e=>aL _ e) (aY _) ?_,rfl,q _ hf⟩;exact⟨z,us,r,⟨_,bC _ rfl,rfl,_,rfl⟩⟩
theorem aCw(h:PA X es t):PE X (.List es pos) (tLst t):=by
 intro aC s σ H Q I hq;refine wpAny_List_spliced (thn (h pos aC s σ H _ I hq) fun us s1 ⟨xs,H1,I1,r,z,q⟩=>⟨by rw[<- r.length];exact z,?_⟩);have hf:H1 s1.heap.objs.size=none:=I1.hok.fresh (aY _);refine⟨.ref s1.heap.objs.size,upd H1 s1.heap.objs.size (.lst xs),I1.laid (t':=s1.toks) (fun b u e=>aL _ e) (aY _) ?_,rfl,q _ hf⟩;exact⟨z,us,0,r,bC _ rfl⟩
end
abbrev Sp:=List V->Hp->VK->XK->Prop
abbrev CXT:=List Env->Hp->aD->XK->Value->aD->Prop
structure Env0(P:aW)(w:bR)(K:aN)(mg:Str->Option Value)(base:Heap)(A:bL)(outer:List Env)(s:aD)(H:Hp):Prop where
 frames:A.frames=some outer
 mod:Mod K mg base
 bs:∀b o,base.get? b=some o->s.heap.get? b=some o/\H b=none
 bsz:Bsz K mg base s.heap H
 funs:s.heap.FunFrames base outer
 frf:∀b∈frs outer,H b=none
 hok:HOk P w H s.heap
 bare:iQ s.gens
noncomputable def CE(outer:List Env)(P:aW)(w:bR)(H:Hp)(s:aD)(Q:VK)(u:Value)(s':aD):Prop :=
 ∃v H',s'.os=s.os/\iQ s'.gens/\Un (frs outer) [] H H' s.heap s'.heap/\HOk P w H' s'.heap/\RelV v u/\Q v H'
noncomputable def CR(CX:CXT)(outer:List Env)(P:aW)(w:bR)(H:Hp)(s:aD)(Q:VK)(E:XK)(r:QT)(s':aD):Prop :=
 match r with
 | .ok (.ret u)=>CE outer P w H s Q u s'
 | .ok _=>False
 | .error e=>CX outer H s E e s'
structure FnOk(P:aW)(w:bR)(K:aN)(mg:Str->Option Value)(base:Heap)(CX:CXT)(k:Nat)(f:aA)(fd:aJ)(ps:List Str)(sp:Sp):Prop where
 len:∀vs H Q E,sp vs H Q E->vs.length=ps.length
 run:∀(A:bL) (outer:List Env) (s:aD) (H:Hp) (args:Args) (us:List Value) (vs:List V) (Q:VK) (E:XK),Room k A->Env0 P w K mg base A outer s H->NB s fd args (ps.zip us)->Vals vs us->sp vs H Q E →
  nE (bE P w) A (.call (.ref f) args) (CR CX outer P w H s Q E) s
theorem FnOk.mono{P:aW}{w:bR}{K:aN}{mg:Str->Option Value}{base:Heap}{CX:CXT}{j k:Nat}{f:aA}{fd:aJ}{ps:List Str}{sp:Sp}(F:FnOk P w K mg base CX j f fd ps sp)(h:j<=k) :
  FnOk P w K mg base CX k f fd ps sp:=⟨F.len,fun A outer s H args us vs Q E hr=>F.run A outer s H args us vs Q E (hr.mono h)⟩
theorem FnOk.imp{P:aW}{w:bR}{K:aN}{mg:Str->Option Value}{base:Heap}{CX:CXT}{k:Nat}{f:aA}{fd:aJ}{ps:List Str}{sp sp':Sp}(F:FnOk P w K mg base CX k f fd ps sp)(h:∀vs H Q E,sp' vs H Q E->sp vs H Q E):FnOk P w K mg base CX k f fd ps sp' :=
 ⟨fun vs H Q E q=>F.len vs H Q E (h _ _ _ _ q),fun A outer s H args us vs Q E hr he hb hv hs=>F.run A outer s H args us vs Q E hr he hb hv (h _ _ _ _ hs)⟩
theorem Env0.make{P:aW}{w:bR}{K:aN}{mg:Str->Option Value}{base:Heap}{A:bL}{outer:List Env}{s:aD}{H:Hp}(e:Env0 P w K mg base A outer s H)(C:aA)(us:List Value)(kw:List (Str×Value)) :
  Env0 P w K mg base (A.under (.builtin "type.__call__" ⟨.ref C::us,kw⟩)) outer s H:=⟨by first | exact e.frames | (simpa[bL.under,Code.envs,Code.isFrame,pushEnvs] using e.frames),e.mod,e.bs,e.bsz,e.funs,e.frf,e.hok,e.bare⟩
section
variable{X:Cx}{aC:List (aA×Obj)}{σ : St}{H:Hp}{s s':aD}
theorem Inv.tabsH(I:Inv X aC σ H s):TabsK X.K X.mg X.base H:=⟨I.ok.bsz.2.bm,fun x c P hx ht=>⟨(I.ok.bsz.2.tab x c P hx ht).1,I.base.tbls _ _ (I.ok.bsz.2.tab x c P hx ht).2⟩⟩
theorem Inv.env0(I:Inv X aC σ H s):Env0 X.prog X.w X.K X.mg X.base X.A X.stack s H :=
 ⟨I.ok.frames,I.ok.mod,I.bs,⟨dA I.ok.bsz.1 I.sz,I.tabsH⟩,I.stack,I.stkFree,I.hok,I.bare⟩
theorem Inv.after{Q:VK}{u:Value}(I:Inv X aC σ H s)(h:CE X.stack X.prog X.w H s Q u s'):EP X aC σ Q u s':=by
 obtain⟨v,H',os,bare,un,hok,r,q⟩:=h;obtain⟨hh,g,d,t,os'⟩:=s';obtain rfl:os'=s.os:=os;exact⟨v,H',I.call (h':=hh) (g':=g) (d':=d) (t':=t) (ch:=[]) un hok bare (fun b z=>absurd z (by simp)),r,q⟩
end
noncomputable def tCall(sp:Sp)(dvs:List V)(E:XK)(t:TA):TE:=fun σ H Q=>t σ H fun vs H1=>sp (vs++dvs) H1 Q E
noncomputable def tMake(C:aA)(sp:Sp)(dvs:List V)(E:XK)(t:TA):TE:=fun σ H Q=>t σ H fun vs H1=>∀x dx,H1 x=none->H1 dx=none->dx≠x →
 sp (.ref x::(vs++dvs)) (upd (upd H1 dx (.own x)) x (.ins C dx [])) (fun v H2=>v=.non/\Q (.ref x) H2) E
noncomputable def Binds(K:aN)(fd:aJ)(ps:List Str)(ds:List Value):Prop :=
 ∀(s:aD) (us:List Value),K.In s.heap->(us++ds).length=ps.length->NB s fd ⟨us,[]⟩ (ps.zip (us++ds))
theorem Binds.all{K:aN}{fd:aJ}{ps:List Str}(h:∀us:List Value,us.length=ps.length->uY fd ⟨us,[]⟩=pure (ps.zip us)):Binds K fd ps []:=fun s us _ hl=>by
 rw[eI] at hl ⊢;exact .of_eq (h us hl)
noncomputable def BK(CX:CXT)(X:Cx)(E:XK):Prop:=∀(aC:List (aA×Obj)) (σ : St) (H:Hp) (s:aD) (e:Value) (s':aD),Inv X aC σ H s->CX X.stack H s E e s'->X.xe e s'
section
variable{X:Cx}{CX:CXT}{k:Nat}{f C:aA}{fd:aJ}{ps:List Str}{sp:Sp}{dvs:List V}{ds:List Value}{E:XK}{x m:Str}{p pos apos:Pos}{e o:Expr}{es:List Expr}{ta:TE}{t:TA}
theorem LD{aC:List (aA×Obj)}{σ : St}{H:Hp}{s:aD}{Q:VK}{us:List Value}{vs:List V}(F:FnOk X.prog X.w X.K X.mg X.base CX k f fd ps sp)(hr:Room k X.A)(hb:Binds X.K fd ps ds)(hd:Vals dvs ds)(hx:BK CX X E)(I:Inv X aC σ H s)(r:Vals vs us)(h:sp (vs++dvs) H Q E):bF (8:) X.A (call (.ref f) us) (EP X aC σ Q) X.xe s:=by
 have r2:Vals (vs++dvs) (us++ds):=r.append hd;have hl:(us++ds).length=ps.length:=by rw[<- r2.length];exact F.len _ _ _ _ h
 refine QQ (oM (F.run X.A X.stack s H ⟨us,[]⟩ (us++ds) (vs++dvs) Q E hr I.env0 (hb s us I.kIn hl) r2 h) fun r s' hq=>?_);cases r with
 |error e=>exact hx aC σ H s e s' I hq
 | ok fl =>
   cases fl with
   |ret u=>exact I.after hq
   |next=>exact False.elim hq
   |brk=>exact False.elim hq
   |cont=>exact False.elim hq
theorem DI(F:FnOk X.prog X.w X.K X.mg X.base CX k f fd ps sp)(hr:Room k X.A)(hg:Gl X x)(hm:X.mg x=some (.ref f))(hk:bG X.K (.ref f)=true)(hb:Binds X.K fd ps ds)(hd:Vals dvs ds)(hx:BK CX X E)(ha:PA X (e::es) t)(hdb:(6:)=false:=by decide)(he:aF (e::es) X.env=(false,bT e X.env)::aF es X.env:=by rfl)(hpl:(cP pos (aF es X.env)).any (·.1)=false:=by rfl) :
  PE X (.Call (.Name x p) (e::es) [] pos) (tCall sp dvs E t):=by
 intro aC s σ H Q I h;refine gW (xJ I hg hm ?_ hdb);refine gL (h₀:=X.base) I.ok.mod.kin hk (thn (ha pos aC s σ H _ I h) fun us s1 ⟨vs,H1,I1,r,q⟩=>⟨I1.kIn,?_⟩) he hpl;exact LD F hr hb hd hx I1 r q
structure Mk(K:aN)(C f:aA):Prop where
 makes:eT K C=true
 init:cF K (.ref C) "__init__" = some (some (.ref f))
 fn:mE K (.ref f)=true
 kp:bG K (.ref C)=true
theorem NO{aC:List (aA×Obj)}{σ : St}{H:Hp}{s:aD}{Q:VK}{us:List Value}{vs:List V}(M:Mk X.K C f)(F:FnOk X.prog X.w X.K X.mg X.base CX k f fd ps sp)(hr:Room (k+1) X.A)(hb:Binds X.K fd ps ds)(hd:Vals dvs ds)(hx:BK CX X E)(I:Inv X aC σ H s)(r:Vals vs us)(h:∀x dx,H x=none->H dx=none->dx≠x->sp (.ref x::(vs++dvs)) (upd (upd H dx (.own x)) x (.ins C dx [])) (fun v H2=>v=.non/\Q (.ref x) H2) E) :
  bF (8:) X.A (call (.ref C) us) (EP X aC σ Q) X.xe s:=by
 have hq:=h (s.heap.objs.size+1) s.heap.objs.size (I.hok.fresh (TW _)) (I.hok.fresh (aY _)) (bS (DC _));have I2:=Inv.made (C:=C) I;have r2:Vals (V.ref (s.heap.objs.size+1)::(vs++dvs)) (Value.ref (s.heap.objs.size+1)::(us++ds)):=.cons rfl (r.append hd)
 have hl:(Value.ref (s.heap.objs.size+1)::us++ds).length=ps.length:=by
  have e:=r2.length;rw[F.len _ _ _ _ hq] at e;exact e.symm
 refine QQ (aDv (f:=f) I.kIn M.makes M.init (beq_iff_eq.mp M.fn) (oM (F.run _ X.stack _ _ ⟨Value.ref (s.heap.objs.size+1)::us,[]⟩ (Value.ref (s.heap.objs.size+1)::(us++ds)) _ _ E (hr.make C us [])
  (I2.env0.make C us []) (hb _ (Value.ref (s.heap.objs.size+1)::us) I2.kIn hl) r2 hq) fun r s' hq'=>?_))
 cases r with
 |error e=>exact hx aC σ _ _ e s' I2 hq'
 | ok fl =>
   cases fl with
   | ret u =>
     obtain⟨v,H',I3,rv,ev,q3⟩:=I2.after hq';subst ev;exact⟨rv,⟨V.ref (s.heap.objs.size+1),H',I3,rfl,q3⟩⟩
   |next=>exact False.elim hq'
   |brk=>exact False.elim hq'
   |cont=>exact False.elim hq'
theorem pe_make(M:Mk X.K C f)(F:FnOk X.prog X.w X.K X.mg X.base CX k f fd ps sp)(hr:Room (k+1) X.A)(hg:Gl X x)(hm:X.mg x=some (.ref C))(hb:Binds X.K fd ps ds)(hd:Vals dvs ds)(hx:BK CX X E)(ha:PA X (e::es) t)(hdb:(6:)=false:=by decide)(he:aF (e::es) X.env=(false,bT e X.env)::aF es X.env:=by rfl)(hpl:(cP pos (aF es X.env)).any (·.1)=false:=by rfl) :
  PE X (.Call (.Name x p) (e::es) [] pos) (tMake C sp dvs E t):=by
 intro aC s σ H Q I h;refine gW (xJ I hg hm ?_ hdb);refine gL (h₀:=X.base) I.ok.mod.kin M.kp (thn (ha pos aC s σ H _ I h) fun us s1 ⟨vs,H1,I1,r,q⟩=>⟨I1.kIn,?_⟩) he hpl;exact NO M F hr hb hd hx I1 r q
theorem OG(M:Mk X.K C f)(F:FnOk X.prog X.w X.K X.mg X.base CX k f fd ps sp)(hr:Room (k+1) X.A)(hg:Gl X x)(hm:X.mg x=some (.ref C))(hb:Binds X.K fd ps ds)(hd:Vals dvs ds)(hx:BK CX X E)(hdb:(6:)=false:=by decide):PE X (.Call (.Name x p) [] [] pos) (tMake C sp dvs E tNil):=by
 intro aC s σ H Q I h;refine gW (xJ I hg hm ?_ hdb);exact sC I.kIn M.kp (NO (us:=[]) M F hr hb hd hx I .nil h)
end
section
variable{X:Cx}{CX:CXT}{k:Nat}{f C:aA}{fd:aJ}{ps ks:List Str}{sp:Sp}{E:XK}{x m:Str}{p pos apos kpos:Pos}{e o:Expr}{es:List Expr}{kws:List sJ}{te ta:TE}{t tk:TA}{nm:Option Str}
variable{g:List Value->List Value->List Value}{gV:List V->List V->List V}
end
structure FnScope(N P:List Str)(sc:Scope):Prop where
 kind:sc.kind=.function:=by rfl
 co:sc.isCoroutine=false:=by rfl
 gen:sc.isGenerator=false:=by rfl
 nd:N.Nodup:=by decide +kernel
 pre:N.take P.length=P:=by rfl
 par:∀x∈P,sc.names.lookup x=some .local\/sc.names.lookup x=some .cell:=by decide +kernel
 nofree:∀y∈sc.names,y.2≠.free:=by decide +kernel
theorem KJ{kindOf:Str->Option kN}{x:Str}:∀{binds:List (Str×Value)} {m:Str->Option Value},(∀v,(x,v)∉binds)->WA kindOf binds m x=m x
 |[],_,_=>rfl
 | (n, v) :: r, m, h => by
   unfold WA;rw[KJ fun w hw=>h w (aP _ hw)]
   split
   . have : x ≠ n := by rintro rfl; exact h v aV
     simp[this]
   . rfl
theorem KN{kindOf:Str->Option kN}{x:Str}:∀{binds:List (Str×Value)} {m:Str->Option Value},(∀v,(x,v)∉binds)->WB kindOf binds m x=m x
 |[],_,_=>rfl
 | (n, v) :: r, m, h => by
   unfold WB;rw[KN fun w hw=>h w (aP _ hw)]
   split
   . rfl
   . have : x ≠ n := by rintro rfl; exact h v aV
     simp[this]
theorem KL{kindOf:Str->Option kN}{x:Str}{v:Value}:∀{P:List Str} {vs:List Value} {i:Nat} {m:Str->Option Value},P.Nodup->P[i]?=some x->vs[i]?=some v->kindOf x=some .local →
  WA kindOf (P.zip vs) m x=some v
 |[],_,_,_,_,h,_,_=>by simp at h
 |_::_,[],_,_,_,_,h,_=>by simp at h
 | p :: P, w :: vs, 0, m, nd, h1, h2, hk => by
   simp at h1 h2;subst h1;subst h2;show WA kindOf ((p,w)::P.zip vs) m p=_;unfold WA;rw[KJ fun v hv=>(bZ.mp nd).1 (pY hv).1,if_pos hk];simp
 | p :: P, w :: vs, i + 1, m, nd, h1, h2, hk => by
   show WA kindOf ((p,w)::P.zip vs) m x=_;unfold WA;exact KL (i:=i) (bZ.mp nd).2 (by simpa using h1) (by simpa using h2) hk
theorem KO{kindOf:Str->Option kN}{x:Str}{v:Value}:∀{P:List Str} {vs:List Value} {i:Nat} {m:Str->Option Value},P.Nodup->P[i]?=some x->vs[i]?=some v->kindOf x≠some .local →
  WB kindOf (P.zip vs) m x=some v
 |[],_,_,_,_,h,_,_=>by simp at h
 |_::_,[],_,_,_,_,h,_=>by simp at h
 | p :: P, w :: vs, 0, m, nd, h1, h2, hk => by
   simp at h1 h2;subst h1;subst h2;show WB kindOf ((p,w)::P.zip vs) m p=_;unfold WB;rw[KN fun v hv=>(bZ.mp nd).1 (pY hv).1,if_neg hk];simp
 | p :: P, w :: vs, i + 1, m, nd, h1, h2, hk => by
   show WB kindOf ((p,w)::P.zip vs) m x=_;unfold WB;exact KO (i:=i) (bZ.mp nd).2 (by simpa using h1) (by simpa using h2) hk
noncomputable def start(N:List Str)(vs:List V):St:=vs.map some++List.replicate (N.length-vs.length) none
noncomputable def cxOf(CX:CXT)(P:aW)(w:bR)(K:aN)(mg:Str->Option Value)(base:Heap)(N:List Str)(qual:Str)(scope:Scope)(f:aA)(cd:Value)(A:bL)(outer:List Env)(s:aD)(H:Hp)(E:XK):Cx where
 prog:=P
 w:=w
 K:=K
 mg:=mg
 base:=base
 A:=A.deeper (fY qual scope s.heap.objs.size f cd)
 N:=N
 s₀:=s
 H₀:=H
 env:=fY qual scope s.heap.objs.size f cd
 outer:=outer
 stack:=fY qual scope s.heap.objs.size f cd::outer
 ex:=[]
 calm:=true
 fn:=fun _=>true
 pn:=[]
 xe:=fun e s'=>bF (bE P w) (A.deeper (fY qual scope s.heap.objs.size f cd)) (leaving (fY qual scope s.heap.objs.size f cd) e) (fun _ s''=>CX outer H s E e s'') (fun e' s''=>CX outer H s E e' s'') s'
theorem QI{sc:Scope}{n:Nat}{x:Str}(h:sc.names.lookup x=some .cell):∃c,(VZ n sc.names []).lookup x=some c:=by
 have q:=oW sc.names n [] (.inl h);exact HG.mp q
theorem JV{CX:CXT}{P:aW}{w:bR}{K:aN}{mg:Str->Option Value}{base:Heap}{N ps:List Str}{qual:Str}{scope:Scope}{f:aA}{cd:Value}{A:bL}{outer:List Env}{s s1:aD}{H:Hp}{E:XK}{us:List Value}{vs:List V}(S:FnScope N ps scope)(hd:A.handled=none)(e0:Env0 P w K mg base A outer s H)(hl:vs.length=ps.length)(r:Vals vs us)(x:InCallC s s.heap.objs.size (WA (fY qual scope s.heap.objs.size f cd).kindOf (ps.zip us) fun _=>none) (VZ (s.heap.objs.size+1) scope.names []) (WB (fY qual scope s.heap.objs.size f cd).kindOf (ps.zip us) fun _=>none) s1) :
  Inv (cxOf CX P w K mg base N qual scope f cd A outer s H E) [] (start N vs) H s1:=by
 have hpl:ps.length<=N.length:=by have:=congrArg List.length S.pre;rw[CG] at this;omega
 obtain⟨h1,tk,rfl,hk⟩:=x.done;have noA:∀b:aA,b∉(cxOf CX P w K mg base N qual scope f cd A outer s H E).ex:=fun b z=>absurd (show b∈([]:List aA) from z) (by simp)
 refine⟨⟨e0.mod,S.kind,rfl,rfl,aY _,fun y z c h1 h2=>?_,fun y hy=>?_,fun y c _ h=>?_,fun _=>hd,bL.frames_deeper e0.frames,.inr ⟨rfl,rfl⟩,fun b z=>absurd z (noA b),e0.bs,e0.bsz,fun b _ _=>noA b,fun b z=>absurd z (noA b),e0.funs,e0.frf⟩,
  rfl,e0.bare,Un.kept hk,⟨_,x.toInCall.ns,fun i y v h1 h2 h3=>?_⟩,fun y c h=>⟨_,x.cell y c h⟩,e0.hok.fresh (aY _),fun y c h=>?_,fun p hp=>absurd (show p∈([]:List (aA×Obj)) from hp) (by simp),e0.hok.kept hk,?_⟩
 . exact name_of_addr x.apart (gF h1) (gF h2)
 . have hy : scope.names.lookup y = some .cell \/ scope.names.lookup y = some .free := hy;rcases hy with hy | hy
   . exact QI hy
   . exact absurd rfl (S.nofree _ (gF hy))
 . exact BO (x.above y c (gF h))
 . have hi:i<vs.length:=by
    unfold start at h2
    by_cases hi:i<vs.length
    . exact hi
    . rw [cW (by simpa using hi)] at h2;rw [cV] at h2
      split at h2<;>cases h2
   have ha:vs[i]?=some v:=by
    unfold start at h2;rw[bN (by simpa using hi),bA] at h2;cases e:vs[i]? with
    |none=>rw[e] at h2;cases h2
    |some a=>rw[e] at h2;cases h2;rfl
   obtain⟨u,hu,rv⟩:=r.get ha
   have hp:ps[i]?=some y:=by
    rw[<- S.pre,List.getElem?_take_of_lt (by omega)];exact h1
   have ndP:ps.Nodup:=by rw[<- S.pre];exact S.nd.sublist (List.take_sublist _ _)
   refine⟨u,rv,?_⟩;rcases S.par y (List.mem_of_getElem? hp) with k | k
   . exact .inl ⟨k,KL ndP hp hu k⟩
   . obtain⟨c, e⟩ := QI (n := s.heap.objs.size + 1) k;refine .inr ⟨.inl k,c,e,?_⟩;have q:=x.cell y c e;rw[KO ndP hp hu (by show scope.names.lookup y≠_;rw[k];decide)] at q;exact q
 . exact .inl (e0.hok.fresh (BO (x.above y c (gF h))))
 . unfold start;show _=N.length;rw[cE,bO,rG];omega
theorem aEo{CX:CXT}{P:aW}{w:bR}{K:aN}{mg:Str->Option Value}{base:Heap}{k:Nat}{f:aA}{name qual:Str}{params:Arguments}{body:List Stmt}{scope:Scope}{dV kV doc pm cdv ct oc:Value}{an od:Option aA}{osl:Array (Option Value)}{N ps:List Str}{sp:Sp}(lk:K.lookup f=some ⟨oc,od,.func (dH name qual params body scope dV kV doc pm an cdv ct),osl⟩)(hcd:fK K cdv qual=true)(S:FnScope N ps scope)(len:∀vs H Q E,sp vs H Q E->vs.length=ps.length)(hbody:∀(A:bL) (outer:List Env) (s:aD) (H:Hp) (vs:List V) (Q:VK) (E:XK),Room k (A.deeper (fY qual scope s.heap.objs.size f cdv))->sp vs H Q E →
    ∃t,PSs (cxOf CX P w K mg base N qual scope f cdv A outer s H E) body t/\t { nx:=fun _ H'=>Q .non H',rt:=Q } (start N vs) H) :
  FnOk P w K mg base CX (k+1) f (dH name qual params body scope dV kV doc pm an cdv ct) ps sp:=by
 refine⟨len,fun A outer s H args us vs Q E hr e0 hb r hsp=>?_⟩;have hl:=len _ _ _ _ hsp;have KX:K.In s.heap:=e0.mod.kin.keeps fun b o e=>(e0.bs b o e).1;have lim:s.heap.NoLimit:=e0.mod.nolimit.keeps fun b o e=>(e0.bs b o e).1
 have hkind:∀y∈ps.zip us,scope.names.lookup y.1=some .local\/(scope.names.lookup y.1=some .cell/\((VZ (s.heap.objs.size+1) scope.names []).lookup y.1).isSome=true):=fun⟨n,v⟩ hy=>by
  rcases S.par n (pY hy).1 with q | q
  . exact .inl q
  . exact .inr ⟨q,oW _ _ _ (.inl q)⟩
 refine codeAny_call_function hr.depth (KX _ _ lk) rfl S.co S.gen rfl (QU KX hcd) (hb _ _ _ _ ?_);refine wpAny_newFunctionEnv_cells S.kind hkind fun env he s1 x=>?_;subst he;refine⟨lim.keeps x.toInCall.keep,codeAny_func ?_⟩;obtain⟨t,ht,hq⟩:=hbody A outer s H vs Q E (hr.deeper _) hsp;have I:Inv (cxOf CX P w K mg base N qual scope f cdv A outer s H E) [] (start N vs) H s1:=JV S hr.hd e0 hl r x;refine dG (ht [] s1 (start N vs) H _ I hq) (fun fl s' hs=>?_) fun e s' hs=>hs
 have fin:∀{σ':St} {H':Hp} {v:V} {u:Value},Inv (cxOf CX P w K mg base N qual scope f cdv A outer s H E) [] σ' H' s'->RelV v u->Q v H'->CE outer P w H s Q u s' :=
  fun {σ' H' v u} J rv q=>⟨v,H',J.os,J.bare,J.base,J.hok,rv,q⟩
 cases fl with
 | ret u =>
   obtain⟨v,σ',H',J,rv,q⟩:=hs;exact fin J rv q
 | next =>
   obtain⟨σ',H',J,q⟩:=hs;exact fin (v:=V.non) (u:=Value.none) J rfl q
 | brk =>
   obtain⟨_,_,_,q⟩:=hs;exact False.elim q
 | cont =>
   obtain⟨_,_,_,q⟩:=hs;exact False.elim q
section
variable{X:Cx}{x:Str}{p pos:Pos}{e:Expr}{es:List Expr}{t:TA}{id T:String}{r:List V->Hp->VK->Prop}
noncomputable def tCB(r:List V->Hp->VK->Prop)(t:TA):TE:=fun σ H Q=>t σ H fun vs H1=>r vs H1 Q
theorem wL(hc:CallR X (.builtin id) r)(hg:Gl X x)(hm:X.mg x=none)(hv:gX x=some (.builtin id))(ha:PA X (e::es) t)(hn:x≠"__name__":=by decide)(hdb:(6:)=false:=by decide)(he:aF (e::es) X.env=(false,bT e X.env)::aF es X.env:=by rfl)(hpl:(cP pos (aF es X.env)).any (·.1)=false:=by rfl):PE X (.Call (.Name x p) (e::es) [] pos) (tCB r t):=by
 intro aC s σ H Q I h;refine gW (AT I hg hm hv ?_ hn hdb);exact PyProof.Rows.callWith_builtin1 (thn (ha pos aC s σ H _ I h) fun us s1 ⟨vs,H1,I1,r1,q1⟩=>hc aC s1 σ H1 vs us Q I1 r1 q1) he hpl
theorem kB(hc:CallR X (.type T) r)(hg:Gl X x)(hm:X.mg x=none)(hv:gX x=some (.type T))(ha:PA X (e::es) t)(hn:x≠"__name__":=by decide)(hdb:(6:)=false:=by decide)(he:aF (e::es) X.env=(false,bT e X.env)::aF es X.env:=by rfl)(hpl:(cP pos (aF es X.env)).any (·.1)=false:=by rfl):PE X (.Call (.Name x p) (e::es) [] pos) (tCB r t):=by
 intro aC s σ H Q I h;refine gW (AT I hg hm hv ?_ hn hdb);exact gM (thn (ha pos aC s σ H _ I h) fun us s1 ⟨vs,H1,I1,r1,q1⟩=>hc aC s1 σ H1 vs us Q I1 r1 q1) he hpl
end
end L2
namespace HT
open PySem PyProof.Rows
section
open PySem.SeqAt
open PySem.AutoSeq1 (wpAny_loadPart')
open PySem.MeetsSeq PySem.MeetsSeq2 PySem.MeetsSeq3
end
section
variable{prog:aW}{w:bR}{A:bL}{E:Value->aD->Prop}{s:aD}
end
end HT
namespace L2
open PySem PySem.Spec PyProof.Rows
abbrev TO:=St->Hp->(Option Int->Hp->Prop)->Prop
noncomputable def PO(X:Cx)(e:Option Expr)(t:TO):Prop :=
 ∀(aC:List (aA×Obj)) (s:aD) (σ : St) (H:Hp) (Q:Option Int->Hp->Prop),Inv X aC σ H s->t σ H Q →
  bF (8:) X.A (evalPart e X.env) (fun u s'=>∃o H',Inv X aC σ H' s'/\IsPart u o/\Q o H') X.xe s
noncomputable def tNoPart:TO:=fun _ H Q=>Q none H
noncomputable def tPart(t:TE):TO:=fun σ H Q=>t σ H fun x H1=>∃i,x=.int i/\Q (some i) H1
section
variable{X:Cx}{e:Expr}{te:TE}{lo hi:Option Expr}{tl th:TO}{pos p2:Pos}
theorem po_none:PO X none tNoPart:=by
 intro aC s σ H Q I h;rw[evalPart_none];exact cJ ⟨none,H,I,.none,h⟩
theorem po_some(h:PE X e te):PO X (some e) (tPart te):=by
 intro aC s σ H Q I hw;rw[evalPart_some];refine thn (h aC s σ H _ I hw) fun u s1 zq=>?_;obtain⟨x,H1,I1,r1,q1⟩:=zq;obtain⟨i,rfl,q⟩:=q1;obtain⟨t,rfl⟩:=r1;exact⟨some i,H1,I1,.int i t,q⟩
noncomputable def SlR(X:Cx)(r:V->Option Int->Option Int->Hp->VK->Prop):Prop :=
 ∀(aC:List (aA×Obj)) (s:aD) (σ : St) (H:Hp) (x:V) (v vl vu:Value) (lo hi:Option Int) (sl:aA) (Q:VK),Inv X aC σ H s->RelV x v->s.heap.IsSliceOf sl vl vu .none->IsPart vl lo->IsPart vu hi->r x lo hi H Q →
  ∃T id,typeLookup (.type T) "__getitem__" = pure (some (.builtin id))/\s.TypeIs v T/\bF (8:) X.A (HA v (.ref sl)) (EP X aC σ Q) X.xe s
noncomputable def tSl(r:V->Option Int->Option Int->Hp->VK->Prop)(te:TE)(tl th:TO):TE:=fun σ H Q=>te σ H fun x H1=>tl σ H1 fun l H2=>th σ H2 fun u H3=>r x l u H3 Q
theorem OF{r:V->Option Int->Option Int->Hp->VK->Prop}(hr:SlR X r)(he:PE X e te)(hl:PO X lo tl)(hu:PO X hi th):PE X (.Subscript e (.Slice lo hi none p2) pos) (tSl r te tl th):=by
 intro aC s σ H Q I h;refine Subscript_ (thn (he aC s σ H _ I h) fun v s1 zq=>?_);obtain⟨x,H1,I1,r1,q1⟩:=zq;refine wpAny_Slice (thn (hl aC s1 σ H1 _ I1 q1) fun vl s2 ⟨l,H2,I2,pl,q2⟩=>thn (hu aC s2 σ H2 _ I2 q2) fun vu s3 zq=>?_);obtain⟨u,H3,I3,pu,q3⟩:=zq;rw[evalPart_none];refine cJ ?_;have I4:Inv X aC σ H3 { s3 with heap:=s3.heap.push { cls:=.type "slice",data:=.fields #[vl,vu,.none] } }:=I3.kept (t':=s3.toks) fun b ob q=>aL _ q;obtain⟨T,id,hT,ht,hg⟩:=hr aC { s3 with heap:=s3.heap.push { cls:=.type "slice",data:=.fields #[vl,vu,.none] } } σ H3 x v vl vu l u s3.heap.objs.size Q I4 r1 (Heap.IsSliceOf.new ..) pl pu q3;show bF (8:) X.A (TQ e (.Slice lo hi none p2) v (.ref s3.heap.objs.size)) (EP X aC σ Q) X.xe { s3 with heap:=s3.heap.push { cls:=.type "slice",data:=.fields #[vl,vu,.none] } };exact tail_any (ops:=[.ref s3.heap.objs.size,v]) ht hT hg (by with_unfolding_all rfl)
noncomputable def cutV(xs:List V)(lo hi:Option Int):List V:=(xs.drop (HT.sIx xs.length 0 lo)).take (HT.sIx xs.length xs.length hi-HT.sIx xs.length 0 lo)
theorem QF(xs:List V)(lo hi:Option Int):(cutV xs lo hi).length<=xs.length:=by
 unfold cutV;rw[CG,aAp];omega
end
theorem VG{n:Nat}{i:Int}{j:Nat}(h:ixN n i=some j):seqIndex? i n=some j/\j<n/\-(n:Int)<=i/\i<n:=by
 unfold ixN at h
 by_cases h0:0<=i
 . rw [if_pos h0] at h
   by_cases h1:i<n
   . rw[if_pos h1] at h;have e:i.toNat=j:=Option.some.inj h;exact⟨by rw[seqIndex_of h0 h1,e],by omega,by omega,h1⟩
   . rw[if_neg h1] at h;cases h
 . rw [if_neg h0] at h
   by_cases h1 : -(n:Int)<=i
   . rw[if_pos h1] at h;have e:(i+n).toNat=j:=Option.some.inj h;exact⟨by rw[ZP (by omega) h1,e],by omega,h1,by omega⟩
   . rw[if_neg h1] at h;cases h
theorem MV{α : Type}{xs:List α}{i:Int}{v : α}(h:atI xs i=some v):∃j,seqIndex? i xs.length=some j/\xs[j]?=some v/\j<xs.length/\-(xs.length:Int)<=i/\i<xs.length:=by
 unfold atI at h;cases e:ixN xs.length i with
 |none=>rw[e] at h;cases h
 | some j =>
   rw[e] at h;obtain⟨h1,h2,h3,h4⟩:=VG e;exact⟨j,h1,h,h2,h3,h4⟩
noncomputable def VY(b:Expr):Prop:=∀o i,KS b false o i=operate [o,i] (HA o i)
noncomputable def IxR(X:Cx)(r:R2):Prop :=
 ∀(value slice:Expr) (aC:List (aA×Obj)) (s:aD) (σ : St) (H:Hp) (x y:V) (v u:Value) (Q:VK),Inv X aC σ H s->RelV x v->RelV y u->r x y H Q →
  KS slice false v u=operate [v,u] (HA v u)->bF (8:) X.A (TQ value slice v u) (EP X aC σ Q) X.xe s
noncomputable def MtR(X:Cx)(id:String)(r:V->List V->Hp->VK->Prop):Prop :=
 ∀(aC:List (aA×Obj)) (s:aD) (σ : St) (H:Hp) (x:V) (xs:List V) (v:Value) (us:List Value) (Q:VK),Inv X aC σ H s->RelV x v->Vals xs us->r x xs H Q →
  bF (8:) X.A (call (.builtin id) (v::us)) (EP X aC σ Q) X.xe s
section
variable{X:Cx}{a b:Expr}{ta tb:TE}{pos:Pos}
theorem IxR.or{r r':R2}(h:IxR X r)(h':IxR X r'):IxR X (fun x y H Q=>r x y H Q\/r' x y H Q):=by
 intro value slice aC s σ H x y v u Q I rx ry q hs;rcases q with q | q
 . exact h value slice aC s σ H x y v u Q I rx ry q hs
 . exact h' value slice aC s σ H x y v u Q I rx ry q hs
theorem pe_ix{r:R2}(hr:IxR X r)(ha:PE X a ta)(hb:PE X b tb)(hs:VY b):PE X (.Subscript a b pos) (tOp r ta tb):=by
 intro aC s σ H Q I h;exact Subscript_ (binT ha hb I h fun v u s2 x y H2 I2 rx ry q=>hr a b aC s2 σ H2 x y v u Q I2 rx ry q (hs _ _))
noncomputable def rIxL(K:aN):R2:=fun x y H Q=>∃p xs i v,x=.ref p/\y=.int i/\SqL K H p xs/\atI xs i=some v/\Q v H
noncomputable def rIxT(K:aN):R2:=fun x y H Q=>∃p xs i v,x=.ref p/\y=.int i/\SqT K H p xs/\atI xs i=some v/\Q v H
noncomputable def rIxS:R2:=fun x y H Q=>∃z i c,x=.str z/\y=.int i/\z.length<=sizeLine/\atI z.cps.toList i=some c/\Q (.str ⟨#[c]⟩) H
theorem ix_list:IxR X (rIxL X.K):=by
 intro value slice aC s σ H x y v u Q I rx ry h hs;obtain⟨p,xs,i,z,rfl,rfl,hq,he,q⟩:=h;cases rx;obtain⟨t,rfl⟩:=ry;obtain⟨its,r,pl,hz⟩:=I.list hq;obtain⟨j,h1,h2,h3,h4,h5⟩:=MV he;obtain⟨w,ew,rw'⟩:=r.get h2;have hl:=r.length;have hn:=tG;have fin:EP X aC σ Q w s:=⟨z,H,I,rw',q⟩
 by_cases h0:0<=i
 . have hj:i.toNat=j:=by
    rw[seqIndex_of h0 h5] at h1;exact Option.some.inj h1
   exact item_listR pl.isList h0 (by omega) (by rw[hj];simpa using ew) fin hs
 . have hj:(i+(its.toArray.size:Int)).toNat=j:=by
    rw[ZP (by omega) h4] at h1;rw[aZ,<- hl];exact Option.some.inj h1
   exact subscriptTail_builtinR (x:=w) pl.isList.typeIs slot_list_getitem.lookup
    (wpAny_getItem_list_neg (Q:=fun r s'=>r=w/\EP X aC σ Q r s') pl.isList (by omega) (by rw[aZ]<;>omega) (by omega) (by rw[hj];simpa using ew) ⟨rfl,fin⟩) hs
theorem ix_tup:IxR X (rIxT X.K):=by
 intro value slice aC s σ H x y v u Q I rx ry h hs;obtain⟨p,xs,i,z,rfl,rfl,hq,he,q⟩:=h;cases rx;obtain⟨t,rfl⟩:=ry;obtain⟨its,r,pl,hz⟩:=I.tuple hq;obtain⟨j,h1,h2,h3,h4,h5⟩:=MV he;obtain⟨w,ew,rw'⟩:=r.get h2;have hl:=r.length;have hn:=tG;have fin:EP X aC σ Q w s:=⟨z,H,I,rw',q⟩
 exact subscriptTail_builtinR (x:=w) pl.typeIs slot_tuple_getitem.lookup
  (getItem_tuple (j:=j) (Q:=fun r s'=>r=w/\EP X aC σ Q r s') pl (by omega) (by omega) (by rw[aZ,<- hl];exact h1) (by simpa using ew) ⟨rfl,fin⟩) hs
theorem ix_str:IxR X rIxS:=by
 intro value slice aC s σ H x y v u Q I rx ry h hs;obtain⟨z,i,c,rfl,rfl,hz,he,q⟩:=h;obtain⟨t,rfl⟩:=rx;obtain⟨t',rfl⟩:=ry;obtain⟨j,h1,h2,h3,h4,h5⟩:=MV he;have hl:z.cps.toList.length=z.length:=by simp[Str.length]
 rw[hl] at h1 h4 h5;have hn:=tG
 exact tail_any (typeIs_str s z t) slot_str_getitem.lookup (getItem_str (c:=c) (by
  have e1:decide (i < -(2 ^ 63:Int))=false:=decide_eq_false (by omega);have e2:decide (i≥2 ^ 63)=false:=decide_eq_false (by omega)
  rw[e1,e2,Bool.or_false]) (by rw[h1];simpa using h2) ⟨.str ⟨#[c]⟩,H,I.tok _,⟨_,rfl⟩,q⟩) hs
noncomputable def rIx(K:aN):R2:=fun x y H Q=>rIxL K x y H Q\/rIxT K x y H Q\/rIxS x y H Q
theorem ix_seq:IxR X (rIx X.K):=ix_list.or (ix_tup.or ix_str)
theorem SA(its:List Value)(n j:Nat)(u:Value):Obj.mapSeq (·.setIfInBounds j u) { cls:=.type "list",data:=.seq its.toArray n }={ cls:=.type "list",data:=.seq (its.set j u).toArray n }:=by
 simp[Obj.mapSeq]
theorem Inv.lst{aC:List (aA×Obj)}{σ : St}{H:Hp}{s:aD}{p:aA}{xs:List V}(I:Inv X aC σ H s)(h:H p=some (.lst xs)) :
  ∃(its:List Value) (n:Nat),Vals xs its/\s.heap.get? p=some { cls:=.type "list",data:=.seq its.toArray n }/\xs.length<=sizeLine:=by
 obtain⟨z,its,n,r,e⟩:=I.hok p _ h;exact⟨its,n,r,e,z⟩
theorem Inv.lstUpd{aC:List (aA×Obj)}{σ : St}{H:Hp}{s:aD}{p:aA}{xs ys:List V}{its its':List Value}{n n':Nat}{f:Obj->Obj}(I:Inv X aC σ H s)(h:H p=some (.lst xs))(ho:s.heap.get? p=some { cls:=.type "list",data:=.seq its.toArray n })(hf:f { cls:=.type "list",data:=.seq its.toArray n }={ cls:=.type "list",data:=.seq its'.toArray n' })(r:Vals ys its')(hz:ys.length<=sizeLine)(t:Nat) :
  Inv X aC σ (upd H p (.lst ys)) { s with heap:=s.heap.update p f,toks:=t }:=by
 have e:(s.heap.update p f).get? p=some { cls:=.type "list",data:=.seq its'.toArray n' }:=by
  rw[lJ f ho (by rw[hf]<;>rfl),hf]
 refine I.write (x:=p) (e:=p) (by rw[h];trivial) (.inl rfl) (fun b u hb q=>(fJ _ _ (Ne.symm hb)).trans q) ⟨_,e⟩ ?_;exact⟨hz,its',n',r,e⟩
noncomputable def rSetL:V->V->V->Hp->(Hp->Prop)->Prop:=fun o i v H Q=>∃p xs k j,o=.ref p/\i=.int k/\H p=some (.lst xs)/\ixN xs.length k=some j/\Q (upd H p (.lst (xs.set j v)))
theorem aBi:PSet X rSetL:=by
 intro aC s σ H o i v ov iv u Q I ro ri rv h;obtain⟨p,xs,k,j,rfl,rfl,hp,hj,q⟩:=h;cases ro;obtain⟨t,rfl⟩:=ri;obtain⟨its,n,r,ho,hz⟩:=I.lst hp;obtain⟨h1,h2,h3,h4⟩:=VG hj;have hl:=r.length;have hn:=tG
 have I':Inv X aC σ (upd H p (.lst (xs.set j v))) { s with heap:=s.heap.update p (Obj.mapSeq (·.setIfInBounds j u)) }:=
  I.lstUpd hp ho (SA its n j u) (r.set rv j) (by rw[List.length_set];exact hz) s.toks
 by_cases h0:0<=k
 . have hk:k.toNat=j:=by
    rw[seqIndex_of h0 h4] at h1;exact Option.some.inj h1
   exact PySem.W.ki_setAt ho h0 (by omega) (by rw[aZ,<- hl];exact h4) (by rw[hk];exact⟨_,I',q⟩)
 . have hk:(k+(its.toArray.size:Int)).toNat=j:=by
    rw[ZP (by omega) h3] at h1;rw[aZ,<- hl];exact Option.some.inj h1
   exact PySem.W.ki_setBack ho (by omega) (by rw[aZ,<- hl];exact h3) (by omega) (by rw[hk];exact⟨_,I',q⟩)
theorem LB(lo hi:Option Int)(n:Nat):(nK lo hi none n).1=((HT.sIx n 0 lo:Nat):Int)/\(nK lo hi none n).2.1=((HT.sIx n n hi:Nat):Int)/\(nK lo hi none n).2.2=1:=by
 refine⟨?_,?_,rfl⟩
 . cases lo with
   |none=>simp[nK,HT.sIx]
   | some i =>
     simp only[nK,HT.sIx,WG,show(1:Int)>0 by decide,if_true]
     by_cases h:i<0
     . simp only[h,if_true]<;>omega
     . simp only[h,if_false]<;>omega
 . cases hi with
   |none=>simp[nK,HT.sIx]
   | some i =>
     simp only[nK,HT.sIx,WG,show(1:Int)>0 by decide,if_true]
     by_cases h:i<0
     . simp only[h,if_true]<;>omega
     . simp only[h,if_false]<;>omega
theorem HJ(its:List Value)(lo hi:Option Int):slicePick its.toArray lo hi none=((its.drop (HT.sIx its.length 0 lo)).take (HT.sIx its.length its.length hi-HT.sIx its.length 0 lo)).toArray:=by
 obtain⟨h1,h2,h3⟩:=LB lo hi its.toArray.size;unfold slicePick;rw[h1,h2,h3];simp only[sliceRange_one,pick_run,aZ]<;>rfl
noncomputable def rSlL(K:aN):V->Option Int->Option Int->Hp->VK->Prop:=fun x lo hi H Q=>∃a xs,x=.ref a/\SqL K H a xs/\∀p,H p=none->Q (.ref p) (upd H p (.lst (cutV xs lo hi)))
theorem sl_list:SlR X (rSlL X.K):=by
 intro aC s σ H x v vl vu lo hi sl Q I rx hs pl pu h;obtain⟨a,xs,rfl,hx,q⟩:=h;cases rx;obtain⟨its,r,ht,hz⟩:=I.list hx;have hlen:=r.length;refine⟨"list",_,slot_list_getitem.lookup,ht.isList.typeIs,?_⟩;refine wpAny_getItem_list_slice ht.isList hs pl pu .none (by simp) ?_ (by rw[aZ]<;>omega);rw[HJ,<- hlen];refine⟨.ref s.heap.objs.size,_,I.laid (t':=s.toks) (o:=.lst (cutV xs lo hi)) (fun b ob q=>aL _ q) (aY _) ?_,rfl,q _ (I.hok.fresh (aY _))⟩;exact⟨dA (QF xs lo hi) hz,_,0,(r.drop (HT.sIx xs.length 0 lo)).take (HT.sIx xs.length xs.length hi-HT.sIx xs.length 0 lo),bC _ rfl⟩
noncomputable def flatV:V->Bool
 | .non=>true
 | .bl _=>true
 | .int _=>true
 | .str _=>true
 |_=>false
noncomputable def eqV:V->V->Bool
 | .non,.non=>true
 | .bl a,.bl b=>a==b
 | .bl a,.int b=>(if a then 1 else 0)==b
 | .int a,.bl b=>a==(if b then 1 else 0)
 | .int a,.int b=>a==b
 | .str a,.str b=>a==b
 |_,_=>false
theorem eqAt_V{A:bL}{s:aD}{y x:V}{u v:Value}(ry:RelV y u)(rx:RelV x v)(fy:flatV y=true)(fx:flatV x=true):SeqAt.EqAt A s u v (eqV y x):=by
 cases y with
 | non =>
   cases ry;cases x with
   |non=>cases rx;exact SeqAt.EqAt.same _
   |bl b=>cases rx;exact SeqAt.EqAt.none_bool b
   |int b=>obtain⟨t,rfl⟩:=rx;exact SeqAt.EqAt.none_int b t
   |str b=>obtain⟨t,rfl⟩:=rx;exact SeqAt.EqAt.none_str b t
   |_=>exact absurd (show false=true from fx) cL
 | bl a =>
   cases ry;cases x with
   |non=>cases rx;exact SeqAt.EqAt.bool_none a
   |bl b=>cases rx;exact SeqAt.EqAt.bool_bool a b
   |int b=>obtain⟨t,rfl⟩:=rx;exact SeqAt.EqAt.bool_int a b t
   |str b=>obtain⟨t,rfl⟩:=rx;exact SeqAt.EqAt.bool_str a b t
   |_=>exact absurd (show false=true from fx) cL
 | int a =>
   obtain⟨t',rfl⟩:=ry;cases x with
   |non=>cases rx;exact SeqAt.EqAt.int_none a t'
   |bl b=>cases rx;exact SeqAt.EqAt.int_bool a t' b
   |int b=>obtain⟨t,rfl⟩:=rx;exact SeqAt.EqAt.int_int a t' b t
   |str b=>obtain⟨t,rfl⟩:=rx;exact SeqAt.EqAt.int_str a t' b t
   |_=>exact absurd (show false=true from fx) cL
 | str a =>
   obtain⟨t',rfl⟩:=ry;cases x with
   |non=>cases rx;exact SeqAt.EqAt.str_none a t'
   |bl b=>cases rx;exact SeqAt.EqAt.str_bool a t' b
   |int b=>obtain⟨t,rfl⟩:=rx;exact SeqAt.EqAt.str_int a t' b t
   |str b=>obtain⟨t,rfl⟩:=rx;exact SeqAt.EqAt.str_str a t' b t
   |_=>exact absurd (show false=true from fx) cL
 |_=>exact absurd (show false=true from fy) cL
noncomputable def eqU(x:V)(u:Value):Bool:=match u with
 | .none=>eqV .non x
 | .bool b=>eqV (.bl b) x
 | .int i _=>eqV (.int i) x
 | .str z _=>eqV (.str z) x
 |_=>false
theorem aEs{x y:V}{u:Value}(r:RelV y u)(f:flatV y=true):eqU x u=eqV y x:=by
 cases y with
 |non=>cases r;rfl
 |bl b=>cases r;rfl
 |int i=>obtain⟨t,rfl⟩:=r;rfl
 |str z=>obtain⟨t,rfl⟩:=r;rfl
 |_=>exact absurd (show false=true from f) cL
theorem MW{x:V}:∀{xs:List V} {us:List Value},Vals xs us->xs.all flatV=true->us.any (eqU x)=xs.any fun y=>eqV y x
 |_,_,.nil,_=>rfl
 | y :: xs, u :: us, .cons r t, f => by
   rw[tS,bU] at f;rw[iN,iN,aEs r f.1,MW t f.2]
theorem FG{A:bL}{s:aD}{x:V}{v:Value}(rx:RelV x v)(fx:flatV x=true):∀{xs:List V} {us:List Value},Vals xs us->xs.all flatV=true->∀u∈us,SeqAt.EqAt A s u v (eqU x u)
 |_,_,.nil,_=>fun u hu=>by cases hu
 | y :: xs, u :: us, .cons r t, f => fun u' hu => by
   rw[tS,bU] at f;rcases aE.mp hu with rfl | hu
   . rw[aEs r f.1];exact eqAt_V r rx f.1 fx
   . exact FG rx fx t f.2 u' hu
noncomputable def inV(x:V)(xs:List V):Bool:=xs.any fun y=>eqV y x
noncomputable def rIn(K:aN)(neg:Bool):R2:=fun x y H Q=>∃p xs,y=.ref p/\(SqL K H p xs\/SqT K H p xs)/\flatV x=true/\xs.all flatV=true/\Q (.bl (if neg then !inV x xs else inV x xs)) H
theorem LV:OpR X (eO .NotIn) (rIn X.K true):=by
 intro aC s σ H x y v u Q I rx ry h;obtain⟨p,xs,rfl,hq,fx,fs,q⟩:=h;cases ry;rcases hq with hq | hq
 . obtain⟨its, r, pl, hz⟩ := I.list hq;refine SeqAt.notIn_listAt (eqU x) pl.isList (fun w hw=>FG rx fx r fs w (by simpa using hw)) ⟨.bl _,H,I,rfl,?_⟩;rw[show its.toArray.any (eqU x)=its.any (eqU x) by simp,MW r fs];exact q
 . obtain⟨its, r, pl, hz⟩ := I.tuple hq;refine SeqAt.notIn_tupleAt (eqU x) pl (fun w hw=>FG rx fx r fs w (by simpa using hw)) ⟨.bl _,H,I,rfl,?_⟩;rw[show its.toArray.any (eqU x)=its.any (eqU x) by simp,MW r fs];exact q
theorem MU:CallR X (.builtin "len") (fun xs H Q=>∃p ys,xs=[.ref p]/\(SqL X.K H p ys\/SqT X.K H p ys)/\Q (.int ys.length) H):=by
 intro aC s σ H xs us Q I r h;obtain⟨p,ys,rfl,hq,q⟩:=h;obtain⟨u,rfl,rx⟩:=vals1 r;cases rx;have hn:=tG;rcases hq with hq | hq
 . obtain⟨its, r', pl, hz⟩ := I.list hq;have hlen:=r'.length;exact Calls.call_len_list pl.isList (by simp only[aZ]<;>omega) ⟨.int ys.length,H,I.tok _,⟨s.toks+1,by rw[aZ,hlen]⟩,q⟩
 . obtain⟨its, r', pl, hz⟩ := I.tuple hq;have hlen:=r'.length;exact len_tuple pl (by simp only[aZ]<;>omega) ⟨.int ys.length,H,I.tok _,⟨s.toks+1,by rw[aZ,hlen]⟩,q⟩
theorem MT:CallR X (.builtin "len") (fun xs H Q=>∃z,xs=[.str z]/\z.length<=sizeLine/\Q (.int z.length) H):=by
 intro aC s σ H xs us Q I r h;obtain⟨z,rfl,hz,q⟩:=h;obtain⟨u,rfl,t,rfl⟩:=vals1 r;have hn:=tG;exact len_str (by omega) ⟨.int z.length,H,I.tok _,⟨_,rfl⟩,q⟩
theorem CallR.or{f:Value}{r r':List V->Hp->VK->Prop}(h:CallR X f r)(h':CallR X f r'):CallR X f (fun xs H Q=>r xs H Q\/r' xs H Q):=by
 intro aC s σ H xs us Q I rs q;rcases q with q | q
 . exact h aC s σ H xs us Q I rs q
 . exact h' aC s σ H xs us Q I rs q
theorem MS:CallR X (.type "list") (fun xs H Q=>∃p ys,xs=[.ref p]/\(SqL X.K H p ys\/SqT X.K H p ys)/\∀l,H l=none->Q (.ref l) (upd H l (.lst ys))):=by
 intro aC s σ H xs us Q I r h;obtain⟨p,ys,rfl,hq,q⟩:=h;obtain⟨u,rfl,rx⟩:=vals1 r;cases rx
 have fin:∀(its:List Value),Vals ys its->ys.length<=sizeLine->∀(h':Heap) (c':Nat),(∀b o',s.heap.get? b=some o'->h'.get? b=some o') →
   h'.get? s.heap.objs.size=some { cls:=.type "list",dict:=none,data:=.seq its.toArray c',slots:=#[] }->EP X aC σ Q (.ref s.heap.objs.size) { s with heap:=h' }:=fun its r' hz h' c' kp e =>
  ⟨.ref s.heap.objs.size,_,I.laid (t':=s.toks) kp (aY _) (show ObjOk X.prog X.w _ h' _ (.lst ys) from ⟨hz,its,c',r',e⟩),rfl,q _ (I.hok.fresh (aY _))⟩
 rcases hq with hq | hq
 . obtain⟨its, r', pl, hz⟩ := I.list hq;have hlen:=r'.length;obtain⟨o,ho,hc,n,hd⟩:=pl.isList;exact call_list_seq p (.inl rfl) ho hc hd (fun h' c' kp e=>fin its r' hz h' c' kp e) (by simp only[aZ]<;>omega)
 . obtain⟨its, r', pl, hz⟩ := I.tuple hq;have hlen:=r'.length;obtain⟨o,ho,hc,n,hd⟩:=pl;exact call_list_seq p (.inr rfl) ho hc hd (fun h' c' kp e=>fin its r' hz h' c' kp e) (by simp only[aZ]<;>omega)
noncomputable def tyV(K:aN)(T:String)(x:V)(H:Hp):Prop:=match x with
 | .str _=>T = "str"
 | .int _=>T = "int"
 | .ref p=>(T = "list"/\∃xs,SqL K H p xs)\/(T = "tuple"/\∃o,K.lookup p=some o/\o.cls=.type "tuple"/\o.dict=none) ∨
    (T = "dict"/\((∃kvs,H p=some (.dK kvs))\/∃kvs,H p=some (.dT kvs)))\/(T = "set"/\∃S n,H p=some (.set S n))
 |_=>False
theorem aAx{aC:List (aA×Obj)}{σ : St}{H:Hp}{s:aD}{T:String}{x:V}{v:Value}(I:Inv X aC σ H s)(r:RelV x v)(ty:tyV X.K T x H) :
  s.TypeIs v T/\∀a,v=.ref a->∃ob,s.heap.get? a=some ob/\ob.dict=none:=by
 cases x with
 | str z =>
   obtain⟨t,rfl⟩:=r;cases(show T = "str" from ty);exact⟨typeIs_str s z t,fun _ e=>nomatch e⟩
 | int i =>
   obtain⟨t,rfl⟩:=r;cases(show T = "int" from ty);exact⟨typeIs_int s i t,fun _ e=>nomatch e⟩
 | ref p =>
   cases r;rcases ty with⟨rfl,xs,hq⟩ | ⟨rfl,o,hk,hc,hd⟩ | ⟨rfl,hk⟩ | ⟨rfl,S,n,hk⟩
   . obtain⟨its, _, pl, _⟩ := I.list hq;refine⟨pl.isList.typeIs,fun a e=>?_⟩;cases e;obtain⟨o,n,e,c,hd,_⟩:=pl;exact⟨o,e,hd⟩
   . refine⟨⟨o, I.kIn p o hk, hc⟩, fun a e => ?_⟩;cases e;exact⟨o,I.kIn _ o hk,hd⟩
   . have z:∃o,s.heap.get? p=some o/\o.ExactDict:=by
      rcases hk with⟨kvs,hk⟩ | ⟨kvs,hk⟩
      . obtain⟨_, _, _, _, o, _, _, e, ex, _⟩ := I.hok p _ hk;exact⟨o,e,ex⟩
      . obtain⟨_, _, _, _, o, _, _, e, ex, _⟩ := I.hok p _ hk;exact⟨o,e,ex⟩
     obtain⟨o,e,ex⟩:=z;refine⟨⟨o,e,ex.1⟩,fun a e2=>?_⟩;cases e2;exact⟨o,e,ex.2.1⟩
   . obtain⟨o, _, _, _, e, ex, _⟩ := I.hok p _ hk;refine⟨⟨o,e,ex.1⟩,fun a e2=>?_⟩;cases e2;exact⟨o,e,ex.2.1⟩
 |_=>exact False.elim ty
noncomputable def tBM0(K:aN)(T:String)(r:V->List V->Hp->VK->Prop)(to:TE):TE:=fun σ H Q=>to σ H fun x H1=>tyV K T x H1/\r x [] H1 Q
noncomputable def tBM(K:aN)(T:String)(r:V->List V->Hp->VK->Prop)(to:TE)(t:TA):TE:=fun σ H Q=>to σ H fun x H1=>tyV K T x H1/\t σ H1 fun xs H2=>r x xs H2 Q
variable{o e:Expr}{es:List Expr}{to:TE}{t:TA}{name:Str}{apos cpos:Pos}{T id:String}{r:V->List V->Hp->VK->Prop}
theorem pe_bm0(pa:PlainAttrs T)(slot:Slot T name id)(hty:typeOf (.builtin id)=pure (.type "method_descriptor"))(hm:MtR X id r)(ho:PE X o to)(hbase:eJ o name X.env (bT o X.env)=bT o X.env:=by rfl)(hline:(apos.endLine==cpos.line)=true:=by rfl):PE X (.Call (.Attribute o name apos) [] [] cpos) (tBM0 X.K T r to):=by
 intro aC s σ H Q I h;refine wpAny_Call_method0_late hbase hline (thn (ho aC s σ H _ I h) fun v s1 zq=>?_);obtain⟨x,H1,I1,r1,ty,q1⟩:=zq;obtain⟨h1,h2⟩:=aAx I1 r1 ty;exact⟨T,id,pa,slot,hty,h1,h2,Calls.callWith_builtin rfl (RB (hm aC s1 σ H1 x [] v [] Q I1 r1 .nil q1))⟩
theorem aDa(pa:PlainAttrs T)(slot:Slot T name id)(hty:typeOf (.builtin id)=pure (.type "method_descriptor"))(hm:MtR X id r)(ho:PE X o to)(ha:PA X (e::es) t)(hbase:eJ o name X.env (bT o X.env)=bT o X.env:=by rfl)(hfew:((cP cpos (aF (e::es) X.env)).all (fun x=>!x.1)&&(fN cpos (dJ [] X.env)).all (fun x=>x.1.isSome)
    && decide ((e::es).length+([]:List sJ).length+(if ([]:List sJ).isEmpty then 0 else 1)<30))=true:=by rfl)(hline:(apos.endLine==cpos.line)=true:=by rfl)(hs:aF (e::es) X.env=(false,bT e X.env)::aF es X.env:=by rfl)(hplain:(cP cpos (aF es X.env)).any (·.1)=false:=by rfl) :
  PE X (.Call (.Attribute o name apos) (e::es) [] cpos) (tBM X.K T r to t):=by
 intro aC s σ H Q I h;refine wpAny_Call_method_late hbase hfew hline rfl (thn (ho aC s σ H _ I h) fun v s1 zq=>?_);obtain⟨x,H1,I1,r1,ty,q1⟩:=zq;obtain⟨h1,h2⟩:=aAx I1 r1 ty;refine⟨T,id,pa,slot,hty,h1,h2,?_⟩;have hA:=ha cpos aC s1 σ H1 _ I1 q1;rw[hs] at hA ⊢;refine Calls.callWith_builtin (by show(false||(cP cpos (aF es X.env)).any (·.1))=false;rw[hplain]<;>rfl) (Calls.evalArgs_plain ?_);exact thn hA fun us s2 ⟨vs,H2,I2,r2,q2⟩=>hm aC s2 σ H2 x vs v us Q I2 r1 r2 q2
/- xs.append(e),list.index on a module's tuple .. are MtR facts of 06m -/
end
noncomputable def MtM(X:Cx)(id:String)(r:V->List V->Hp->VK->Prop):Prop :=
 ∀(aC:List (aA×Obj)) (s:aD) (σ : St) (H:Hp) (x:V) (xs:List V) (v:Value) (us:List Value) (Q:VK),Inv X aC σ H s->RelV x v->Vals xs us->r x xs H Q →
  bF (8:) X.A (call (.builtin id) (v::us)) (EP X aC σ Q) X.xe s
theorem Vals.one:∀{x:V} {us:List Value},Vals [x] us->∃u,us=[u]/\RelV x u
 |_,_,.cons r .nil=>⟨_,rfl,r⟩
theorem Vals.zero:∀{us:List Value},Vals [] us->us=[]
 |_,.nil=>rfl
theorem Vals.dropLast{xs:List V}{us:List Value}(h:Vals xs us):Vals xs.dropLast us.dropLast:=by
 induction h with
 |nil=>exact .nil
 | cons r t ih =>
   cases t with
   |nil=>exact .nil
   |cons q t'=>exact .cons r ih
theorem Vals.reverse{xs:List V}{us:List Value}(h:Vals xs us):Vals xs.reverse us.reverse:=by
 induction h with
 |nil=>exact .nil
 |cons r t ih=>rw[oN,oN];exact Vals.append ih (.cons r .nil)
theorem Vals.rep{xs:List V}{us:List Value}(h:Vals xs us):∀k:Nat,Vals (List.replicate k xs).flatten (List.replicate k us).flatten
 |0=>.nil
 | k + 1 => by
   rw[fC,fC,gY,gY];exact Vals.append h (Vals.rep h k)
theorem SW{α : Type}(l:List α):l.eraseIdx (l.length-1)=l.dropLast:=by
 induction l with
 |nil=>rfl
 | cons a r ih =>
   cases r with
   |nil=>rfl
   | cons b r =>
     have e:(a::b::r).length-1=((b::r).length-1)+1:=by
      have h1:(a::b::r).length=r.length+2:=rfl;have h2:(b::r).length=r.length+1:=rfl;omega
     rw[e,List.eraseIdx_cons_succ,ih]
     all_goals rfl
theorem JY(its:List Value):∀(k:Nat) (acc:List Value),
  List.foldl (fun x1 x2=>x1++x2) acc.toArray (List.replicate k its.toArray)=(acc++(List.replicate k its).flatten).toArray
 |0,acc=>by simp
 | k + 1, acc => by
   have e:acc.toArray++its.toArray=(acc++its).toArray:=by simp
   have e2:(acc++its)++(List.replicate k its).flatten=acc++(List.replicate (k+1) its).flatten:=by
    rw[fC,gY,eV]
   rw[<- e2,<- JY its k (acc++its),<- e,fC,mI]
section
variable{X:Cx}{aC:List (aA×Obj)}{σ : St}{H:Hp}{s:aD}{l b:aA}{xs ys zs:List V}
theorem Inv.lset{its its':List Value}{n:Nat}{f:Array Value->Array Value}{t':Nat}(I:Inv X aC σ H s)(hH:H l=some (.lst xs))(e:s.heap.get? l=some { cls:=.type "list",data:=.seq its.toArray n })(hf:f its.toArray=its'.toArray)(hv:Vals ys its')(hz:ys.length<=sizeLine) :
  Inv X aC σ (upd H l (.lst ys)) { s with heap:=s.heap.update l (Obj.mapSeq f),toks:=t' }:=by
 have q:=PySem.IsL.update e f;rw[hf] at q;refine I.write (x:=l) (e:=l) (by rw[hH];exact trivial) (.inl rfl) (fun b' u hb hu=>(fJ s.heap (Obj.mapSeq f) (Ne.symm hb)).trans hu) ⟨_,q⟩ ?_;exact⟨hz,its',_,hv,q⟩
theorem Inv.lnew{its:List Value}{t':Nat}(I:Inv X aC σ H s)(hv:Vals ys its)(hz:ys.length<=sizeLine) :
  Inv X aC σ (upd H s.heap.objs.size (.lst ys)) { s with heap:=s.heap.push { cls:=.type "list",data:=.seq its.toArray },toks:=t' }:=
 I.laid (fun _ _ q=>aL _ q) (aY _) ⟨hz,its,0,hv,bC _ rfl⟩
theorem Inv.fresh(I:Inv X aC σ H s):H s.heap.objs.size=none:=I.hok.fresh (aY _)
theorem Inv.lstM(I:Inv X aC σ H s)(hH:H l=some (.lst xs)):xs.length<=sizeLine/\∃(its:List Value) (n:Nat),Vals xs its/\xs.length=its.length/\s.heap.get? l=some { cls:=.type "list",data:=.seq its.toArray n }:=by
 obtain⟨z,its,n,r,e⟩:=I.hok l _ hH;exact⟨z,its,n,r,r.length,e⟩
theorem OP{n:Nat}(h:n<=sizeLine):Builtin.List.listTooLong n=false:=by
 unfold Builtin.List.listTooLong;exact decide_eq_false (by omega)
end
section
variable{X:Cx}
noncomputable def rAppend:V->List V->Hp->VK->Prop:=fun x vs H Q=>∃l xs y,x=.ref l/\vs=[y]/\H l=some (.lst xs)/\xs.length<sizeLine/\Q .non (upd H l (.lst (xs++[y])))
theorem JN:MtM X "list.append" rAppend:=by
 intro aC s σ H x vs v us Q I rx rv h;obtain⟨l,xs,y,rfl,rfl,hH,hz,q⟩:=h;cases rx;obtain⟨u,rfl,ru⟩:=rv.one;obtain⟨z,its,n,r,hl,e⟩:=I.lstM hH;refine CY F.slot_list_append ⟨_,e,rfl⟩ F.entry_list_append (F.args_list_append_2 _ _) (PySem.list_append l its.toArray n u (by rw[aZ];omega)) ⟨e,?_⟩;refine⟨.non,_,I.lset (its':=its++[u]) hH e (by simp) (r.append (.cons ru .nil)) ?_,rfl,q⟩;rw[cE,rF];omega
noncomputable def rExtend:V->List V->Hp->VK->Prop:=fun x vs H Q=>∃l b xs zs,x=.ref l/\vs=[.ref b]/\H l=some (.lst xs)/\H b=some (.lst zs)/\xs.length+zs.length<=sizeLine/\Q .non (upd H l (.lst (xs++zs)))
theorem XX:MtM X "list.extend" rExtend:=by
 intro aC s σ H x vs v us Q I rx rv h;obtain⟨l,b,xs,zs,rfl,rfl,hH,hB,hz,q⟩:=h;cases rx;obtain⟨u,rfl,ru⟩:=rv.one;cases ru;obtain⟨z,its,n,r,hl,e⟩:=I.lstM hH;obtain⟨z2,its2,n2,r2,hl2,e2⟩:=I.lstM hB;have hsz:its.toArray.size+its2.toArray.size<=sizeLine:=by rw[aZ,aZ];omega
 have hlong : ¬(!its.toArray.isEmpty&&Builtin.List.listTooLong (its.toArray.size+its2.toArray.size))=true:=by
  rw[OP hsz,Bool.and_false];exact cL
 refine CY F.slot_list_extend ⟨_,e,rfl⟩ F.entry_list_extend (F.args_list_extend_2 _ _)
  (AutoSeq1.list_extend_list_list_0 l its.toArray n b its2.toArray n2 hlong (by rw[aZ];omega) (by omega)) ⟨e,e2,?_⟩
 refine⟨.non,_,I.lset (its':=its++its2) hH e (by simp) (r.append r2) ?_,rfl,q⟩;rw[cE];omega
noncomputable def rPop:V->List V->Hp->VK->Prop:=fun x vs H Q=>∃l xs y,x=.ref l/\vs=[]/\H l=some (.lst xs)/\xs[xs.length-1]?=some y/\Q y (upd H l (.lst xs.dropLast))
theorem mt_pop:MtM X "list.pop" rPop:=by
 intro aC s σ H x vs v us Q I rx rv h;obtain⟨l,xs,y,rfl,rfl,hH,hy,q⟩:=h;cases rx;have hus:=rv.zero;subst hus;obtain⟨z,its,n,r,hl,e⟩:=I.lstM hH;obtain⟨u,hu,ru⟩:=r.get hy
 have hy':its.toArray[its.toArray.size-1]?=some u:=by
  show its.toArray[its.length-1]?=some u;rw[<- rA,<- hl];exact hu
 refine CY F.slot_list_pop ⟨_,e,rfl⟩ F.entry_list_pop (F.args_list_pop_1 _) (MeetsSeq.list_pop_last l its.toArray n u hy' (by rw[aZ];omega)) ⟨e,?_⟩;refine⟨y,_,I.lset (its':=its.dropLast) hH e ?_ r.dropLast ?_,ru,q⟩
 . show its.toArray.eraseIdxIfInBounds (its.toArray.size-1)=its.dropLast.toArray;rw[aZ,List.eraseIdxIfInBounds_toArray,SW]
 . rw[List.length_dropLast];omega
noncomputable def rRep:R2:=fun x y H Q=>∃l k xs,x=.ref l/\y=.int k/\H l=some (.lst xs)/\-(2 ^ 63)<=k/\k<2 ^ 63/\xs.length*k.toNat<=sizeLine ∧
 ∀p,H p=none->Q (.ref p) (upd H p (.lst (List.replicate k.toNat xs).flatten))
theorem len_rep{α : Type}(xs:List α)(k:Nat):(List.replicate k xs).flatten.length=k*xs.length:=by
 induction k with
 |zero=>simp
 |succ k ih=>rw[fC,gY,cE,ih,Nat.succ_mul,Nat.add_comm]
theorem op_rep:OpR X (kM .Mult) rRep:=by
 intro aC s σ H x y v u Q I rx ry h;obtain⟨l,k,xs,rfl,rfl,hH,h1,h2,hz,q⟩:=h;cases rx;obtain⟨t,rfl⟩:=ry;obtain⟨z,its,n,r,hl,e⟩:=I.lstM hH;have hlen:its.toArray.size*k.toNat<=sizeLine:=by rw[aZ,<- hl];exact hz
 have hcap : ¬its.toArray.size*k.toNat>(2 ^ 63-1)/8:=by
  have:(sizeLine:Nat)<=(2 ^ 63-1)/8:=by decide
  omega
 have hfit : ¬(!Builtin.List.listFitsIndex k)=true:=by
  rw[fitsIndex_both h1 h2];exact cL
 have hlong : ¬Builtin.List.listTooLong (its.toArray.size*k.toNat)=true:=by
  rw[OP hlen];exact cL
 have hnew:List.foldl (fun x1 x2=>x1++x2) #[] (List.replicate (if its.toArray.isEmpty=true then 0 else k.toNat) its.toArray)=(List.replicate k.toNat its).flatten.toArray:=by
  have f0:∀m:Nat,List.foldl (fun x1 x2=>x1++x2) #[] (List.replicate m its.toArray)=(List.replicate m its).flatten.toArray:=fun m=>by
   have:=JY its m [];rw[DY] at this;exact this
  rw[f0];cases its with
  |nil=>simp
  |cons a r'=>rw[if_neg (by simp)]
 refine wpAny_binaryOp_repeat_ref (T:="list") (U:="int") (by decide) ⟨_,e,rfl⟩ (fun s'=>typeIs_int s' k t) noFill_list_mul F.fills_int_mul F.slot_int_rmul repeat_list F.slot_int_index.lookup
  (CY F.slot_int_rmul (typeIs_int s k t) F.entry_int_rmul (F.args_int_rmul_2 _ _) (int___rmul___int_list k t l its.toArray n)
    ⟨e,rfl,⟨_,e,rfl⟩,CY F.slot_list_mul ⟨_,e,rfl⟩ F.entry_list_mul (F.args_list_mul_2 _ _) (AutoListH.list___mul___list_int_3 l its.toArray n k t hfit hcap hlong) ⟨e,?_⟩⟩)
 rw[hnew];exact⟨.ref _,_,I.lnew (t':=s.toks) (r.rep k.toNat) (by rw[len_rep,Nat.mul_comm];exact hz),rfl,q _ I.fresh⟩
end
section
variable{prog:aW}{w:bR}{A:bL}{E:Value->aD->Prop}{s:aD}
end
section
variable{X:Cx}
end
section
variable{κ : Type}[DecidableEq κ]
noncomputable def valV(kvs:List (κ×V))(k : κ):Option V:=(kvs.find? fun kv=>decide (kv.1=k)).map (·.2)
noncomputable def putK(kvs:List (κ×V))(k : κ)(v:V):List (κ×V):=
 if (kvs.any fun kv=>decide (kv.1=k))=true then kvs.map (fun kv=>if kv.1=k then (kv.1,v) else kv) else kvs++[(k,v)]
noncomputable def dropK(kvs:List (κ×V))(k : κ):List (κ×V):=kvs.filter fun kv=>decide (kv.1≠k)
theorem vY{p : κ×V}{r:List (κ×V)}{k : κ}(e:p.1=k):valV (p::r) k=some p.2:=by simp[valV,eX,e]
theorem EB{p : κ×V}{r:List (κ×V)}{k : κ}(e : ¬p.1=k):valV (p::r) k=valV r k:=by simp[valV,eX,e]
theorem EC(k : κ):∀kvs:List (κ×V),(kvs.any fun kv=>decide (kv.1=k))=(valV kvs k).isSome
 |[]=>rfl
 | p :: r => by
   rw[iN]
   by_cases e:p.1=k
   . simp only[vY e,decide_eq_true e,Bool.true_or,Option.isSome_some]
   . rw[EB e,decide_eq_false e,Bool.false_or];exact EC k r
theorem CA(kvs:List (κ×V))(k : κ)(v:V):(putK kvs k v).length<=kvs.length+1:=by
 unfold putK
 split
 . rw[bO];omega
 . rw[cE,aM,eG];omega
theorem putK_new{kvs:List (κ×V)}{k : κ}(v:V)(h:valV kvs k=none):putK kvs k v=kvs++[(k,v)]:=by
 unfold putK;rw[EC,h];exact if_neg (by decide)
theorem RelO.isSome_eq{o:Option V}{u:Option Value}(r:RelO o u):o.isSome=u.isSome:=by
 cases o with
 | none => cases u with
   |none=>rfl
   |some _=>exact(show False from r).elim
 | some _ => cases u with
   |none=>exact(show False from r).elim
   |some _=>rfl
theorem RelO.getD{o:Option V}{u:Option Value}{d:V}{d':Value}(r:RelO o u)(rd:RelV d d'):RelV (o.getD d) (u.getD d'):=by
 cases o with
 | none => cases u with
   |none=>exact rd
   |some _=>exact(show False from r).elim
 | some _ => cases u with
   |none=>exact(show False from r).elim
   |some _=>exact r
theorem KV.val{kvs:List (κ×V)}{vs:List (κ×Value)}(r:KV kvs vs)(k : κ):RelO (valV kvs k) (GZ vs k):=by
 unfold KV at r
 induction r with
 |nil=>exact True.intro
 | @cons p q ps qs h t ih =>
   obtain⟨h1,h2⟩:=h
   by_cases e:p.1=k
   . have e' : q.1 = k := h1.symm.trans e;have b:GZ (q::qs) k=some q.2:=by simp [GZ,eX,e']
     rw[vY e,b];exact h2
   . have e' : ¬ q.1 = k := fun z => e (h1.trans z);have b:GZ (q::qs) k=GZ qs k:=by simp [GZ,eX,e']
     rw[EB e,b];exact ih
theorem KV.any{kvs:List (κ×V)}{vs:List (κ×Value)}(r:KV kvs vs)(k : κ):(kvs.any fun kv=>decide (kv.1=k))=vs.any fun kv=>decide (kv.1=k):=by
 unfold KV at r
 induction r with
 |nil=>rfl
 |cons h t ih=>rw[iN,iN,ih,h.1]
theorem KV.repl{kvs:List (κ×V)}{vs:List (κ×Value)}(r:KV kvs vs)(k : κ){y:V}{u:Value}(ry:RelV y u) :
  KV (kvs.map fun kv=>if kv.1=k then (kv.1,y) else kv) (vs.map fun kv=>if kv.1=k then (kv.1,u) else kv):=by
 unfold KV at r ⊢
 induction r with
 |nil=>exact .nil
 | @cons p q ps qs h t ih =>
   rw[bI,bI];refine .cons ?_ ih;obtain⟨h1,h2⟩:=h
   by_cases e:p.1=k
   . rw[if_pos e,if_pos (h1.symm.trans e)];exact⟨h1,ry⟩
   . rw[if_neg e,if_neg (fun z=>e (h1.trans z))];exact⟨h1,h2⟩
theorem KV.put{kvs:List (κ×V)}{vs:List (κ×Value)}(r:KV kvs vs)(k : κ){y:V}{u:Value}(ry:RelV y u):KV (putK kvs k y) (stored vs k u):=by
 unfold putK stored;rw[r.any k]
 by_cases e:(vs.any fun kv=>decide (kv.1=k))=true
 . rw[if_pos e,if_pos e];exact r.repl k ry
 . rw[if_neg e,if_neg e];exact IK.snoc r ⟨rfl,ry⟩
theorem KV.drop{kvs:List (κ×V)}{vs:List (κ×Value)}(r:KV kvs vs)(k : κ):KV (dropK kvs k) (without vs k):=by
 unfold KV at r ⊢;unfold dropK without
 induction r with
 |nil=>exact .nil
 | @cons p q ps qs h t ih =>
   obtain⟨h1,h2⟩:=h;rw[aAq,aAq]
   by_cases e:p.1=k
   . have a : ¬ decide (p.1 ≠ k) = true := by simp [e]
     have b : ¬decide (q.1≠k)=true:=by simp[h1.symm.trans e]
     rw[if_neg a,if_neg b];exact ih
   . have e' : ¬ q.1 = k := fun z => e (h1.trans z);have a:decide (p.1≠k)=true:=by simp [e]
     have b:decide (q.1≠k)=true:=by simp[e']
     rw[if_pos a,if_pos b];exact .cons ⟨h1,h2⟩ ih
theorem KV.length{kvs:List (κ×V)}{vs:List (κ×Value)}(r:KV kvs vs):kvs.length=vs.length:=IK.length r
end
theorem VE{P:aW}{w:bR}{k:Key}{u:Value}(r:RelV (kV k) u):(fX P w).is k u=true:=by
 cases k with
 |inl i=>obtain⟨t,e⟩:=(show ∃t,u=Value.int i t from r);subst e;exact OU P w i t
 |inr x=>obtain⟨t,e⟩:=(show ∃t,u=Value.str x t from r);subst e;exact OS P w x t
theorem JU{P:aW}{w:bR}:∀{ks:List Key} {us:List Value},Vals (ks.map kV) us->ItemsAre (fX P w) ks us
 |[],_,r=>by rw[nF] at r;cases r;exact .nil
 | k :: ks, _, r => by
   rw[bI] at r;cases r with
   |cons h t=>exact .cons (VE h) (JU t)
abbrev KT(H:Hp):List (List Key×V)->List (List Key×aA×Value)->Prop:=IK fun p q=>p.1=q.1/\H q.2.1=some (.tup (p.1.map kV))/\RelV p.2 q.2.2
theorem KT.val{H:Hp}{kvs:List (List Key×V)}{xs:List (List Key×aA×Value)}(r:KT H kvs xs)(k:List Key):RelO (valV kvs k) ((QS xs k).map (·.2)):=by
 induction r with
 |nil=>exact True.intro
 | @cons p q ps qs h t ih =>
   obtain⟨h1,_,h2⟩:=h
   by_cases e:p.1=k
   . have e' : q.1 = k := h1.symm.trans e;have b:QS (q::qs) k=some q.2:=by simp [QS,eX,e']
     rw[vY e,b];exact h2
   . have e' : ¬ q.1 = k := fun z => e (h1.trans z);have b:QS (q::qs) k=QS qs k:=by simp [QS,eX,e']
     rw[EB e,b];exact ih
theorem KT.repl{H:Hp}{kvs:List (List Key×V)}{xs:List (List Key×aA×Value)}(r:KT H kvs xs)(k:List Key){y:V}{u:Value}(ry:RelV y u) :
  KT H (kvs.map fun kv=>if kv.1=k then (kv.1,y) else kv) (xs.map (putAt k u)):=by
 induction r with
 |nil=>exact .nil
 | @cons p q ps qs h t ih =>
   rw[bI,bI];refine .cons ?_ ih;obtain⟨h1,h2,h3⟩:=h;unfold putAt
   by_cases e:p.1=k
   . rw[if_pos e,if_pos (h1.symm.trans e)];exact⟨h1,h2,ry⟩
   . rw[if_neg e,if_neg (fun z=>e (h1.trans z))];exact⟨h1,h2,h3⟩
theorem KT.put{H:Hp}{kvs:List (List Key×V)}{xs:List (List Key×aA×Value)}(r:KT H kvs xs)(k:List Key){b:aA}{y:V}{u:Value}(hb:H b=some (.tup (k.map kV)))(ry:RelV y u) :
  KT H (putK kvs k y) (storedH xs k b u):=by
 have e:(kvs.any fun kv=>decide (kv.1=k))=(QS xs k).isSome:=by
  rw[EC,(r.val k).isSome_eq,TV]
 unfold putK storedH;rw[e]
 by_cases q:(QS xs k).isSome=true
 . rw[if_pos q,if_pos q];exact r.repl k ry
 . rw[if_neg q,if_neg q];exact IK.snoc r ⟨rfl,hb,ry⟩
theorem KT.keeps{H H':Hp}{kvs:List (List Key×V)}{xs:List (List Key×aA×Value)}(r:KT H kvs xs)(ht:∀b ys,H b=some (.tup ys)->H' b=some (.tup ys)):KT H' kvs xs :=
 IK.mapP r fun _ _ z=>⟨z.1,ht _ _ z.2.1,z.2.2⟩
section
variable{P:aW}{w:bR}{H:Hp}{h:Heap}{a:aA}
theorem rd_of{u:HO}(ok:HOk P w H h)(e:Rd H a u):ObjOk P w H h a u:=e.ok ok
theorem KD{kvs:List (Key×V)}(ok:HOk P w H h)(e:Rd H a (.dK kvs)):kvs.length<=sizeLine/\(a==iI)=false/\∃vs,KV kvs vs/\h.DictOf (fX P w) a vs :=
 show ObjOk P w H h a (.dK kvs) from rd_of ok e
theorem dk_of{kvs:List (Key×V)}(ok:HOk P w H h)(e:H a=some (.dK kvs)):kvs.length<=sizeLine/\(a==iI)=false/\∃vs,KV kvs vs/\h.DictOf (fX P w) a vs:=KD ok (.inl e)
theorem MD{ks:List Key}(ok:HOk P w H h)(e:H a=some (.tup (ks.map kV))):(IJ (fX P w)).is h ks a:=by
 obtain⟨_,its,r,o,h1,h2,n,h3⟩:=(show ObjOk P w H h a (.tup (ks.map kV)) from ok a _ e)
 exact⟨o,its.toArray,n,h1,h2,h3,by simpa using JU r⟩
theorem VR{kvs:List (List Key×V)}(ok:HOk P w H h)(e:Rd H a (.dT kvs)):kvs.length<=sizeLine/\(a==iI)=false ∧
  ∃xs,KT H kvs xs/\h.DictOfH (IJ (fX P w)) a xs:=by
 obtain⟨z,y,xs,r,o,es,ep,h1,h2,h3,h4,h5⟩:=(show ObjOk P w H h a (.dT kvs) from rd_of ok e)
 refine⟨z,y,xs,r,o,es,ep,h1,h2,h3,h4,fun x hx=>?_,h5⟩
 have all:∀{l:List (List Key×V)} {m:List (List Key×aA×Value)},KT H l m->∀x∈m,(IJ (fX P w)).is h x.1 x.2.1:=by
  intro l m q
  induction q with
  |nil=>intro x hx;exact nomatch hx
  | @cons p q ps qs hq t ih =>
    intro x hx;rcases aE.mp hx with e | hx
    . subst e;exact MD ok (by rw[<- hq.1];exact hq.2.1)
    . exact ih x hx
 exact all r x hx
theorem dt_of{kvs:List (List Key×V)}(ok:HOk P w H h)(e:H a=some (.dT kvs)):kvs.length<=sizeLine/\(a==iI)=false ∧
  ∃xs,KT H kvs xs/\h.DictOfH (IJ (fX P w)) a xs:=VR ok (.inl e)
end
noncomputable def DGet(H:Hp)(a:aA)(y:V)(r:Option V):Prop :=
 (∃kvs k,Rd H a (.dK kvs)/\y=kV k/\r=valV kvs k)\/∃kvs k b,Rd H a (.dT kvs)/\y=.ref b/\H b=some (.tup (k.map kV))/\r=valV kvs k
noncomputable def DPut(H:Hp)(a:aA)(y v:V)(H':Hp):Prop :=
 (∃kvs k,H a=some (.dK kvs)/\y=kV k/\kvs.length<sizeLine/\H'=upd H a (.dK (putK kvs k v))) ∨
 ∃kvs k b,H a=some (.dT kvs)/\y=.ref b/\H b=some (.tup (k.map kV))/\kvs.length<sizeLine/\H'=upd H a (.dT (putK kvs k v))
theorem DGet.k{H:Hp}{a:aA}{kvs:List (Key×V)}{k:Key}(e:H a=some (.dK kvs)):DGet H a (kV k) (valV kvs k):=.inl ⟨kvs,k,.inl e,rfl,rfl⟩
theorem DGet.t{H:Hp}{a b:aA}{kvs:List (List Key×V)}{k:List Key}(e:H a=some (.dT kvs))(eb:H b=some (.tup (k.map kV))):DGet H a (.ref b) (valV kvs k):=.inr ⟨kvs,k,b,.inl e,rfl,eb,rfl⟩
theorem DPut.k{H:Hp}{a:aA}{kvs:List (Key×V)}{k:Key}{v:V}(e:H a=some (.dK kvs))(hl:kvs.length<sizeLine):DPut H a (kV k) v (upd H a (.dK (putK kvs k v))):=.inl ⟨kvs,k,e,rfl,hl,rfl⟩
theorem DPut.t{H:Hp}{a b:aA}{kvs:List (List Key×V)}{k:List Key}{v:V}(e:H a=some (.dT kvs))(eb:H b=some (.tup (k.map kV)))(hl:kvs.length<sizeLine) :
  DPut H a (.ref b) v (upd H a (.dT (putK kvs k v))):=.inr ⟨kvs,k,b,e,rfl,eb,hl,rfl⟩
section
variable{X:Cx}{aC:List (aA×Obj)}{σ : St}{H:Hp}{s:aD}{a:aA}{y v:V}{u r:Value}{o:Option V}{A:bL}{E:Value->aD->Prop}
theorem Inv.big(I:Inv X aC σ H s):iI<s.heap.objs.size:=by
 have h:aH<s.heap.objs.size:=(I.mod.glob.keeps I.bk).lt;exact Nat.lt_trans (by decide) h
theorem ZC{Q:Value->aD->Prop}(hu:A.units+1<cLine)(I:Inv X aC σ H s)(g:DGet H a y (some v))(ry:RelV y u)(h:∀w' s',Inv X aC σ H s'->RelV v w'->Q w' s') :
  bF (8:) A (HA (.ref a) u) Q E s:=by
 rcases g with⟨kvs,k,e,ey,l⟩ | ⟨kvs,k,b,e,ey,eb,l⟩
 . subst ey;obtain⟨z,hd,vs,rel,dd⟩:=KD I.hok e;obtain⟨w',hw,rw'⟩:=RelO.some_of (v:=v) (o:=GZ vs k) (by rw[l];exact rel.val k);exact wpAny_getItem_of (VE ry) dd.mapOf hw (h w' _ (I.tok _) rw')
 . subst ey;cases(show u=Value.ref b from ry);obtain⟨z,hd,xs,rel,dd⟩:=VR I.hok e;obtain⟨w',hw,rw'⟩:=RelO.some_of (v:=v) (o:=(QS xs k).map (·.2)) (by rw[l];exact rel.val k);obtain⟨p,hp,hp2⟩:=fB.mp hw;refine wpAny_getItem_heap (CV hu) (MD I.hok eb) dd hp ?_;rw[hp2];exact h w' _ (I.tok _) rw'
theorem d_notIn{Q:Value->aD->Prop}(hu:A.units+1<cLine)(I:Inv X aC σ H s)(g:DGet H a y o)(ry:RelV y u)(h:∀s',Inv X aC σ H s'->Q (.bool (!o.isSome)) s') :
  bF (8:) A (eO .NotIn u (.ref a)) Q E s:=by
 rcases g with⟨kvs,k,e,ey,l⟩ | ⟨kvs,k,b,e,ey,eb,l⟩
 . subst ey;obtain⟨z,hd,vs,rel,dd⟩:=KD I.hok e;refine wpAny_notIn_of (VE ry) hd dd.mapOf ?_;rw[<- (rel.val k).isSome_eq,<- l];exact h _ (I.tok _)
 . subst ey;cases(show u=Value.ref b from ry);obtain⟨z,hd,xs,rel,dd⟩:=VR I.hok e;refine wpAny_notIn_heap (CV hu) (MD I.hok eb) hd dd ?_;have q:=(rel.val k).isSome_eq;rw[TV] at q;rw[<- q,<- l];exact h _ (I.tok _)
theorem MO{h':Heap}{t':Nat}{ob:HO}(I:Inv X aC σ H s)(mu:Mut (H a))(hs:Heap.SameBut a s.heap h')(he:∃q,h'.get? a=some q)(new:ObjOk X.prog X.w (upd H a ob) h' a ob) :
  Inv X aC σ (upd H a ob) { s with heap:=h',toks:=t' }:=
 I.write (x:=a) (e:=a) mu (.inl rfl) (fun b q hb z=>(hs.2 b hb).trans z) he new
theorem aFd{P:aW}{w:bR}{H':Hp}{h':Heap}{kvs:List (Key×V)}{vs:List (Key×Value)}(z:kvs.length<=sizeLine)(hd:(a==iI)=false)(rel:KV kvs vs)(dd:h'.DictOf (fX P w) a vs) :
  ObjOk P w H' h' a (.dK kvs):=⟨z,hd,vs,rel,dd⟩
theorem ZB{H':Hp}{Q:Unit->aD->Prop}(hu:A.units+1<cLine)(I:Inv X aC σ H s)(g:DPut H a y v H')(ry:RelV y u)(rv:RelV v r)(h:∀s',Inv X aC σ H' s'->Q () s') :
  bF (8:) A (setItem (.ref a) u r) Q E s:=by
 rcases g with⟨kvs,k,e,ey,l,eH⟩ | ⟨kvs,k,b,e,ey,eb,l,eH⟩
 . subst ey eH;obtain ⟨z,hd,vs,rel,dd⟩:=dk_of I.hok e;have hz:vs.length<=sizeLine:=by rw [<- rel.length]; exact z
   have hl:(putK kvs k v).length<=sizeLine:=by have:=CA kvs k v;omega
   refine wpAny_setItem_pairs (hsz:=hz) (VE ry) dd fun h' dd' hs=>h _ ?_;have he:∃q,h'.get? a=some q:=let ⟨q,_,_,hq,_⟩:=dd';⟨q,hq⟩;exact MO I (by rw[e];exact True.intro) hs he (aFd hl hd (rel.put k rv) dd')
 . subst ey eH;cases (show u=Value.ref b from ry);obtain ⟨z,hd,xs,rel,dd⟩:=dt_of I.hok e;have hz:xs.length<=sizeLine:=by rw [<- IK.length rel]; exact z
   have hl:(putK kvs k v).length<=sizeLine:=by have:=CA kvs k v;omega
   refine wpAny_setItem_heap (hsz:=hz) (CV hu) (MD I.hok eb) dd fun h' dd' hs=>h _ ?_;obtain⟨q,es,ep,hq,h2,h3,h4,_,h5⟩:=dd';refine MO I (by rw[e];exact True.intro) hs ⟨q,hq⟩ ⟨hl,hd,_,(rel.put k eb rv).keeps fun c ys ec=>?_,q,es,ep,hq,h2,h3,h4,h5⟩;rw[upd_ne (ne_of ec e (fun z=>nomatch z))];exact ec
end
section
variable{X:Cx}{aC:List (aA×Obj)}{σ : St}{H:Hp}{s:aD}{a:aA}{kvs:List (Key×V)}{k:Key}{u:Value}{A:bL}{E:Value->aD->Prop}
end
noncomputable def NoSl(i:Expr):Prop:=∀ov iv,KS i false ov iv=operate [ov,iv] (HA ov iv)
theorem subD_of{prog:aW}{w:bR}{A:bL}{E:Value->aD->Prop}{s:aD}{env:Env}{value slice:Expr}{pos:Pos}{T id:String}{Q:Value->aD->Prop}(hl:typeLookup (.type T) "__getitem__" = pure (some (.builtin id)))(hs:NoSl slice)(h:bF (bE prog w) A (bT value env) (fun o s₁=>bF (bE prog w) A (bT slice env) (fun i s₂=>s₂.TypeIs o T/\bF (bE prog w) A (HA o i) Q E s₂) E s₁) E s) :
  bF (bE prog w) A (bT (.Subscript value slice pos) env) Q E s:=by
 refine Subscript_ (dG h (fun o s₁ h₁=>dG h₁ (fun i s₂ h₂=>?_) fun _ _ x=>x) fun _ _ x=>x);obtain⟨hT,h₂⟩:=h₂;unfold TQ;refine aS ?_;rw[getitemInPython_of_ne hT.not_modules];refine aS (wpAny_specialOf hT hl ?_)
 have fin:bF (bE prog w) A (KS slice false o i) (fun r s₃=>bF (bE prog w) A (letTemporaryGo value o r >>= fun _=>pure r) Q E s₃) E s₂:=by
  rw[hs o i];exact wpAny_operating (dG h₂ (fun r s₃ h₃=>aS (wpAny_letTemporaryGo (cJ h₃))) fun _ _ x=>x)
 first
  |exact cJ (aS fin)
  |exact aS (cJ (aS fin))
  |exact aS fin
theorem QE{X:Cx}{aC:List (aA×Obj)}{σ : St}{H:Hp}{s:aD}{a:aA}{y:V}{o:Option V}(I:Inv X aC σ H s)(g:DGet H a y o):s.TypeIs (.ref a) "dict":=by
 rcases g with⟨kvs,k,e,_,_⟩ | ⟨kvs,k,b,e,_,_,_⟩
 . obtain⟨_, _, vs, _, dd⟩ := KD I.hok e;exact dd.typeIs
 . obtain⟨_, _, xs, _, dd⟩ := VR I.hok e;exact dd.typeIs
noncomputable def tDGet(td ty:TE):TE:=fun σ H Q=>td σ H fun x H1=>ty σ H1 fun y H2=>∃a v,x=.ref a/\DGet H2 a y (some v)/\Q v H2
noncomputable def tDNotIn(ty td:TE):TE:=fun σ H Q=>ty σ H fun y H1=>td σ H1 fun x H2=>∃a o,x=.ref a/\DGet H2 a y o/\Q (.bl (!o.isSome)) H2
noncomputable def sDPut(td ty tv:TE):TS:=fun D σ H=>tv σ H fun v H1=>td σ H1 fun x H2=>ty σ H2 fun y H3=>∃a H4,x=.ref a/\DPut H3 a y v H4/\D.nx σ H4
section
variable{X:Cx}{o i e value:Expr}{pos pos' tpos:Pos}{td ty tv:TE}
theorem pe_dget(hu:X.A.units+1<cLine)(ho:PE X o td)(hi:PE X i ty)(hs:NoSl i):PE X (.Subscript o i pos) (tDGet td ty):=by
 intro aC s σ H Q I h;refine subD_of PySem.F.slot_dict_getitem.lookup hs (thn (ho aC s σ H _ I h) fun u s1 ⟨x,H1,I1,rx,q1⟩=>thn (hi aC s1 σ H1 _ I1 q1) fun iv s2 zq=>?_);obtain⟨y,H2,I2,ry,a,v,ex,g,q2⟩:=zq;subst ex;obtain rfl:u=Value.ref a:=rx;exact⟨QE I2 g,ZC hu I2 g ry fun w' s3 I3 rw'=>⟨v,H2,I3,rw',q2⟩⟩
theorem XD(hu:X.A.units+1<cLine)(hi:PE X i ty)(ho:PE X o td):PC X .NotIn i o (tDNotIn ty td):=by
 intro aC s σ H Q I h;refine thn (hi aC s σ H _ I h) fun iv s1 ⟨y,H1,I1,ry,q1⟩=>thn (ho aC s1 σ H1 _ I1 q1) fun u s2 zq=>?_;obtain⟨x,H2,I2,rx,a,ov,ex,g,q2⟩:=zq;subst ex;obtain rfl:u=Value.ref a:=rx;exact d_notIn hu I2 g ry fun s3 I3=>⟨.bl (!ov.isSome),H2,I3,rfl,q2⟩
theorem ps_dput(hu:X.A.units+1<cLine)(ho:PE X o td)(hi:PE X i ty)(hv:PE X value tv)(hs:dF value (some (.Subscript o i pos')) pos.line X.env=pure false) :
  PS X (.Assign [.Subscript o i pos'] value pos) (sDPut td ty tv):=by
 intro aC s σ H D I h;refine wpAny_Assign_Subscript (thn (hv aC s σ H _ I h) fun r s1 ⟨v,H1,I1,rv,q1⟩=>thn (ho aC s1 σ H1 _ I1 q1) fun u s2 ⟨x,H2,I2,rx,q2⟩=>thn (hi aC s2 σ H2 _ I2 q2) fun iv s3 zq=>?_) hs;obtain⟨y,H3,I3,ry,a,H4,ex,g,q3⟩:=zq;subst ex;obtain rfl:u=Value.ref a:=rx;exact ZB hu I3 g ry rv fun s4 I4=>⟨σ,H4,I4,q3⟩
end
theorem aFe{P:aW}{w:bR}{H:Hp}(h:Heap)(hb:iI<h.objs.size):ObjOk P w H (h.push { cls:=.type "dict",data:=.dict #[] }) h.objs.size (.dK []):=
 ⟨eK _,beq_eq_false_iff_ne.mpr (Ne.symm (bS hb)),[],.nil,Heap.DictOf.new h⟩
noncomputable def tDNewK:TE:=fun _ H Q=>∀p,H p=none->Q (.ref p) (upd H p (.dK []))
section
variable{X:Cx}{pos:Pos}
theorem OH:PE X (.Dict [] [] pos) tDNewK:=fun aC s σ H Q I h =>
 wpAny_Dict_empty ⟨.ref s.heap.objs.size,_,I.laid (a:=s.heap.objs.size) (o:=.dK []) (t':=s.toks) (fun _ _ q=>aL _ q) (aY _) (aFe s.heap I.big),rfl,h _ (I.hok.fresh (aY _))⟩
end
section
variable{X:Cx}{aC:List (aA×Obj)}{σ : St}{H:Hp}{s:aD}{a:aA}{y d:V}{u r:Value}{o:Option V}{A:bL}{E:Value->aD->Prop}
end
section
variable{X:Cx}{o e f:Expr}{apos cpos:Pos}{td ty tx:TE}
end
section
variable{X:Cx}{aC:List (aA×Obj)}{σ : St}{H:Hp}{s:aD}{a:aA}{kvs:List (Key×V)}{A:bL}{E:Value->aD->Prop}
theorem aFf{Q:Value->aD->Prop}(I:Inv X aC σ H s)(e:Rd H a (.dK kvs))(h:∀p s',H p=none->Inv X aC σ (upd H p (.dK kvs)) s'->Q (.ref p) s'):bF (8:) A (call (.type "dict") [.ref a]) Q E s:=by
 obtain⟨z,hd,vs,rel,dd⟩:=KD I.hok e;refine kt_call_dict hd dd (by rw[<- rel.length];exact z) fun h' dd' hs=>?_;refine h _ _ (I.hok.fresh (aY _)) (I.laid (a:=s.heap.objs.size) (o:=.dK kvs) (t':=s.toks) (fun b q hq=>?_) (aY _) (aFd z (beq_eq_false_iff_ne.mpr (Ne.symm (bS I.big))) rel dd'));exact(hs.2 b (bS (bB hq))).trans (aL _ hq)
end
section
variable{X:Cx}{aC:List (aA×Obj)}{σ : St}{H:Hp}{s:aD}{a:aA}{y:V}{u:Value}{A:bL}{E:Value->aD->Prop}
end
end L2
namespace Att
open PySem PySem.W PySem.Calls PyProof.Rows
theorem CK{P:Params}{h:Heap}:∀(ns:List Int) (vs:List Value),WellAll P h vs (ns.map WData.int)->ZU vs ns:=by
 intro ns
 induction ns with
 | nil =>
   intro vs w;rw[nF] at w;cases w;exact .nil
 | cons n ns ih =>
   intro vs w;rw[bI] at w;cases w with
   | cons a b =>
     cases a;exact .cons _ _ (ih _ b)
theorem WN{l:OpenLaw}{n:Nat}(hn:l.most=some n){P:Params}{h:Heap}{args:List WData}{vals:List Value}(hpre:l.row.toRowW.claim.pre args=true)(hwl:WellAll P h vals args) :
  ∃a vs ns,vals=[Value.ref a]/\args=[WData.list (ns.map WData.int)]/\h.get? a=some { cls:=.type "list",data:=.seq vs.toArray }/\ZU vs ns/\ns.length<=n:=by
 have hsh:WShape.hasAll [] args [.list .int]=true:=(pre_splitW hpre).1;have hc:l.pre.holds [] { args:=args }=true:=(pre_splitW hpre).2;obtain⟨d,r,rfl,h1,h2⟩:=hasAllW_cons hsh;obtain rfl:=hasAllW_nil h2;obtain⟨xs,rfl,h3⟩:=hasW_list h1;obtain⟨ns,rfl⟩:=items_int h3
 have hlen:ns.length<=n:=by
  unfold OpenLaw.pre at hc
  have h4:(WTm.not (.lt (.lit (.int (n:Int))) (.len (.arg 0)))).holds [] { args:=[.list (ns.map .int)] }=true:=by
   have h4:=(holds_andW hc).1;rw[hn] at h4;exact h4
  have h5:=condW_of h4 (w_not (w_lt w_lit (w_len_list (w_arg rfl))));rw[bO] at h5;refine Nat.le_of_not_lt fun q=>?_;have q':(n:Int)<((ns.length:Nat):Int):=by omega
  first
   |(rw[decide_eq_true q'] at h5;exact absurd h5 (by decide))
   |(simp at h5;omega)
 cases hwl with
 | cons w1 w2 =>
   cases w2;cases w1 with
   |list ho hall=>exact⟨_,_,ns,rfl,rfl,ho,CK ns _ hall,hlen⟩
theorem WY(l:OpenLaw)(args:List WData):l.row.toRowW.claim.post args (.bool true) args=true :=
 postW_of (r:=l.row.toRowW) (X:=(true==true))
  (show WShape.has [] (.bool true) .bool=true by first | rfl | decide | simp[WShape.has,WShape.arms,WShape.armsAll])
  (show(WTm.eq .res (.lit (.bool true))).value [] { args:=args,res:=some (.bool true),after:=args }=some (.bool (true==true)) from w_eq_bool (w_res rfl) w_lit) rfl
section
variable{prog:aW}{w:bR}{A:bL}{E:Value->aD->Prop}{s:aD}{K:Frag}
end
end Att
namespace L2
open PySem PySem.Spec PyProof.Rows
theorem IN:∀{vs:List Value} {ns:List Int},ZU vs ns->Vals (ns.map V.int) vs
 |_,_,.nil=>.nil
 |_,_,.cons n t h=>.cons ⟨t,rfl⟩ (IN h)
noncomputable def aO(s:Stmt)(j:Nat):Stmt:=match s with
 | .ClassDef _ _ _ body _ _ _ _ _ _ _=>body.getD j (.Pass ⟨0,0,0,0⟩)
 |_=>.Pass ⟨0,0,0,0⟩
noncomputable def jR(s:Stmt):Arguments:=match s with
 | .FunctionDef _ a _ _ _ _ _ _ _ _=>a
 |_=>{ posonlyargs:=[],args:=[],vararg:=none,kwonlyargs:=[],kw_defaults:=[],kwarg:=none,defaults:=[] }
noncomputable def qL(s:Stmt):List Stmt:=match s with
 | .FunctionDef _ _ b _ _ _ _ _ _ _=>b
 |_=>[]
noncomputable def zE(s:Stmt):Scope:=match s with
 | .FunctionDef _ _ _ _ _ _ sc _ _ _=>sc
 |_=>{ kind:=.function,names:=[],isGenerator:=false,isCoroutine:=false }
abbrev CX0:CXT:=fun _ _ _ _ _ _=>False
abbrev E0:XK:=fun _ _ _=>False
theorem pass0{X:Cx}: BK CX0 X E0:=fun _ _ _ _ _ _ _ h=>h.elim
structure Fun(K:aN)(x qual:Str)(st:Stmt)(f:aA)(fd:aJ):Prop where
 ex:∃(oc:Value) (od:Option aA) (kV doc pm:Value) (an:Option aA) (cdv ct:Value) (osl:Array (Option Value)),
  fd=dH x qual (jR st) (qL st) (zE st) .none kV doc pm an cdv ct/\K.lookup f=some ⟨oc,od,.func fd,osl⟩/\fK K cdv qual=true
 kp:bG K (.ref f)=true
section
variable{P:aW}{w:bR}{K:aN}{mg:Str->Option Value}{base:Heap}
theorem Fun.ok{x qual:Str}{st:Stmt}{f:aA}{fd:aJ}{N ps:List Str}{k:Nat}{sp:Sp}(F:Fun K x qual st f fd)(S:FnScope N ps (zE st))(len:∀vs H Q E,sp vs H Q E->vs.length=ps.length)(hbody:∀(cdv:Value) (A:bL) (outer:List Env) (s:aD) (H:Hp) (vs:List V) (Q:VK) (E:XK),Room k (A.deeper (fY qual (zE st) s.heap.objs.size f cdv))->sp vs H Q E →
    ∃t,PSs (7:).nox (qL st) t/\t { nx:=fun _ H'=>Q .non H',rt:=Q } (start N vs) H):FnOk P w K mg base CX0 (k+1) f fd ps sp:=by
 obtain⟨oc,od,kV,doc,pm,an,cdv,ct,osl,rfl,lk,hcd⟩:=F.ex;refine aEo lk hcd S len fun A outer s H vs Q E hr hsp=>?_;obtain⟨t,h,q⟩:=hbody cdv A outer s H vs Q E hr hsp;exact⟨t,h.nox,q⟩
theorem Fun.binds{x qual:Str}{st:Stmt}{f:aA}{fd:aJ}{ps:List Str}(F:Fun K x qual st f fd)(h:∀(kV doc pm:Value) (an:Option aA) (cdv ct:Value) (us:List Value),us.length=ps.length->uY (dH x qual (jR st) (qL st) (zE st) .none kV doc pm an cdv ct) ⟨us,[]⟩=pure (ps.zip us)):Binds K fd ps []:=by
 obtain⟨oc,od,kV,doc,pm,an,cdv,ct,osl,rfl,lk,hcd⟩:=F.ex;exact .all (h kV doc pm an cdv ct)
theorem SN{x qual:Str}{st:Stmt}{f:aA}{oc:Value}{od an:Option aA}{osl:Array (Option Value)}{kV doc pm cdv ct:Value}(l:K.lookup f=some ⟨oc,od,.func (dH x qual (jR st) (qL st) (zE st) .none kV doc pm an cdv ct),osl⟩)(c:fK K cdv qual=true)(k:bG K (.ref f)=true):Fun K x qual st f (dH x qual (jR st) (qL st) (zE st) .none kV doc pm an cdv ct):=⟨⟨oc,od,kV,doc,pm,an,cdv,ct,osl,rfl,l,c⟩,k⟩
end
section
variable{X:Cx}
end
theorem iteF{A B:Prop}(h:B):if false=true then A else B:=by
 rw[if_neg cL];exact h
theorem iteT{A B:Prop}(h:A):if true=true then A else B:=by
 rw[if_pos rfl];exact h
noncomputable def Same(H H':Hp):Prop:=∀b o,H b=some o->H' b=some o
theorem Same.refl(H:Hp):Same H H:=fun _ _ h=>h
theorem Same.trans{H H1 H2:Hp}(a:Same H H1)(b:Same H1 H2):Same H H2:=fun c o h=>b c o (a c o h)
theorem Same.free{H H':Hp}(e:Same H H'){l:aA}(h:H' l=Option.none):H l=Option.none:=by
 cases q:H l with
 |none=>rfl
 | some o =>
   rw[e l o q] at h;cases h
theorem Same.seq{K:aN}{H H':Hp}{a:aA}{xs:List V}(e:Same H H')(h:SqL K H a xs):SqL K H' a xs:=by
 rcases h with(h | ⟨o,h⟩) | h
 . exact .inl (.inl (e _ _ h))
 . exact .inl (.inr ⟨o,e _ _ h⟩)
 . exact .inr h
section
variable{X:Cx}
end
section
variable{κ : Type}[DecidableEq κ]
end
noncomputable def vS(env:Env):List (Str×kN)->List (Str×aA)->List (Str×aA)
 |[],cs=>cs
 |(n,k)::r,cs=>vS env r (if k==kN.free then (match env.cells.lookup n with | some c=>(n,c)::cs | none=>cs) else cs)
theorem sW{scope:Scope}{env:Env}(h:∀y∈scope.names,y.2=kN.free->∃c,env.cells.lookup y.1=some c):closureFor scope env=pure (vS env scope.names []):=by
 simp only[closureFor];generalize ([]:List (Str×aA))=cs
 revert h cs
 generalize scope.names=l;intro h
 induction l with
 |nil=>intro cs;rfl
 | cons y r ih =>
   intro cs;obtain⟨n,k⟩:=y;have ihr:=ih fun z hz=>h z (aP _ hz);simp only[List.forIn_cons,vS]
   by_cases hk:k=kN.free
   . obtain ⟨c, hc⟩ := h (n, k) aV hk;have hc':env.cells.lookup n=some c:=hc;have hcell:cellOf env n=pure c:=by unfold cellOf; rw [hc']
     subst hk;simp only[hcell,hc',beq_self_eq_true,if_true,pure_bind,bind_pure_comp,map_pure,bind_assoc]
     first
      |exact ihr _
      |simpa using ihr _
   . have hb : (k == kN.free) = false := by simpa using hk
     simp only[hb,WH,if_false,pure_bind]
     first
      |exact ihr _
      |simpa using ihr _
theorem GW{env:Env}:∀(l:List (Str×kN)) (cs:List (Str×aA)),(∀x c,cs.lookup x=some c->env.cells.lookup x=some c)->∀x c,(vS env l cs).lookup x=some c->env.cells.lookup x=some c
 |[],_,h=>h
 | (n, k) :: r, cs, h => by
   unfold vS;refine GW r _ fun x c e=>?_
   split at e
   . cases hc : env.cells.lookup n with
     |none=>rw[hc] at e;exact h x c e
     | some c' =>
       rw[hc] at e;simp only[cI] at e
       by_cases hx:x==n
       . rw[hx] at e;cases e;rw[beq_iff_eq] at hx;rw[hx];exact hc
       . have hx' : (x == n) = false := by simpa using hx
         rw[hx'] at e;exact h x c e
   . exact h x c e
theorem GV{env:Env}:∀(l:List (Str×kN)) (cs:List (Str×aA)) (x:Str),(∃c,cs.lookup x=some c)->∃c,(vS env l cs).lookup x=some c
 |[],_,_,h=>h
 | (n, k) :: r, cs, x, h => by
   unfold vS;refine GV r _ x ?_
   split
   . cases hc : env.cells.lookup n with
     |none=>exact h
     | some c' =>
       simp only[cI]
       by_cases hx:x==n
       . rw[hx];exact⟨_,rfl⟩
       . have hx' : (x == n) = false := by simpa using hx
         rw[hx'];exact h
   . exact h
theorem BF{env:Env}:∀(l:List (Str×kN)) (cs:List (Str×aA)) (x:Str) (c:aA),(x,kN.free)∈l->env.cells.lookup x=some c->∃c,(vS env l cs).lookup x=some c
 |[],_,_,_,h,_=>nomatch h
 | (n, k) :: r, cs, x, c, h, hc => by
   unfold vS;rcases aE.mp h with e | e
   . cases e;refine GV r _ _ ?_;simp only[beq_self_eq_true,if_true,hc,cI];exact⟨_,rfl⟩
   . exact BF r _ x c e hc
theorem mG{env:Env}:∀{names:List (Str×kN)} {x:Str},names.lookup x=some kN.free →
  (names.map fun(n,k)=>if (k==kN.free&&env.scope.kind==.function&&env.kindOf n==some .cell) then (n,kN.cell) else (n,k)).lookup x=some kN.cell ∨
  (names.map fun(n,k)=>if (k==kN.free&&env.scope.kind==.function&&env.kindOf n==some .cell) then (n,kN.cell) else (n,k)).lookup x=some kN.free
 |[],_,h=>by simp at h
 | (n, k) :: r, x, h => by
   have ih:=@mG env r x;simp only[bI];cases hx:x==n with
   | true =>
     simp only[cI,hx] at h;cases h
     by_cases hc:(kN.free==kN.free&&env.scope.kind==.function&&env.kindOf n==some .cell)=true
     . rw[if_pos hc];left;simp only[cI,hx]
     . rw[if_neg hc];right;simp only[cI,hx]
   | false =>
     simp only[cI,hx] at h
     by_cases hc:(k==kN.free&&env.scope.kind==.function&&env.kindOf n==some .cell)=true
     . rw[if_pos hc];simp only[cI,hx];exact ih h
     . rw[if_neg hc];simp only[cI,hx];exact ih h
theorem vM{env:Env}:∀{names:List (Str×kN)} {x:Str} {k':kN},(∀y∈names,y.2≠kN.cell) →
  (names.map fun(n,k)=>if (k==kN.free&&env.scope.kind==.function&&env.kindOf n==some .cell) then (n,kN.cell) else (n,k)).lookup x=some k'->(k'=kN.cell\/k'=kN.free)->(x,kN.free)∈names
 |[],_,_,_,h,_=>by simp at h
 | (n, k) :: r, x, k', hn, h, hk => by
   have ih:=@vM env r x k' fun y hy=>hn y (aP _ hy);simp only[bI] at h;cases hx:x==n with
   | true =>
     have ex:x=n:=by simpa using hx
     by_cases hc:(k==kN.free&&env.scope.kind==.function&&env.kindOf n==some .cell)=true
     . have:k=kN.free:=by
        simp only[bU,beq_iff_eq] at hc;exact hc.1.1
       subst this;subst ex;exact aV
     . rw [if_neg hc] at h;simp only [cI,hx] at h;cases h;rcases hk with hk | hk
       . exact absurd hk (hn (n,k) aV)
       . subst hk;subst ex;exact aV
   | false =>
     by_cases hc:(k==kN.free&&env.scope.kind==.function&&env.kindOf n==some .cell)=true
     . rw[if_pos hc] at h;simp only[cI,hx] at h;exact aP _ (ih h hk)
     . rw[if_neg hc] at h;simp only[cI,hx] at h;exact aP _ (ih h hk)
section
variable{X:Cx}
structure CI where
 C:aA
 s:aD
 H:Hp
 ex:List aA
noncomputable def jD(X:Cx)(scope:Scope)(NY:List Str)(c:CI):Cx where
 prog:=X.prog
 w:=X.w
 K:=X.K
 mg:=X.mg
 base:=X.base
 A:=X.A
 N:=NY
 s₀:=c.s
 H₀:=c.H
 env:=compEnvC scope (vS X.env scope.names []) c.C X.env
 outer:=X.stack
 stack:=X.stack
 ex:=c.ex
 fn:=fun _=>false
 calm:=X.calm
 pn:=[]
 xe:=fun _ _=>False
theorem Inv.adopt{aC:List (aA×Obj)}{σ : St}{H:Hp}{s:aD}{a:aA}{o:HO}(I:Inv X aC σ H s)(hn:H a=none)(young:X.s₀.heap.objs.size<=a)(hL:a≠X.env.locals)(hc:∀x c,X.env.cells.lookup x=some c->c≠a)(hp:∀p∈X.pn++aC,p.1≠a)(new:ObjOk X.prog X.w (upd H a o) s.heap a o):Inv X aC σ (upd H a o) s:=by
 have ne:∀{b:aA} {u:HO},H b=some u->b≠a:=fun e z=>by rw[z,hn] at e;cases e
 refine⟨I.ok,I.os,I.bare,⟨I.base.keep,I.base.slot,fun b ob q n hx=>?_,I.base.there,fun b xs q=>?_,fun b ob u q=>?_,fun b ps q=>?_⟩,I.loc,I.cell,?_,fun x c e=>?_,fun p hpm=>?_,fun b u e=>?_,I.len⟩
 . rw[upd_ne (bS (bH (bB q) young))];exact I.base.free b ob q n hx
 . have := I.base.tups b xs q;rw[upd_ne (ne this)];exact this
 . have := I.base.frzs b ob u q;rw[upd_ne (ne this)];exact this
 . have := I.base.tbls b ps q;rw[upd_ne (ne this)];exact this
 . rw[upd_ne (Ne.symm hL)];exact I.free
 . have := I.freeC x c e;unfold FreeC at this ⊢;rw[upd_ne (hc x c e)];exact this
 . obtain⟨h1, h2, h3⟩ := I.pin p hpm;exact⟨h1,by rw[upd_ne (hp p hpm)];exact h2,h3⟩
 . by_cases hb : b = a
   . subst hb;rw[bM] at e;cases e;exact new
   . rw[upd_ne hb] at e;exact(I.hok b u e).stay (fun c v _ q=>q) (fun c q=>by rw[upd_ne (ne q)];exact q) fun c xs q=>by rw[upd_ne (ne q)];exact q
noncomputable def PF(X:Cx)(ifs:List Expr)(t:TT):Prop :=
 ∀(aC:List (aA×Obj)) (s:aD) (σ : St) (H:Hp) (Q:Bool->Hp->Prop),Inv X aC σ H s->t σ H Q →
  bF (8:) X.A (forIn ifs true fun c r=>if r=true then do let ok <- CW c X.env (bT c X.env);pure (ForInStep.yield ok) else pure (ForInStep.yield r)) (TP X aC σ Q) X.xe s
noncomputable def tNoIf:TT:=fun _ H Q=>Q true H
theorem pf_nil:PF X [] tNoIf:=fun _ _ _ H _ I h=>wpAny_tests_nil ⟨H,I,h⟩
theorem pf_one{c:Expr}{t:TT}(h:PT X c t):PF X [c] t:=fun aC s σ H Q I q=>wpAny_tests_one (h aC s σ H Q I q)
noncomputable def kK(mp:List (Option Nat))(σ : St):St:=mp.map fun o=>o.bind fun j=>σ[j]?.join
noncomputable def aBa(J:It)(mp:List (Option Nat))(g:CI->TG)(tt:CI->TT)(te:CI->TE)(σ : St)(H1:Hp)(R:List V->Hp->Prop):Prop :=
 ∀c:CI,∃W:Nat->Nat->List V->Hp->Prop,(∃m,W 0 m [] H1)/\∀i m ys H,W i m ys H →
  (J.stop i H/\R ys H) ∨
  (J.go i H/\ys.length<sizeLine/\∀x H',J.yld i H x H'->g c x (kK mp σ) H' fun σ2 H2=>tt c σ2 H2 fun b H3 =>
    if b=true then te c σ2 H3 fun y H4=>∃m',m'<m/\W (i+1) m' (ys++[y]) H4 else ∃m',m'<m/\W (i+1) m' ys H3)
noncomputable def tComp(wi:TI)(mp:List (Option Nat))(g:CI->TG)(tt:CI->TT)(te:CI->TE):TE:=fun σ H Q=>wi σ H fun J H1 =>
 aBa J mp g tt te σ H1 fun ys H'=>ys.length<=sizeLine/\∀p,H' p=none->Q (.ref p) (upd H' p (.lst ys))
structure CompScope(X:Cx)(scope:Scope)(NY:List Str)(mp:List (Option Nat)):Prop where
 kind:scope.kind=.function
 nocell:∀y∈scope.names,y.2≠.cell
 names:∀y∈scope.names,y.2=.local->scope.names.lookup y.1=some .local
 free:∀y∈scope.names,y.2=.free->(X.env.kindOf y.1=some .cell\/X.env.kindOf y.1=some .free)
 len:mp.length=NY.length
 map:∀(i:Nat) (x:Str) (j:Nat),NY[i]?=some x->mp[i]?=some (some j)->X.N[j]?=some x/\scope.names.lookup x=some .free
theorem MP{prog:aW}{w:bR}{A:bL}{R:QT->aD->Prop}{s:aD}{elt target iter:Expr}{ifs:List Expr}{scope:Scope}{pos:Pos}{it acc:Value}{env:Env}{Z:Value->aD->Prop}(hZ:∀e s,Z e s->notedBy (bE prog w) A env (fun x s'=>R (.error x) s') e s)(I:Nat->aD->Prop)(turn:∀n s,I n s->bF (bE prog w) A (pyNext it) (fun r s₁=>match r with
    |none=>R (.ok .next) s₁
    |some v=>bF (bE prog w) A (tE target it v) (fun _ s₁'=>bF (bE prog w) A (pW target env v) (fun _ s₂ =>
       bF (bE prog w) A (forIn ifs true fun c r=>if r=true then do let ok <- CW c env (bT c env);pure (ForInStep.yield ok) else pure (ForInStep.yield r)) (fun ok s₃ =>
        if ok=true then bF (bE prog w) A (bT elt env) (fun x s₄ =>
         bF (bE prog w) A (call (.builtin "list.append") [acc,x]) (fun _ s₅=>∃m,m<n/\I m s₅) (fun _ _=>False) s₄) Z s₃
        else ∃m,m<n/\I m s₃) (fun _ _=>False) s₂) (fun _ _=>False) s₁') (fun _ _=>False) s₁) (fun _ _=>False) s)(n:Nat)(h:I n s) :
  nE (bE prog w) A (.compLoop (.ListComp elt [⟨target,iter,ifs,0⟩] scope pos) 0 it acc env) R s:=by
 refine codeAny_loop rfl I (fun n s hI=>?_) n h;show bF _ A ((compTurn (.ListComp elt [⟨target,iter,ifs,0⟩] scope pos) 0 it acc env).onRaise (fun x=>do AF x env;theTreesLotGoes x)) _ _ s;refine wpAny_noted ?_;rw[compTurn_list];refine aS (TL (aS (dG (turn n s hI) (fun r s₁ h₁=>?_) fun _ _ h'=>h'.elim)));cases r with
 |none=>exact cJ h₁
 | some v =>
   refine aS (dG h₁ (fun _ s₁' h₁'=>?_) fun _ _ h'=>h'.elim);refine aS (dG h₁' (fun _ s₂ h₂=>aS (dG h₂ (fun ok s₃ h₃=>?_) fun _ _ h'=>h'.elim)) fun _ _ h'=>h'.elim);cases ok with
   |false=>exact cJ ⟨rfl,h₃⟩
   | true =>
     exact aS (aS (dG h₃ (fun x s₄ h₄=>aS (dG h₄ (fun _ s₅ h₅=>cJ (cJ ⟨rfl,h₅⟩)) fun _ _ h'=>h'.elim)) fun e s' h'=>hZ e s' h'))
theorem GU{E:Value->aD->Prop}{scope:Scope}{NY:List Str}{mp:List (Option Nat)}{tg iter elt:Expr}{ifs:List Expr}{pos:Pos}{g:CI->TG}{tt:CI->TT}{te:CI->TE}{aC:List (aA×Obj)}{σ : St}{H:Hp}{s₂ : aD}{J:It}{fp:List aA}{it:aA}{tn:Nat->Heap->Prop}{R:List V->Hp->Prop}{RR:Value->aA->QT->aD->Prop}{WW:CI->Value->aD->Prop}{cm:Cx->Prop}(S:CompScope X scope NY mp)(hc:∀c:CI,c.H=H->cm (jD X scope NY c))(I:Inv X aC σ H s₂)(T:Turn X.prog X.w X.K tg J fp it tn cm)(st:tn 0 s₂.heap)(hf:∀b∈fp,FpOk X aC H b)(hg:∀c,PG (jD X scope NY c) tg (g c))(ht:∀c,PF (jD X scope NY c) ifs (tt c))(he:∀c,PE ((jD X scope NY c).wish (WW c)) elt (te c))(err:∀c:CI,X.s₀.heap.objs.size<=c.C->c.C∉frs X.stack->(∀pl σ' H' s1,Inv (jD X scope NY c) pl σ' H' s1->Inv X aC σ H' s1)->∀e s',WW c e s'->notedBy (8:) X.A (jD X scope NY c).env (fun x s''=>RR (.ref s₂.heap.objs.size) c.C (.error x) s'') e s')(h:aBa J mp g tt te σ H R)(fin:∀(s':aD) (C:aA) (m:Str->Option Value) (ys:List V) (H':Hp),R ys H'->H' s₂.heap.objs.size=none->H' C=none->C≠s₂.heap.objs.size->s'.heap.Ns C m →
    (ys.length<=sizeLine->Inv X aC σ (upd H' s₂.heap.objs.size (.lst ys)) s') →
    (C≠X.env.locals/\X.s₀.heap.objs.size<=C/\(∀x c,X.env.cells.lookup x=some c->c≠C)/\∀p∈X.pn++aC,p.1≠C)->RR (.ref s₂.heap.objs.size) C (.ok .next) s') :
  bF (8:) X.A (newList []) (fun acc s₃=>bF (8:) X.A (newFunctionEnv scope X.env.globals (vS X.env scope.names []) [] X.env.qual none .none (some X.env)) (fun cenv s₄ =>
   nE (8:) X.A (.compStart (.ListComp elt [⟨tg,iter,ifs,0⟩] scope pos) 0 (.ref it) acc { cenv with scope:=relabel scope X.env }) (RR acc cenv.locals) s₄) E s₃) E s₂:=by
 refine pR (wpAny_newFunctionEnv S.nocell (by intro y hy;simp at hy) (fun h₁ hns₁ hsb₁=>?_) S.kind);dsimp only at hns₁ hsb₁ ⊢;generalize hH2:s₂.heap.push { cls:=.type "list",dict:=none,data:=.seq ([]:List Value).toArray }=H2 at hns₁ hsb₁ ⊢;have hC:(H2.objs.size:Nat)=s₂.heap.objs.size+1:=by rw[<- hH2,kP]
 generalize hDd:s₂.heap.objs.size=D at fin err hC ⊢;generalize hCC:H2.objs.size=C at hns₁ hsb₁ hC ⊢;have hC:(C:Nat)=(D:Nat)+1:=hC;have hDC:D≠C:=fun z=>absurd (z.trans hC) (bS (DC _));have ltC:∀{b:aA},b<D->b≠C:=fun {b} h=>bS (Nat.lt_of_lt_of_eq (aAm h) hC.symm);have ltD:∀{b:aA},b<D->b≠D:=fun {b} h=>bS h;have hlt:∀{b:aA} {o:Obj},s₂.heap.get? b=some o->(b:Nat)<D:=fun e=>hDd▸bB e;have k2:∀b o,s₂.heap.get? b=some o->H2.get? b=some o:=fun b o e=>hH2▸aL _ e
 have k1:∀b o,H2.get? b=some o->h₁.get? b=some o:=fun b o e=>by
  have hb:b<C:=hCC▸bB e;exact hsb₁.extBut b o (bS hb) (aL _ e)
 have fr:∀a,D<=a->H a=none:=fun a ha=>I.hok.fresh (hDd▸ha);have accP:h₁.PlainList D #[]:=⟨_,k1 _ _ (by rw[<- hH2,<- hDd];exact bC _ rfl)⟩
 have fpo:∀b∈fp,(b:Nat)<D:=fun b hb=>let ⟨o,e,_⟩:=T.obj 0 _ st b hb;hlt e;have clF:∀x c,(vS X.env scope.names []).lookup x=some c->X.env.cells.lookup x=some c:=GW _ _ fun x c e=>nomatch e
 have cellLt:∀x c,X.env.cells.lookup x=some c->(c:Nat)<D:=fun x c e=>by
  obtain⟨v,o,ho,_⟩:=I.cell x c e;exact hlt ho
 have locLt:(X.env.locals:Nat)<D:=hDd▸I.lt
 have stkLt:∀b∈frs X.stack,(b:Nat)<D:=fun b hb=>by
  obtain⟨_,o,ho,_⟩:=I.stack.mem hb;exact hlt ho
 have fpStk:∀b∈fp,b∉frs X.stack:=fun b hb z=>by
  obtain⟨_,f1,f2,_⟩:=hf b hb;rcases aE.mp (I.stkSub b z) with q | q
  . exact f1 q
  . exact f2 q
 have pinLt:∀p∈X.pn++aC,(p.1:Nat)<D:=fun p hp=>hlt (I.pin p hp).1
 have pinStk:∀p∈X.pn++aC,p.1∉frs X.stack:=fun p hp z=>by
  obtain⟨_,_,f1,f2,_⟩:=I.pin p hp;rcases aE.mp (I.stkSub _ z) with q | q
  . exact f1 q
  . exact f2 q
 let Y:Cx:=jD X scope NY ⟨C,{ s₂ with heap:=H2 },H,D::fp⟩
 obtain⟨W,⟨m0,w0⟩,turn⟩:=h ⟨C,{ s₂ with heap:=H2 },H,D::fp⟩
 have okY:Y.Ok:=by
  refine⟨I.ok.mod,S.kind,I.ok.glob,I.ok.blt,nL hCC,fun x y c h1 h2=>I.ok.inj x y c (clF _ _ h1) (clF _ _ h2),fun x hx=>?_,fun x c hfn=>absurd hfn (by intro z;cases z),I.ok.hd,I.ok.frames,.inl rfl,fun b hb=>?_,fun b o e=>?_,?_,fun b o e=>?_,fun b hb=>?_,?_,I.stkFree⟩
  . have hx':(x,kN.free)∈scope.names:=by
     rcases hx with hx | hx
     . exact vM S.nocell hx (.inl rfl)
     . exact vM S.nocell hx (.inr rfl)
    obtain⟨c,e⟩:=I.ok.has x (S.free _ hx' rfl);exact BF _ _ x c hx' e
  . rcases aE.mp hb with z | z
    . subst z;exact⟨hDC,fun x c e q=>absurd (cellLt x c (clF x c e)) (by rw[q];exact dO _)⟩
    . have := fpo b z;exact⟨ltC this,fun x c e q=>(hf b z).2.2.2.2.1 x c (clF x c e) q⟩
  . have := I.bs b o e;exact⟨k2 b o this.1,this.2⟩
  . refine⟨?_, I.tabsH⟩;show(X.base.objs.size:Nat)<=H2.objs.size;have h1:(X.base.objs.size:Nat)<=s₂.heap.objs.size:=dA I.ok.bsz.1 I.sz;have h2:(H2.objs.size:Nat)=C:=hCC;have h3:(s₂.heap.objs.size:Nat)=D:=hDd;omega
  . have hb := I.bs b o e;have hb':=hlt hb.1;intro z;rcases aE.mp z with z | z
    . rw[z] at hb';exact dO _ hb'
    . rcases (hf b z).2.2.2.1 with q | q
      . exact I.ok.noex b o e q
      . exact absurd (bH (bB (I.ok.bs b o e).1) q) (dO _)
  . rcases aE.mp hb with z | z
    . subst z;exact fun q=>absurd (stkLt _ q) (dO _)
    . exact fpStk b z
  . exact I.stack.of_keeps fun b o e _=>⟨o,k2 b o e,rfl⟩
 have capt:∀(i:Nat) (x:Str) (v:V),NY[i]?=some x->(kK mp σ)[i]?=some (some v)->∃u c,RelV v u/\(Y.env.kindOf x=some .cell\/Y.env.kindOf x=some .free)/\Y.env.cells.lookup x=some c/\H2.IsCell c (some u)/\(H c=none\/∃o u,H c=some (.frz o u))/\c∉D::fp:=by
  intro i x v e1 e2
  have e2':(mp[i]?.map fun o=>o.bind fun j=>σ[j]?.join)=some (some v):=by
   unfold kK at e2
   rwa [bA] at e2
  cases hm:mp[i]? with
  |none=>rw[hm] at e2';cases e2'
  | some o =>
    rw[hm] at e2';cases o with
    |none=>simp at e2'
    | some j =>
      simp only[cR,aQ,Option.some.injEq] at e2'
      have e4 : σ[j]?=some (some v):=by
       cases hs : σ[j]? with
       |none=>rw[hs] at e2';cases e2'
       |some q=>rw[hs] at e2';simp at e2';rw[e2']
      obtain⟨hXj,hfr⟩:=S.map i x j e1 hm;have hmem:(x,kN.free)∈scope.names:=gF hfr;have hk:=S.free _ hmem rfl;obtain⟨m,hn,hl⟩:=I.loc;obtain⟨u,ru,l⟩:=hl j x v hXj e4 (hk.elim (fun z=>.inr (.inl z)) fun z=>.inr (.inr z))
      have hlook:∃c,X.env.cells.lookup x=some c/\s₂.heap.IsCell c (some u):=by
       rcases l with⟨kl,_⟩ | ⟨_,c,ec,hcell⟩
       . rcases hk with q | q
         . exact absurd (kl.symm.trans q) (by intro z;cases z)
         . exact absurd (kl.symm.trans q) (by intro z;cases z)
       . exact⟨c,ec,hcell⟩
      obtain⟨c,ec,oc,hoc,hocd⟩:=hlook;obtain⟨c',ec'⟩:=BF (env:=X.env) scope.names [] x c hmem ec;have:c'=c:=Option.some.inj ((clF x c' ec').symm.trans ec);subst this;refine⟨u,c',ru,mG hfr,ec',⟨oc,k2 _ _ hoc,hocd⟩,(I.freeC x c' ec).imp id And.right,fun z=>?_⟩;rcases aE.mp z with z | z
      . have:=cellLt x c' ec;rw[z] at this;exact dO _ this
      . exact(hf c' z).2.2.2.2.1 x c' ec rfl
 have lenY:(kK mp σ).length=NY.length:=by
  unfold kK;rw[bO];exact S.len
 have I0:∀tk,Inv Y [] (kK mp σ) H { s₂ with heap:=h₁,toks:=tk }:=by
  intro tk;refine⟨okY,rfl,I.bare,Un.kept k1,⟨_,hns₁,fun i x v e1 e2 e3=>?_⟩,fun x c e=>?_,fr C (by show(D:Nat)<=C;omega),fun x c e=>(I.freeC x c (clF x c e)).imp id fun z=>⟨rfl,z.2⟩,fun p hp=>absurd (show p∈([]:List (aA×Obj)) from hp) (by simp),I.hok.kept fun b o e=>k1 b o (k2 b o e),lenY⟩
  . obtain⟨u, c, ru, hk, ec, ⟨oc, hoc, hocd⟩, _⟩ := capt i x v e1 e2;exact⟨u,ru,.inr ⟨hk,c,ec,oc,k1 _ _ hoc,hocd⟩⟩
  . obtain⟨v, o, ho, hd⟩ := I.cell x c (clF x c e);exact⟨v,o,k1 _ _ (k2 _ _ ho),hd⟩
 have stat:∀{H':Hp} {pl:List (aA×Obj)},(∀p∈pl,p.1∉fp)->(∀b∈fp,H' b=none)->∀b∈fp,FpOk Y pl H' b:=fun hpl hn b hb=>by
  have hbD:=fpo b hb;refine⟨hn b hb,ltC hbD,fpStk b hb,.inl (aP _ hb),fun x c e=>(hf b hb).2.2.2.2.1 x c (clF x c e),fun p hp z=>hpl p (show p∈_ from hp) (z▸hb)⟩
 have dN:D∉Y.fs:=fun q=>absurd (stkLt _ q) (dO _);have dFp:D∉fp:=fun q=>absurd (fpo _ q) (dO _)
 have plD:∀(o:Obj),∀p∈[(D,o)],p.1∉fp:=fun o p hp=>by
  have e:p=(D,o):=by simpa using hp
  rw[e];exact dFp
 have toX:∀pl σ' H3 s4,Inv Y pl σ' H3 s4->Inv X aC σ H3 s4:=fun pl σ' H3 s4 I4=>by
  have u:Un (frs X.stack) fp H H3 s₂.heap s4.heap:=by
   have B:Un (frs X.stack) (D::fp) H H3 H2 s4.heap:=I4.base
   have nx:∀{b:aA} {o:Obj},s₂.heap.get? b=some o->b∉fp->b∉D::fp:=fun e hb z=>by
    rcases aE.mp z with z | z
    . have:=hlt e;rw[z] at this;exact dO _ this
    . exact hb z
   exact⟨fun b o q n hb hx=>B.keep b o (k2 b o q) n hb (nx q hx),fun b o q n hb hx=>B.slot b o (k2 b o q) n hb (nx q hx),fun b o q n hx=>B.free b o (k2 b o q) n (nx q hx),fun b o q hx=>B.there b o (k2 b o q) (nx q hx),B.tups,B.frzs,B.tbls⟩
  exact I.call' I4.os u I4.hok I4.bare fun b hb=>⟨(hf b hb).2.2.2.1,(hf b hb).2.1,(hf b hb).2.2.2.2.1,(hf b hb).2.2.2.2.2⟩
 have keyC:∀(tk:Nat) (it':Value),it'=.ref it->nE (8:) X.A (.compLoop (.ListComp elt [⟨tg,iter,ifs,0⟩] scope pos) 0 it' (.ref D) Y.env) (RR (.ref D) C) { s₂ with heap:=h₁,toks:=tk }:=by
  rintro tk _ rfl
  refine MP (Z:=WW ⟨C,{ s₂ with heap:=H2 },H,D::fp⟩) (fun e s' z=>err ⟨C,{ s₂ with heap:=H2 },H,D::fp⟩ (by have:(X.s₀.heap.objs.size:Nat)<=D:=hDd▸I.sz;show(X.s₀.heap.objs.size:Nat)<=C;omega) (fun q=>absurd (stkLt _ q) (by show ¬(C:Nat)<D;omega)) toX e s' z) (fun n s'=>∃i ys H' its,Inv Y [] (kK mp σ) H' s'/\tn i s'.heap/\(∀b∈fp,H' b=none)/\H' D=none/\s'.heap.PlainList D its/\Vals ys its.toList/\W i n ys H') ?_ m0
   ⟨0,[],H,#[],I0 tk,T.keep 0 _ _ st fun b _ o e=>k1 b o (k2 b o e),fun b hb=>(hf b hb).1,fr D (aY _),accP,.nil,w0⟩
  rintro n s3 ⟨i,ys,H3,its,I3,st3,fr3,d3,⟨kk,pl3⟩,rv3,w3⟩
  have I3':Inv Y [(D,{ cls:=.type "list",data:=.seq its kk })] (kK mp σ) H3 s3:=I3.pins_of fun p hp=>by
   have e:p=(D,{ cls:=.type "list",data:=.seq its kk }):=by simpa using hp
   subst e;exact⟨pl3,d3,hDC,dN,fun v z=>nomatch (show Data.seq its kk=Data.cell v from z)⟩
  rcases turn i n ys H3 w3 with⟨stop,qn⟩ | ⟨go,hsz,step⟩
  . refine thn (T.done Y rfl rfl rfl (hc ⟨C, { s₂ with heap := H2 }, H, D :: fp⟩ rfl) i _ s3 _ H3 _ I3' (stat (plD _) fr3) st3 stop) fun r s4 zq => ?_;obtain ⟨hr,I4⟩:=zq;subst hr;have hD4:s4.heap.get? D=some { cls:=.type "list",data:=.seq its kk }:=(I4.pin (D,_) (by simp)).1;have J4:Inv X aC σ H3 s4:=toX _ _ _ _ I4;obtain ⟨m4,hn4,_⟩:=I4.loc;refine fin s4 C m4 ys H3 qn d3 I4.free (Ne.symm hDC) hn4 (fun hz=>?_) ⟨(ltC locLt).symm,?_,fun x c e=>?_,fun p hp=>?_⟩
    . refine J4.adopt d3 ?_ (ltD locLt).symm (fun x c e => ?_) (fun p hp => ?_) ⟨hz, its.toList, kk, rv3, hD4⟩
      . exact hDd▸I.sz
      . exact ltD (cellLt x c e)
      . exact ltD (pinLt p hp)
    . have : (X.s₀.heap.objs.size : Nat)<=D := hDd▸I.sz;show(X.s₀.heap.objs.size:Nat)<=C;omega
    . exact ltC (cellLt x c e)
    . exact ltC (pinLt p hp)
  . refine thn (T.item Y rfl rfl rfl (hc ⟨C, { s₂ with heap := H2 }, H, D :: fp⟩ rfl) i _ s3 _ H3 _ I3' (stat (plD _) fr3) st3 go) fun r s4 zq => ?_;obtain ⟨u,hr,h4⟩:=zq;subst hr;refine thn h4 fun _ s5 zq=>?_;obtain ⟨x,H5,I5,r5,y5,st5,fr5⟩:=zq;have I5':=I5.pinned (stat (plD _) fr5) (T.obj _ _ st5);refine thn (hg _ _ s5 _ H5 x u _ I5' r5 (step x H5 y5)) fun _ s6 zq=>?_;obtain ⟨σ6,H6,I6,q6⟩:=zq;refine thn (ht _ _ s6 σ6 H6 _ I6 q6) fun ok s7 zq=>?_;obtain ⟨H7,I7,q7⟩:=zq
    have back:∀{s8:aD} {σ8:St} {H8:Hp},Inv Y ([(D,{ cls:=.type "list",data:=.seq its kk })]++EX fp s5.heap) σ8 H8 s8 →
      tn (i+1) s8.heap/\(∀b∈fp,H8 b=none)/\H8 D=none/\s8.heap.get? D=some { cls:=.type "list",data:=.seq its kk }:=fun {s8 σ8 H8} I8=>by
     refine⟨T.keep _ _ _ st5 fun b hb o e=>(I8.pin (b,o) (aG _ (aG _ (xP hb e)))).1,fun b hb=>?_,?_,?_⟩
     . obtain⟨o, e, d⟩ := T.obj _ _ st5 b hb;exact(I8.pin (b,o) (aG _ (aG _ (xP hb e)))).2.1
     . exact(I8.pin (D,_) (aG _ (aU _ (aR.mpr rfl)))).2.1
     . exact(I8.pin (D,_) (aG _ (aU _ (aR.mpr rfl)))).1
    have drop:∀{s8:aD} {σ8:St} {H8:Hp} {pl:List (aA×Obj)},Inv Y pl σ8 H8 s8->Inv Y [] (kK mp σ) H8 s8:=fun {s8 σ8 H8 pl} I8=>by
     obtain⟨m8,hn8,_⟩:=I8.loc;refine⟨I8.ok,I8.os,I8.bare,I8.base,⟨m8,hn8,fun i x v e1 e2 e3=>?_⟩,I8.cell,I8.free,I8.freeC,fun p hp=>absurd (show p∈([]:List (aA×Obj)) from hp) (by simp),I8.hok,lenY⟩;obtain⟨u,c,ru,hk,ec,⟨oc,hoc,hocd⟩,hn,hx⟩:=capt i x v e1 e2;rcases hn with hn | ⟨ob,ub,hn⟩
     . obtain⟨sl, e⟩ := I8.base.any hoc hn hx;exact⟨u,ru,.inr ⟨hk,c,ec,_,e,hocd⟩⟩
     . obtain⟨e1, _⟩ := I.hok c _ hn;obtain⟨e2,_⟩:=I8.hok c _ (I8.base.frzs c ob ub hn);have e3:=k2 _ _ e1;rw[hoc] at e3;cases e3;exact⟨u,ru,.inr ⟨hk,c,ec,oc,e2,hocd⟩⟩
    cases ok with
    | false =>
      obtain⟨m',hm',w'⟩:=q7;obtain⟨b1,b2,b3,b4⟩:=back I7;exact⟨m',hm',i+1,ys,H7,its,drop I7,b1,b2,b3,⟨kk,b4⟩,rv3,w'⟩
    | true =>
      refine thn (he _ _ s7 σ6 H7 _ (I7.wish _) q7) fun y s8 zq=>?_;obtain⟨yv,H8,I8w,r8,q8⟩:=zq;have I8:=I8w.unwish;obtain⟨b1,b2,b3,b4⟩:=back I8;have hl:ys.length=its.size:=by simpa using rv3.length
      refine wpAny_list_append_plain (items:=its) ⟨kk,b4⟩ (fun h' pl' sb=>?_) (by omega);obtain⟨m',hm',w'⟩:=q8;have I9:Inv Y [] (kK mp σ) H8 { s8 with heap:=h' }:=(drop I8).turned (it:=D) (t':=s8.toks) (fun b o hb e=>(sb.2 b hb).trans e) b3 hDC (.inl aV) (fun x c e=>ltD (cellLt x c (clF x c e))) fun p hp=>absurd (show p∈([]:List (aA×Obj)) from hp) (by simp);refine⟨m',hm',i+1,ys++[yv],H8,its.push y,I9,?_,b2,b3,pl',?_,w'⟩
      . exact T.keep _ _ _ b1 fun b hb o e=>(sb.2 b (fun z=>dFp (z▸hb))).trans e
      . rw[Array.toList_push];exact rv3.append (.cons r8 .nil)
 exact codeAny_compStart_list (keyC _ _ rfl) (T.self _ 0 _ _ _ (T.keep 0 _ _ st fun b _ o e=>k1 b o (k2 b o e)) (keyC _ _ rfl))
theorem OI{scope:Scope}{NY:List Str}{mp:List (Option Nat)}{tg iter elt:Expr}{ifs:List Expr}{pos:Pos}{wi:TI}{g:CI->TG}{tt:CI->TT}{te:CI->TE}{cm:Cx->Prop}(S:CompScope X scope NY mp)(hc:∀aC σ H s,Inv X aC σ H s->∀c:CI,c.H=H->cm (jD X scope NY c))(hi:PI X tg iter wi cm)(hg:∀c,PG (jD X scope NY c) tg (g c))(ht:∀c,PF (jD X scope NY c) ifs (tt c))(he:∀c,PE (jD X scope NY c) elt (te c))(hs:∀x,eL iter X.env x=pure x:=by intro _;rfl):PE X (.ListComp elt [⟨tg,iter,ifs,0⟩] scope pos) (tComp wi mp g tt te):=by
 intro aC s σ H Q I h;rw[eval_ListComp];refine wpAny_comprehension_free (use:=none) rfl hs (sW fun y hy hk=>I.ok.has y.1 (S.free y hy hk)) S.kind S.names (thn (hi aC s σ H _ I h) fun v s1 h1=>thn h1 fun itv s2 h2=>?_);obtain⟨it,fp,tn,J,H2,e,I2,T,st2,f2,hk⟩:=h2;subst e;refine GU (RR:=fun acc C=>compPost (8:) X.A X.xe none (EP X aC σ Q) acc C) (WW:=fun _ _ _=>False) S (hc _ _ _ _ I2) I2 T st2 f2 hg ht he (fun _ _ _ _ _ _ z=>z.elim) hk ?_;intro s' C m ys H' q hD hC hCD hn hI hct;refine⟨m,hn,fun h' sb=>?_⟩;have J':=hI q.1;refine⟨.ref s2.heap.objs.size,_,J'.turned (it:=C) (t':=s'.toks) (fun b o hb e=>(sb.2 b hb).trans e) (by rw[upd_ne hCD];exact hC) hct.1 (.inr hct.2.1) hct.2.2.1 hct.2.2.2,rfl,q.2 _ hD⟩
theorem pe_comp{scope:Scope}{NY:List Str}{mp:List (Option Nat)}{tg iter elt:Expr}{ifs:List Expr}{pos:Pos}{wi:TI}{g:CI->TG}{tt:CI->TT}{te:CI->TE}(S:CompScope X scope NY mp)(hc:X.calm=true)(hi:PI X tg iter wi)(hg:∀c,PG (jD X scope NY c) tg (g c))(ht:∀c,PF (jD X scope NY c) ifs (tt c))(he:∀c,PE (jD X scope NY c) elt (te c))(hs:∀x,eL iter X.env x=pure x:=by intro _;rfl):PE X (.ListComp elt [⟨tg,iter,ifs,0⟩] scope pos) (tComp wi mp g tt te):=OI S (fun _ _ _ _ _ _ _=>hc) hi hg ht he hs
noncomputable def tCompS(wi:TI)(mp:List (Option Nat))(g:CI->TG)(tt:CI->TT)(te:CI->TE)(i:Nat):TS:=fun D σ H=>tComp wi mp g tt te σ H fun v H1=>D.nx (σ.set i (some v)) H1
theorem ps_comp{i:Nat}{y:Str}{py:Pos}{scope:Scope}{NY:List Str}{mp:List (Option Nat)}{tg iter elt:Expr}{ifs:List Expr}{pos spos:Pos}{wi:TI}{g:CI->TG}{tt:CI->TT}{te:CI->TE}(hN:X.N.Nodup)(hy:X.N[i]?=some y)(hl:X.env.scope.names.lookup y=some .local)(hsw:dF (.ListComp elt [⟨tg,iter,ifs,0⟩] scope pos) (some (.Name y py)) spos.line X.env=pure true)(S:CompScope X scope NY mp)(hc:X.calm=true)(hi:PI X tg iter wi)(hg:∀c,PG (jD X scope NY c) tg (g c))(ht:∀c,PF (jD X scope NY c) ifs (tt c))(he:∀c,PE (jD X scope NY c) elt (te c))(hs:∀x,eL iter X.env x=pure x:=by intro _;rfl):PS X (.Assign [.Name y py] (.ListComp elt [⟨tg,iter,ifs,0⟩] scope pos) spos) (tCompS wi mp g tt te i):=by
 intro aC s σ H D I h;rw[exec_Assign_Name_used _ _ _ _ hsw];refine aS (TL (aS ?_));show bF _ X.A (do let _ <- comprehension (.ListComp elt [⟨tg,iter,ifs,0⟩] scope pos) scope X.env _ (newList []) false (bT iter X.env) (some (pW (.Name y py) X.env))) _ _ s
 refine aS (dG (wpAny_comprehension_free (use:=some (pW (.Name y py) X.env)) (Q:=fun _ s'=>SP X aC D .next s') rfl hs (sW fun y hy hk=>I.ok.has y.1 (S.free y hy hk)) S.kind S.names
  (thn (hi aC s σ H _ I h) fun v s1 h1=>thn h1 fun itv s2 h2=>?_)) (fun _ s' hq=>cJ (cJ hq)) fun _ _ e=>e)
 obtain⟨it,fp,tn,J,H2,e,I2,T,st2,f2,hk⟩:=h2;subst e;refine GU (RR:=fun acc C=>compPost (8:) X.A X.xe (some (pW (.Name y py) X.env)) (fun _ s'=>SP X aC D .next s') acc C) (WW:=fun _ _ _=>False) S (fun _ _=>hc) I2 T st2 f2 hg ht he (fun _ _ _ _ _ _ z=>z.elim) hk ?_;intro s' C m ys H' q hD hC hCD hn hI hct;have J':=hI q.1;refine wpAny_assign_Name (IU J' hN hy (.inl hl) (v:=.ref s2.heap.objs.size) rfl (fun s'' I'' sb=>?_) (.inr hl));obtain⟨a,sba,ha⟩:=sb
 have haC:C≠a:=by
  rcases ha with rfl | ha
  . exact hct.1
  . exact fun z=>hct.2.2.1 _ _ ha z.symm
 refine⟨m,hn.sameBut sba haC,fun h' sb'=>?_⟩;exact⟨_,_,I''.turned (it:=C) (t':=s''.toks) (fun b o hb e=>(sb'.2 b hb).trans e) (by rw[upd_ne hCD];exact hC) hct.1 (.inr hct.2.1) hct.2.2.1 hct.2.2.2,q.2 _ hD⟩
end
end L2
namespace TU
open PySem PyProof.Rows
set_option autoImplicit false
variable{prog:aW}{w:bR}{A:bL}{E:Value->aD->Prop}{s:aD}
theorem sorted_endS{vs:List Value}{ss:List Str}{Q:Value->aD->Prop}(hI:ZQ vs ss)(h64:vs.length<64)(h:∀(h2:Heap) (vs':List Value) (ns':List Str) (e:Nat),(∀b o,s.heap.get? b=some o->h2.get? b=some o)->h2.get? s.heap.objs.size=some (seqObj "list" vs'.toArray e)->ZQ vs' ns'->ns'.Perm ss->sortedS ns'=true →
    Q (.ref s.heap.objs.size) { s with heap:=h2 }) :
  bF (bE prog w) A.in1 (do
   let l <- newList vs
   let _ <- eC [l] (call (.builtin "list.sort") [l] [])
   ret l) (fun r z=>∃v,r=.done (.ret v)/\Q v z) E s:=by
 refine aS (wpAny_newList ?_ (hsz:=by rw[uW];omega));have hoL:(s.heap.push (seqObj "list" vs.toArray 0)).get? s.heap.objs.size=some (seqObj "list" vs.toArray 0):=bC _ rfl;refine aS (pV (II slot_list_sort ⟨_,hoL,rfl⟩ entry_list_sort (list_sort_treeK strKind_oneLt hoL hI.keysOf (fun v₁ v₂ rest e=>keyKind_strs (by rw[<- e];exact hI)) h64 fun st' hp hs=>⟨_,rfl,?_⟩) (args_list_sort _)));obtain⟨ns',a1,a2,a3⟩:=sorted_out_str hI hp hs;generalize (arrOf st').map (·.2)=out at *;obtain⟨e,he⟩:=sortedHeap_at (out:=out) hoL;refine cJ ⟨_,rfl,h _ out.toList ns' e (fun b o q=>?_) (by simpa using he) a1 a2 a3⟩;have hb:=bB q;have q1:=aL (seqObj "list" vs.toArray 0) q;show(sortedHeap (s.heap.push (seqObj "list" vs.toArray 0)) s.heap.objs.size vs out).get? b=some o;rw[sortedHeap_old (bS hb) (by rw[size_push'];exact aAm hb)];exact q1
end TU
namespace FL
open PySem PySem.Spec PyProof.Rows L2
abbrev Frag:=aN
noncomputable def KLst(K:Frag)(a:aA)(xs:List V):Prop:=∃(o:Obj) (its:Array Value) (n:Nat),K.lookup a=some o/\o.cls=.type "list"/\o.dict=none/\o.data=.seq its n/\its.size<=sizeLine/\Vals xs its.toList
noncomputable def KTup(K:Frag)(a:aA)(xs:List V):Prop:=∃(o:Obj) (its:Array Value) (n:Nat),K.lookup a=some o/\o.cls=.type "tuple"/\o.data=.seq its n/\its.size<=sizeLine/\Vals xs its.toList
structure LamT where
 qual:Str
 params:Arguments
 body:FuncBody
 scope:Scope
noncomputable def lamsE(q:Str):Nat->Expr->List LamT
 |0,_=>[]
 | n + 1, e => match e with
   | .Lambda a b sc _=>[⟨q++"<lambda>",a,.expr b,sc⟩]
   | .Call _ as _ _=>as.flatMap (lamsE q n)
   | .Compare l _ cs _=>lamsE q n l++cs.flatMap (lamsE q n)
   | .BoolOp _ vs _=>vs.flatMap (lamsE q n)
   | .UnaryOp _ o _=>lamsE q n o
   | .BinOp l _ r _=>lamsE q n l++lamsE q n r
   | .IfExp t b o _=>lamsE q n t++(lamsE q n b++lamsE q n o)
   | .List es _=>es.flatMap (lamsE q n)
   | .Tuple es _ _=>es.flatMap (lamsE q n)
   | .Subscript v i _=>lamsE q n v++lamsE q n i
   |_=>[]
noncomputable def lamsS(q:Str):Nat->Stmt->List LamT
 |0,_=>[]
 | n + 1, s => match s with
   | .FunctionDef x a b _ _ _ sc _ _ _=>[⟨q++x,a,.stmts b,sc⟩]
   | .Assign _ e _=>lamsE q 12 e
   | .Return (some e) _=>lamsE q 12 e
   | .Expr e _=>lamsE q 12 e
   | .If t a b _=>lamsE q 12 t++(a.flatMap (lamsS q n)++b.flatMap (lamsS q n))
   | .For _ _ a _ _=>a.flatMap (lamsS q n)
   | .While _ a _ _=>a.flatMap (lamsS q n)
   |_=>[]
noncomputable def lamsOf(x:Str)(b:List Stmt):List LamT:=b.flatMap (lamsS (x++".<locals>.") 8)
noncomputable def textIn(K:aN)(m n:Nat):Option LamT:=(makers[m]?).bind fun x=>match aI K aH x with
 | some (some (.ref f)) => (match K.lookup f with
   | some ⟨_, _, .func fd, _⟩ => (match fd.body with
     | .stmts b=>(lamsOf x b)[n]?
     |_=>none)
   |_=>none)
 |_=>none
noncomputable def freeR(l:List (Str×kN)):List Str:=((l.filter fun y=>y.2==kN.free).map (·.1)).reverse
inductive ClosOk(H:Hp)(O:aA->Prop):List (Str×aA)->List V->Prop
 |nil:ClosOk H O [] []
 |cons {n:Str} {c:aA} {o:Obj} {u:HO} {w:Value} {x:V} {cl:List (Str×aA)} {xs:List V} (no : ¬O c) (h:H c=some (.frz o u)) (d:o.data=.cell (some w)) (r:RelV x w) (t:ClosOk H O cl xs):ClosOk H O ((n,c)::cl) (x::xs)
noncomputable def LamAt(H:Hp)(O:aA->Prop)(f:aA)(t:LamT)(cl:List (Str×aA)):Prop:=¬O f/\∃(o oc:Obj) (u uc:HO) (fd:aJ) (c:aA) (vs:Array Value) (tq:Tok),
 H f=some (.frz o u)/\o.cls=.type "function"/\o.data=.func fd/\fd.qualname=t.qual/\fd.params=t.params/\fd.body=t.body/\fd.scope=t.scope/\fd.globals=aH/\fd.closure=cl/\fd.defaults=.none/\fd.kwdefaults=.none/\fd.code=.ref c/\fd.builtins=CZ ∧
 ¬O c/\H c=some (.frz oc uc)/\oc.data=.fields vs/\vs[1]?=some (.str t.qual tq)
mutual
inductive Rep(K:Frag)(H:Hp)(O:aA->Prop):V->D->Prop
 |non:Rep K H O .non .non
 |bl (b:Bool):Rep K H O (.bl b) (.bl b)
 |int (i:Int):Rep K H O (.int i) (.int i)
 |str (x:Str):Rep K H O (.str x) (.str x)
 |tup {a:aA} {xs:List V} {ds:List D} (n : ¬O a) (h:Rd H a (.tup xs)) (r:Reps K H O xs ds):Rep K H O (.ref a) (.tup ds)
 |tupK {a:aA} {xs:List V} {ds:List D} (h:KTup K a xs) (r:Reps K H O xs ds):Rep K H O (.ref a) (.tup ds)
 |lst {a:aA} {xs:List V} {ds:List D} (n : ¬O a) (h:Rd H a (.lst xs)) (r:Reps K H O xs ds):Rep K H O (.ref a) (.lst ds)
 |lstK {a:aA} {xs:List V} {ds:List D} (h:KLst K a xs) (r:Reps K H O xs ds):Rep K H O (.ref a) (.lst ds)
 |dct {a:aA} {kvs:List (Key×V)} {ks:List Key} {ds:List D} (n : ¬O a) (h:H a=some (.dK kvs)) (e:kvs.map (·.1)=ks) (r:Reps K H O (kvs.map (·.2)) ds):Rep K H O (.ref a) (.dct ks ds)
 |dcf {a:aA} {o:Obj} {kvs:List (Key×V)} {ks:List Key} {ds:List D} (n : ¬O a) (h:H a=some (.frz o (.dK kvs))) (e:kvs.map (·.1)=ks) (r:Reps K H O (kvs.map (·.2)) ds):Rep K H O (.ref a) (.dcf ks ds)
 |ins {a C dx:aA} {t:Nat} {kvs:List (Str×V)} {ds:List D} (c:aI K aH (dD t)=some (some (.ref C))) (n : ¬O a) (h:H a=some (.ins C dx kvs)) (e:kvs.map (·.1)=cQ t) (r:Reps K H O (kvs.map (·.2)) ds):Rep K H O (.ref a) (.ins t ds)
 |clo {f:aA} {m n:Nat} {t:LamT} {cl:List (Str×aA)} {xs:List V} {ds:List D} (tx:textIn K m n=some t) (h:LamAt H O f t cl) (e:cl.map (·.1)=freeR t.scope.names) (nd:(cl.map (·.2)).Nodup) (c:ClosOk H O cl xs) (r:Reps K H O xs ds):Rep K H O (.ref f) (.clo m n ds)
 |fnK {f:aA} {k:Nat} (h:aI K aH (fnName k)=some (some (.ref f))):Rep K H O (.ref f) (.clo 1000 k [])
inductive Reps(K:Frag)(H:Hp)(O:aA->Prop):List V->List D->Prop
 |nil:Reps K H O [] []
 |cons {x:V} {d:D} {xs:List V} {ds:List D} (h:Rep K H O x d) (t:Reps K H O xs ds):Reps K H O (x::xs) (d::ds)
end
section
variable{K:Frag}{H H':Hp}{O O':aA->Prop}
noncomputable def Keep(O:aA->Prop)(H H':Hp):Prop:=∀b o,¬O b->H b=some o->H' b=some o
theorem Keep.of_same(h:Same H H'):Keep O H H':=fun b o _ e=>h b o e
theorem Keep.rd{a:aA}{u:HO}(k:Keep O H H')(n : ¬O a)(h:Rd H a u):Rd H' a u:=by
 rcases h with h | ⟨o,h⟩
 . exact .inl (k _ _ n h)
 . exact .inr ⟨o,k _ _ n h⟩
theorem ClosOk.keep(k:Keep O H H'):∀{cl:List (Str×aA)} {xs:List V},ClosOk H O cl xs->ClosOk H' O cl xs
 |_,_,.nil=>.nil
 |_,_,.cons no h d r t=>.cons no (k _ _ no h) d r (ClosOk.keep k t)
theorem LamAt.keep{f:aA}{t:LamT}{cl:List (Str×aA)}(k:Keep O H H')(h:LamAt H O f t cl):LamAt H' O f t cl:=by
 obtain⟨n,o,oc,u,uc,fd,c,vs,tq,h1,h2,h3,h4,h5,h6,h7,h8,h9,h10,h11,h12,h13,h14,h15,h16,h17⟩:=h;exact⟨n,o,oc,u,uc,fd,c,vs,tq,k _ _ n h1,h2,h3,h4,h5,h6,h7,h8,h9,h10,h11,h12,h13,h14,k _ _ h14 h15,h16,h17⟩
theorem ClosOk.of(k:∀a o u,H a=some (.frz o u)->¬O' a):∀{cl:List (Str×aA)} {xs:List V},ClosOk H O cl xs->ClosOk H O' cl xs
 |_,_,.nil=>.nil
 |_,_,.cons no h d r t=>.cons (k _ _ _ h) h d r (ClosOk.of k t)
theorem LamAt.of{f:aA}{t:LamT}{cl:List (Str×aA)}(k:∀a o u,H a=some (.frz o u)->¬O' a)(h:LamAt H O f t cl):LamAt H O' f t cl:=by
 obtain⟨n,o,oc,u,uc,fd,c,vs,tq,h1,h2,h3,h4,h5,h6,h7,h8,h9,h10,h11,h12,h13,h14,h15,h16,h17⟩:=h;exact⟨k _ _ _ h1,o,oc,u,uc,fd,c,vs,tq,h1,h2,h3,h4,h5,h6,h7,h8,h9,h10,h11,h12,h13,k _ _ _ h15,h15,h16,h17⟩
theorem ClosOk.nots(k:∀a,O' a->O a):∀{cl:List (Str×aA)} {xs:List V},ClosOk H O cl xs->ClosOk H O' cl xs
 |_,_,.nil=>.nil
 |_,_,.cons no h d r t=>.cons (fun z=>no (k _ z)) h d r (ClosOk.nots k t)
theorem LamAt.nots{f:aA}{t:LamT}{cl:List (Str×aA)}(k:∀a,O' a->O a)(h:LamAt H O f t cl):LamAt H O' f t cl:=by
 obtain⟨n,o,oc,u,uc,fd,c,vs,tq,h1,h2,h3,h4,h5,h6,h7,h8,h9,h10,h11,h12,h13,h14,h15,h16,h17⟩:=h;exact⟨fun z=>n (k _ z),o,oc,u,uc,fd,c,vs,tq,h1,h2,h3,h4,h5,h6,h7,h8,h9,h10,h11,h12,h13,fun z=>h14 (k _ z),h15,h16,h17⟩
noncomputable def ins1(p:aA)(O:aA->Prop):aA->Prop:=fun b=>b=p\/O b
theorem ClosOk.ins{p:aA}(hp:H p=none):∀{cl:List (Str×aA)} {xs:List V},ClosOk H O cl xs->ClosOk H (ins1 p O) cl xs
 |_,_,.nil=>.nil
 |_,_,.cons no h d r t=>.cons (fun z=>z.elim (fun e=>by rw[e,hp] at h;cases h) no) h d r (ClosOk.ins hp t)
theorem LamAt.ins{p f:aA}{t:LamT}{cl:List (Str×aA)}(hp:H p=none)(h:LamAt H O f t cl):LamAt H (ins1 p O) f t cl:=by
 obtain⟨n,o,oc,u,uc,fd,c,vs,tq,h1,h2,h3,h4,h5,h6,h7,h8,h9,h10,h11,h12,h13,h14,h15,h16,h17⟩:=h;exact⟨fun z=>z.elim (fun e=>by rw[e,hp] at h1;cases h1) n,o,oc,u,uc,fd,c,vs,tq,h1,h2,h3,h4,h5,h6,h7,h8,h9,h10,h11,h12,h13,fun z=>z.elim (fun e=>by rw[e,hp] at h15;cases h15) h14,h15,h16,h17⟩
mutual
theorem Rep.keep(k:Keep O H H'):∀{v:V} {d:D},Rep K H O v d->Rep K H' O v d
 |_,_,.non=>.non
 |_,_,.bl b=>.bl b
 |_,_,.int i=>.int i
 |_,_,.str x=>.str x
 |_,_,.tup n h r=>.tup n (k.rd n h) (Reps.keep k r)
 |_,_,.tupK h r=>.tupK h (Reps.keep k r)
 |_,_,.lst n h r=>.lst n (k.rd n h) (Reps.keep k r)
 |_,_,.lstK h r=>.lstK h (Reps.keep k r)
 |_,_,.dct n h e r=>.dct n (k _ _ n h) e (Reps.keep k r)
 |_,_,.dcf n h e r=>.dcf n (k _ _ n h) e (Reps.keep k r)
 |_,_,.ins c n h e r=>.ins c n (k _ _ n h) e (Reps.keep k r)
 |_,_,.clo tx h e nd c r=>.clo tx (h.keep k) e nd (c.keep k) (Reps.keep k r)
 |_,_,.fnK h=>.fnK h
theorem Reps.keep(k:Keep O H H'):∀{vs:List V} {ds:List D},Reps K H O vs ds->Reps K H' O vs ds
 |_,_,.nil=>.nil
 |_,_,.cons h t=>.cons (Rep.keep k h) (Reps.keep k t)
end
theorem Rep.mono(k:Same H H'){v:V}{d:D}(h:Rep K H O v d):Rep K H' O v d:=h.keep (.of_same k)
theorem Reps.mono(k:Same H H'){v:List V}{d:List D}(h:Reps K H O v d):Reps K H' O v d:=h.keep (.of_same k)
mutual
theorem Rep.less(k:∀a,O' a->O a):∀{v:V} {d:D},Rep K H O v d->Rep K H O' v d
 |_,_,.non=>.non
 |_,_,.bl b=>.bl b
 |_,_,.int i=>.int i
 |_,_,.str x=>.str x
 |_,_,.tup n h r=>.tup (fun z=>n (k _ z)) h (Reps.less k r)
 |_,_,.tupK h r=>.tupK h (Reps.less k r)
 |_,_,.lst n h r=>.lst (fun z=>n (k _ z)) h (Reps.less k r)
 |_,_,.lstK h r=>.lstK h (Reps.less k r)
 |_,_,.dct n h e r=>.dct (fun z=>n (k _ z)) h e (Reps.less k r)
 |_,_,.dcf n h e r=>.dcf (fun z=>n (k _ z)) h e (Reps.less k r)
 |_,_,.ins c n h e r=>.ins c (fun z=>n (k _ z)) h e (Reps.less k r)
 |_,_,.clo tx h e nd c r=>.clo tx (h.nots k) e nd (c.nots k) (Reps.less k r)
 |_,_,.fnK h=>.fnK h
theorem Reps.less(k:∀a,O' a->O a):∀{vs:List V} {ds:List D},Reps K H O vs ds->Reps K H O' vs ds
 |_,_,.nil=>.nil
 |_,_,.cons h t=>.cons (Rep.less k h) (Reps.less k t)
end
theorem Rd.some{a:aA}{u:HO}(h:Rd H a u):H a≠none:=by
 rcases h with h | ⟨o,h⟩<;>(rw[h];simp)
mutual
theorem Rep.more{p:aA}(hp:H p=none):∀{v:V} {d:D},Rep K H O v d->Rep K H (ins1 p O) v d
 |_,_,.non=>.non
 |_,_,.bl b=>.bl b
 |_,_,.int i=>.int i
 |_,_,.str x=>.str x
 |_,_,.tup n h r=>.tup (fun z=>z.elim (fun e=>Rd.some h (e▸hp)) n) h (Reps.more hp r)
 |_,_,.tupK h r=>.tupK h (Reps.more hp r)
 |_,_,.lst n h r=>.lst (fun z=>z.elim (fun e=>Rd.some h (e▸hp)) n) h (Reps.more hp r)
 |_,_,.lstK h r=>.lstK h (Reps.more hp r)
 |_,_,.dct n h e r=>.dct (fun z=>z.elim (fun e=>by rw[e,hp] at h;cases h) n) h e (Reps.more hp r)
 |_,_,.dcf n h e r=>.dcf (fun z=>z.elim (fun e=>by rw[e,hp] at h;cases h) n) h e (Reps.more hp r)
 |_,_,.ins c n h e r=>.ins c (fun z=>z.elim (fun e=>by rw[e,hp] at h;cases h) n) h e (Reps.more hp r)
 |_,_,.clo tx h e nd c r=>.clo tx (h.ins hp) e nd (c.ins hp) (Reps.more hp r)
 |_,_,.fnK h=>.fnK h
theorem Reps.more{p:aA}(hp:H p=none):∀{vs:List V} {ds:List D},Reps K H O vs ds->Reps K H (ins1 p O) vs ds
 |_,_,.nil=>.nil
 |_,_,.cons h t=>.cons (Rep.more hp h) (Reps.more hp t)
end
noncomputable def mutO:HO->Bool
 | .lst _ | .dK _ | .dT _ | .set _ _ | .ins _ _ _=>true
 |_=>false
noncomputable def MutHO:={ u:HO // mutO u=true }
noncomputable def Old(H:Hp):aA->Prop:=fun a=>∃o,H a=some o/\mutO o=true
theorem Old.mono(k:Same H H'){a:aA}(h:Old H a):Old H' a:=let ⟨o,e,m⟩:=h;⟨o,k _ _ e,m⟩
noncomputable def jB:aA->Prop:=fun _=>False
mutual
theorem Rep.flatten(ho:∀a,O a->Old H a):∀{v:V} {d:D},flat d=true->Rep K H O' v d->Rep K H O v d
 |_,_,_,.non=>.non
 |_,_,_,.bl b=>.bl b
 |_,_,_,.int i=>.int i
 |_,_,_,.str x=>.str x
 |_,_,f,.tup (a:=a) n h r=>.tup (fun z=>by
    obtain⟨u,e,m⟩:=ho a z;rcases h with h | ⟨o,h⟩
    . rw[e] at h;cases h;cases m
    . rw[e] at h;cases h;cases m) h (Reps.flatten ho (by simpa[flat] using f) r)
 |_,_,f,.tupK h r=>.tupK h (Reps.flatten ho (by simpa[flat] using f) r)
 |_,_,f,.lst _ _ _=>by simp[flat] at f
 |_,_,f,.lstK _ _=>by simp[flat] at f
 |_,_,f,.dct _ _ _ _=>by simp[flat] at f
 |_,_,f,.dcf _ _ _ _=>by simp[flat] at f
 |_,_,f,.ins _ _ _ _ _=>by simp[flat] at f
 |_,_,f,.clo _ _ _ _ _ _=>by simp[flat] at f
 |_,_,f,.fnK _=>by simp[flat] at f
theorem Reps.flatten(ho:∀a,O a->Old H a):∀{vs:List V} {ds:List D},flats ds=true->Reps K H O' vs ds->Reps K H O vs ds
 |_,_,_,.nil=>.nil
 | _, _, f, .cons h t => by
   simp only[flats,bU] at f;exact .cons (Rep.flatten ho f.1 h) (Reps.flatten ho f.2 t)
end
theorem Reps.length:∀{vs:List V} {ds:List D},Reps K H O vs ds->vs.length=ds.length
 |_,_,.nil=>rfl
 |_,_,.cons _ t=>by simp[Reps.length t]
theorem Reps.get:∀{vs:List V} {ds:List D} {i:Nat} {d:D},Reps K H O vs ds->ds[i]?=some d->∃v,vs[i]?=some v/\Rep K H O v d
 |_,_,_,_,.nil,e=>by simp at e
 |_,_,0,_,.cons h _,e=>by simp at e;subst e;exact⟨_,rfl,h⟩
 | _, _, i + 1, d, .cons _ t, e => by
   obtain⟨v,h1,h2⟩:=Reps.get (i:=i) (d:=d) t (by simpa using e);exact⟨v,by simpa using h1,h2⟩
theorem Reps.append:∀{xs ys:List V} {ds es:List D},Reps K H O xs ds->Reps K H O ys es->Reps K H O (xs++ys) (ds++es)
 |_,_,_,_,.nil,s=>s
 |_,_,_,_,.cons r t,s=>.cons r (Reps.append t s)
theorem Reps.set{x:V}{d:D}(r:Rep K H O x d):∀{xs:List V} {ds:List D} (i:Nat),Reps K H O xs ds->Reps K H O (xs.set i x) (ds.set i d)
 |_,_,_,.nil=>.nil
 |_,_,0,.cons _ t=>.cons r t
 |_,_,i+1,.cons q t=>.cons q (Reps.set r i t)
theorem Reps.drop:∀{xs:List V} {ds:List D} (n:Nat),Reps K H O xs ds->Reps K H O (xs.drop n) (ds.drop n)
 |_,_,0,r=>r
 |_,_,_+1,.nil=>.nil
 |_,_,n+1,.cons _ t=>Reps.drop n t
theorem Reps.take:∀{xs:List V} {ds:List D} (n:Nat),Reps K H O xs ds->Reps K H O (xs.take n) (ds.take n)
 |_,_,0,_=>.nil
 |_,_,_+1,.nil=>.nil
 |_,_,n+1,.cons r t=>.cons r (Reps.take n t)
theorem Reps.ints:∀(ns:List Int),Reps K H O (ns.map V.int) (ns.map D.int)
 |[]=>.nil
 |n::r=>.cons (.int n) (Reps.ints r)
noncomputable def WRep(K:Frag)(H:Hp)(O:aA->Prop)(v:V)(d:D):Prop:=Rep K H O v d\/∃a xs l,v=.ref a/\d=.lst l/\O a/\H a=some (.lst xs)/\Reps K H O xs l
theorem WRep.mono(k:Same H H'){v:V}{d:D}(h:WRep K H O v d):WRep K H' O v d:=by
 rcases h with h | ⟨a,xs,l,e1,e2,ho,h,r⟩
 . exact .inl (h.mono k)
 . exact .inr ⟨a,xs,l,e1,e2,ho,k _ _ h,r.mono k⟩
theorem WRep.any{v:V}{d:D}(h:WRep K H O v d):Rep K H jB v d:=by
 rcases h with h | ⟨a,xs,l,rfl,rfl,ho,h,r⟩
 . exact h.less (fun _ z=>z.elim)
 . exact .lst (fun z=>z.elim) (.inl h) (r.less fun _ z=>z.elim)
theorem WRep.seqL{v:V}{l:List D}(h:WRep K H O v (.lst l)):∃a xs,v=.ref a/\SqL K H a xs/\Reps K H O xs l:=by
 rcases h with h | ⟨a,xs,l',rfl,e,ho,h,r⟩
 . cases h with
   |lst n h r=>exact⟨_,_,rfl,.inl h,r⟩
   |lstK h r=>exact⟨_,_,rfl,.inr h,r⟩
 . cases e;exact⟨a,xs,rfl,.inl (.inl h),r⟩
theorem WRep.seqT{v:V}{l:List D}(h:WRep K H O v (.tup l)):∃a xs,v=.ref a/\SqT K H a xs/\Reps K H O xs l:=by
 rcases h with h | ⟨a,xs,l',rfl,e,ho,h,r⟩
 . cases h with
   |tup n h r=>exact⟨_,_,rfl,.inl h,r⟩
   |tupK h r=>exact⟨_,_,rfl,.inr h,r⟩
 . cases e
theorem WRep.int'{v:V}{i:Int}(h:WRep K H O v (.int i)):v=.int i:=by
 rcases h with h | ⟨a,xs,l',rfl,e,_⟩
 . cases h;rfl
 . cases e
theorem WRep.bl'{v:V}{i:Bool}(h:WRep K H O v (.bl i)):v=.bl i:=by
 rcases h with h | ⟨a,xs,l',rfl,e,_⟩
 . cases h;rfl
 . cases e
theorem WRep.str'{v:V}{i:Str}(h:WRep K H O v (.str i)):v=.str i:=by
 rcases h with h | ⟨a,xs,l',rfl,e,_⟩
 . cases h;rfl
 . cases e
end
mutual
inductive RepO(K:Frag)(H:Hp)(O:aA->Prop):V->OT->List aA->Prop
 |val {v:V} {d:D} (r:Rep K H O v d):RepO K H O v (.val d) []
 |lst {a:aA} {xs:List V} {ts:List OT} {fs:List aA} (n:O a) (h:H a=some (.lst xs)) (r:RepsO K H O xs ts fs):RepO K H O (.ref a) (.lst ts) (a::fs)
 |tup {a:aA} {xs:List V} {ts:List OT} {fs:List aA} (n : ¬O a) (h:Rd H a (.tup xs)) (r:RepsO K H O xs ts fs):RepO K H O (.ref a) (.tup ts) fs
 |dct {a:aA} {kvs:List (Key×V)} {ks:List Key} {ts:List OT} {fs:List aA} (n:O a) (h:H a=some (.dK kvs)) (e:kvs.map (·.1)=ks) (r:RepsO K H O (kvs.map (·.2)) ts fs):RepO K H O (.ref a) (.dct ks ts) (a::fs)
 |ins {a C dx:aA} {t:Nat} {kvs:List (Str×V)} {ts:List OT} {fs:List aA} (c:aI K aH (dD t)=some (some (.ref C))) (n:O a) (h:H a=some (.ins C dx kvs)) (e:kvs.map (·.1)=cQ t) (r:RepsO K H O (kvs.map (·.2)) ts fs):RepO K H O (.ref a) (.ins t ts) (a::fs)
inductive RepsO(K:Frag)(H:Hp)(O:aA->Prop):List V->List OT->List aA->Prop
 |nil:RepsO K H O [] [] []
 |cons {x:V} {t:OT} {xs:List V} {ts:List OT} {fs gs:List aA} (h:RepO K H O x t fs) (r:RepsO K H O xs ts gs):RepsO K H O (x::xs) (t::ts) (fs++gs)
end
section
variable{K:Frag}{H H':Hp}{O O':aA->Prop}
mutual
theorem RepO.keep(k:Keep O H H'):∀{v:V} {t:OT} {fs:List aA},RepO K H O v t fs->(∀b∈fs,∀u,H b=some u->H' b=some u)->RepO K H' O v t fs
 |_,_,_,.val r,_=>.val (r.keep k)
 |_,_,_,.lst n h r,hb=>.lst n (hb _ (.head _) _ h) (RepsO.keep k r fun b z=>hb b (.tail _ z))
 |_,_,_,.tup n h r,hb=>.tup n (k.rd n h) (RepsO.keep k r hb)
 |_,_,_,.dct n h e r,hb=>.dct n (hb _ (.head _) _ h) e (RepsO.keep k r fun b z=>hb b (.tail _ z))
 |_,_,_,.ins c n h e r,hb=>.ins c n (hb _ (.head _) _ h) e (RepsO.keep k r fun b z=>hb b (.tail _ z))
theorem RepsO.keep(k:Keep O H H'):∀{v:List V} {t:List OT} {fs:List aA},RepsO K H O v t fs->(∀b∈fs,∀u,H b=some u->H' b=some u)->RepsO K H' O v t fs
 |_,_,_,.nil,_=>.nil
 |_,_,_,.cons h r,hb=>.cons (RepO.keep k h fun b z=>hb b (aU _ z)) (RepsO.keep k r fun b z=>hb b (aG _ z))
end
theorem RepO.mono(k:Same H H'){v:V}{t:OT}{fs:List aA}(h:RepO K H O v t fs):RepO K H' O v t fs:=h.keep (.of_same k) fun b _ u e=>k b u e
theorem RepsO.mono(k:Same H H'){v:List V}{t:List OT}{fs:List aA}(h:RepsO K H O v t fs):RepsO K H' O v t fs:=h.keep (.of_same k) fun b _ u e=>k b u e
mutual
theorem RepO.less(k:∀a,O' a->O a):∀{v:V} {t:OT} {fs:List aA},RepO K H O v t fs->(∀b∈fs,O' b)->RepO K H O' v t fs
 |_,_,_,.val r,_=>.val (r.less k)
 |_,_,_,.lst n h r,hb=>.lst (hb _ (.head _)) h (RepsO.less k r fun b z=>hb b (.tail _ z))
 |_,_,_,.tup n h r,hb=>.tup (fun z=>n (k _ z)) h (RepsO.less k r hb)
 |_,_,_,.dct n h e r,hb=>.dct (hb _ (.head _)) h e (RepsO.less k r fun b z=>hb b (.tail _ z))
 |_,_,_,.ins c n h e r,hb=>.ins c (hb _ (.head _)) h e (RepsO.less k r fun b z=>hb b (.tail _ z))
theorem RepsO.less(k:∀a,O' a->O a):∀{v:List V} {t:List OT} {fs:List aA},RepsO K H O v t fs->(∀b∈fs,O' b)->RepsO K H O' v t fs
 |_,_,_,.nil,_=>.nil
 |_,_,_,.cons h r,hb=>.cons (RepO.less k h fun b z=>hb b (aU _ z)) (RepsO.less k r fun b z=>hb b (aG _ z))
end
mutual
theorem RepO.more{p:aA}(hp:H p=none):∀{v:V} {t:OT} {fs:List aA},RepO K H O v t fs->RepO K H (ins1 p O) v t fs
 |_,_,_,.val r=>.val (r.more hp)
 |_,_,_,.lst n h r=>.lst (.inr n) h (RepsO.more hp r)
 |_,_,_,.tup n h r=>.tup (fun z=>z.elim (fun e=>Rd.some h (e▸hp)) n) h (RepsO.more hp r)
 |_,_,_,.dct n h e r=>.dct (.inr n) h e (RepsO.more hp r)
 |_,_,_,.ins c n h e r=>.ins c (.inr n) h e (RepsO.more hp r)
theorem RepsO.more{p:aA}(hp:H p=none):∀{v:List V} {t:List OT} {fs:List aA},RepsO K H O v t fs->RepsO K H (ins1 p O) v t fs
 |_,_,_,.nil=>.nil
 |_,_,_,.cons h r=>.cons (RepO.more hp h) (RepsO.more hp r)
end
mutual
theorem RepO.owns:∀{v:V} {t:OT} {fs:List aA},RepO K H O v t fs->∀b∈fs,O b/\∃u:MutHO,H b=some u.1
 |_,_,_,.val r,b,z=>nomatch z
 | _, _, _, .lst (xs := xs) n h r, b, z => by
   rcases aE.mp z with rfl | z
   . exact⟨n,⟨.lst xs,rfl⟩,h⟩
   . exact RepsO.owns r b z
 |_,_,_,.tup n h r,b,z=>RepsO.owns r b z
 | _, _, _, .dct (kvs := kvs) n h e r, b, z => by
   rcases aE.mp z with rfl | z
   . exact⟨n,⟨.dK kvs,rfl⟩,h⟩
   . exact RepsO.owns r b z
 | _, _, _, .ins (C := C) (dx := dx) (kvs := kvs) c n h e r, b, z => by
   rcases aE.mp z with rfl | z
   . exact⟨n,⟨.ins C dx kvs,rfl⟩,h⟩
   . exact RepsO.owns r b z
theorem RepsO.owns:∀{v:List V} {t:List OT} {fs:List aA},RepsO K H O v t fs->∀b∈fs,O b/\∃u:MutHO,H b=some u.1
 |_,_,_,.nil,b,z=>nomatch z
 |_,_,_,.cons h r,b,z=>(cA.mp z).elim (RepO.owns h b) (RepsO.owns r b)
end
mutual
theorem RepO.any:∀{v:V} {t:OT} {fs:List aA},RepO K H O v t fs->Rep K H jB v (otD t)
 |_,_,_,.val r=>r.less fun _ z=>z.elim
 |_,_,_,.lst n h r=>by unfold otD;exact .lst (fun z=>z) (.inl h) (RepsO.any r)
 |_,_,_,.tup n h r=>by unfold otD;exact .tup (fun z=>z) h (RepsO.any r)
 |_,_,_,.dct n h e r=>by unfold otD;exact .dct (fun z=>z) h e (RepsO.any r)
 |_,_,_,.ins c n h e r=>by unfold otD;exact .ins c (fun z=>z) h e (RepsO.any r)
theorem RepsO.any:∀{v:List V} {t:List OT} {fs:List aA},RepsO K H O v t fs->Reps K H jB v (otDs t)
 |_,_,_,.nil=>by unfold otDs;exact .nil
 |_,_,_,.cons h r=>by unfold otDs;exact .cons (RepO.any h) (RepsO.any r)
end
end
noncomputable def SlOk(K:Frag)(H₀ H:Hp)(O:aA->Prop):Option V->Sl->Prop
 |_,.no=>True
 |some x,.v d=>Rep K H O x d
 |some (.ref a),.own l=>O a/\∃xs,H a=some (.lst xs)/\Reps K H O xs l
 |some (.ref a),.fr l=>¬O a/\H₀ a=none/\∃xs,H a=some (.lst xs)/\Reps K H O xs l
 |_,.ob _ _=>True
 |some (.ref a),.exc t=>∃C o u,aI K aH (xName t)=some (some (.ref C))/\H a=some (.frz o u)/\o.cls=.ref C
 |_,_=>False
noncomputable def IsOwn(ds:List Sl)(i:Nat):Prop:=∃l,ds[i]?=some (.own l)
inductive HI where
 |rep (v:V) (d:D) | base (B:aA->Prop) | root (k a:Nat) | fz (a:aA) (o:Obj) (kvs:List (Key×V)) (l:List D)
abbrev Hold:=List HI
noncomputable def HOk(K:Frag)(H₀ H:Hp)(O:aA->Prop):HI->Prop
 | .rep v d=>Rep K H O v d
 | .base B=>∀a,B a->O a/\H₀ a≠none
 | .root _ _=>True
 | .fz a o kvs l=>¬O a/\H a=some (.frz o (.dK kvs))/\Reps K H O (kvs.map (·.2)) l
noncomputable def Obs(K:Frag)(H₀ H:Hp)(O:aA->Prop)(σ : L2.St)(ds:List Sl)(hd:Hold):Prop:=∃F:Nat->List aA,∀(i:Nat) (r:Option Nat) (t:OT),ds[i]?=some (.ob r t)->∃v,σ[i]?=some (some v)/\RepO K H O v t (F i)/\(∀k a,r=some k->HI.root k a∈hd->v=.ref a)/\(F i).Nodup ∧
 ∀b∈F i,H₀ b=none/\(∀j r' t',j≠i->ds[j]?=some (.ob r' t')->b∉F j)/\∀j,IsOwn ds j->σ[j]?≠some (some (.ref b))
structure Ok(K:Frag)(H₀ H:Hp)(O:aA->Prop)(σ : L2.St)(ds:List Sl)(hd:Hold):Prop where
 same:Same H₀ H
 fresh:∀(i:Nat) (l:List D) (a:aA),ds[i]?=some (.own l)->σ[i]?=some (some (.ref a))->H₀ a=none
 dom:∀a,O a->∃u:MutHO,H a=some u.1
 len : σ.length=ds.length
 sl:∀(i:Nat) (s:Sl),ds[i]?=some s->SlOk K H₀ H O (σ[i]?.join) s
 apart:∀(i j:Nat) (a:aA),i≠j->IsOwn ds i->IsOwn ds j->σ[i]?=some (some (.ref a))->σ[j]?=some (some (.ref a))->False
 hold:∀p∈hd,HOk K H₀ H O p
 obs:Obs K H₀ H O σ ds hd
section
variable{K:Frag}{H₀ H H':Hp}{O O':aA->Prop}{σ : L2.St}{ds:List Sl}{hd:Hold}
theorem HOk.mono(k:Same H H'):∀{p:HI},HOk K H₀ H O p->HOk K H₀ H' O p
 | .rep _ _,h=>Rep.mono k h
 | .base _,h=>h
 | .root _ _,h=>h
 | .fz _ _ _ _,h=>⟨h.1,k _ _ h.2.1,Reps.mono k h.2.2⟩
theorem HOk.keep(k:Keep O H H'):∀{p:HI},HOk K H₀ H O p->HOk K H₀ H' O p
 | .rep _ _,h=>Rep.keep k h
 | .base _,h=>h
 | .root _ _,h=>h
 | .fz _ _ _ _,h=>⟨h.1,k _ _ h.1 h.2.1,Reps.keep k h.2.2⟩
theorem Obs.tr{σ':L2.St}{ds':List Sl}(h:Obs K H₀ H O σ ds hd)(tr:∀v t fs,RepO K H O v t fs->(∀b∈fs,H₀ b=none/\∀j,IsOwn ds j->σ[j]?≠some (some (.ref b)))->RepO K H' O' v t fs)(hob:∀(i:Nat) (r:Option Nat) (t:OT),ds'[i]?=some (.ob r t)->ds[i]?=some (.ob r t)/\σ'[i]?=σ[i]?)(hown:∀(j:Nat) (b:aA),IsOwn ds' j->σ'[j]?=some (some (.ref b))->(IsOwn ds j/\σ[j]?=some (some (.ref b)))\/H b=none):Obs K H₀ H' O' σ' ds' hd:=by
 obtain⟨F,hF⟩:=h;refine⟨F,fun i r t e=>?_⟩;obtain⟨e1,e2⟩:=hob i r t e;obtain⟨v,h1,h2,h3,h4,h5⟩:=hF i r t e1;refine⟨v,e2.trans h1,tr v t _ h2 fun b hb=>⟨(h5 b hb).1,(h5 b hb).2.2⟩,h3,h4,fun b hb=>⟨(h5 b hb).1,fun j r' t' hj ej=>(h5 b hb).2.1 j r' t' hj (hob j r' t' ej).1,fun j oj ej=>?_⟩⟩;rcases hown j b oj ej with⟨o1,o2⟩ | hn
 . exact(h5 b hb).2.2 j o1 o2
 . obtain⟨_, xs, z⟩ := h2.owns b hb;rw[hn] at z;cases z
theorem Obs.no(h:∀(i:Nat) (r:Option Nat) (t:OT),ds[i]?≠some (.ob r t)):Obs K H₀ H O σ ds hd:=⟨fun _=>[],fun i r t e=>(h i r t e).elim⟩
theorem Obs.mono(k:Same H H')(h:Obs K H₀ H O σ ds hd):Obs K H₀ H' O σ ds hd:=h.tr (fun _ _ _ r _=>r.mono k) (fun _ _ _ e=>⟨e,rfl⟩) fun _ _ o e=>.inl ⟨o,e⟩
theorem xY{i:Nat}{s:Sl}(hs:∀r t,s≠.ob r t){j:Nat}{r:Option Nat}{t:OT}(e:(ds.set i s)[j]?=some (.ob r t)):ds[j]?=some (.ob r t)/\j≠i:=by
 by_cases hj:j=i
 . subst hj
   by_cases hl:j<ds.length
   . rw[aK hl] at e;cases e;exact(hs r t rfl).elim
   . rw[bK (by simpa using hl)] at e;cases e
 . rw[aB (Ne.symm hj)] at e;exact⟨e,hj⟩
theorem xD{i:Nat}{s:Sl}(hs:∀l,s≠.own l){j:Nat}(e:IsOwn (ds.set i s) j):IsOwn ds j/\j≠i:=by
 obtain⟨l,e⟩:=e
 by_cases hj:j=i
 . subst hj
   by_cases hl:j<ds.length
   . rw[aK hl] at e;cases e;exact(hs l rfl).elim
   . rw[bK (by simpa using hl)] at e;cases e
 . rw[aB (Ne.symm hj)] at e;exact⟨⟨l,e⟩,hj⟩
theorem SlOk.mono(k:Same H H'):∀{x:Option V} {s:Sl},SlOk K H₀ H O x s->SlOk K H₀ H' O x s
 |none,.no,_=>trivial
 |some (.ref _),.no,_=>trivial
 |some _,.no,_=>by simp[SlOk]
 | x, .ob _ _, _ => by cases x with
   |none=>trivial
   |some x=>cases x<;>trivial
 | some x, .v d, h => by
   have h:Rep K H O x d:=by cases x<;>exact h
   show SlOk K H₀ H' O (some x) (.v d);have:=h.mono k;cases x<;>exact this
 |some (.ref a),.own l,⟨ho,xs,h,r⟩=>⟨ho,xs,k _ _ h,r.mono k⟩
 |some (.ref a),.fr l,⟨ho,h0,xs,h,r⟩=>⟨ho,h0,xs,k _ _ h,r.mono k⟩
 |some (.ref a),.exc t,⟨C,o,u,h1,h2,h3⟩=>⟨C,o,u,h1,k _ _ h2,h3⟩
theorem Ok.old(o:Ok K H₀ H O σ ds hd){a:aA}(h:O a):Old H a:=let ⟨xs,e⟩:=o.dom a h;⟨_,e,xs.2⟩
theorem Ok.mono(k:Same H H')(o:Ok K H₀ H O σ ds hd):Ok K H₀ H' O σ ds hd :=
 ⟨o.same.trans k,o.fresh,fun a h=>let ⟨xs,e⟩:=o.dom a h;⟨xs,k _ _ e⟩,o.len,fun i s e=>(o.sl i s e).mono k,o.apart,fun p hp=>(o.hold p hp).mono k,o.obs.mono k⟩
theorem Ok.free{p:aA}(o:Ok K H₀ H O σ ds hd)(h:H p=none):¬O p:=fun z=>by
 obtain⟨xs,e⟩:=o.dom p z;rw[h] at e;cases e
theorem Ok.read{i:Nat}{d:D}(o:Ok K H₀ H O σ ds hd)(e:ds[i]?=some (.v d)):∃v,σ[i]?=some (some v)/\Rep K H O v d:=by
 have h:=o.sl i _ e;cases q : σ[i]? with
 |none=>rw[q] at h;exact h.elim
 | some x =>
   rw[q] at h;cases x with
   |none=>exact h.elim
   |some x=>exact⟨x,rfl,by cases x<;>exact h⟩
theorem Ok.readO{i:Nat}{l:List D}(o:Ok K H₀ H O σ ds hd)(e:ds[i]?=some (.own l)):∃a xs,σ[i]?=some (some (.ref a))/\O a/\H a=some (.lst xs)/\Reps K H O xs l:=by
 have h:=o.sl i _ e;cases q : σ[i]? with
 |none=>rw[q] at h;exact h.elim
 | some x =>
   rw[q] at h;cases x with
   |none=>exact h.elim
   | some x =>
     cases x with
     |ref a=>obtain⟨ho,xs,h1,h2⟩:=h;exact⟨a,xs,rfl,ho,h1,h2⟩
     |_=>exact h.elim
theorem Ok.readX{i t:Nat}(o:Ok K H₀ H O σ ds hd)(e:ds[i]?=some (.exc t)):∃a C ob u,σ[i]?=some (some (.ref a))/\aI K aH (xName t)=some (some (.ref C))/\H a=some (.frz ob u)/\ob.cls=.ref C:=by
 have h:=o.sl i _ e;cases q : σ[i]? with
 |none=>rw[q] at h;exact h.elim
 | some x =>
   rw[q] at h;cases x with
   |none=>exact h.elim
   | some x =>
     cases x with
     |ref a=>obtain⟨C,ob,u,h1,h2,h3⟩:=h;exact⟨a,C,ob,u,rfl,h1,h2,h3⟩
     |_=>exact h.elim
theorem Ok.readF{i:Nat}{l:List D}(o:Ok K H₀ H O σ ds hd)(e:ds[i]?=some (.fr l)):∃a xs,σ[i]?=some (some (.ref a))/\¬O a/\H₀ a=none/\H a=some (.lst xs)/\Reps K H O xs l:=by
 have h:=o.sl i _ e;cases q : σ[i]? with
 |none=>rw[q] at h;exact h.elim
 | some x =>
   rw[q] at h;cases x with
   |none=>exact h.elim
   | some x =>
     cases x with
     |ref a=>obtain⟨ho,h0,xs,h1,h2⟩:=h;exact⟨a,xs,rfl,ho,h0,h1,h2⟩
     |_=>exact h.elim
theorem jA{x:Option V}: SlOk K H₀ H O x .no:=by
 cases x with
 |none=>trivial
 |some x=>cases x<;>trivial
theorem yG{x:Option V}{r:Option Nat}{t:OT}: SlOk K H₀ H O x (.ob r t):=by
 cases x with
 |none=>trivial
 |some x=>cases x<;>trivial
theorem jZ{x:V}{d:D}(h:Rep K H O x d):SlOk K H₀ H O (some x) (.v d):=by
 cases x<;>exact h
theorem Ok.set{i:Nat}{v:V}{d:D}(o:Ok K H₀ H O σ ds hd)(r:Rep K H O v d):Ok K H₀ H O (σ.set i (some v)) (ds.set i (.v d)) hd:=by
 have own':∀{j:Nat},IsOwn (ds.set i (.v d)) j->j≠i/\IsOwn ds j:=fun {j} ⟨l,e⟩=>by
  by_cases hj:j=i
  . subst hj
    by_cases hl:j<ds.length
    . rw[aK hl] at e;cases e
    . rw[bK (by simpa using hl)] at e;cases e
  . rw[aB (Ne.symm hj)] at e;exact⟨hj,l,e⟩
 refine⟨o.same,fun j l a e1 e2=>?_,o.dom,by simpa using o.len,fun j s e=>?_,fun j k a hjk hj hk e1 e2=>?_,o.hold,o.obs.tr (fun _ _ _ r _=>r) (fun j r t e=>by
  obtain⟨e1,hj⟩:=xY (fun r t=>by intro z;cases z) e
  exact⟨e1,by rw[aB (Ne.symm hj)]⟩) (fun j b oj ej=>by
  obtain⟨o1,hj⟩:=xD (fun l=>by intro z;cases z) oj;rw[aB (Ne.symm hj)] at ej
  exact .inl ⟨o1,ej⟩)⟩
 . obtain⟨n1, h1⟩ := own' ⟨l, e1⟩;rw[aB (Ne.symm n1)] at e1 e2;exact o.fresh j l a e1 e2
 . by_cases hj : j = i
   . subst hj
     by_cases hl:j<ds.length
     . rw[aK hl] at e;cases e;rw[aK (by rw[o.len];exact hl)];exact jZ r
     . rw[bK (by simpa using hl)] at e;cases e
   . rw[aB (Ne.symm hj)] at e;rw[aB (Ne.symm hj)];exact o.sl j s e
 . obtain⟨n1, h1⟩ := own' hj;obtain⟨n2,h2⟩:=own' hk;rw[aB (Ne.symm n1)] at e1;rw[aB (Ne.symm n2)] at e2;exact o.apart j k a hjk h1 h2 e1 e2
theorem Ok.setO{i:Nat}{a:aA}{xs:List V}{l:List D}(o:Ok K H₀ H O σ ds hd)(k:Same H H')(hn:H a=none)(e:H' a=some (.lst xs))(r:Reps K H' (ins1 a O) xs l) :
  Ok K H₀ H' (ins1 a O) (σ.set i (some (.ref a))) (ds.set i (.own l)) hd:=by
 have up:∀{v:V} {d:D},Rep K H O v d->Rep K H' (ins1 a O) v d:=fun h=>(h.more hn).mono k;have ups:∀{v:List V} {d:List D},Reps K H O v d->Reps K H' (ins1 a O) v d:=fun h=>(h.more hn).mono k
 have other:∀j:Nat,IsOwn ds j->σ[j]?=some (some (.ref a))->False:=fun j ⟨l',e'⟩ q=>by
  obtain⟨b,ys,h1,h2,h3,_⟩:=o.readO e';rw[q] at h1;cases h1;rw[hn] at h3;cases h3
 have own':∀{j:Nat},j≠i->IsOwn (ds.set i (.own l)) j->IsOwn ds j:=fun {j} hj ⟨l',e'⟩=>⟨l',by rwa [aB (Ne.symm hj)] at e'⟩
 refine⟨o.same.trans k,fun j l' b e1 e2=>?_,fun b hb=>?_,by simpa using o.len,fun j s es=>?_,fun j m b hjm hj hm e1 e2=>?_,fun p hp=>?_,o.obs.tr (fun _ _ _ r _=>(r.more hn).mono k) (fun j r t e=>by
  obtain⟨e1,hj⟩:=xY (fun r t=>by intro z;cases z) e
  exact⟨e1,by rw[aB (Ne.symm hj)]⟩) (fun j b oj ej=>by
  by_cases hj:j=i
  . subst hj
    by_cases hl:j<σ.length
    . rw[aK hl] at ej;cases ej;exact .inr hn
    . rw[bK (by simpa using hl)] at ej;cases ej
  . rw [aB (Ne.symm hj)] at ej;obtain ⟨l',e'⟩:=oj;rw [aB (Ne.symm hj)] at e'
    exact .inl ⟨⟨l',e'⟩,ej⟩)⟩
 rotate_left 4
 . have := o.hold p hp;cases p with
   |rep v d=>exact up this
   |base B=>exact fun b hb=>⟨.inr (this b hb).1,(this b hb).2⟩
   |root k a=>exact True.intro
   |fz a' o' kvs' l'=>exact⟨fun z=>z.elim (fun z=>by have:=this.2.1;rw[z,hn] at this;cases this) this.1,k _ _ this.2.1,(Reps.more hn this.2.2).mono k⟩
 . by_cases hj : j = i
   . subst hj
     by_cases hl:j<σ.length
     . rw[aK hl] at e2;cases e2;exact o.same.free hn
     . rw[bK (by simpa using hl)] at e2;cases e2
   . rw[aB (Ne.symm hj)] at e1 e2;exact o.fresh j l' b e1 e2
 . rcases hb with rfl | hb
   . exact⟨⟨.lst xs,rfl⟩,e⟩
   . obtain⟨ys, q⟩ := o.dom b hb;exact⟨ys,k _ _ q⟩
 . by_cases hj : j = i
   . subst hj
     by_cases hl:j<ds.length
     . rw[aK hl] at es;cases es;rw[aK (by rw[o.len];exact hl)];exact⟨.inl rfl,xs,e,r⟩
     . rw[bK (by simpa using hl)] at es;cases es
   . rw [aB (Ne.symm hj)] at es;rw [aB (Ne.symm hj)];cases s with
     |no=>exact jA
     |ob r t=>exact yG
     | exc t =>
       obtain⟨a',C',ob',u',q1,q2,q3,q4⟩:=o.readX es;rw[q1];exact⟨C',ob',u',q2,k _ _ q3,q4⟩
     | fr l' =>
       obtain⟨a',xs',q1,q2,q0,q3,q4⟩:=o.readF es;rw[q1];exact⟨fun z=>z.elim (fun e'=>by rw[e',hn] at q3;cases q3) q2,q0,xs',k _ _ q3,ups q4⟩
     | v d =>
       obtain⟨v,h1,h2⟩:=o.read es;rw[h1];exact jZ (up h2)
     | own l' =>
       obtain⟨b,ys,h1,h2,h3,h4⟩:=o.readO es;rw[h1];exact⟨.inr h2,ys,k _ _ h3,ups h4⟩
 . have hs:∀{q:Nat},q=i->(σ.set i (some (V.ref a)))[q]?=some (some (.ref b))->b=a:=fun {q} hq eq=>by
    subst hq
    by_cases hl:q<σ.length
    . rw[aK hl] at eq;cases eq;rfl
    . rw[bK (by simpa using hl)] at eq;cases eq
   by_cases h1:j=i
   . have hb := hs h1 e1;have h2:m≠i:=fun z=>hjm (h1.trans z.symm);rw[aB (Ne.symm h2),hb] at e2;exact other m (own' h2 hm) e2
   . by_cases h2 : m = i
     . have hb := hs h2 e2;rw[aB (Ne.symm h1),hb] at e1;exact other j (own' h1 hj) e1
     . rw[aB (Ne.symm h1)] at e1;rw[aB (Ne.symm h2)] at e2;exact o.apart j m b hjm (own' h1 hj) (own' h2 hm) e1 e2
theorem Ok.release{i:Nat}{l:List D}(o:Ok K H₀ H O σ ds hd)(e:ds[i]?=some (.own l)):∃O',Ok K H₀ H O' σ (ds.set i (.v (.lst l))) hd:=by
 obtain⟨a,xs,h1,h2,h3,h4⟩:=o.readO e;have hl:i<ds.length:=(aT.mp e).1
 let O':aA->Prop:=fun b=>O b/\b≠a
 have sub:∀b,O' b->O b:=fun b hb=>hb.1;have na : ¬O' a:=fun hb=>hb.2 rfl
 have own0:∀{j:Nat} {l':List D},(ds.set i (.v (.lst l)))[j]?=some (.own l')->ds[j]?=some (.own l'):=fun {j l'} e'=>by
  by_cases hj:j=i
  . subst hj;rw[aK hl] at e';cases e'
  . rwa [aB (Ne.symm hj)] at e'
 refine⟨O',o.same,fun j l' b e1 e2=>o.fresh j l' b (own0 e1) e2,fun b hb=>o.dom b (sub b hb),by simpa using o.len,fun j s es=>?_,fun j m b hjm hj hm e1 e2=>?_,fun p hp=>?_,o.obs.tr (fun _ _ _ r hb=>r.less sub fun b z=>⟨(r.owns b z).1,fun q=>(hb b z).2 i ⟨l,e⟩ (by rw[q];exact h1)⟩) (fun j r t ej=>by
  obtain⟨e1,hj⟩:=xY (fun r t=>by intro z;cases z) ej
  exact⟨e1,rfl⟩) (fun j b oj ej=>.inl ⟨(xD (fun l=>by intro z;cases z) oj).1,ej⟩)⟩
 rotate_left 2
 . have := o.hold p hp;cases p with
   |rep v d=>exact Rep.less sub this
   |base B=>exact fun b hb=>⟨⟨(this b hb).1,fun z=>(this b hb).2 (z▸o.fresh i l a e h1)⟩,(this b hb).2⟩
   |root k a=>exact True.intro
   |fz a' o' kvs' l'=>exact⟨fun z=>this.1 (sub _ z),this.2.1,Reps.less sub this.2.2⟩
 . by_cases hj : j = i
   . subst hj;rw[aK hl] at es;cases es;rw[h1];exact jZ (.lst na (.inl h3) (h4.less sub))
   . rw [aB (Ne.symm hj)] at es;cases s with
     |no=>exact jA
     |ob r t=>exact yG
     | exc t =>
       obtain⟨a',C',ob',u',q1,q2,q3,q4⟩:=o.readX es;rw[q1];exact⟨C',ob',u',q2,q3,q4⟩
     | fr l' =>
       obtain⟨a',xs',q1,q2,q0,q3,q4⟩:=o.readF es;rw[q1];exact⟨fun z=>q2 (sub _ z),q0,xs',q3,q4.less sub⟩
     | v d =>
       obtain⟨v,q1,q2⟩:=o.read es;rw[q1];exact jZ (q2.less sub)
     | own l' =>
       obtain⟨b,ys,q1,q2,q3,q4⟩:=o.readO es;rw[q1];refine⟨⟨q2,fun z=>?_⟩,ys,q3,q4.less sub⟩;subst z;exact o.apart j i b hj ⟨l',es⟩ ⟨l,e⟩ q1 h1
 . have own':∀{j:Nat},IsOwn (ds.set i (.v (.lst l))) j->IsOwn ds j:=fun {j} ⟨l',e'⟩=>by
    by_cases hj:j=i
    . subst hj;rw[aK hl] at e';cases e'
    . rw[aB (Ne.symm hj)] at e';exact⟨l',e'⟩
   exact o.apart j m b hjm (own' hj) (own' hm) e1 e2
theorem Ok.modify{i:Nat}{l l':List D}{a:aA}{xs':List V}(o:Ok K H₀ H O σ ds hd)(e:ds[i]?=some (.own l))(ea : σ[i]?=some (some (.ref a)))(r:Reps K H O xs' l') :
  Ok K H₀ (upd H a (.lst xs')) O σ (ds.set i (.own l')) hd:=by
 obtain⟨a',xs,h1,h2,h3,h4⟩:=o.readO e;rw[ea] at h1;cases h1;have hl:i<ds.length:=(aT.mp e).1
 have k:Keep O H (upd H a (.lst xs')):=fun b u hb eb=>by
  rw[upd_ne (fun(z:b=a)=>hb (z.symm▸h2))];exact eb
 refine⟨fun b u eb=>?_,fun j l2 b e1 e2=>?_,fun b hb=>?_,by simpa using o.len,fun j s es=>?_,fun j m b hjm hj hm e1 e2=>?_,fun p hp=>(o.hold p hp).keep k,o.obs.tr (fun _ _ _ r hb=>r.keep k fun b z u eu=>by rw[upd_ne (fun q=>(hb b z).2 i ⟨l,e⟩ (by rw[q];exact ea))];exact eu) (fun j r t ej=>by
  obtain⟨e1,hj⟩:=xY (fun r t=>by intro z;cases z) ej
  exact⟨e1,rfl⟩) (fun j b oj ej=>by
  by_cases hj:j=i
  . subst hj;exact .inl ⟨⟨l,e⟩,ej⟩
  . obtain ⟨l', e'⟩ := oj;rw [aB (Ne.symm hj)] at e'
    exact .inl ⟨⟨l',e'⟩,ej⟩)⟩
 rotate_left 1
 . by_cases hj : j = i
   . subst hj;exact o.fresh j l b e e2
   . rw[aB (Ne.symm hj)] at e1;exact o.fresh j l2 b e1 e2
 rotate_right 1
 . rw[upd_ne (fun z => by rw[z, o.fresh i l a e ea] at eb;cases eb)];exact o.same b u eb
 . by_cases hba : b = a
   . subst hba;exact⟨⟨.lst xs',rfl⟩,bM⟩
   . rw[upd_ne hba];exact o.dom b hb
 . by_cases hj : j = i
   . subst hj;rw[aK hl] at es;cases es;rw[ea];exact⟨h2,xs',bM,r.keep k⟩
   . rw [aB (Ne.symm hj)] at es;cases s with
     |no=>exact jA
     |ob r t=>exact yG
     | exc t =>
       obtain⟨a',C',ob',u',q1,q2,q3,q4⟩:=o.readX es;rw[q1];exact⟨C',ob',u',q2,by rw[upd_ne (fun z=>by rw[z,h3] at q3;cases q3)];exact q3,q4⟩
     | fr l' =>
       obtain⟨a',xs'',q1,q2,q0,q3,q4⟩:=o.readF es;rw[q1];exact⟨q2,q0,xs'',by rw[upd_ne (fun z=>q2 (by rw[z];exact h2))];exact q3,q4.keep k⟩
     | v d =>
       obtain⟨v,q1,q2⟩:=o.read es;rw[q1];exact jZ (q2.keep k)
     | own l'' =>
       obtain⟨b,ys,q1,q2,q3,q4⟩:=o.readO es;rw[q1];refine⟨q2,ys,?_,q4.keep k⟩;rw[upd_ne (fun z=>?_)]
       . exact q3
       . subst z;exact o.apart j i b hj ⟨_,es⟩ ⟨l,e⟩ q1 ea
 . have own':∀{j:Nat},IsOwn (ds.set i (.own l')) j->IsOwn ds j:=fun {j} ⟨l'',e'⟩=>by
    by_cases hj:j=i
    . subst hj;exact⟨l,e⟩
    . rw[aB (Ne.symm hj)] at e';exact⟨l'',e'⟩
   exact o.apart j m b hjm (own' hj) (own' hm) e1 e2
theorem Ok.holdMore{p:HI}(o:Ok K H₀ H O σ ds hd)(r:HOk K H₀ H O p)(hp:∀k a,HI.root k a≠p:=by intro _ _ z;cases z):Ok K H₀ H O σ ds (p::hd):=
 ⟨o.same,o.fresh,o.dom,o.len,o.sl,o.apart,fun q hq=>(aE.mp hq).elim (fun e=>e▸r) (o.hold q),let ⟨F,hF⟩:=o.obs;⟨F,fun i r t e=>let ⟨v,h1,h2,h3,h4⟩:=hF i r t e;⟨v,h1,h2,fun k a z y=>(aE.mp y).elim (fun y=>(hp k a y).elim) (h3 k a z),h4⟩⟩⟩
theorem Ok.holdLess{p:HI}(o:Ok K H₀ H O σ ds (p::hd)):Ok K H₀ H O σ ds hd :=
 ⟨o.same,o.fresh,o.dom,o.len,o.sl,o.apart,fun q hq=>o.hold q (aP _ hq),let ⟨F,hF⟩:=o.obs;⟨F,fun i r t e=>let ⟨v,h1,h2,h3,h4⟩:=hF i r t e;⟨v,h1,h2,fun k a z y=>h3 k a z (aP _ y),h4⟩⟩⟩
end
section
variable(X:Cx)
noncomputable def PV(e:Expr)(f:FE):Prop:=∃t,PE X e t/\∀H₀ H O σ ds hd d Q,Ok X.K H₀ H O σ ds hd->f ds=some d->(∀v H',Same H H'->Rep X.K H' O v d->Q v H')->t σ H Q
noncomputable def PVw(e:Expr)(f:FE):Prop:=∃t,PE X e t/\∀H₀ H O σ ds hd d Q,Ok X.K H₀ H O σ ds hd->f ds=some d->(∀v H',Same H H'->WRep X.K H' O v d->Q v H')->t σ H Q
noncomputable def PVf(e:Expr)(f:FA):Prop:=∃t,PE X e t/\∀H₀ H O σ ds hd l Q,Ok X.K H₀ H O σ ds hd->f ds=some l →
 (∀a xs H',Same H H'->H a=none->H' a=some (.lst xs)->Reps X.K H' (ins1 a O) xs l->Q (.ref a) H')->t σ H Q
noncomputable def PTv(e:Expr)(c:FT):Prop:=∃t,PT X e t/\∀H₀ H O σ ds hd b Q,Ok X.K H₀ H O σ ds hd->c ds=some b->(∀H',Same H H'->Q b H')->t σ H Q
noncomputable def PWv(e:Expr)(c:FT):Prop:=∃t,PW X e t/\∀H₀ H O σ ds hd b Q,Ok X.K H₀ H O σ ds hd->c ds=some b->(∀H',Same H H'->Q b H')->t σ H Q
noncomputable def PAv(es:List Expr)(f:FA):Prop:=∃t,PA X es t/\∀H₀ H O σ ds hd l Q,Ok X.K H₀ H O σ ds hd->f ds=some l->(∀vs H',Same H H'->IK (WRep X.K H' O) vs l->Q vs H')->t σ H Q
noncomputable def PAs(es:List Expr)(f:FA):Prop:=∃t,PA X es t/\∀H₀ H O σ ds hd l Q,Ok X.K H₀ H O σ ds hd->f ds=some l->(∀vs H',Same H H'->Reps X.K H' O vs l->Q vs H')->t σ H Q
end
section
variable{X:Cx}
theorem PV.w{e:Expr}{f:FE}(h:PV X e f):PVw X e f:=by
 obtain⟨t,ht,hf⟩:=h;exact⟨t,ht,fun H₀ H O σ ds hd d Q o e q=>hf H₀ H O σ ds hd d Q o e fun v H' s r=>q v H' s (.inl r)⟩
theorem PVf.s{e:Expr}{f:FA}(h:PVf X e f):PV X e (mkL f):=by
 obtain⟨t,ht,hf⟩:=h;refine⟨t,ht,(5:)⟩;unfold mkL at e;obtain⟨l,hl,rfl⟩:=mpd e;rw[hl] at e;cases e;refine hf H₀ H O σ ds hd l Q o hl fun a xs H' s hn he r=>q _ _ s ?_;exact .lst (o.free hn) (.inl he) (r.less fun _ z=>.inr z)
theorem zL(i:Nat){x:Str}{pos:Pos}(hN:X.N[i]?=some x:=by rfl)(hv:Vis X.env.scope x:=by first | exact Or.inl rfl | exact Or.inr (Or.inl rfl) | exact Or.inr (Or.inr rfl))(hd:(6:)=false:=by decide)(hcd:(x==("__classdict__" : Str))=false:=by decide):PV X (.Name x pos) (zW i):=by
 refine⟨_,yL hN hv hd hcd,(5:)⟩;unfold zW at e;cases hs:ds[i]? with
 |none=>rw[hs] at e;cases e
 | some s =>
   rw[hs] at e;cases s with
   | v d' =>
     cases e;obtain⟨v,h1,h2⟩:=o.read hs;exact⟨v,h1,q v H (Same.refl _) h2⟩
   |no=>cases e
   |exc _=>cases e
   |fr _=>cases e
   |ob _ _=>cases e
   |own l=>cases e
theorem zH(i:Nat){x:Str}{pos:Pos}(hN:X.N[i]?=some x:=by rfl)(hv:Vis X.env.scope x:=by first | exact Or.inl rfl | exact Or.inr (Or.inl rfl) | exact Or.inr (Or.inr rfl))(hd:(6:)=false:=by decide)(hcd:(x==("__classdict__" : Str))=false:=by decide):PVw X (.Name x pos) (zI i):=by
 refine⟨_,yL hN hv hd hcd,(5:)⟩;unfold zI at e;cases hs:ds[i]? with
 |none=>rw[hs] at e;cases e
 | some s =>
   rw[hs] at e;cases s with
   | v d' =>
     cases e;obtain⟨v,h1,h2⟩:=o.read hs;exact⟨v,h1,q v H (Same.refl _) (.inl h2)⟩
   |no=>cases e
   |exc _=>cases e
   |fr _=>cases e
   |ob _ _=>cases e
   | own l =>
     cases e;obtain⟨a,xs,h1,h2,h3,h4⟩:=o.readO hs;exact⟨.ref a,h1,q _ H (Same.refl _) (.inr ⟨a,xs,l,rfl,rfl,h2,h3,h4⟩)⟩
theorem qR{i:Int}{j pos}: PV X (.Constant (.int i) j pos) (zB (.int i)):=⟨_,pe_int,fun _ H _ _ _ _ _ _ _ e q=>by cases e;exact q _ H (Same.refl _) (.int i)⟩
theorem uL{b:Bool}{j pos}: PV X (.Constant (.bool b) j pos) (zB (.bl b)):=⟨_,pe_bl,fun _ H _ _ _ _ _ _ _ e q=>by cases e;exact q _ H (Same.refl _) (.bl b)⟩
theorem qM{j pos}: PV X (.Constant .none j pos) (zB .non):=⟨_,pe_non,fun _ H _ _ _ _ _ _ _ e q=>by cases e;exact q _ H (Same.refl _) .non⟩
theorem jU{x:Str}{j pos}: PV X (.Constant (.str x) j pos) (zB (.str x)):=⟨_,pe_str,fun _ H _ _ _ _ _ _ _ e q=>by cases e;exact q _ H (Same.refl _) (.str x)⟩
theorem UI{x:Str}{v:V}{u:Value}{d:D}{pos:Pos}(hg:Gl X x)(hm:X.mg x=some u)(r:RelV v u)(hr:∀H O,Rep X.K H O v d)(hd:(6:)=false:=by decide):PV X (.Name x pos) (zB d):=
 ⟨_,UP hg hm r hd,fun _ H O _ _ _ _ _ _ e q=>by cases e;exact q _ H (Same.refl _) (hr H O)⟩
noncomputable def OpS(X:Cx)(r:R2)(op:D->D->Option D):Prop:=∀H O x y dx dy d Q,(∀a,O a->∃u:MutHO,H a=some u.1)->WRep X.K H O x dx->WRep X.K H O y dy->op dx dy=some d->(∀v H',Same H H'->Rep X.K H' O v d->Q v H')->r x y H Q
theorem LI{r:R2}{op:D->D->Option D}(hs:OpS X r op){a b:Expr}{fa fb:FE}{ta tb:TE}(ha:∀H₀ H O σ ds hd d Q,Ok X.K H₀ H O σ ds hd->fa ds=some d->(∀v H',Same H H'->WRep X.K H' O v d->Q v H')->ta σ H Q)(hb:∀H₀ H O σ ds hd d Q,Ok X.K H₀ H O σ ds hd->fb ds=some d->(∀v H',Same H H'->WRep X.K H' O v d->Q v H')->tb σ H Q) :
  ∀H₀ H O σ ds hd d Q,Ok X.K H₀ H O σ ds hd->zJ op fa fb ds=some d->(∀v H',Same H H'->Rep X.K H' O v d->Q v H')->tOp r ta tb σ H Q:=by
 intro H₀ H O σ ds hd d Q o e q;unfold zJ at e;obtain⟨dx,h1,e⟩:=bnd e;obtain⟨dy,h2,e⟩:=bnd e;refine ha H₀ H O σ ds hd dx _ o h1 fun x H1 s1 r1=>?_;refine hb H₀ H1 O σ ds hd dy _ (o.mono s1) h2 fun y H2 s2 r2=>?_;exact hs H2 O x y dx dy d Q ((o.mono s1).mono s2).dom (r1.mono s2) r2 e fun v H' s r=>q v H' ((s1.trans s2).trans s) r
theorem AM{op:Operator}{r:R2}{opD:D->D->Option D}{a b:Expr}{fa fb:FE}{pos:Pos}(ho:OpR X (kM op) r)(hs:OpS X r opD)(ha:PVw X a fa)(hb:PVw X b fb):PV X (.BinOp a op b pos) (zJ opD fa fb):=by
 obtain⟨ta,pa,ha⟩:=ha;obtain⟨tb,pb,hb⟩:=hb;exact⟨_,aCv ho pa pb,LI hs (a:=a) (b:=b) ha hb⟩
theorem RP{op:KW}{r:R2}{opD:D->D->Option D}{a b:Expr}{fa fb:FE}{pos:Pos}(ho:OpR X (eO op) r)(hs:OpS X r opD)(ha:PVw X a fa)(hb:PVw X b fb)(hm:dQ op b=false):PV X (.Compare a [op] [b] pos) (zJ opD fa fb):=by
 obtain⟨ta,pa,ha⟩:=ha;obtain⟨tb,pb,hb⟩:=hb;exact⟨_,UQ ho pa pb hm,LI hs (a:=a) (b:=b) ha hb⟩
theorem UK{op:KW}{r:R2}{opD:D->D->Option D}{a b:Expr}{fa fb:FE}{pos:Pos}(ho:OpR X (eO op) r)(hs:OpS X r opD)(ha:PVw X a fa)(hb:PVw X b fb)(hm:dQ op b=false):PTv X (.Compare a [op] [b] pos) (zT (zJ opD fa fb)):=by
 obtain⟨ta,pa,ha⟩:=ha;obtain⟨tb,pb,hb⟩:=hb;refine⟨_,UL ho pa pb hm,fun H₀ H O σ ds hd k Q o e q=>?_⟩;unfold zT at e;obtain⟨d,h,e⟩:=bnd e;refine LI hs (a:=a) (b:=b) ha hb H₀ H O σ ds hd d _ o h fun v H' s r=>?_;cases d with
 |bl c=>cases e;cases r;exact⟨_,rfl,q H' s⟩
 |_=>cases e
theorem os_add:OpS X (fun x y H Q=>rI0 (fun i j=>.int (i+j)) x y H Q\/∃i j,x=.str i/\y=.str j/\i.length+j.length<=sizeLine/\Q (.str (i++j)) H) yP:=by
 intro H O x y dx dy d Q ho rx ry e q;cases dx<;>cases dy<;>first | (simp[yP] at e;done) | skip
 . cases e;rw[rx.int',ry.int'];exact .inl ⟨_,_,rfl,rfl,q _ H (Same.refl _) (.int _)⟩
 . rename_i x y;simp only [yP] at e
   split at e
   . rename_i hl;cases e;rw[rx.str',ry.str'];exact .inr ⟨_,_,rfl,rfl,hl,q _ H (Same.refl _) (.str _)⟩
   . cases e
theorem op_addU:OpR X (kM .Add) (fun x y H Q=>rI0 (fun i j=>.int (i+j)) x y H Q\/∃i j,x=.str i/\y=.str j/\i.length+j.length<=sizeLine/\Q (.str (i++j)) H):=op_add.or RU
theorem os_sub:OpS X (rI0 fun i j=>.int (i-j)) subD:=by
 intro H O x y dx dy d Q ho rx ry e q;cases dx<;>cases dy<;>first | (simp[subD] at e;done) | skip
 cases e;rw[rx.int',ry.int'];exact⟨_,_,rfl,rfl,q _ H (Same.refl _) (.int _)⟩
noncomputable def CDivB(i j:Int):Prop:=divOk j
theorem aDf:OpR X (kM .FloorDiv) (rI CDivB fun i j=>.int (i/j)):=opI fun i j _ _ _ _ _ hc q=>by
 have e:i.fdiv j=i/j:=Int.fdiv_eq_ediv_of_nonneg _ (BQ hc.1);refine floordiv_int (by have:=hc.1;omega) ?_ (.inl (PyProof.noPylong_of_log2 hc.2));rw[e];exact q
theorem os_fdiv:OpS X (rI CDivB fun i j=>.int (i/j)) qX:=by
 intro H O x y dx dy d Q ho rx ry e q;cases dx<;>cases dy<;>first | (simp[qX] at e;done) | skip
 simp only[qX] at e
 split at e
 . rename_i hc;cases e;rw[rx.int',ry.int'];exact⟨_,_,rfl,rfl,hc,q _ H (Same.refl _) (.int _)⟩
 . cases e
theorem os_mod:OpS X (rI (fun _ j=>0<j) fun i j=>.int (i%j)) jK:=by
 intro H O x y dx dy d Q ho rx ry e q;cases dx<;>cases dy<;>first | (simp[jK] at e;done) | skip
 simp only[jK] at e
 split at e
 . rename_i hc;cases e;rw[rx.int',ry.int'];exact⟨_,_,rfl,rfl,hc,q _ H (Same.refl _) (.int _)⟩
 . cases e
theorem DK{p:Int->Int->Bool}: OpS X (rI0 fun i j=>.bl (p i j)) (cmpI p):=by
 intro H O x y dx dy d Q ho rx ry e q;cases dx<;>cases dy<;>first | (simp[cmpI] at e;done) | skip
 cases e;rw[rx.int',ry.int'];exact⟨_,_,rfl,rfl,q _ H (Same.refl _) (.bl _)⟩
end
section
variable{X:Cx}
theorem PV.t{e:Expr}{f:FE}(h:PV X e f)(he:∀whole,CW e X.env whole=(do let v <- whole;fO e.pos;eC [v] (ZO v)):=by intro _;rfl):PTv X e (zT f):=by
 obtain⟨t,ht,hf⟩:=h;refine⟨_,aCe ht he,fun H₀ H O σ ds hd k Q o e q=>?_⟩;unfold zT at e;obtain⟨d,h,e⟩:=bnd e;refine hf H₀ H O σ ds hd d _ o h fun v H' s r=>?_;cases d with
 |bl c=>cases e;cases r;exact⟨_,rfl,q H' s⟩
 |_=>cases e
theorem vX{a:Expr}{pos:Pos}{c:FT}(ha:PTv X a c):PWv X (.BoolOp .And [a] pos) c:=by
 obtain⟨t,ht,hf⟩:=ha;exact⟨_,pw_and1 ht,hf⟩
theorem xL{a:Expr}{pos:Pos}{c:FT}(ha:PTv X a c):PWv X (.BoolOp .Or [a] pos) c:=by
 obtain⟨t,ht,hf⟩:=ha;exact⟨_,pw_or1 ht,hf⟩
theorem uI{a b:Expr}{rest:List Expr}{pos:Pos}{c d:FT}(ha:PTv X a c)(hb:PWv X (.BoolOp .And (b::rest) pos) d):PWv X (.BoolOp .And (a::b::rest) pos) (andT c d):=by
 obtain⟨t,ht,hf⟩:=ha;obtain⟨u,hu,hg⟩:=hb;refine⟨_,pw_and ht hu,fun H₀ H O σ ds hd k Q o e q=>?_⟩;unfold andT at e;obtain⟨b,h,e⟩:=bnd e;refine hf H₀ H O σ ds hd b _ o h fun H' s=>?_;cases b with
 |true=>exact iteT (hg H₀ H' O σ ds hd k Q (o.mono s) (by simpa using e) fun H'' s'=>q H'' (s.trans s'))
 | false =>
   have:false=k:=by simpa using e
   subst this;exact iteF (q H' s)
theorem vQ{a b:Expr}{rest:List Expr}{pos:Pos}{c d:FT}(ha:PTv X a c)(hb:PWv X (.BoolOp .Or (b::rest) pos) d):PWv X (.BoolOp .Or (a::b::rest) pos) (orT c d):=by
 obtain⟨t,ht,hf⟩:=ha;obtain⟨u,hu,hg⟩:=hb;refine⟨_,pw_or ht hu,fun H₀ H O σ ds hd k Q o e q=>?_⟩;unfold orT at e;obtain⟨b,h,e⟩:=bnd e;refine hf H₀ H O σ ds hd b _ o h fun H' s=>?_;cases b with
 |false=>exact iteF (hg H₀ H' O σ ds hd k Q (o.mono s) (by simpa using e) fun H'' s'=>q H'' (s.trans s'))
 | true =>
   have:true=k:=by simpa using e
   subst this;exact iteT (q H' s)
theorem PWv.t{e:Expr}{c:FT}(h:PWv X e c):PTv X e c:=by
 obtain⟨t,ht,hf⟩:=h;exact⟨t,ht.pt,hf⟩
theorem yY{a:Expr}{pos:Pos}{c:FT}(ha:PTv X a c):PTv X (.UnaryOp .Not a pos) (notT c):=by
 obtain⟨t,ht,hf⟩:=ha;refine⟨_,aCh ht,fun H₀ H O σ ds hd k Q o e q=>?_⟩;unfold notT at e;obtain⟨b,h,rfl⟩:=mpd e;exact hf H₀ H O σ ds hd b _ o h fun H' s=>q H' s
theorem AL{a:Expr}{op}{pos:Pos}{f:FE}(ha:PV X a f):PV X (.BoolOp op [a] pos) f:=by
 obtain⟨t,ht,hf⟩:=ha;exact⟨_,pe_one ht,hf⟩
theorem AN{a b:Expr}{rest:List Expr}{pos:Pos}{f g:FE}(ha:PV X a f)(hb:PV X (.BoolOp .And (b::rest) pos) g):PV X (.BoolOp .And (a::b::rest) pos) (andV f g):=by
 obtain⟨t,ht,hf⟩:=ha;obtain⟨u,hu,hg⟩:=hb;refine⟨_,pe_and ht hu,(5:)⟩;unfold andV at e;obtain⟨dd,h,e⟩:=bnd e;refine hf H₀ H O σ ds hd dd _ o h fun v H' s r=>?_;cases dd with
 | bl c =>
   cases r;cases c with
   |true=>exact⟨true,rfl,iteT (hg H₀ H' O σ ds hd d Q (o.mono s) e fun v H'' s'=>q v H'' (s.trans s'))⟩
   | false =>
     have:D.bl false=d:=Option.some.inj e;subst this;exact⟨false,rfl,iteF (q _ H' s (.bl false))⟩
 |_=>cases e
theorem pv_or{a b:Expr}{rest:List Expr}{pos:Pos}{f g:FE}(ha:PV X a f)(hb:PV X (.BoolOp .Or (b::rest) pos) g):PV X (.BoolOp .Or (a::b::rest) pos) (orV f g):=by
 obtain⟨t,ht,hf⟩:=ha;obtain⟨u,hu,hg⟩:=hb;refine⟨_,pe_or ht hu,(5:)⟩;unfold orV at e;obtain⟨dd,h,e⟩:=bnd e;refine hf H₀ H O σ ds hd dd _ o h fun v H' s r=>?_;cases dd with
 | bl c =>
   cases r;cases c with
   |false=>exact⟨false,rfl,iteF (hg H₀ H' O σ ds hd d Q (o.mono s) e fun v H'' s'=>q v H'' (s.trans s'))⟩
   | true =>
     have:D.bl true=d:=Option.some.inj e;subst this;exact⟨true,rfl,iteT (q _ H' s (.bl true))⟩
 |_=>cases e
theorem uK{c a b:Expr}{pos:Pos}{fc:FT}{f g:FE}(hc:PTv X c fc)(ha:PV X a f)(hb:PV X b g):PV X (.IfExp c a b pos) (ifV fc f g):=by
 obtain⟨tc,pc,hc⟩:=hc;obtain⟨t,ht,hf⟩:=ha;obtain⟨u,hu,hg⟩:=hb;refine⟨_,aCx pc ht hu,(5:)⟩;unfold ifV at e;obtain⟨k,h,e⟩:=bnd e;refine hc H₀ H O σ ds hd k _ o h fun H' s=>?_;cases k with
 |true=>exact iteT (hf H₀ H' O σ ds hd d Q (o.mono s) (by simpa using e) fun v H'' s'=>q v H'' (s.trans s'))
 |false=>exact iteF (hg H₀ H' O σ ds hd d Q (o.mono s) (by simpa using e) fun v H'' s'=>q v H'' (s.trans s'))
theorem yJ:PAv X [] zM:=⟨_,jW,fun _ H _ _ _ _ _ _ _ e q=>by cases e;exact q _ H (Same.refl _) .nil⟩
theorem zN:PAs X [] zM:=⟨_,jW,fun _ H _ _ _ _ _ _ _ e q=>by cases e;exact q _ H (Same.refl _) .nil⟩
theorem jJ{e:Expr}{es:List Expr}{f:FE}{g:FA}(ha:PVw X e f)(hr:PAv X es g)(hs:aF (e::es) X.env=(false,bT e X.env)::aF es X.env:=by rfl):PAv X (e::es) (zA f g):=by
 obtain⟨t,ht,hf⟩:=ha;obtain⟨u,hu,hg⟩:=hr;refine⟨_,qY ht hu hs,fun H₀ H O σ ds hd l Q o e q=>?_⟩;unfold zA at e;obtain⟨x,h,e⟩:=bnd e;obtain⟨r,h2,rfl⟩:=mpd e;refine hf H₀ H O σ ds hd x _ o h fun v H1 s1 r1=>?_;refine hg H₀ H1 O σ ds hd r _ (o.mono s1) h2 fun vs H2 s2 r2=>?_;exact q _ H2 (s1.trans s2) (.cons (r1.mono s2) r2)
theorem zD{e:Expr}{es:List Expr}{f:FE}{g:FA}(ha:PV X e f)(hr:PAs X es g)(hs:aF (e::es) X.env=(false,bT e X.env)::aF es X.env:=by rfl):PAs X (e::es) (zA f g):=by
 obtain⟨t,ht,hf⟩:=ha;obtain⟨u,hu,hg⟩:=hr;refine⟨_,qY ht hu hs,fun H₀ H O σ ds hd l Q o e q=>?_⟩;unfold zA at e;obtain⟨x,h,e⟩:=bnd e;obtain⟨r,h2,rfl⟩:=mpd e;refine hf H₀ H O σ ds hd x _ o h fun v H1 s1 r1=>?_;refine hg H₀ H1 O σ ds hd r _ (o.mono s1) h2 fun vs H2 s2 r2=>?_;exact q _ H2 (s1.trans s2) (.cons (r1.mono s2) r2)
theorem qG{H:Hp}{p:aA}(h:H p=none)(o:HO):Same H (upd H p o):=fun b u q=>by rw[upd_ne (qT q h)];exact q
theorem qO{es:List Expr}{pos:Pos}{g:FA}(h:PAs X es g):PVf X (.List es pos) (zU g):=by
 obtain⟨t,ht,hf⟩:=h;refine⟨_,aCw ht,fun H₀ H O σ ds hd l Q o e q=>?_⟩;unfold zU at e;cases h:g ds with
 |none=>rw[h] at e;cases e
 | some l' =>
   rw[h] at e;simp only[aQ] at e
   split at e
   . rename_i hl;cases e;refine hf H₀ H O σ ds hd l _ o h fun vs H1 s1 r1=>⟨by rw [r1.length]; exact hl,fun p hp=>?_⟩
     refine q p vs _ (s1.trans (qG hp _)) (s1.free hp) bM ?_;exact(r1.more hp).mono (qG hp _)
   . cases e
theorem qW{es:List Expr}{x1}{pos:Pos}{g:FA}(h:PAs X es g):PV X (.Tuple es x1 pos) (mkT (zU g)):=by
 obtain⟨t,ht,hf⟩:=h;refine⟨_,aCu ht,(5:)⟩;unfold mkT zU at e;cases h:g ds with
 |none=>rw[h] at e;cases e
 | some l' =>
   rw[h] at e;simp only[aQ] at e
   split at e
   . rename_i hl;cases e;refine hf H₀ H O σ ds hd l' _ o h fun vs H1 s1 r1=>⟨by rw [r1.length]; exact hl,fun p hp=>?_⟩
     refine q _ _ (s1.trans (qG hp _)) ?_;exact .tup ((o.mono s1).free hp) (.inl bM) (r1.mono (qG hp _))
   . cases e
theorem VV{K:Frag}{H:Hp}{O:aA->Prop}{xs:List V}{l:List D}{i:Int}{d:D}(r:Reps K H O xs l)(e:atI l i=some d):∃v,atI xs i=some v/\Rep K H O v d:=by
 unfold atI at e ⊢;rw[r.length];cases h:ixN l.length i with
 |none=>rw[h] at e;cases e
 | some j =>
   rw[h] at e;exact r.get e
theorem ix_sem{K:Frag}{H:Hp}{O:aA->Prop}{x y:V}{dx dy d:D}{Q:VK}(rx:WRep K H O x dx)(ry:WRep K H O y dy)(e:ixD dx dy=some d)(q:∀v H',Same H H'->Rep K H' O v d->Q v H'):rIx K x y H Q:=by
 cases dx<;>cases dy<;>first | (simp[ixD] at e;done) | skip
 . simp only [ixD] at e
   split at e
   . rename_i hl;rw[rx.str',ry.int'];rename_i z i;obtain⟨c,hc,rfl⟩:=mpd e;exact .inr (.inr ⟨_,_,c,rfl,rfl,hl,hc,q _ H (Same.refl _) (.str _)⟩)
   . cases e
 . obtain⟨a, xs, rfl, hs, r⟩ := rx.seqT;rw[ry.int'];obtain⟨v,h1,h2⟩:=VV r e;exact .inr (.inl ⟨a,xs,_,v,rfl,rfl,hs,h1,q _ H (Same.refl _) h2⟩)
 . obtain⟨a, xs, rfl, hs, r⟩ := rx.seqL;rw[ry.int'];obtain⟨v,h1,h2⟩:=VV r e;exact .inl ⟨a,xs,_,v,rfl,rfl,hs,h1,q _ H (Same.refl _) h2⟩
theorem os_ix:OpS X (rIx X.K) ixD:=fun H O x y dx dy d Q ho rx ry e q=>ix_sem rx ry e q
theorem qQ{a b:Expr}{fa fb:FE}{pos:Pos}(ha:PVw X a fa)(hb:PVw X b fb)(hs:VY b:=by exact fun _ _=>rfl):PV X (.Subscript a b pos) (zJ ixD fa fb):=by
 obtain⟨ta,pa,ha⟩:=ha;obtain⟨tb,pb,hb⟩:=hb;exact⟨_,pe_ix ix_seq pa pb hs,LI os_ix (a:=a) (b:=b) ha hb⟩
end
noncomputable def RetOk(K:Frag)(H H':Hp)(v:V):Ret->Prop
 | .val d=>Rep K H' (Old H) v d
 | .fresh l=>∃a xs,v=.ref a/\H a=none/\H' a=some (.lst xs)/\Reps K H' (ins1 a (Old H)) xs l
 | .any d=>Rep K H' jB v d
 | .obj t=>∃fs,RepO K H' (fun b=>b∈fs\/Old H b) v t fs/\fs.Nodup/\∀b∈fs,H b=none
noncomputable def RetB(K:Frag)(H:Hp)(hd:Hold)(v:V):Ret->Prop
 | .any d=>∀B,HI.base B∈hd->Rep K H B v d
 |_=>True
noncomputable def spF(K:Frag)(n:Nat)(F:List D->Option Ret):Sp:=fun vs H Q _=>vs.length=n/\∃ds r,Reps K H jB vs ds/\F ds=some r/\∀v H',Same H H'->RetOk K H H' v r->Q v H'
section
variable{X:Cx}
mutual
theorem RepO.val'{K:Frag}{H:Hp}{O O':aA->Prop}:∀{v:V} {t:OT} {fs:List aA},RepO K H O v t fs->(∀a,O' a->O a/\a∉fs)->Rep K H O' v (otD t)
 |_,_,_,.val r,k=>r.less fun a z=>(k a z).1
 |_,_,_,.lst n h r,k=>by unfold otD;exact .lst (fun z=>(k _ z).2 (.head _)) (.inl h) (RepsO.val' r fun a z=>⟨(k a z).1,fun q=>(k a z).2 (.tail _ q)⟩)
 |_,_,_,.tup n h r,k=>by unfold otD;exact .tup (fun z=>n (k _ z).1) h (RepsO.val' r k)
 |_,_,_,.dct n h e r,k=>by unfold otD;exact .dct (fun z=>(k _ z).2 (.head _)) h e (RepsO.val' r fun a z=>⟨(k a z).1,fun q=>(k a z).2 (.tail _ q)⟩)
 |_,_,_,.ins c n h e r,k=>by unfold otD;exact .ins c (fun z=>(k _ z).2 (.head _)) h e (RepsO.val' r fun a z=>⟨(k a z).1,fun q=>(k a z).2 (.tail _ q)⟩)
theorem RepsO.val'{K:Frag}{H:Hp}{O O':aA->Prop}:∀{v:List V} {t:List OT} {fs:List aA},RepsO K H O v t fs->(∀a,O' a->O a/\a∉fs)->Reps K H O' v (otDs t)
 |_,_,_,.nil,_=>by unfold otDs;exact .nil
 |_,_,_,.cons h r,k=>by unfold otDs;exact .cons (RepO.val' h fun a z=>⟨(k a z).1,fun q=>(k a z).2 (aU _ q)⟩) (RepsO.val' r fun a z=>⟨(k a z).1,fun q=>(k a z).2 (aG _ q)⟩)
end
theorem LF{K:Frag}{H H':Hp}{O:aA->Prop}{v:V}{r:Ret}{d:D}(h:RetOk K H H' v r)(e:retV r=some d)(ho:∀a,O a->Old H a):Rep K H' O v d:=by
 cases r with
 |any d'=>cases e
 |val d'=>cases e;exact h.less ho
 | obj t =>
   cases e;obtain⟨fs,h1,h2,h3⟩:=h;refine h1.val' fun a z=>⟨.inr (ho a z),fun q=>?_⟩
   obtain⟨o,e,_⟩:=ho a z;rw[h3 a q] at e;cases e
 | fresh l =>
   cases e;obtain⟨a,xs,rfl,h1,h2,h3⟩:=h;refine .lst (fun z=>?_) (.inl h2) (h3.less fun b z=>.inr (ho b z));obtain⟨o,e,_⟩:=ho a z;rw[h1] at e;cases e
theorem LG{K:Frag}{H H':Hp}{O:aA->Prop}{v:V}{r:Ret}{l:List D}(h:RetOk K H H' v r)(e:retF r=some l)(ho:∀a,O a->Old H a):∃a xs,v=.ref a/\H a=none/\H' a=some (.lst xs)/\Reps K H' (ins1 a O) xs l:=by
 cases r with
 |any d'=>cases e
 |val d'=>cases e
 |obj t=>cases e
 | fresh l' =>
   cases e;obtain⟨a,xs,rfl,h1,h2,h3⟩:=h;exact⟨a,xs,rfl,h1,h2,h3.less fun b z=>z.elim .inl fun z=>.inr (ho b z)⟩
section
variable{k:Nat}{f:aA}{fd:aJ}{ps:List Str}{n:Nat}{F:List D->Option Ret}{x:Str}{p pos:Pos}{e:Expr}{es:List Expr}{g:FA}
end
noncomputable def CallS(X:Cx)(r:List V->Hp->VK->Prop)(F:List D->Option D):Prop:=∀H O vs l d Q,(∀a,O a->∃u:MutHO,H a=some u.1)->IK (WRep X.K H O) vs l->F l=some d->(∀v H',Same H H'->Rep X.K H' O v d->Q v H')->r vs H Q
theorem vW{x:Str}{p pos:Pos}{e:Expr}{es:List Expr}{id:String}{r:List V->Hp->VK->Prop}{F:List D->Option D}{g:FA}(hc:CallR X (.builtin id) r)(hs:CallS X r F)(hm:X.mg x=none)(hv:gX x=some (.builtin id))(ha:PAv X (e::es) g)(hg:Gl X x)(hn:x≠"__name__":=by decide)(hdb:(6:)=false:=by decide)(he:aF (e::es) X.env=(false,bT e X.env)::aF es X.env:=by rfl)(hpl:(cP pos (aF es X.env)).any (·.1)=false:=by rfl) :
  PV X (.Call (.Name x p) (e::es) [] pos) (callB F g):=by
 obtain⟨t,ht,hf⟩:=ha;refine⟨_,wL hc hg hm hv ht hn hdb he hpl,(5:)⟩;unfold callB at e;obtain⟨l,h,e⟩:=bnd e;refine hf H₀ H O σ ds hd l _ o h fun vs H1 s1 r1=>?_;exact hs H1 O vs l d Q (o.mono s1).dom r1 e fun v H' s' r=>q v H' (s1.trans s') r
theorem ZH:CallR X (.builtin "len") (fun xs H Q=>(∃p ys,xs=[.ref p]/\(SqL X.K H p ys\/SqT X.K H p ys)/\Q (.int ys.length) H)\/∃z,xs=[.str z]/\z.length<=sizeLine/\Q (.int z.length) H):=MU.or MT
theorem cs_len:CallS X (fun xs H Q=>(∃p ys,xs=[.ref p]/\(SqL X.K H p ys\/SqT X.K H p ys)/\Q (.int ys.length) H)\/∃z,xs=[.str z]/\z.length<=sizeLine/\Q (.int z.length) H) lenD:=by
 intro H O vs l d Q ho r e q;unfold lenD at e
 split at e
 . cases e;cases r with
   | cons r rn =>
     cases rn;obtain⟨a,xs,rfl,hs,rs⟩:=r.seqL;refine .inl ⟨a,xs,rfl,.inl hs,?_⟩;rw[rs.length];exact q _ H (Same.refl _) (.int _)
 . cases e;cases r with
   | cons r rn =>
     cases rn;obtain⟨a,xs,rfl,hs,rs⟩:=r.seqT;refine .inl ⟨a,xs,rfl,.inr hs,?_⟩;rw[rs.length];exact q _ H (Same.refl _) (.int _)
 . split at e
   . rename_i hl;cases e;cases r with
     | cons r rn =>
       cases rn;rw[r.str'];exact .inr ⟨_,rfl,hl,q _ H (Same.refl _) (.int _)⟩
   . cases e
 . cases e
theorem kI{p pos:Pos}{e:Expr}{g:FA}(hm:X.mg "len" = none)(ha:PAv X [e] g)(hg:Gl X "len":=by rfl)(he:aF [e] X.env=[(false,bT e X.env)]:=by rfl) :
  PV X (.Call (.Name "len" p) [e] [] pos) (callB lenD g):=vW ZH cs_len hm PySem.boot_len ha hg (by decide) (by decide) he rfl
noncomputable def After(X:Cx)(H₀ : Hp)(hd:Hold)(E:Ends):Out->Prop
 | .nx ds=>∀σ H O,Ok X.K H₀ H O σ ds hd->E.nx σ H
 | .bk ds=>∀σ H O,Ok X.K H₀ H O σ ds hd->E.bk σ H
 | .ct ds=>∀σ H O,Ok X.K H₀ H O σ ds hd->E.ct σ H
 | .rt r=>∀v H,Same H₀ H->RetOk X.K H₀ H v r->RetB X.K H hd v r->E.rt v H
variable(X) in
noncomputable def PSv(st:Stmt)(g:FS):Prop:=∃t,PS X st t/\∀H₀ H O σ ds hd out E,Ok X.K H₀ H O σ ds hd->g ds=some out->After X H₀ hd E out->t E σ H
variable(X) in
noncomputable def PSsv(st:List Stmt)(g:FS):Prop:=∃t,PSs X st t/\∀H₀ H O σ ds hd out E,Ok X.K H₀ H O σ ds hd->g ds=some out->After X H₀ hd E out->t E σ H
theorem zS:PSsv X [] qN:=⟨_,UN,fun _ H O σ ds hd out E o e h=>by cases e;exact h σ H O o⟩
theorem zF{st:Stmt}{rest:List Stmt}{f g:FS}(h1:PSv X st f)(h2:PSsv X rest g):PSsv X (st::rest) (qF f g):=by
 obtain⟨t,ht,hf⟩:=h1;obtain⟨u,hu,hg⟩:=h2;refine⟨_,wT ht hu,(3:)⟩;unfold qF at e;obtain⟨o1,h1,e⟩:=bnd e;refine hf H₀ H O σ ds hd o1 _ o h1 ?_;cases o1 with
 |nx ds'=>exact fun σ' H' O' o'=>hg H₀ H' O' σ' ds' hd out E o' e h
 |rt r=>cases e;exact h
 |bk ds'=>cases e;exact h
 |ct ds'=>cases e;exact h
theorem zG{st:Stmt}{f:FS}(h1:PSv X st f):PSsv X [st] f:=by
 obtain⟨t,ht,hf⟩:=h1;exact⟨_,LO ht,hf⟩
theorem LN{pos:Pos}: PSv X (.Continue pos) (fun ds=>some (.ct ds)):=⟨_,OD,fun _ H O σ ds hd out E o e h=>by cases e;exact h σ H O o⟩
theorem qD{c:Expr}{a b:List Stmt}{pos:Pos}{fc:FT}{f g:FS}(hc:PTv X c fc)(ha:PSsv X a f)(hb:PSsv X b g):PSv X (.If c a b pos) (ifG fc f g):=by
 obtain⟨tc,pc,hc⟩:=hc;obtain⟨t,ht,hf⟩:=ha;obtain⟨u,hu,hg⟩:=hb;refine⟨_,UO pc ht hu,(3:)⟩;unfold ifG at e;obtain⟨k,h1,e⟩:=bnd e;refine hc H₀ H O σ ds hd k _ o h1 fun H' s=>?_;cases k with
 |true=>exact iteT (hf H₀ H' O σ ds hd out E (o.mono s) (by simpa using e) h)
 |false=>exact iteF (hg H₀ H' O σ ds hd out E (o.mono s) (by simpa using e) h)
theorem qA{i:Nat}{x:Str}{e:Expr}{pos pos':Pos}{f:FE}(hN:X.N.Nodup)(he:PV X e f)(hi:X.N[i]?=some x:=by rfl)(hx:Loc X.env.scope x:=by first | exact Or.inl rfl | exact Or.inr rfl)(hs:dF e (some (.Name x pos')) pos.line X.env=pure false:=by rfl)(hf:X.fn x=true\/X.env.scope.names.lookup x=some .local:=by first | exact .inl rfl | exact .inr rfl):PSv X (.Assign [.Name x pos'] e pos) (jY i f):=by
 obtain⟨t,ht,hg⟩:=he;refine⟨_,LP hN hi hx ht hs hf,(3:)⟩;unfold jY at e;obtain⟨d,h1,rfl⟩:=mpd e;exact hg H₀ H O σ ds hd d _ o h1 fun v H' s r=>h _ _ _ ((o.mono s).set r)
theorem xS{i:Nat}{x:Str}{e:Expr}{pos pos':Pos}{f:FA}(hN:X.N.Nodup)(he:PVf X e f)(hi:X.N[i]?=some x:=by rfl)(hx:Loc X.env.scope x:=by first | exact Or.inl rfl | exact Or.inr rfl)(hs:dF e (some (.Name x pos')) pos.line X.env=pure false:=by rfl)(hf:X.fn x=true\/X.env.scope.names.lookup x=some .local:=by first | exact .inl rfl | exact .inr rfl):PSv X (.Assign [.Name x pos'] e pos) (setOG i f):=by
 obtain⟨t,ht,hg⟩:=he;refine⟨_,LP hN hi hx ht hs hf,(3:)⟩;unfold setOG at e;obtain⟨l,h1,rfl⟩:=mpd e;exact hg H₀ H O σ ds hd l _ o h1 fun a xs H' s hn he r=>h _ _ _ (o.setO s hn he r)
theorem zQ{e:Expr}{pos:Pos}{f:FE}(he:PVw X e f):PSv X (.Return (some e) pos) (retG f):=by
 obtain⟨t,ht,hg⟩:=he;refine⟨_,AO ht,(3:)⟩;unfold retG at e;obtain⟨d,h1,e⟩:=bnd e;simp only[aQ,flatR] at e
 split at e
 . rename_i hf;cases e;exact hg H₀ H O σ ds hd d _ o h1 fun v H' s r=>h _ _ (o.same.trans s) (Rep.flatten (fun a z=>Old.mono (o.same.trans s) z) hf r.any) True.intro
 . cases e
theorem jS{e:Expr}{pos:Pos}{f:FA}(he:PVf X e f):PSv X (.Return (some e) pos) (retOG f):=by
 obtain⟨t,ht,hg⟩:=he;refine⟨_,AO ht,(3:)⟩;unfold retOG at e;obtain⟨l,h1,e⟩:=bnd e;simp only[aQ,flatF] at e
 split at e
 . rename_i hf;cases e;refine hg H₀ H O σ ds hd l _ o h1 fun a xs H' s hn he r=>h _ _ (o.same.trans s) ⟨a,xs,rfl,o.same.free hn,he,Reps.flatten (fun b z=>?_) hf r⟩ True.intro;rcases z with rfl | z
   . exact⟨_,he,rfl⟩
   . exact Old.mono (o.same.trans s) z
 . cases e
theorem vU(i:Nat){x:Str}{pos pos':Pos}(hN:X.N[i]?=some x:=by rfl)(hv:Vis X.env.scope x:=by first | exact Or.inl rfl | exact Or.inr (Or.inl rfl) | exact Or.inr (Or.inr rfl))(hd:(6:)=false:=by decide)(hcd:(x==("__classdict__" : Str))=false:=by decide):PSv X (.Return (some (.Name x pos')) pos) (retXG i):=by
 refine⟨_,AO (yL hN hv hd hcd),(3:)⟩;unfold retXG at e;cases hs:ds[i]? with
 |none=>rw[hs] at e;cases e
 | some s =>
   rw[hs] at e;cases s with
   |v d'=>cases e
   |no=>cases e
   |exc _=>cases e
   |fr _=>cases e
   |ob _ _=>cases e
   | own l =>
     simp only[flatF] at e
     split at e
     . rename_i hf;cases e;obtain ⟨a,xs,h1,h2,h3,h4⟩:=o.readO hs;refine ⟨.ref a,h1,h _ _ o.same ⟨a,xs,rfl,o.fresh i l a hs h1,h3,Reps.flatten (fun b z=>?_) hf h4⟩ True.intro⟩;rcases z with rfl | z
       . exact⟨_,h3,rfl⟩
       . exact Old.mono o.same z
     . cases e
theorem psv_put{i:Nat}{x:Str}{e ek:Expr}{pos p1 p2:Pos}{fk fe:FE}(he:PV X e fe)(hk:PV X ek fk)(hN:X.N[i]?=some x:=by rfl)(hv:Vis X.env.scope x:=by first | exact Or.inl rfl | exact Or.inr (Or.inl rfl) | exact Or.inr (Or.inr rfl))(hd:(6:)=false:=by decide)(hcd:(x==("__classdict__" : Str))=false:=by decide)(ha:∀v,pW (.Subscript (.Name x p1) ek p2) X.env v=(do
    let ov <- eC [v] (bT (.Name x p1) X.env)
    let iv <- eC [v,ov] (bT ek X.env)
    fO p2
    eC [v,ov,iv] (setItem ov iv v)
    release [v,ov,iv] []):=by intro _;rfl)(hs:TM [.Subscript (.Name x p1) ek p2] e pos.line X.env=pure false:=by rfl)(hw:TN [.Subscript (.Name x p1) ek p2] e X.env=pure none:=by rfl)(h1:(gK [.Subscript (.Name x p1) ek p2] X.env).map (·.2)=[pW (.Subscript (.Name x p1) ek p2) X.env]:=by rfl):PSv X (.Assign [.Subscript (.Name x p1) ek p2] e pos) (putG i fk fe):=by
 obtain⟨te,pe,he⟩:=he;obtain⟨tk,pk,hk⟩:=hk;refine⟨_,aCs pe (pg_sub (yL hN hv hd hcd) pk aBi ha) hs hw h1,(3:)⟩;unfold putG at e;cases hsl:ds[i]? with
 |none=>rw[hsl] at e;cases e
 | some s =>
   rw[hsl] at e;cases s with
   |v d'=>cases e
   |no=>cases e
   |exc _=>cases e
   |fr _=>cases e
   |ob _ _=>cases e
   | own l =>
     simp only at e;obtain⟨d,h1,e⟩:=bnd e;obtain⟨kd,h2,e⟩:=bnd e;cases kd with
     | int n =>
       simp only at e;obtain⟨j,h3,rfl⟩:=mpd e;refine he H₀ H O σ ds hd d _ o h1 fun v H1 s1 r1=>?_;obtain⟨a,xs,q1,q2,q3,q4⟩:=(o.mono s1).readO hsl;refine⟨.ref a,q1,?_⟩;refine hk H₀ H1 O σ ds hd _ _ (o.mono s1) h2 fun kv H2 s2 r2=>?_;cases r2;refine⟨a,xs,n,j,rfl,rfl,s2 _ _ q3,by rw[q4.length];exact h3,?_⟩;exact h _ _ _ (((o.mono s1).mono s2).modify hsl q1 ((q4.mono s2).set (r1.mono s2) j))
     |_=>cases e
theorem DG{i:Nat}{x:Str}{e:Expr}{pos p1 p2 p3:Pos}{fe:FE}(he:PV X e fe)(hN:X.N[i]?=some x:=by rfl)(hv:Vis X.env.scope x:=by first | exact Or.inl rfl | exact Or.inr (Or.inl rfl) | exact Or.inr (Or.inr rfl))(hd:(6:)=false:=by decide)(hcd:(x==("__classdict__" : Str))=false:=by decide)(hfew:((cP p3 (aF [e] X.env)).all (fun x=>!x.1)&&(fN p3 (dJ [] X.env)).all (fun x=>x.1.isSome)
    && decide ([e].length+([]:List sJ).length+(if ([]:List sJ).isEmpty then 0 else 1)<30))=true:=by rfl)(hline:(p2.endLine==p3.line)=true:=by rfl)(hs:aF [e] X.env=(false,bT e X.env)::aF [] X.env:=by rfl)(hbase:eJ (.Name x p1) "append" X.env (bT (.Name x p1) X.env)=bT (.Name x p1) X.env:=by rfl)(hsw:dF (.Call (.Attribute (.Name x p1) "append" p2) [e] [] p3) none pos.line X.env=pure false:=by rfl) :
  PSv X (.Expr (.Call (.Attribute (.Name x p1) "append" p2) [e] [] p3) pos) (appG i fe):=by
 obtain⟨te,pe,he⟩:=he;refine⟨_,xC (aDa iM HE HD JN (yL hN hv hd hcd) (qY pe jW hs) hbase hfew hline hs rfl) hsw,(3:)⟩;unfold appG at e;cases hsl:ds[i]? with
 |none=>rw[hsl] at e;cases e
 | some s =>
   rw[hsl] at e;cases s with
   |v d'=>cases e
   |no=>cases e
   |exc _=>cases e
   |fr _=>cases e
   |ob _ _=>cases e
   | own l =>
     simp only at e;obtain⟨d,h1,e⟩:=bnd e
     split at e
     . rename_i hl;cases e;obtain⟨a,xs,q1,q2,q3,q4⟩:=o.readO hsl;refine⟨.ref a,q1,.inl ⟨rfl,xs,SqL.of q3⟩,?_⟩;refine he H₀ H O σ ds hd d _ o h1 fun v H1 s1 r1=>?_;refine⟨a,xs,v,rfl,rfl,s1 _ _ q3,by rw[q4.length];exact hl,?_⟩;exact h _ _ _ ((o.mono s1).modify hsl q1 ((q4.mono s1).append (.cons r1 .nil)))
     . cases e
theorem VX(n:Nat)(ds:List D)(i:Nat)(r:Option Nat)(t:OT):(args n ds)[i]?≠some (.ob r t):=fun e=>by
 unfold args at e
 by_cases hi:i<ds.length
 . rw [bN (by simpa using hi), bA] at e;cases h:ds[i]? with
   |none=>rw[h] at e;cases e
   |some d=>rw[h] at e;cases e
 . rw [cW (by simpa using hi), cV] at e
   split at e<;>cases e
theorem OO{K:Frag}{H:Hp}{N:List Str}{vs:List V}{ds:List D}(r:Reps K H jB vs ds):Ok K H H jB (L2.start N vs) (args N.length ds) []:=by
 have hl:=r.length
 have no:∀i,IsOwn (args N.length ds) i->False:=fun i ⟨l,e⟩=>by
  unfold args at e
  by_cases hi:i<ds.length
  . rw [bN (by simpa using hi), bA] at e;cases h:ds[i]? with
    |none=>rw[h] at e;cases e
    |some d=>rw[h] at e;cases e
  . rw [cW (by simpa using hi), cV] at e
    split at e<;>cases e
 refine⟨Same.refl _,fun i l a e _=>(no i ⟨l,e⟩).elim,fun _ z=>z.elim,by simp[L2.start,args,hl],fun i s e=>?_,fun i j a _ hi _ _ _=>no i hi,(fun p hp=>nomatch hp),.no (VX _ _)⟩;unfold args at e;unfold L2.start
 by_cases hi:i<ds.length
 . rw[bN (by simpa using hi), bA] at e;rw[bN (by simpa[hl] using hi),bA];obtain⟨d,h,rfl⟩:=mpd e;obtain⟨v,h1,h2⟩:=r.get h;rw[h1];exact jZ h2
 . rw [cW (by simpa using hi), cV] at e
   split at e
   . cases e;exact jA
   . cases e
noncomputable def Does(g:FS)(n:Nat)(ds:List D)(r:Ret):Prop:=g (args n ds)=some (.rt r)\/(r=.val .non/\∃ds',g (args n ds)=some (.nx ds'))
theorem zY{P:aW}{w:bR}{K:Frag}{mg:Str->Option Value}{base:Heap}{x qual:Str}{st:Stmt}{f:aA}{fd:aJ}{N ps:List Str}{k:Nat}{F:List D->Option Ret}(Fn:Fun K x qual st f fd)(S:FnScope N ps (zE st)){g:FS}(hbody:∀(cdv:Value) (A:bL) (outer:List Env) (s:aD) (H:Hp) (E:XK),Room k (A.deeper (fY qual (zE st) s.heap.objs.size f cdv))->PSsv (7:).nox (qL st) g)(hg:∀ds r,ds.length=ps.length->F ds=some r->Does g N.length ds r):FnOk P w K mg base CX0 (k+1) f fd ps (spF K ps.length F):=by
 refine Fn.ok S (fun vs H Q E h=>h.1) (fun cdv A outer s H vs Q E hr h=>?_);obtain⟨hl,ds,r,rv,e,q⟩:=h;obtain⟨t,ht,hf⟩:=hbody cdv A outer s H E hr;refine⟨t,ht,?_⟩;have o:=OO (N:=N) rv;rcases hg ds r (by rw[<- rv.length];exact hl) e with e' | ⟨rfl,ds',e'⟩
 . exact hf H H jB _ _ [] _ _ o e' (fun v H' s r _=>q v H' s r)
 . exact hf H H jB _ _ [] _ _ o e' (fun σ H' O o'=>q .non H' o'.same .non)
end
end FL
namespace L2
open PySem PySem.Spec PyProof.Rows
noncomputable def Its(x:Str):It:=⟨fun i _=>i<x.cps.size,fun i H v H'=>H'=H/\∃c,x.cps[i]?=some c/\v=.str ⟨#[c]⟩,fun i _=>i=x.cps.size⟩
theorem NF{P:aW}{w:bR}{K:aN}{tg:Expr}(x:Str)(t:Tok)(it:aA)(ty:String)(hn:["enumerate","zip","dict_itemiterator","dict_reverseitemiterator","odict_iterator","itertools.zip_longest","itertools.pairwise"].contains ty=false)(Wk:∀A:bL,A.handled=none->Walks P w A it [it] [it] x.cps.size (SignAt x) (fun i h=>h.IsStrIter it ty x t i))(hself:∀(A:bL) (i:Nat) (s:aD) (Q:Value->aD->Prop) (E:Value->aD->Prop),s.heap.IsStrIter it ty x t i->Q (.ref it) s->bF (bE P w) A (pyIter (.ref it)) Q E s):Turn P w K tg (Its x) [it] it (fun i h=>h.IsStrIter it ty x t i) where
 mem:=by simp
 obj:=fun i h st b hb=>by
  have e:b=it:=by simpa using hb
  subst e;obtain⟨o,e,c,d⟩:=st;exact⟨o,e,fun v z=>by rw[d] at z;cases z⟩
 keep:=fun i h h' st k=>by
  obtain⟨o,e,r⟩:=st;exact⟨o,k it (by simp) o e,r⟩
 item:=by
  intro X hP hw hK hc i aC s σ H E I hf st hg;subst hP hw hK;obtain⟨f0,f1,f2,f3,f4,f5⟩:=hf it (by simp);refine(Wk X.A (I.ok.hd hc)).item i s _ _ hg st fun v h' tk hv st' kk=>?_;obtain⟨c,u,hc',rfl⟩:=hv;have I1:Inv X aC σ H { s with heap:=h',toks:=tk }:=I.turned (fun b o hb e=>kk b o (by simpa using hb) e) f0 f1 f3 f4 f5;obtain⟨o,e,c1,d⟩:=id st';exact⟨_,rfl,JW (s:={ s with heap:=h',toks:=tk }) e c1 d hn ⟨.str ⟨#[c]⟩,H,I1,⟨u,rfl⟩,⟨rfl,c,hc',rfl⟩,st',fun b hb=>(hf b hb).1⟩⟩
 done:=by
  intro X hP hw hK hc i aC s σ H E I hf st hg;subst hP hw hK;obtain⟨f0,f1,f2,f3,f4,f5⟩:=hf it (by simp);have hg':i=x.cps.size:=hg;subst hg';exact(Wk X.A (I.ok.hd hc)).done s _ _ st fun h' tk eb=>⟨rfl,I.turned (fun b o hb e=>eb b o (by simpa using hb) e) f0 f1 f3 f4 f5⟩
 self:=hself
section
variable{X:Cx}{tg:Expr}
noncomputable def iStr(tl:TE):TI:=fun σ H R=>tl σ H fun x H1=>∃z,x=.str z/\R (Its z) H1
theorem pi_str{l:Expr}{tl:TE}(hl:PE X l tl):PI X tg l (iStr tl):=by
 intro aC s σ H R I h;refine thn (hl aC s σ H _ I h) fun v s1 zq=>?_;obtain⟨x,H1,I1,r1,q1⟩:=zq;obtain⟨z,e,q⟩:=q1;subst e;obtain⟨t,rfl⟩:=r1;cases ha:z.cps.all (· < 128)
 . refine wpAny_pyIter_wide ha ⟨s1.heap.objs.size, [s1.heap.objs.size], _, _, H1, rfl, I1.kept (t' := s1.toks) fun b o e => aL _ e, NF z t _ "str_iterator" (by decide) (fun A hA => Walks.strWide hA _ z t) (fun _ _ _ _ _ st h => wpAny_pyIter_striter_wide st h), ⟨_, bC _ rfl, rfl, rfl⟩, fun b hb => ?_, q⟩;have e:b=s1.heap.objs.size:=by simpa using hb
   subst e;exact I1.fpOk (aY _) (I1.hok.fresh (aY _))
 . refine wpAny_pyIter_ascii ha ⟨s1.heap.objs.size, [s1.heap.objs.size], _, _, H1, rfl, I1.kept (t' := s1.toks) fun b o e => aL _ e, NF z t _ "str_ascii_iterator" (by decide) (fun A hA => Walks.strAscii hA _ z t) (fun _ _ _ _ _ st h => wpAny_pyIter_striter_ascii st h), ⟨_, bC _ rfl, rfl, rfl⟩, fun b hb => ?_, q⟩;have e:b=s1.heap.objs.size:=by simpa using hb
   subst e;exact I1.fpOk (aY _) (I1.hok.fresh (aY _))
end
end L2
namespace FL
open PySem PySem.Spec PyProof.Rows L2
noncomputable def Wlk(K:Frag)(J:It)(p:V×D)(items:List D):Prop:=∀H O,(∀a,O a->∃u:MutHO,H a=some u.1)->Rep K H O p.1 p.2 →
 (∀i d,items[i]?=some d->J.go i H/\∀x H',J.yld i H x H'->Same H H'/\Rep K H' O x d)/\J.stop items.length H
section
variable{X:Cx}
variable(X) in
noncomputable def PIv(tg iter:Expr)(fi:FA):Prop:=∃wi,PI X tg iter wi/\∀H₀ H O σ ds hd items R,Ok X.K H₀ H O σ ds hd->fi ds=some items →
 (∀J p H',Same H H'->Rep X.K H' O p.1 p.2->Wlk X.K J p items->R J H')->wi σ H R
theorem aAu{K:Frag}{a:aA}{l:List D}: Wlk K (Itl K a) (.ref a,.lst l) l:=by
 intro H O _ r;obtain⟨b,xs,e,hs,rs⟩:=WRep.seqL (.inl r);cases e;refine⟨fun i d hd=>?_,⟨xs,hs,by rw[rs.length];exact aY _⟩⟩;obtain⟨v,h1,h2⟩:=rs.get hd;refine⟨⟨xs,v,hs,h1⟩,fun x H' y=>?_⟩;obtain⟨rfl,y⟩:=y;have:=y xs hs;rw[h1] at this;cases this;exact⟨Same.refl _,h2⟩
theorem wlk_tup{K:Frag}{a:aA}{l:List D}: Wlk K (Itt K a) (.ref a,.tup l) l:=by
 intro H O _ r;obtain⟨b,xs,e,hs,rs⟩:=WRep.seqT (.inl r);cases e;refine⟨fun i d hd=>?_,⟨xs,hs,by rw[rs.length];exact aY _⟩⟩;obtain⟨v,h1,h2⟩:=rs.get hd;refine⟨⟨xs,v,hs,h1⟩,fun x H' y=>?_⟩;obtain⟨rfl,y⟩:=y;have:=y xs hs;rw[h1] at this;cases this;exact⟨Same.refl _,h2⟩
theorem IM{K:Frag}{lo:Int}{n:Nat}: Wlk K (Itr lo n) (.non,.non) (iC lo n):=by
 intro H O _ r;have hl:(iC lo n).length=n:=by simp[iC]
 refine⟨fun i d hd=>?_,show n<=_ by rw[hl];exact aY _⟩
 have hi:i<n:=by
  have:=(aT.mp hd).1
  rwa [hl] at this
 refine⟨hi,fun x H' y=>?_⟩;obtain⟨rfl,rfl⟩:=y
 have:d=D.int (lo+(i:Int)):=by
  simp only[iC,bA,List.getElem?_range hi,cR] at hd;exact(Option.some.inj hd).symm
 subst this;exact⟨Same.refl _,.int _⟩
theorem wlk_str{K:Frag}{x:Str}: Wlk K (Its x) (.non,.non) (sgns x):=by
 intro H O _ r;have hl:(sgns x).length=x.cps.size:=by simp[sgns]
 refine⟨fun i d hd=>?_,show _=x.cps.size from hl⟩
 have hi:i<x.cps.size:=by
  have:=(aT.mp hd).1
  rwa [hl] at this
 refine⟨hi,fun v H' y=>?_⟩;obtain⟨rfl,c,hc,rfl⟩:=y
 have:d=D.str ⟨#[c]⟩:=by
  simp only[sgns,bA,rA,hc,cR] at hd;exact(Option.some.inj hd).symm
 subst this;exact⟨Same.refl _,.str _⟩
theorem piv_str{tg e:Expr}{f:FE}(h:PV X e f):PIv X tg e (viaA f asS):=by
 obtain⟨t,ht,hf⟩:=h;refine⟨_,pi_str ht,fun H₀ H O σ ds hd items R o e q=>?_⟩;unfold viaA at e;obtain⟨d,h1,e⟩:=bnd e;cases d with
 | str x =>
   cases e;refine hf H₀ H O σ ds hd _ _ o h1 fun v H' s r=>?_;cases r;exact⟨x,rfl,q _ (.non,.non) H' s .non wlk_str⟩
 |_=>cases e
theorem EW{tg e:Expr}{p pos:Pos}{f:FE}(hm:X.mg "range" = none)(h:PV X e f)(hg:Gl X "range":=by rfl)(hs:aF [e] X.env=[(false,bT e X.env)]:=by rfl):PIv X tg (.Call (.Name "range" p) [e] [] pos) (rng1 f):=by
 obtain⟨t,ht,hf⟩:=h;refine⟨_,XA hg hm (qY ht jW hs) hs,fun H₀ H O σ ds hd items R o e q=>?_⟩;unfold rng1 at e;obtain⟨d,h1,e⟩:=bnd e;cases d with
 | int j =>
   simp only at e
   split at e
   . rename_i hj;cases e;refine hf H₀ H O σ ds hd _ _ o h1 fun v H' s r=>?_;cases r;exact⟨j,rfl,hj.1,hj.2,q _ (.non,.non) H' s .non IM⟩
   . cases e
 |_=>cases e
variable(X) in
noncomputable def PGv(tg:Expr)(ga:D->List Sl->Option (List Sl)):Prop:=∃g,PG X tg g/\∀H₀ H O σ ds hd v d ds' Q,Ok X.K H₀ H O σ ds hd->Rep X.K H O v d->ga d ds=some ds'->(∀σ',Ok X.K H₀ H O σ' ds' hd->Q σ' H)->g v σ H Q
variable(X) in
noncomputable def PGsv(tgs:List Expr)(ga:List D->List Sl->Option (List Sl)):Prop:=∃g,PGs X tgs g/\∀H₀ H O σ ds hd vs l ds' Q,Ok X.K H₀ H O σ ds hd->Reps X.K H O vs l->ga l ds=some ds'->(∀σ',Ok X.K H₀ H O σ' ds' hd->Q σ' H)->g vs σ H Q
theorem zX{i:Nat}{x:Str}{pos:Pos}(hN:X.N.Nodup)(hi:X.N[i]?=some x:=by rfl)(hx:Loc X.env.scope x:=by first | exact Or.inl rfl | exact Or.inr rfl)(hf:X.fn x=true\/X.env.scope.names.lookup x=some .local:=by first | exact .inl rfl | exact .inr rfl):PGv X (.Name x pos) (zZ i):=
 ⟨_,pg_name hN hi hx hf,fun H₀ H O σ ds hd v d ds' Q o r e q=>by cases e;exact q _ (o.set r)⟩
theorem yZ:PGsv X [] tgNil:=⟨_,pgs_nil,fun H₀ H O σ ds hd vs l ds' Q o r e q=>by
 cases r with
 |nil=>cases e;exact⟨rfl,q _ o⟩
 |cons _ _=>cases e⟩
theorem qK{e:Expr}{es:List Expr}{g:D->List Sl->Option (List Sl)}{h:List D->List Sl->Option (List Sl)}(h1:PGv X e g)(h2:PGsv X es h)(hs:(gK (e::es) X.env).map (·.2)=pW e X.env::(gK es X.env).map (·.2):=by rfl):PGsv X (e::es) (qH g h):=by
 obtain⟨t,ht,hf⟩:=h1;obtain⟨u,hu,hg⟩:=h2;refine⟨_,aCt ht hu hs,fun H₀ H O σ ds hd vs l ds' Q o r e q=>?_⟩;cases r with
 |nil=>cases e
 | cons r1 rr =>
   rename_i v d vr dr;simp only[qH] at e;obtain⟨ds1,h1,e⟩:=bnd e;exact⟨v,vr,rfl,hf H₀ H O σ ds hd v d ds1 _ o r1 h1 fun σ' o'=>hg H₀ H O σ' ds1 hd vr dr ds' Q o' rr e q⟩
theorem wD{es:List Expr}{k:Nat}{pos:Pos}{h:List D->List Sl->Option (List Sl)}{n:Nat}(hc:X.calm=true)(hh:PGsv X es h)(hn:(gK es X.env).length=n:=by rfl)(hst:(gK es X.env).findIdx? (·.1)=none:=by rfl):PGv X (.Tuple es k pos) (tupG n h):=by
 obtain⟨t,ht,hf⟩:=hh;refine⟨_,pg_tup hc ht hn hst,fun H₀ H O σ ds hd v d ds' Q o r e q=>?_⟩;cases d with
 | tup l =>
   simp only[tupG] at e
   split at e
   . rename_i hl;obtain⟨a,xs,rfl,hs,rs⟩:=WRep.seqT (.inl r);exact⟨a,xs,rfl,hs,by rw[rs.length];exact hl,hf H₀ H O σ ds hd xs l ds' Q o rs e q⟩
   . cases e
 |_=>cases e
theorem IZ{K:Frag}{H:Hp}{hd:Hold}{q:HI}{v:V}{r:Ret}(h:RetB K H (q::hd) v r):RetB K H hd v r:=by
 cases r with
 |any d=>exact fun B hB=>h B (aP _ hB)
 |_=>exact True.intro
theorem yU{tg iter:Expr}{body:List Stmt}{pos:Pos}{fi:FA}{ga:D->List Sl->Option (List Sl)}{g:FS}(hp:PassesOwn (8:) X.A X.env X.xe)(hc:X.calm=true)(hi:PIv X tg iter fi)(hg:PGv X tg ga)(hb:PSsv X body g)(hs:∀x,eL iter X.env x=pure x:=by intro _;rfl):PSv X (.For tg iter body [] pos) (forG fi ga g):=by
 obtain⟨wi,pi,hi⟩:=hi;obtain⟨tg',pg,hg⟩:=hg;obtain⟨tb,pb,hb⟩:=hb;refine⟨_,aCr hp hc pi pg pb hs,(3:)⟩;unfold forG at e;obtain⟨items,h1,e⟩:=bnd e;refine hi H₀ H O σ ds hd items _ o h1 fun J p H' s r wk=>?_;refine⟨fun i m σ' H'=>i<=items.length/\m=items.length-i/\∃O' ds',Ok X.K H₀ H' O' σ' ds' (HI.rep p.1 p.2::hd)/\jI ga g (items.drop i) ds'=some out,⟨items.length,eK _,rfl,O,ds,(o.mono s).holdMore (p:=HI.rep p.1 p.2) r,by simpa using e⟩,?_⟩;rintro i m σ1 H1 ⟨hi1,rfl,O1,ds1,o1,e1⟩;obtain⟨go,stop⟩:=wk H1 O1 o1.dom (o1.hold (HI.rep p.1 p.2) aV)
 by_cases hlt:i<items.length
 . right;have hd0:items[i]? = some items[i]:=cC hlt;obtain ⟨hgo,hy⟩:=go i _ hd0;rw [oJ hlt,jI] at e1;refine ⟨hgo,fun σ' H'=>i+1<=items.length/\∃ O' ds',Ok X.K H₀ H' O' σ' ds' (HI.rep p.1 p.2::hd)/\jI ga g (items.drop (i+1)) ds'=some out,fun σ' H' ⟨q1,q2⟩=>⟨items.length - (i+1),by omega,q1,rfl,q2⟩,fun x H2 y=>?_⟩;obtain ⟨s2,r2⟩:=hy x H2 y;obtain ⟨ds2,h2,e1⟩:=bnd e1;obtain ⟨o3,h3,e1⟩:=bnd e1;refine hg H₀ H2 O1 σ1 ds1 (HI.rep p.1 p.2::hd) x _ ds2 _ (o1.mono s2) r2 h2 fun σ' o'=>?_;refine hb H₀ H2 O1 σ' ds2 (HI.rep p.1 p.2::hd) o3 _ o' h3 ?_;cases o3 with
   |nx ds3=>exact fun σ3 H3 O3 ok3=>⟨hlt,O3,ds3,ok3,e1⟩
   |ct ds3=>exact fun σ3 H3 O3 ok3=>⟨hlt,O3,ds3,ok3,e1⟩
   |bk ds3=>cases e1;exact fun σ3 H3 O3 ok3=>h σ3 H3 O3 ok3.holdLess
   |rt rr=>cases e1;exact fun v H s r b=>h v H s r (IZ b)
 . left;have ei:i=items.length:=by omega
   subst ei;rw[pF,jI] at e1;cases e1;exact⟨stop,h σ1 H1 O1 o1.holdLess⟩
variable(X) in
noncomputable def PFv(ifs:List Expr)(c:FT):Prop:=∃t,PF X ifs t/\∀H₀ H O σ ds hd b Q,Ok X.K H₀ H O σ ds hd->c ds=some b->(∀H',Same H H'->Q b H')->t σ H Q
theorem uM:PFv X [] (fun _=>some true):=⟨_,pf_nil,fun _ H _ _ _ _ _ _ _ e q=>by cases e;exact q H (Same.refl _)⟩
theorem LU{c:Expr}{fc:FT}(h:PTv X c fc):PFv X [c] fc:=by
 obtain⟨t,ht,hf⟩:=h;exact⟨_,pf_one ht,hf⟩
theorem Ok.inner{K:Frag}{H₀ H:Hp}{O:aA->Prop}{σ : L2.St}{ds:List Sl}{hd:Hold}(o:Ok K H₀ H O σ ds hd)(mp:List (Option Nat)):Ok K H₀ H O (kK mp σ) (jO mp ds) hd:=by
 have no:∀{i:Nat} {l:List D},(jO mp ds)[i]?=some (.own l)->False:=fun {i l} e=>by
  unfold jO at e;rw[bA] at e;cases hm:mp[i]? with
  |none=>rw[hm] at e;cases e
  | some m =>
    rw[hm] at e;simp only[cR,Option.some.injEq] at e;cases m with
    |none=>cases e
    | some j =>
      simp only at e
      split at e<;>cases e
 refine⟨o.same,fun i l a e _=>(no e).elim,o.dom,by simp[kK,jO],fun i s e=>?_,fun i j a hij hi hj e1 e2=>?_,o.hold,.no fun i r t e=>by
  unfold jO at e;rw[bA] at e;cases hm:mp[i]? with
  |none=>rw[hm] at e;cases e
  | some m =>
    rw[hm] at e;simp only[cR,Option.some.injEq] at e;cases m with
    |none=>cases e
    | some j =>
      simp only at e
      split at e<;>cases e⟩
 . unfold jO at e;unfold kK;rw [bA] at e ⊢;cases hm:mp[i]? with
   |none=>rw[hm] at e;cases e
   | some m =>
     rw[hm] at e;simp only[cR,Option.some.injEq] at e;cases m with
     | none =>
       simp only at e;subst e;exact jA
     | some j =>
       simp only at e;cases hj:ds[j]? with
       |none=>rw[hj] at e;subst e;exact jA
       | some s' =>
         rw[hj] at e;cases s' with
         |no=>subst e;exact jA
         |exc _=>subst e;exact jA
         |fr _=>subst e;exact jA
         |ob _ _=>subst e;exact jA
         |own l=>subst e;exact jA
         | v d =>
           simp only at e;subst e;obtain⟨v,h1,h2⟩:=o.read hj;simp only[cR,aQ,h1,Option.join_some];exact jZ h2
 . obtain ⟨l, e⟩ := hi;unfold jO at e;rw [bA] at e;cases hm:mp[i]? with
   |none=>rw[hm] at e;cases e
   | some m =>
     rw[hm] at e;simp only[cR,Option.some.injEq] at e;cases m with
     |none=>cases e
     | some j =>
       simp only at e;cases hj:ds[j]? with
       |none=>rw[hj] at e;cases e
       |some s'=>rw[hj] at e;cases s'<;>cases e
section
variable{scope:Scope}{NY:List Str}{mp:List (Option Nat)}{tg iter elt:Expr}{ifs:List Expr}{pos:Pos}{fi:FA}{ga:D->List Sl->Option (List Sl)}{tt:FT}{fe:FE}
theorem GS{wi:TI}{g:CI->TG}{t1:CI->TT}{t2:CI->TE}(hi:∀H₀ H O σ ds hd items R,Ok X.K H₀ H O σ ds hd->fi ds=some items->(∀J p H',Same H H'->Rep X.K H' O p.1 p.2->Wlk X.K J p items->R J H')->wi σ H R)(hg:∀c H₀ H O σ ds hd v d ds' Q,Ok X.K H₀ H O σ ds hd->Rep X.K H O v d->ga d ds=some ds'->(∀σ',Ok X.K H₀ H O σ' ds' hd->Q σ' H)->g c v σ H Q)(ht:∀c H₀ H O σ ds hd b Q,Ok X.K H₀ H O σ ds hd->tt ds=some b->(∀H',Same H H'->Q b H')->t1 c σ H Q)(he:∀c H₀ H O σ ds hd d Q,Ok X.K H₀ H O σ ds hd->fe ds=some d->(∀v H',Same H H'->Rep X.K H' O v d->Q v H')->t2 c σ H Q) :
  ∀H₀ H O σ ds hd l Q,Ok X.K H₀ H O σ ds hd->compG fi mp ga tt fe ds=some l →
   (∀a xs H',Same H H'->H a=none->H' a=some (.lst xs)->Reps X.K H' (ins1 a O) xs l->Q (.ref a) H')->tComp wi mp g t1 t2 σ H Q:=by
 intro H₀ H O σ ds hd l Q o e q;unfold compG at e;obtain⟨items,h1,e⟩:=bnd e
 split at e
 . rename_i hsz;refine hi H₀ H O σ ds hd items _ o h1 fun J p H1 s1 r1 wk=>fun c=>?_;have oI:Ok X.K H₀ H1 O (kK mp σ) (jO mp ds) (HI.rep p.1 p.2::hd):=((o.mono s1).holdMore (p:=HI.rep p.1 p.2) r1).inner mp
   refine⟨fun i m ys H2=>i<=items.length/\m=items.length-i/\Same H1 H2/\ys.length<=i/\∃l' rest,Reps X.K H2 O ys l'/\compL ga tt fe (jO mp ds) (items.drop i)=some rest/\l=l'++rest,
    ⟨items.length,eK _,rfl,Same.refl _,aY _,[],l,.nil,by simpa using e,rfl⟩,?_⟩
   rintro i m ys H2 ⟨hi1,rfl,s2,hy,l',rest,ry,er,el⟩;have o2:=oI.mono s2;obtain⟨go,stop⟩:=wk H2 O o2.dom (o2.hold (HI.rep p.1 p.2) aV)
   by_cases hlt:i<items.length
   . right;have hd0:items[i]? = some items[i]:=cC hlt;obtain ⟨hgo,hyl⟩:=go i _ hd0;refine ⟨hgo,by omega,fun x H3 y=>?_⟩;obtain ⟨s3,r3⟩:=hyl x H3 y;rw [oJ hlt,compL] at er;obtain ⟨ds1,h2,er⟩:=bnd er;refine hg c H₀ H3 O _ _ (HI.rep p.1 p.2::hd) x _ ds1 _ (o2.mono s3) r3 h2 fun σ' o3=>?_;obtain ⟨b,h3,er⟩:=bnd er;refine ht c H₀ H3 O σ' ds1 (HI.rep p.1 p.2::hd) b _ o3 h3 fun H4 s4=>?_;cases b with
     | false =>
       refine iteF ⟨items.length-(i+1),by omega,hlt,rfl,(s2.trans s3).trans s4,Nat.le_succ_of_le hy,l',rest,(ry.mono s3).mono s4,by simpa using er,el⟩
     | true =>
       refine iteT ?_;simp only[if_true] at er;obtain⟨yd,h4,er⟩:=bnd er;cases h5:compL ga tt fe (jO mp ds) (items.drop (i+1)) with
       |none=>rw[h5] at er;cases er
       | some rest' =>
         rw[h5] at er;cases er;refine he c H₀ H4 O σ' ds1 (HI.rep p.1 p.2::hd) yd _ (o3.mono s4) h4 fun v H5 s5 r5=>?_;refine⟨items.length-(i+1),by omega,hlt,rfl,((s2.trans s3).trans s4).trans s5,by simp;omega,l'++[yd],rest',(((ry.mono s3).mono s4).mono s5).append (.cons r5 .nil),h5,?_⟩;rw[el];simp
   . left;have ei:i=items.length:=by omega
     subst ei;rw[pF,compL] at er;cases er;rw[eI] at el;subst el;refine⟨stop,by omega,fun a ha=>?_⟩;refine q a ys _ ((s1.trans s2).trans (qG ha _)) ((s1.trans s2).free ha) bM ?_;exact(ry.more ha).mono (qG ha _)
 . cases e
theorem wN(S:CompScope X scope NY mp)(hc:X.calm=true)(hi:PIv X tg iter fi)(hg:∀c,PGv (jD X scope NY c) tg ga)(ht:∀c,PFv (jD X scope NY c) ifs tt)(he:∀c,PV (jD X scope NY c) elt fe)(hs:∀x,eL iter X.env x=pure x:=by intro _;rfl):PVf X (.ListComp elt [⟨tg,iter,ifs,0⟩] scope pos) (compG fi mp ga tt fe):=by
 obtain⟨wi,pi,hi⟩:=hi;refine⟨_,pe_comp S hc pi (fun c=>(Classical.choose_spec (hg c)).1) (fun c=>(Classical.choose_spec (ht c)).1) (fun c=>(Classical.choose_spec (he c)).1) hs,?_⟩;exact GS hi (fun c=>(Classical.choose_spec (hg c)).2) (fun c=>(Classical.choose_spec (ht c)).2) (fun c=>(Classical.choose_spec (he c)).2)
end
end
end FL
namespace L2
open PySem PySem.Spec PyProof.Rows
section
variable{X:Cx}
inductive TyV(K:aN)(H:Hp):V->Value->Prop where
 |of {x:V} {t:Value} (h:TyOf K H x t):TyV K H x t
 |lstK {a:aA} {o:Obj} (h:K.lookup a=some o) (c:o.cls=.type "list"):TyV K H (.ref a) (.type "list")
 |tupK {a:aA} {o:Obj} (h:K.lookup a=some o) (c:o.cls=.type "tuple"):TyV K H (.ref a) (.type "tuple")
 |tupF {a:aA} {o:Obj} {xs:List V} (h:H a=some (.frz o (.tup xs))):TyV K H (.ref a) (.type "tuple")
noncomputable def clsV:V->Value->Prop
 | .ty n,u=>u=.type n
 | .ref a,u=>u=.ref a
 |_,_=>False
theorem aFn:CallR X (.builtin "isinstance") (fun xs H Q=>∃x c cv t b,xs=[x,c]/\clsV c cv/\TyV X.K H x t/\cZ X.K t cv=some b/\Q (.bl b) H):=by
 intro aC s σ H xs us Q I r h;obtain⟨x,c,cv,t,b,rfl,hc,ty,e,q⟩:=h;obtain⟨u,u2,rfl,ru,ru2⟩:=vals2 r
 have e2:u2=cv:=by
  cases c with
  |ty n=>cases(show cv=.type n from hc);cases(show u2=.type n from ru2);rfl
  |ref a=>cases(show cv=.ref a from hc);cases(show u2=.ref a from ru2);rfl
  |_=>exact(show False from hc).elim
 subst e2;have fin:∀tk,EP X aC σ Q (.bool b) { s with toks:=tk }:=fun tk=>⟨.bl b,H,I.tok tk,rfl,q⟩
 cases ty with
 |of h=>exact YK I ru h e fin
 | @lstK a o h c =>
   cases(show u=Value.ref a from ru);exact cO tR I.kIn ⟨o,I.kIn _ _ h,c⟩ e (fun z=>nomatch z) fin
 | @tupK a o h c =>
   cases(show u=Value.ref a from ru);exact cO sI I.kIn ⟨o,I.kIn _ _ h,c⟩ e (fun z=>nomatch z) fin
 | @tupF a o xs ea =>
   cases(show u=Value.ref a from ru);obtain⟨e0,_,_,_,p⟩:=(show ObjOk X.prog X.w H s.heap a (.frz o (.tup xs)) from I.hok a _ ea)
   obtain⟨o',h1,h2,_⟩:=p;exact cO sI I.kIn ⟨o',h1,h2⟩ e (fun z=>nomatch z) fin
theorem QL:∀{bs:List Bool} {us:List Value},Vals (bs.map V.bl) us->LSm.BoolsAre us bs
 |[],_,.nil=>.nil
 | b :: r, _, .cons h t => by
   cases(show _=Value.bool b from h);exact .cons b (QL t)
theorem ZK(hc:X.calm=true):CallR X (.builtin "all") (fun xs H Q=>∃(p:aA) (bs:List Bool),xs=[.ref p]/\SqL X.K H p (bs.map V.bl)/\Q (.bl (bs.all id)) H):=by
 intro aC s σ H xs us Q I r h;obtain⟨p,bs,rfl,hq,q⟩:=h;obtain⟨u,rfl,ru⟩:=vals1 r;cases ru;obtain⟨its,rv,pl,hz⟩:=I.list hq;have hlt:p<s.heap.objs.size:=by obtain⟨_,e,_⟩:=pl.isList;exact bB e
 have hb:=QL rv;refine call_all_walk (wpAny_pyIter_list pl.isList ?_)
 refine⟨s.heap.objs.size,[s.heap.objs.size,p],[s.heap.objs.size],its.toArray.size,_,_,fun i=>(bs[i]?).getD true,rfl,Walks.list (A:=X.A.in1) (I.ok.hd hc) _ p (bS hlt) its.toArray,
  ⟨⟨_,bC _ rfl,rfl,rfl⟩,pl.isList.push _⟩,fun i v s' Q' E' hP hQ=>?_,fun h' tk hk=>?_⟩
 . obtain⟨b, e, rfl⟩ := hb.get i v (by simpa using hP);simp only[e,Option.getD_some] at hQ;exact gG hQ
 . have e:((List.range its.toArray.size).all fun i=>(bs[i]?).getD true)=bs.all id:=by
    rw[aZ,hb.length];exact LSm.range_all bs
   rw[e];exact⟨.bl _,H,I.kept (LSm.kept_iter hk),rfl,q⟩
end
end L2
namespace FL
open PySem PySem.Spec PyProof.Rows L2
section
variable{X:Cx}
noncomputable def kitO(t T:String):Option Bool:=if ((Value.type t)==(Value.type T))=true then some true else if WD T=true then (fastBuiltinMro t).map (·.contains (.type T)) else none
theorem kit_all:∀t∈kitN,∀T∈kitT,kitO t T=some (t==T||(t=="bool"&&T=="int")):=by decide +kernel
theorem kit_of{K:Frag}{t T:String}{b:Bool}(h:kitF t T=some b):cZ K (.type t) (.type T)=some b:=by
 unfold kitF at h
 split at h
 . rename_i hm;cases h;exact kit_all t hm.1 T hm.2
 . cases h
theorem ty_of{K:Frag}{H:Hp}{O:aA->Prop}{v:V}{d:D}{t:String}(r:WRep K H O v d)(e:tyD d=some t):TyV K H v (.type t):=by
 rcases r with r | ⟨a,xs,l,rfl,rfl,ho,h,rs⟩
 . cases r with
   |non=>cases e;exact .of .non
   |bl b=>cases e;exact .of (.bl b)
   |int i=>cases e;exact .of (.int i)
   |str x=>cases e;exact .of (.str x)
   | tup n h r =>
     cases e;rcases h with h | ⟨o,h⟩
     . exact .of (.tup h)
     . exact .tupF h
   |tupK h r=>cases e;obtain⟨o,its,m,hk,hc,_⟩:=h;exact .tupK hk hc
   | lst n h r =>
     cases e;rcases h with h | ⟨o,h⟩
     . exact .of (.lst h)
     . exact .of (.frz h)
   |lstK h r=>cases e;obtain⟨o,its,m,hk,hc,_⟩:=h;exact .lstK hk hc
   |dct n h e' r=>cases e;exact .of (.dK h)
   |dcf n h e' r=>cases e
   |ins c n h e' r=>cases e
   |clo tx h e' nd c r=>cases e
   |fnK h=>cases e
 . cases e;exact .of (.lst h)
theorem pv_isi{p pT pos:Pos}{e:Expr}{f:FE}{x:Str}{T:String}(hm:X.mg "isinstance" = none)(hT:X.mg x=none)(hv:gX x=some (.type T))(he:PVw X e f)(hg:Gl X "isinstance":=by rfl)(hgT:Gl X x:=by rfl)(h1:aF [e,.Name x pT] X.env=(false,bT e X.env)::aF [.Name x pT] X.env:=by rfl)(h2:aF [.Name x pT] X.env=(false,bT (.Name x pT) X.env)::aF [] X.env:=by rfl)(h3:(cP pos (aF [.Name x pT] X.env)).any (·.1)=false:=by rfl)(hn:x≠"__name__":=by decide)(hd:(6:)=false:=by decide):PV X (.Call (.Name "isinstance" p) [e,.Name x pT] [] pos) (isiG T f):=by
 obtain⟨t,ht,hf⟩:=he;refine⟨_,wL aFn hg hm (by decide +kernel) (qY ht (qY (UR (v:=.ty T) hgT hT hv rfl hn hd) jW h2) h1) (by decide) (by decide) h1 h3,(5:)⟩;unfold isiG at e;obtain⟨dx,hh,e⟩:=bnd e;simp only[aQ,isiD] at e;obtain⟨t,ht,e⟩:=bnd e;obtain⟨b,hk,rfl⟩:=mpd e;refine hf H₀ H O σ ds hd dx _ o hh fun v H' s r=>?_;exact⟨v,.ty T,.type T,.type t,b,rfl,rfl,ty_of r ht,kit_of hk,q _ H' s (.bl b)⟩
theorem VT{K:Frag}{H:Hp}{O:aA->Prop}:∀{xs:List V} {l:List D} {bs:List Bool},Reps K H O xs l->blsD l=some bs->xs=bs.map V.bl
 |_,_,_,.nil,e=>by cases e;rfl
 | _, _, bs, .cons (d := d) h t, e => by
   cases d with
   | bl b =>
     rename_i ds;simp only[blsD] at e;obtain⟨r,hr,rfl⟩:=mpd e;cases h;rw[VT t hr];rfl
   |_=>cases e
theorem cs_all:CallS X (fun xs H Q=>∃(p:aA) (bs:List Bool),xs=[.ref p]/\SqL X.K H p (bs.map V.bl)/\Q (.bl (bs.all id)) H) allD:=by
 intro H O vs l d Q ho r e q;unfold allD at e
 split at e
 . obtain ⟨bs, hb, rfl⟩ := mpd e;cases r with
   | cons r rn =>
     cases rn;obtain⟨a,xs,rfl,hs,rs⟩:=r.seqL;refine⟨a,bs,rfl,?_,q _ H (Same.refl _) (.bl _)⟩;rw[<- VT rs hb];exact hs
 . cases e
theorem pv_all{p pos:Pos}{e:Expr}{g:FA}(hc:X.calm=true)(hm:X.mg "all" = none)(ha:PAv X [e] g)(hg:Gl X "all":=by rfl)(he:aF [e] X.env=[(false,bT e X.env)]:=by rfl) :
  PV X (.Call (.Name "all" p) [e] [] pos) (callB allD g):=vW (ZK hc) cs_all hm (by decide +kernel) ha hg (by decide) (by decide) he rfl
theorem xX{a:Expr}{pos:Pos}{f:FE}(ha:PV X a f):PV X (.UnaryOp .USub a pos) (un1 negD f):=by
 obtain⟨ta,pa,ha⟩:=ha;refine⟨_,pe_un un_neg pa,(5:)⟩;unfold un1 at e;obtain⟨dx,h1,e⟩:=bnd e;cases dx with
 | int i =>
   cases e;refine ha H₀ H O σ ds hd _ _ o h1 fun x H1 s1 r1=>?_;cases r1;exact⟨i,rfl,q _ H1 s1 (.int _)⟩
 |_=>cases e
theorem os_inS:OpS X (fun x y H Q=>∃i j,x=.str i/\y=.str j/\Q (.bl (!(Builtin.Str.occurrences j i 0 j.length 1).isEmpty)) H) inS:=by
 intro H O x y dx dy d Q ho rx ry e q;cases dx<;>cases dy<;>first | (simp[inS] at e;done) | skip
 cases e;rw[rx.str',ry.str'];exact⟨_,_,rfl,rfl,q _ H (Same.refl _) (.bl _)⟩
variable(X) in
noncomputable def PVd(e:Expr)(f:FE):Prop:=∃t,PE X e t/\∀H₀ H O σ ds hd d Q,Ok X.K H₀ H O σ ds hd->f ds=some d->(∀v H',Same H H'->Rep X.K H' (Old H) v d->Q v H')->t σ H Q
theorem not_old{H:Hp}{p:aA}(h:H p=none):¬Old H p:=fun⟨o,e,_⟩=>by rw[h] at e;cases e
theorem xN{e:Expr}{pos:Pos}{f:FE}(he:PVd X e f):PSv X (.Return (some e) pos) (retDG f):=by
 obtain⟨t,ht,hg⟩:=he;refine⟨_,AO ht,(3:)⟩;unfold retDG at e;obtain⟨d,h1,rfl⟩:=mpd e;exact hg H₀ H O σ ds hd d _ o h1 fun v H' s r=>h _ _ (o.same.trans s) (r.less fun a z=>Old.mono o.same z) True.intro
end
section
variable{X:Cx}
noncomputable def aFh(sc scope:Scope)(N NY:List Str)(mp:List (Option Nat)):Bool :=
 scope.kind==.function&&scope.names.all (fun y=>y.2 != .cell)&&scope.names.all (fun y=>y.2 != .local||scope.names.lookup y.1==some .local)
 && scope.names.all (fun y=>y.2 != .free||(sc.names.lookup y.1==some .cell||sc.names.lookup y.1==some .free))&&mp.length==NY.length
 && (List.range NY.length).all (fun i=>match NY[i]?,mp[i]? with | some x,some (some j)=>N[j]?==some x&&scope.names.lookup x==some .free | _,_=>true)
theorem jP{scope:Scope}{NY:List Str}{mp:List (Option Nat)}(h:aFh X.env.scope scope X.N NY mp=true):CompScope X scope NY mp:=by
 unfold aFh at h;simp only[bU,iB,beq_iff_eq] at h;obtain⟨⟨⟨⟨⟨h1,h2⟩,h3⟩,h4⟩,h5⟩,h6⟩:=h;refine⟨h1,fun y hy=>by simpa using h2 y hy,fun y hy hk=>?_,fun y hy hk=>?_,h5,fun i x j e1 e2=>?_⟩
 . have := h3 y hy;simpa[hk] using this
 . have := h4 y hy;simp only[hk,bne_self_eq_false,Bool.false_or,Bool.or_eq_true,beq_iff_eq] at this;exact this
 . have hi : i ∈ List.range NY.length := HH.mpr (aT.mp e1).1;have:=h6 i hi;rw[e1,e2] at this;simpa using this
end
theorem zO{g:FS}{n:Nat}{ds:List D}{r:Ret}(e:runG g n ds=some r):Does g n ds r:=by
 unfold runG at e;cases h:g (args n ds) with
 |none=>rw[h] at e;cases e
 | some o =>
   rw[h] at e;cases o with
   |rt r'=>cases e;exact .inl h
   |nx ds'=>cases e;exact .inr ⟨rfl,ds',h⟩
   |bk ds'=>cases e
   |ct ds'=>cases e
end FL
namespace L2
open PySem PySem.Spec PyProof.Rows
section
variable{X:Cx}
theorem op_mulB:OpR X (kM .Mult) (rI QX fun i j=>.int (i*j)):=opI fun _ _ _ _ _ _ _ hc q=>mul_int q hc
theorem op_powB:OpR X (kM .Pow) (rI FL.CPowB fun i j=>.int (i ^ j.toNat)):=opI fun _ _ _ _ _ _ _ hc q=>pow_int hc.1 hc.2 q
noncomputable def rCatS(K:aN):R2:=fun x y H Q=>∃l b xs zs,x=.ref l/\y=.ref b/\SqL K H l xs/\SqL K H b zs/\xs.length+zs.length<=sizeLine/\∀p,H p=none->Q (.ref p) (upd H p (.lst (xs++zs)))
theorem op_catS:OpR X (kM .Add) (rCatS X.K):=by
 intro aC s σ H x y v u Q I rx ry h;obtain⟨l,b,xs,zs,rfl,rfl,hH,hB,hz,q⟩:=h;cases rx;cases ry;obtain⟨its,r,pl,z⟩:=I.list hH;obtain⟨its2,r2,pl2,z2⟩:=I.list hB;obtain⟨⟨cls,dd,data,sl⟩,ho,hc,n,hd⟩:=pl.isList;obtain⟨⟨cls2,dd2,data2,sl2⟩,ho2,hc2,n2,hd2⟩:=pl2.isList;simp only at hc hd hc2 hd2;subst hc hd hc2 hd2;have hl:=r.length;have hl2:=r2.length;refine concat_meets ⟨_,ho,rfl⟩ ⟨_,ho2,rfl⟩ noFill_list_add seq_list_add PySem.F.slot_list_add PySem.F.entry_list_add (PySem.F.args_list_add_2 _ _) (list_addW l b its.toArray its2.toArray n n2 dd dd2 sl sl2 (by simp only[aZ];omega)) ⟨ho,ho2,?_⟩;have ea:its.toArray++its2.toArray=(its++its2).toArray:=by simp
 rw[ea];exact⟨.ref _,_,I.lnew (t':=s.toks) (r.append r2) (by rw[cE];omega),rfl,q _ I.fresh⟩
end
end L2
namespace FL
open PySem PySem.Spec PyProof.Rows L2
section
variable{X:Cx}
variable(X) in
noncomputable def PVn(e:Expr)(f:FE):Prop:=∃t,PE X e t/\∀H₀ H O σ ds hd d Q,Ok X.K H₀ H O σ ds hd->f ds=some d->(∀v H',Same H H'->Rep X.K H' jB v d->Q v H')->t σ H Q
variable(X) in
noncomputable def PAn(es:List Expr)(f:FA):Prop:=∃t,PA X es t/\∀H₀ H O σ ds hd l Q,Ok X.K H₀ H O σ ds hd->f ds=some l->(∀vs H',Same H H'->Reps X.K H' jB vs l->Q vs H')->t σ H Q
theorem PVw.n{e:Expr}{f:FE}(h:PVw X e f):PVn X e f:=by
 obtain⟨t,ht,hf⟩:=h;exact⟨t,ht,fun H₀ H O σ ds hd d Q o e q=>hf H₀ H O σ ds hd d Q o e fun v H' s r=>q v H' s r.any⟩
theorem PV.n{e:Expr}{f:FE}(h:PV X e f):PVn X e f:=h.w.n
theorem zK:PAn X [] zM:=⟨_,jW,fun _ H _ _ _ _ _ _ _ e q=>by cases e;exact q _ H (Same.refl _) .nil⟩
theorem zC{e:Expr}{es:List Expr}{f:FE}{g:FA}(ha:PVn X e f)(hr:PAn X es g)(hs:aF (e::es) X.env=(false,bT e X.env)::aF es X.env:=by rfl):PAn X (e::es) (zA f g):=by
 obtain⟨t,ht,hf⟩:=ha;obtain⟨u,hu,hg⟩:=hr;refine⟨_,qY ht hu hs,fun H₀ H O σ ds hd l Q o e q=>?_⟩;unfold zA at e;obtain⟨x,h,e⟩:=bnd e;obtain⟨r,h2,rfl⟩:=mpd e;refine hf H₀ H O σ ds hd x _ o h fun v H1 s1 r1=>?_;refine hg H₀ H1 O σ ds hd r _ (o.mono s1) h2 fun vs H2 s2 r2=>?_;exact q _ H2 (s1.trans s2) (.cons (r1.mono s2) r2)
section
variable{k:Nat}{f:aA}{fd:aJ}{ps:List Str}{n:Nat}{F:List D->Option Ret}{x:Str}{p pos:Pos}{e:Expr}{es:List Expr}{g:FA}
theorem aBz(Fn:FnOk X.prog X.w X.K X.mg X.base CX0 k f fd ps (spF X.K n F))(hr:Room k X.A)(hm:X.mg x=some (.ref f))(hk:bG X.K (.ref f)=true)(hb:Binds X.K fd ps [])(ha:PAn X (e::es) g)(hg:Gl X x:=by rfl)(hdb:(6:)=false:=by decide)(he:aF (e::es) X.env=(false,bT e X.env)::aF es X.env:=by rfl)(hpl:(cP pos (aF es X.env)).any (·.1)=false:=by rfl) :
  PV X (.Call (.Name x p) (e::es) [] pos) (qC n F g):=by
 obtain⟨t,ht,hf⟩:=ha;refine⟨_,DI (CX:=CX0) (E:=E0) Fn hr hg hm hk hb .nil pass0 ht hdb he hpl,(5:)⟩;unfold qC at e;obtain⟨l,h,e⟩:=bnd e
 split at e
 . rename_i hln;obtain⟨r,h2,e⟩:=bnd e;refine hf H₀ H O σ ds hd l _ o h fun vs H1 s1 r1=>?_;have hl:=r1.length;refine⟨by simp only[eI];omega,l,r,by simpa using r1,h2,fun v H' s' ro=>q v H' (s1.trans s') ?_⟩;exact LF ro e fun a ha=>(o.mono s1).old ha
 . cases e
theorem WS(Fn:FnOk X.prog X.w X.K X.mg X.base CX0 k f fd ps (spF X.K n F))(hr:Room k X.A)(hm:X.mg x=some (.ref f))(hk:bG X.K (.ref f)=true)(hb:Binds X.K fd ps [])(ha:PAn X (e::es) g)(hg:Gl X x:=by rfl)(hdb:(6:)=false:=by decide)(he:aF (e::es) X.env=(false,bT e X.env)::aF es X.env:=by rfl)(hpl:(cP pos (aF es X.env)).any (·.1)=false:=by rfl) :
  PVf X (.Call (.Name x p) (e::es) [] pos) (jT n F g):=by
 obtain⟨t,ht,hf⟩:=ha;refine⟨_,DI (CX:=CX0) (E:=E0) Fn hr hg hm hk hb .nil pass0 ht hdb he hpl,(5:)⟩;unfold jT at e;obtain⟨l,h,e⟩:=bnd e
 split at e
 . rename_i hln;obtain⟨r,h2,e⟩:=bnd e;refine hf H₀ H O σ ds hd l _ o h fun vs H1 s1 r1=>?_;have hl:=r1.length;refine⟨by simp only[eI];omega,l,r,by simpa using r1,h2,fun v H' s' ro=>?_⟩;obtain⟨a,xs,rfl,h3,h4,h5⟩:=LG ro e fun a ha=>(o.mono s1).old ha;exact q a xs H' (s1.trans s') (s1.free h3) h4 h5
 . cases e
end
noncomputable def OpN(X:Cx)(r:R2)(op:D->D->Option D):Prop:=∀H O x y dx dy d Q,Rep X.K H jB x dx->Rep X.K H jB y dy->op dx dy=some d->(∀v H',Same H H'->Rep X.K H' O v d->Q v H')->r x y H Q
theorem UH{r:R2}{op:D->D->Option D}(hs:OpN X r op){fa fb:FE}{ta tb:TE}(ha:∀H₀ H O σ ds hd d Q,Ok X.K H₀ H O σ ds hd->fa ds=some d->(∀v H',Same H H'->Rep X.K H' jB v d->Q v H')->ta σ H Q)(hb:∀H₀ H O σ ds hd d Q,Ok X.K H₀ H O σ ds hd->fb ds=some d->(∀v H',Same H H'->Rep X.K H' jB v d->Q v H')->tb σ H Q) :
  ∀H₀ H O σ ds hd d Q,Ok X.K H₀ H O σ ds hd->zJ op fa fb ds=some d->(∀v H',Same H H'->Rep X.K H' O v d->Q v H')->tOp r ta tb σ H Q:=by
 intro H₀ H O σ ds hd d Q o e q;unfold zJ at e;obtain⟨dx,h1,e⟩:=bnd e;obtain⟨dy,h2,e⟩:=bnd e;refine ha H₀ H O σ ds hd dx _ o h1 fun x H1 s1 r1=>?_;refine hb H₀ H1 O σ ds hd dy _ (o.mono s1) h2 fun y H2 s2 r2=>?_;exact hs H2 O x y dx dy d Q (r1.mono s2) r2 e fun v H' s r=>q v H' ((s1.trans s2).trans s) r
theorem LJ{op:KW}{r:R2}{opD:D->D->Option D}{a b:Expr}{fa fb:FE}{pos:Pos}(ho:OpR X (eO op) r)(hs:OpN X r opD)(ha:PVn X a fa)(hb:PVn X b fb)(hm:dQ op b=false):PV X (.Compare a [op] [b] pos) (zJ opD fa fb):=by
 obtain⟨ta,pa,ha⟩:=ha;obtain⟨tb,pb,hb⟩:=hb;exact⟨_,UQ ho pa pb hm,UH hs ha hb⟩
theorem vK{op:KW}{r:R2}{opD:D->D->Option D}{a b:Expr}{fa fb:FE}{pos:Pos}(ho:OpR X (eO op) r)(hs:OpN X r opD)(ha:PVn X a fa)(hb:PVn X b fb)(hm:dQ op b=false):PTv X (.Compare a [op] [b] pos) (zT (zJ opD fa fb)):=by
 obtain⟨ta,pa,ha⟩:=ha;obtain⟨tb,pb,hb⟩:=hb;refine⟨_,UL ho pa pb hm,fun H₀ H O σ ds hd k Q o e q=>?_⟩;unfold zT at e;obtain⟨d,h,e⟩:=bnd e;refine UH hs ha hb H₀ H O σ ds hd d _ o h fun v H' s r=>?_;cases d with
 |bl c=>cases e;cases r;exact⟨_,rfl,q H' s⟩
 |_=>cases e
mutual
theorem Rep.reads{aC:List (aA×Obj)}{σ : L2.St}{H:Hp}{s:aD}{O:aA->Prop}(I:Inv X aC σ H s):∀{v:V} {d:D} {u:Value} {n:Nat},Rep X.K H O v d->RelV v u->shal n d=true->∃as,Reads s.heap u (toPy d) as/\(toPy d).canLay0=true/\(toPy d).depth<=n+1
 |_,_,_,_,.non,r,_=>by cases r;exact⟨[],.none,rfl,eK _⟩
 |_,_,_,_,.bl b,r,_=>by cases r;exact⟨[],.bool b,rfl,eK _⟩
 |_,_,_,_,.int i,r,_=>by obtain⟨t,rfl⟩:=r;exact⟨[],.int i t,rfl,eK _⟩
 |_,_,_,_,.str x,r,h=>by obtain⟨t,rfl⟩:=r;exact⟨[],.str x t,by simpa[toPy,PyData.canLay0,shal] using h,eK _⟩
 | _, _, _, n, .tup m h q, r, hs => by
   cases r;obtain⟨its,rv,⟨o,ho,hc,k,hd⟩,hz⟩:=I.tuple (.inl h);obtain⟨as,h1,h2,h3⟩:=Reps.reads I q rv (by simpa[shal] using hs);exact⟨as,.tuple ho hc hd (by simpa using h1),by simpa[toPy,PyData.canLay0] using h2,by simpa[toPy,PyData.depth] using h3⟩
 | _, _, _, n, .tupK h q, r, hs => by
   cases r;obtain⟨its,rv,⟨o,ho,hc,k,hd⟩,hz⟩:=I.tuple (.inr h);obtain⟨as,h1,h2,h3⟩:=Reps.reads I q rv (by simpa[shal] using hs);exact⟨as,.tuple ho hc hd (by simpa using h1),by simpa[toPy,PyData.canLay0] using h2,by simpa[toPy,PyData.depth] using h3⟩
 | _, _, _, n, .lst m h q, r, hs => by
   cases r;obtain⟨its,rv,pl,hz⟩:=I.list (.inl h);obtain⟨o,ho,hc,k,hd⟩:=pl.isList;obtain⟨as,h1,h2,h3⟩:=Reps.reads I q rv (by simpa[shal] using hs);exact⟨_,.list ho hc hd (by simpa using h1),by simpa[toPy,PyData.canLay0] using h2,by simpa[toPy,PyData.depth] using h3⟩
 | _, _, _, n, .lstK h q, r, hs => by
   cases r;obtain⟨its,rv,pl,hz⟩:=I.list (.inr h);obtain⟨o,ho,hc,k,hd⟩:=pl.isList;obtain⟨as,h1,h2,h3⟩:=Reps.reads I q rv (by simpa[shal] using hs);exact⟨_,.list ho hc hd (by simpa using h1),by simpa[toPy,PyData.canLay0] using h2,by simpa[toPy,PyData.depth] using h3⟩
 |_,_,_,_,.dct _ _ _ _,_,hs=>by simp[shal] at hs
 |_,_,_,_,.dcf _ _ _ _,_,hs=>by simp[shal] at hs
 |_,_,_,_,.ins _ _ _ _ _,_,hs=>by simp[shal] at hs
 |_,_,_,_,.clo _ _ _ _ _ _,_,hs=>by simp[shal] at hs
 |_,_,_,_,.fnK _,_,hs=>by simp[shal] at hs
theorem Reps.reads{aC:List (aA×Obj)}{σ : L2.St}{H:Hp}{s:aD}{O:aA->Prop}(I:Inv X aC σ H s):∀{vs:List V} {ds:List D} {us:List Value} {n:Nat},Reps X.K H O vs ds->Vals vs us->shals n ds=true->∃as,ReadsAll s.heap us (toPys ds) as/\PyData.canLayAll0 (toPys ds)=true/\PyData.depthAll (toPys ds)<=n
 |_,_,_,_,.nil,r,_=>by cases r;exact⟨[],.nil,rfl,eK _⟩
 |_,_,_,0,.cons h t,_,hs=>by simp[shals] at hs
 | _, _, _, n + 1, .cons h t, r, hs => by
   cases r with
   | cons r1 r2 =>
     simp only[shals,bU] at hs;obtain⟨as,h1,h2,h3⟩:=Rep.reads I h r1 hs.1;obtain⟨bs,k1,k2,k3⟩:=Reps.reads I t r2 hs.2;exact⟨_,.cons h1 k1,by simp[toPys,PyData.canLayAll0,h2,k2],by simp only[toPys,PyData.depthAll];omega⟩
end
noncomputable def rEqD(X:Cx)(neg:Bool):R2:=fun x y H Q=>∃dx dy,Rep X.K H jB x dx/\Rep X.K H jB y dy/\shal 40 dx=true/\shal 40 dy=true/\Q (.bl (if neg then !eqvD dx dy else eqvD dx dy)) H
theorem aDg(hu:X.A.units+100<cLine):OpR X (eO .Eq) (rEqD X false):=by
 intro aC s σ H x y v u Q I rx ry h;obtain⟨dx,dy,r1,r2,s1,s2,q⟩:=h;obtain⟨as,a1,a2,a3⟩:=r1.reads I rx s1;obtain⟨bs,b1,b2,b3⟩:=r2.reads I ry s2;exact SeqAt.compareEq_reads a1 b1 a2 b2 (by omega) ⟨.bl _,H,I,rfl,q⟩
theorem op_neD(hu:X.A.units+100<cLine):OpR X (eO .NotEq) (rEqD X true):=by
 intro aC s σ H x y v u Q I rx ry h;obtain⟨dx,dy,r1,r2,s1,s2,q⟩:=h;obtain⟨as,a1,a2,a3⟩:=r1.reads I rx s1;obtain⟨bs,b1,b2,b3⟩:=r2.reads I ry s2;exact SeqAt.compareNe_reads a1 b1 a2 b2 (by omega) ⟨.bl _,H,I,rfl,q⟩
theorem aDi:OpN X (rEqD X false) eqD:=by
 intro H O x y dx dy d Q rx ry e q;unfold eqD at e
 split at e
 . rename_i hs;cases e;exact⟨dx,dy,rx,ry,hs.1,hs.2,q _ H (Same.refl _) (.bl _)⟩
 . cases e
theorem on_neD:OpN X (rEqD X true) neD:=by
 intro H O x y dx dy d Q rx ry e q;unfold neD at e
 split at e
 . rename_i hs;cases e;exact⟨dx,dy,rx,ry,hs.1,hs.2,q _ H (Same.refl _) (.bl _)⟩
 . cases e
theorem hu100{k:Nat}{A:bL}(hr:Room k A):A.units+100<cLine:=by have:=hr.un;omega
theorem NX{a b:Expr}{fa fb:FE}{pos:Pos}{k:Nat}(hr:Room k X.A)(ha:PVn X a fa)(hb:PVn X b fb):PV X (.Compare a [.Eq] [b] pos) (zJ eqD fa fb):=LJ (aDg (hu100 hr)) aDi ha hb (nI _)
theorem jQ{a b:Expr}{fa fb:FE}{pos:Pos}{k:Nat}(hr:Room k X.A)(ha:PVn X a fa)(hb:PVn X b fb):PTv X (.Compare a [.Eq] [b] pos) (zT (zJ eqD fa fb)):=vK (aDg (hu100 hr)) aDi ha hb (nI _)
theorem rS{a b:Expr}{fa fb:FE}{pos:Pos}{k:Nat}(hr:Room k X.A)(ha:PVn X a fa)(hb:PVn X b fb):PTv X (.Compare a [.NotEq] [b] pos) (zT (zJ neD fa fb)):=vK (op_neD (hu100 hr)) on_neD ha hb (nI _)
theorem UU{K:Frag}{H:Hp}{O:aA->Prop}{v:V}{d:D}(r:Rep K H O v d):decide (v=.non)=(match d with | .non=>true | _=>false):=by
 cases r<;>rfl
theorem on_is:OpN X (fun x y H Q=>y=.non/\Q (.bl (decide (x=.non))) H) isD:=by
 intro H O x y dx dy d Q rx ry e q;cases dy<;>first | (cases dx<;>simp[isD] at e;done) | skip
 cases ry;refine⟨rfl,?_⟩;rw[UU rx];cases dx<;>(simp only[isD,Option.some.injEq] at e;subst e;exact q _ H (Same.refl _) (.bl _))
theorem aDh:OpN X (fun x y H Q=>y=.non/\Q (.bl (!decide (x=.non))) H) notD:=by
 intro H O x y dx dy d Q rx ry e q;cases dy<;>first | (cases dx<;>simp[notD] at e;done) | skip
 cases ry;refine⟨rfl,?_⟩;rw[UU rx];cases dx<;>(simp only[notD,Option.some.injEq] at e;subst e;exact q _ H (Same.refl _) (.bl _))
theorem pv_is{a b:Expr}{fa fb:FE}{pos:Pos}(ha:PVn X a fa)(hb:PVn X b fb):PV X (.Compare a [.Is] [b] pos) (zJ isD fa fb):=LJ aDe on_is ha hb (nI _)
theorem NV{a b:Expr}{fa fb:FE}{pos:Pos}(ha:PVn X a fa)(hb:PVn X b fb):PV X (.Compare a [.IsNot] [b] pos) (zJ notD fa fb):=LJ US aDh ha hb (nI _)
theorem rV{a b:Expr}{fa fb:FE}{pos:Pos}(ha:PVn X a fa)(hb:PVn X b fb):PTv X (.Compare a [.Is] [b] pos) (zT (zJ isD fa fb)):=vK aDe on_is ha hb (nI _)
theorem ET{a b:Expr}{fa fb:FE}{pos:Pos}(ha:PVn X a fa)(hb:PVn X b fb):PTv X (.Compare a [.IsNot] [b] pos) (zT (zJ notD fa fb)):=vK US aDh ha hb (nI _)
theorem EJ{K:Frag}{H:Hp}{O:aA->Prop}{v:V}{d:D}(r:Rep K H O v d)(h:sclD d=true):flatV v=true:=by
 cases r<;>first | rfl | (simp[sclD] at h;done)
theorem scl_eq{K:Frag}{H:Hp}{O O':aA->Prop}{v v':V}{d d':D}(r:Rep K H O v d)(h:sclD d=true)(r':Rep K H O' v' d')(h':sclD d'=true):eqV v v'=eqvD d d':=by
 cases r<;>first | (simp[sclD] at h;done) | skip
 all_goals (cases r'<;>first | (simp[sclD] at h';done) | rfl)
theorem LC{K:Frag}{H:Hp}{O O':aA->Prop}{x:V}{dx:D}(rx:Rep K H O' x dx)(hx:sclD dx=true):∀{xs:List V} {l:List D},Reps K H O xs l->l.all sclD=true->xs.all flatV=true/\inV x xs=l.any fun z=>eqvD z dx
 |_,_,.nil,_=>⟨rfl,rfl⟩
 | _, _, .cons r t, h => by
   rw[tS,bU] at h;obtain⟨h1,h2⟩:=LC rx hx t h.2;refine⟨by rw[tS,EJ r h.1,h1];rfl,?_⟩;unfold inV at h2 ⊢;rw[iN,iN,h2,scl_eq r h.1 rx hx]
theorem on_in{neg:Bool}: OpN X (rIn X.K neg) (inD neg):=by
 intro H O x y dx dy d Q rx ry e q;unfold inD at e;obtain⟨l,hl,e⟩:=bnd e
 split at e
 . rename_i hs;cases e;cases dy with
   | lst l' =>
     cases hl;obtain⟨a,xs,rfl,hq,rs⟩:=WRep.seqL (.inl ry);obtain⟨h1,h2⟩:=LC rx hs.1 rs hs.2;refine⟨a,xs,rfl,.inl hq,EJ rx hs.1,h1,?_⟩;rw[h2];exact q _ H (Same.refl _) (.bl _)
   | tup l' =>
     cases hl;obtain⟨a,xs,rfl,hq,rs⟩:=WRep.seqT (.inl ry);obtain⟨h1,h2⟩:=LC rx hs.1 rs hs.2;refine⟨a,xs,rfl,.inr hq,EJ rx hs.1,h1,?_⟩;rw[h2];exact q _ H (Same.refl _) (.bl _)
   |_=>cases hl
 . cases e
theorem aCg{a b:Expr}{fa fb:FE}{pos:Pos}(ha:PVn X a fa)(hb:PVn X b fb)(hm:dQ .NotIn b=false:=by rfl):PTv X (.Compare a [.NotIn] [b] pos) (zT (zJ (inD true) fa fb)):=vK LV on_in ha hb hm
theorem os_mul:OpS X (rI QX fun i j=>.int (i*j)) mulD:=by
 intro H O x y dx dy d Q ho rx ry e q;cases dx<;>cases dy<;>first | (simp[mulD] at e;done) | skip
 simp only[mulD] at e
 split at e
 . rename_i hc;cases e;rw[rx.int',ry.int'];exact⟨_,_,rfl,rfl,hc,q _ H (Same.refl _) (.int _)⟩
 . cases e
theorem os_pow:OpS X (rI CPowB fun i j=>.int (i ^ j.toNat)) powD:=by
 intro H O x y dx dy d Q ho rx ry e q;cases dx<;>cases dy<;>first | (simp[powD] at e;done) | skip
 simp only[powD] at e
 split at e
 . rename_i hc;cases e;rw[rx.int',ry.int'];exact⟨_,_,rfl,rfl,hc,q _ H (Same.refl _) (.int _)⟩
 . cases e
theorem kG{a b:Expr}{fa fb:FE}{pos:Pos}(ha:PVw X a fa)(hb:PVw X b fb):PVf X (.BinOp a .Add b pos) (catA fa fb):=by
 obtain⟨ta,pa,ha⟩:=ha;obtain⟨tb,pb,hb⟩:=hb;refine⟨_,aCv op_catS pa pb,fun H₀ H O σ ds hd l Q o e q=>?_⟩;unfold catA at e;obtain⟨dx,h1,e⟩:=bnd e;obtain⟨dy,h2,e⟩:=bnd e;cases dx<;>cases dy<;>first | (simp at e;done) | skip
 simp only at e
 split at e
 . rename_i hz;cases e;refine ha H₀ H O σ ds hd _ _ o h1 fun x H1 s1 r1=>?_;refine hb H₀ H1 O σ ds hd _ _ (o.mono s1) h2 fun y H2 s2 r2=>?_;obtain⟨a1,xs,rfl,hq1,rs1⟩:=(r1.mono s2).seqL;obtain⟨a2,ys,rfl,hq2,rs2⟩:=r2.seqL;refine⟨a1,a2,xs,ys,rfl,rfl,hq1,hq2,by rw[rs1.length,rs2.length];exact hz,fun p hp=>?_⟩;refine q p _ _ ((s1.trans s2).trans (qG hp _)) ((s1.trans s2).free hp) bM ?_;exact((rs1.append rs2).more hp).mono (qG hp _)
 . cases e
variable(X) in
noncomputable def POv(e:Option Expr)(f:List Sl->Option (Option Int)):Prop:=∃t,PO X e t/\∀H₀ H O σ ds hd i Q,Ok X.K H₀ H O σ ds hd->f ds=some i->(∀H',Same H H'->Q i H')->t σ H Q
theorem wU:POv X none noP:=⟨_,po_none,fun _ H _ _ _ _ _ _ _ e q=>by cases e;exact q H (Same.refl _)⟩
theorem xG{e:Expr}{f:FE}(h:PVw X e f):POv X (some e) (soP f):=by
 obtain⟨t,ht,hf⟩:=h;refine⟨_,po_some ht,fun H₀ H O σ ds hd i Q o e q=>?_⟩;unfold soP at e;obtain⟨d,h1,e⟩:=bnd e;cases d<;>first | (cases e;done) | skip
 cases e;refine hf H₀ H O σ ds hd _ _ o h1 fun v H' s r=>?_;rw[r.int'];exact⟨_,rfl,q H' s⟩
theorem aFg{K:Frag}{H:Hp}{O:aA->Prop}{xs:List V}{l:List D}{a b:Option Int}(rs:Reps K H O xs l):Reps K H O (cutV xs a b) (cutD l a b):=by
 unfold cutV cutD;rw[rs.length];exact(rs.drop _).take _
theorem wX{e:Expr}{lo hi:Option Expr}{f:FE}{gl gh:List Sl->Option (Option Int)}{p2 pos:Pos}(he:PVw X e f)(hl:POv X lo gl)(hh:POv X hi gh):PVf X (.Subscript e (.Slice lo hi none p2) pos) (sliA f gl gh):=by
 obtain⟨te,pe,he⟩:=he;obtain⟨tl,pl,hl⟩:=hl;obtain⟨th,ph,hh⟩:=hh;refine⟨_,OF sl_list pe pl ph,fun H₀ H O σ ds hd l Q o e q=>?_⟩;unfold sliA at e;obtain⟨d,h1,e⟩:=bnd e;obtain⟨a,h2,e⟩:=bnd e;obtain⟨b,h3,e⟩:=bnd e;cases d<;>first | (cases e;done) | skip
 cases e;refine he H₀ H O σ ds hd _ _ o h1 fun v H1 s1 r1=>?_;refine hl H₀ H1 O σ ds hd _ _ (o.mono s1) h2 fun H2 s2=>?_;refine hh H₀ H2 O σ ds hd _ _ ((o.mono s1).mono s2) h3 fun H3 s3=>?_;obtain⟨a1,xs,rfl,hq,rs⟩:=((r1.mono s2).mono s3).seqL;refine⟨a1,xs,rfl,hq,fun p hp=>?_⟩;have ss:=(s1.trans s2).trans s3;refine q p _ _ (ss.trans (qG hp _)) (ss.free hp) bM ?_;exact((aFg rs).more hp).mono (qG hp _)
theorem NU{e:Expr}{f:FE}{p pos:Pos}(hm:X.mg "list" = none)(he:PVw X e f)(hg:Gl X "list":=by rfl)(hs:aF [e] X.env=[(false,bT e X.env)]:=by rfl):PVf X (.Call (.Name "list" p) [e] [] pos) (lisA f):=by
 obtain⟨te,pe,he⟩:=he;refine⟨_,kB MS hg hm (by decide +kernel) (qY pe jW hs) (by decide) (by decide) hs rfl,fun H₀ H O σ ds hd l Q o e q=>?_⟩;unfold lisA at e;obtain⟨d,h1,e⟩:=bnd e;refine he H₀ H O σ ds hd _ _ o h1 fun v H1 s1 r1=>?_;cases d<;>first | (cases e;done) | skip
 . cases e;obtain⟨a1,xs,rfl,hq,rs⟩:=r1.seqT;refine⟨a1,xs,rfl,.inr hq,fun p hp=>?_⟩;exact q p _ _ (s1.trans (qG hp _)) (s1.free hp) bM ((rs.more hp).mono (qG hp _))
 . cases e;obtain⟨a1,xs,rfl,hq,rs⟩:=r1.seqL;refine⟨a1,xs,rfl,.inl hq,fun p hp=>?_⟩;exact q p _ _ (s1.trans (qG hp _)) (s1.free hp) bM ((rs.more hp).mono (qG hp _))
theorem cs_max:CallS X (fun xs H Q=>∃i j,xs=[.int i,.int j]/\Q (.int (if j>i then j else i)) H) mxD:=by
 intro H O vs l d Q ho r e q;unfold mxD at e
 split at e
 . cases e;cases r with
   | cons r1 rn =>
     cases rn with
     | cons r2 rm =>
       cases rm;exact⟨_,_,by rw[r1.int',r2.int'],q _ H (Same.refl _) (.int _)⟩
 . cases e
theorem cs_min:CallS X (fun xs H Q=>∃i j,xs=[.int i,.int j]/\Q (.int (if j<i then j else i)) H) mnD:=by
 intro H O vs l d Q ho r e q;unfold mnD at e
 split at e
 . cases e;cases r with
   | cons r1 rn =>
     cases rn with
     | cons r2 rm =>
       cases rm;exact⟨_,_,by rw[r1.int',r2.int'],q _ H (Same.refl _) (.int _)⟩
 . cases e
theorem pv_max2{p pos:Pos}{a b:Expr}{g:FA}(hc:X.calm=true)(hm:X.mg "max" = none)(ha:PAv X [a,b] g)(hg:Gl X "max":=by rfl)(he:aF [a,b] X.env=(false,bT a X.env)::aF [b] X.env:=by rfl)(hpl:(cP pos (aF [b] X.env)).any (·.1)=false:=by rfl) :
  PV X (.Call (.Name "max" p) [a,b] [] pos) (callB mxD g):=vW (ZG hc) cs_max hm (by decide +kernel) ha hg (by decide) (by decide) he hpl
theorem pv_min2{p pos:Pos}{a b:Expr}{g:FA}(hc:X.calm=true)(hm:X.mg "min" = none)(ha:PAv X [a,b] g)(hg:Gl X "min":=by rfl)(he:aF [a,b] X.env=(false,bT a X.env)::aF [b] X.env:=by rfl)(hpl:(cP pos (aF [b] X.env)).any (·.1)=false:=by rfl) :
  PV X (.Call (.Name "min" p) [a,b] [] pos) (callB mnD g):=vW (ZF hc) cs_min hm (by decide +kernel) ha hg (by decide) (by decide) he hpl
theorem CB{α β : Type}{xs:List α}{ys:List β}(h:xs.length=ys.length):xs.isEmpty=ys.isEmpty:=by
 cases xs<;>cases ys<;>simp_all
theorem PVn.t{e:Expr}{f:FE}(h:PVn X e f)(he:∀whole,CW e X.env whole=(do let v <- whole;fO e.pos;eC [v] (ZO v)):=by intro _;rfl):PTv X e (testT f):=by
 obtain⟨t,ht,hf⟩:=h;refine⟨_,aCf ht he,fun H₀ H O σ ds hd k Q o e q=>?_⟩;unfold testT at e;obtain⟨d,h,e⟩:=bnd e;refine hf H₀ H O σ ds hd d _ o h fun v H' s r=>⟨k,?_,q H' s⟩
 cases d with
 |non=>cases e;cases r;exact rfl
 |bl b=>cases e;cases r;exact rfl
 |int i=>cases e;cases r;exact rfl
 | str x =>
   simp only[truD] at e
   split at e
   . rename_i hz;cases e;cases r;exact⟨hz,rfl⟩
   . cases e
 | tup l =>
   cases e;obtain⟨a,xs,rfl,hq,rs⟩:=WRep.seqT (.inl r);exact .inr (.inl ⟨xs,hq,by rw[CB rs.length]⟩)
 | lst l =>
   cases e;obtain⟨a,xs,rfl,hq,rs⟩:=WRep.seqL (.inl r);exact .inl ⟨xs,hq,by rw[CB rs.length]⟩
 |_=>cases e
theorem yQ{st:Stmt}: PSv X st (fun _=>none):=⟨_,aCq,fun _ _ _ _ _ _ _ _ _ e _=>by cases e⟩
theorem psv_asg{tg e:Expr}{pos:Pos}{f:FE}{ga:D->List Sl->Option (List Sl)}(he:PV X e f)(hg:PGv X tg ga)(hs:TM [tg] e pos.line X.env=pure false:=by rfl)(hw:TN [tg] e X.env=pure none:=by rfl)(h1:(gK [tg] X.env).map (·.2)=[pW tg X.env]:=by rfl):PSv X (.Assign [tg] e pos) (asgG ga f):=by
 obtain⟨te,pe,he⟩:=he;obtain⟨tg',pg,hg⟩:=hg;refine⟨_,aCs pe pg hs hw h1,(3:)⟩;unfold asgG at e;obtain⟨d,h2,e⟩:=bnd e;cases h3:ga d ds with
 |none=>rw[h3] at e;cases e
 | some ds' =>
   rw[h3] at e;cases e;refine he H₀ H O σ ds hd d _ o h2 fun v H1 s1 r1=>?_;exact hg H₀ H1 O σ ds hd v d ds' _ (o.mono s1) r1 h3 fun σ' o'=>h σ' H1 O o'
theorem UM{i:Nat}{x:Str}{e:Expr}{pos p1 p2 p3:Pos}{fe:FA}(he:PVf X e fe)(hN:X.N[i]?=some x:=by rfl)(hv:Vis X.env.scope x:=by first | exact Or.inl rfl | exact Or.inr (Or.inl rfl) | exact Or.inr (Or.inr rfl))(hd:(6:)=false:=by decide)(hcd:(x==("__classdict__" : Str))=false:=by decide)(hfew:((cP p3 (aF [e] X.env)).all (fun x=>!x.1)&&(fN p3 (dJ [] X.env)).all (fun x=>x.1.isSome)
    && decide ([e].length+([]:List sJ).length+(if ([]:List sJ).isEmpty then 0 else 1)<30))=true:=by rfl)(hline:(p2.endLine==p3.line)=true:=by rfl)(hs:aF [e] X.env=(false,bT e X.env)::aF [] X.env:=by rfl)(hbase:eJ (.Name x p1) "extend" X.env (bT (.Name x p1) X.env)=bT (.Name x p1) X.env:=by rfl)(hsw:dF (.Call (.Attribute (.Name x p1) "extend" p2) [e] [] p3) none pos.line X.env=pure false:=by rfl) :
  PSv X (.Expr (.Call (.Attribute (.Name x p1) "extend" p2) [e] [] p3) pos) (extG i fe):=by
 obtain⟨te,pe,he⟩:=he;refine⟨_,xC (aDa iM PySem.F.slot_list_extend PySem.F.type_list_extend XX (yL hN hv hd hcd) (qY pe jW hs) hbase hfew hline hs rfl) hsw,(3:)⟩;unfold extG at e;cases hsl:ds[i]? with
 |none=>rw[hsl] at e;cases e
 | some s =>
   rw[hsl] at e;cases s with
   |v d'=>cases e
   |no=>cases e
   |exc _=>cases e
   |fr _=>cases e
   |ob _ _=>cases e
   | own l =>
     simp only at e;obtain⟨d,h1,e⟩:=bnd e
     split at e
     . rename_i hl;cases e;obtain⟨a,xs,q1,q2,q3,q4⟩:=o.readO hsl;refine⟨.ref a,q1,.inl ⟨rfl,xs,SqL.of q3⟩,?_⟩;refine he H₀ H O σ ds hd d _ o h1 fun b ys H1 s1 hn hb r1=>?_;refine⟨a,b,xs,ys,rfl,rfl,s1 _ _ q3,hb,by rw[q4.length,r1.length];exact hl,?_⟩;exact h _ _ _ ((o.mono s1).modify hsl q1 ((q4.mono s1).append (r1.less fun a z=>.inr z)))
     . cases e
theorem JH{i:Nat}{y:Str}{py spos:Pos}{scope:Scope}{NY:List Str}{mp:List (Option Nat)}{tg iter elt:Expr}{ifs:List Expr}{pos:Pos}{fi:FA}{ga:D->List Sl->Option (List Sl)}{tt:FT}{fe:FE}(hN:X.N.Nodup)(S:CompScope X scope NY mp)(hc:X.calm=true)(hi:PIv X tg iter fi)(hg:∀c,PGv (jD X scope NY c) tg ga)(ht:∀c,PFv (jD X scope NY c) ifs tt)(he:∀c,PV (jD X scope NY c) elt fe)(hy:X.N[i]?=some y:=by rfl)(hl:X.env.scope.names.lookup y=some .local:=by rfl)(hsw:dF (.ListComp elt [⟨tg,iter,ifs,0⟩] scope pos) (some (.Name y py)) spos.line X.env=pure true:=by rfl)(hs:∀x,eL iter X.env x=pure x:=by intro _;rfl):PSv X (.Assign [.Name y py] (.ListComp elt [⟨tg,iter,ifs,0⟩] scope pos) spos) (jY i (mkL (compG fi mp ga tt fe))):=by
 obtain⟨wi,pi,hi⟩:=hi;refine⟨_,ps_comp hN hy hl hsw S hc pi (fun c=>(Classical.choose_spec (hg c)).1) (fun c=>(Classical.choose_spec (ht c)).1) (fun c=>(Classical.choose_spec (he c)).1) hs,(3:)⟩;unfold jY mkL at e;cases h1:compG fi mp ga tt fe ds with
 |none=>rw[h1] at e;cases e
 | some l =>
   rw[h1] at e;cases e
   exact GS hi (fun c=>(Classical.choose_spec (hg c)).2) (fun c=>(Classical.choose_spec (ht c)).2) (fun c=>(Classical.choose_spec (he c)).2) H₀ H O σ ds hd l _ o h1 fun a xs H' s hn he r =>
    h _ _ _ ((o.mono s).set (.lst (o.free hn) (.inl he) (r.less fun _ z=>.inr z)))
end
end FL
namespace L2
open PySem PySem.Spec PyProof.Rows
section
variable{X:Cx}
end
end L2
namespace Att
open PySem PySem.W PySem.Calls PyProof.Rows
theorem CD:∀{ns:List Int} {b:Nat},WData.weightAll (ns.map WData.int)<=b->∀c∈ns,Builtin.Int.intBits c<=b
 |[],_,_=>fun c hc=>by cases hc
 | n :: r, b, h => fun c hc => by
   simp only[bI,WData.weightAll,WData.weight] at h;rcases aE.mp hc with rfl | hc
   . unfold Builtin.Int.intBits;omega
   . exact CD (ns:=r) (b:=b) (by omega) c hc
theorem attach_callB{l:OpenLaw}{n:Nat}{q:aW}{loose:List Str}{XP:(Str->Option Value)->Heap->Prop}{YP:bR->Heap->Prop}{d:DefRec}(hn:l.most=some n)(hdf:d.params.defaults=[])(call:∀(w:bR) (s₀ s₁ : aD) (mg mb:Str->Option Value) (fa:aA) (o:Obj) (pm cd doc:Value) (a:aA) (vs:List Value) (ns:List Int),
    Ground q loose [] XP w s₀ mg mb s₁.heap->YP w s₁.heap →
    s₁.heap.get? fa=some o->o.data=.func (docDef d.name d.params d.body d.scope pm cd doc)->s₁.heap.CodeRec cd d.name->mg d.name=some (.ref fa) →
    s₁.heap.get? a=some { cls:=.type "list",data:=.seq vs.toArray }->ZU vs ns->ns.length<=n->(∀c∈ns,Builtin.Int.intBits c<=1048576)->s₁.gens=#[] →
    nE (bE l.prog w) HB (.call (.ref fa) ⟨[.ref a],[]⟩) (fun r s'=>r=.ok (.ret (.bool true))/\OldK s₁.heap s'.heap/\s'.os=s₁.os/\iQ s'.gens) s₁) :
  WalkO q loose XP YP l.row.toRowW d [] (fun f vs=>PySem.call f vs):=by
 intro w s₀ s₁ mg mb G Y fa o pm cd doc dV kV ho hd hcd hD hmg hg args vals as hpre hlay hrd hwl hlo;obtain rfl:dV=.none:=Dflts.none hD hdf;obtain rfl:kV=.none:=Dflts.noKw hD;obtain⟨a,vs,ns,rfl,rfl,hobj,hints,hlen⟩:=WN hn hpre hwl
 have hb:∀c∈ns,Builtin.Int.intBits c<=1048576:=by
  have h1:=(layableW_iff.mp (layW_cons hlay).1).2.2;simp only[WData.weight] at h1;exact CD (dA h1 (by decide))
 refine enter_call (oM (call w s₀ s₁ mg mb fa o pm cd doc a vs ns G Y ho (fd_plain hd) hcd hmg hobj hints hlen hb hg) fun r s' hq=>?_);obtain⟨rfl,h2,h3,h4⟩:=hq;exact⟨.inl ⟨.bool true,.bool true,[],rfl,fun _=>rfl,.bool true,WY l _,fun _=>⟨List.Pairwise.nil,fun _ hm=>(nomatch hm)⟩⟩,h2,h3,h4⟩
end Att
namespace FL
open PySem PySem.Spec PyProof.Rows L2
noncomputable def RJ(K:Frag)(n:Nat):Sp:=fun vs H Q _=>∃(a:aA) (ns:List Int),vs=[.ref a]/\SqL K H a (ns.map V.int)/\ns.length<=n/\(∀c∈ns,Builtin.Int.intBits c<=1048576)/\∀H',Q (.bl true) H'
theorem law_ofB{P:aW}{w:bR}{K:Frag}{mg:Str->Option Value}{base:Heap}{k:Nat}{f:aA}{fd:aJ}{x:Str}{n:Nat}{F:List D->Option Ret}(Fn:FnOk P w K mg base CX0 k f fd [x] (spF K 1 F))(h:∀ns:List Int,ns.length<=n->(∀c∈ns,Builtin.Int.intBits c<=1048576)->F [.lst (ns.map D.int)]=some (.val (.bl true))):FnOk P w K mg base CX0 k f fd [x] (RJ K n):=by
 refine Fn.imp fun vs H Q E hq=>?_;obtain⟨a,ns,rfl,hS,hl,hb,q⟩:=hq;refine⟨rfl,[.lst (ns.map D.int)],.val (.bl true),.cons ?_ .nil,h ns hl hb,fun v H' s r=>?_⟩
 . rcases hS with hS | hS
   . exact .lst (fun z=>z.elim) hS (Reps.ints ns)
   . exact .lstK hS (Reps.ints ns)
 . cases r;exact q H'
open PySem.W (tabIn CodeHd tabObj noTabs tab_of) in
inductive TabL(K:Frag)(q:aW):List Str->List (Str×aA×aA)->Prop
 |nil:TabL K q [] []
 |yes {x:Str} {xs:List Str} {c P:aA} {tl:List (Str×aA×aA)} (h:iD K x=some (c,P)) (r:((recsOf q).find? (fun e=>e.name==x)).isSome=true) (ap:(tl.all fun p=>p.2.2 != P)=true) (t:TabL K q xs tl):TabL K q (x::xs) ((x,c,P)::tl)
 |no {x:Str} {xs:List Str} {tl:List (Str×aA×aA)} (h:iD K x=none) (t:TabL K q xs tl):TabL K q (x::xs) tl
theorem tabL_no{K:Frag}{q:aW}{x:Str}{xs:List Str}{tl:List (Str×aA×aA)}(h:aI K aH x=some none)(t:TabL K q xs tl):TabL K q (x::xs) tl:=.no (by unfold iD;rw[h]) t
theorem tabL_yes{K:Frag}{q:aW}{x:Str}{xs:List Str}{c P f:aA}{fd:aJ}{oc oc':Value}{od od':Option aA}{sl sl':Array (Option Value)}{vs:Array Value}{tl:List (Str×aA×aA)}(h1:aI K aH x=some (some (.ref f)))(h2:K.lookup f=some ⟨oc,od,.func fd,sl⟩)(h3:fd.code=.ref c)(h4:K.lookup c=some ⟨oc',od',.fields vs,sl'⟩)(h5:(vs[11]? : Option Value)=some (.ref P))(r:((recsOf q).find? (fun e=>e.name==x)).isSome=true)(t:TabL K q xs tl)(ap:(tl.all fun p=>p.2.2 != P)=true):TabL K q (x::xs) ((x,c,P)::tl):=
 .yes (by unfold iD;simp only[h1,h2,h3,h4,h5]) r ap t
section
variable{K:Frag}{q:aW}{xs:List Str}{tl:List (Str×aA×aA)}
theorem TabL.get(h:TabL K q xs tl):∀{x:Str} {c P:aA},x∈xs->iD K x=some (c,P)->(x,c,P)∈tl:=by
 induction h with
 |nil=>intro x c P hx;cases hx
 | yes h r ap t ih =>
   intro x c P hx ht;rcases aE.mp hx with e | e
   . subst e;rw[h] at ht;cases ht;exact aV
   . exact aP _ (ih e ht)
 | no h t ih =>
   intro x c P hx ht;rcases aE.mp hx with e | e
   . subst e;rw[h] at ht;cases ht
   . exact ih e ht
theorem TabL.fact(h:TabL K q xs tl):∀p∈tl,iD K p.1=some (p.2.1,p.2.2)/\((recsOf q).find? (fun e=>e.name==p.1)).isSome=true:=by
 induction h with
 |nil=>intro p hp;cases hp
 | yes h r ap t ih =>
   intro p hp;rcases aE.mp hp with e | e
   . subst e;exact⟨h,r⟩
   . exact ih p e
 |no h t ih=>exact ih
noncomputable def tabH(K:Frag)(tl:List (Str×aA×aA)):Hp:=fun b=>(tl.find? fun p=>p.2.2==b).map fun p=>.tbl (tI K p.1)
theorem DF{b:aA}{u:HO}(e:tabH K tl b=some u):∃p∈tl,b=p.2.2/\u=.tbl (tI K p.1):=by
 unfold tabH at e;obtain⟨p,h,rfl⟩:=mpd e;exact⟨p,List.mem_of_find?_eq_some h,(beq_iff_eq.mp (List.find?_some (p:=fun p:Str×aA×aA=>p.2.2==b) h)).symm,rfl⟩
theorem TabL.at(h:TabL K q xs tl):∀p∈tl,tabH K tl p.2.2=some (.tbl (tI K p.1)):=by
 induction h with
 |nil=>intro p hp;cases hp
 | yes h r ap t ih =>
   intro p hp;rename_i x xs c P tl;unfold tabH;rcases aE.mp hp with e | e
   . subst e;simp
   . have:(P==p.2.2)=false:=by
      have:=iB.mp ap p e;simp only[bne_iff_ne,ne_eq] at this;exact beq_eq_false_iff_ne.mpr (Ne.symm this)
     rw[eX,this];exact ih p e
 |no h t ih=>exact ih
end
theorem no_cls{K:Frag}{h:Heap}{b:aA}{o:Obj}{ps:Array Value}(X:K.In h)(hK:DB K=true)(e:K.lookup b=some o)(hb:h.get? b=some (DA ps)):False:=by
 have q:=X b o e;rw[hb] at q;cases q;have h2:=iB.mp hK (b,_) (PySem.W.mem_of_lookupK e);exact absurd (show false=true from h2) cL
theorem YG{P:aW}{w:bR}{K:Frag}{q:aW}{loose:List Str}{mean:ExcName->Option Value}{mg mb:Str->Option Value}{k:Nat}{fa a:aA}{fd:aJ}{x:Str}{sp:Sp}{s₁ : aD}{vs:List Value}{ns:List Int}{tl:List (Str×aA×aA)}(KX:K.In s₁.heap)(T:Top q loose mean mg mb s₁.heap)(hT:TabL K q makers tl)(hK:DB K=true)(hg:s₁.gens=#[])(ha:s₁.heap.get? a=some { cls:=.type "list",data:=.seq vs.toArray })(hi:ZU vs ns)(hl:ns.length<=sizeLine)(hr:Room k HB)(F:∀base:Heap,K.In base->base.Ns aH mg->FnOk P w K mg base CX0 k fa fd [x] sp)(hbind:∀(s:aD) (u:Value),NB s fd ⟨[u],[]⟩ [(x,u)])(hsp:∀H:Hp,SqL K H a (ns.map V.int)->sp [.ref a] H (fun v _=>v=.bl true) fun _ _ _=>False) :
  nE (bE P w) HB (.call (.ref fa) ⟨[.ref a],[]⟩) (fun r s'=>r=.ok (.ret (.bool true))/\OldK s₁.heap s'.heap/\s'.os=s₁.os/\iQ s'.gens) s₁:=by
 have rv:=IN hi
 have tf:∀p∈tl,ZR s₁.heap p.2.1 p.2.2/\s₁.heap.get? p.2.2=some (DA #[]):=fun p hp=>by
  obtain⟨h1,h2⟩:=hT.fact p hp;obtain⟨d,hd⟩:=HG.mp h2;exact PySem.W.tab_of T KX hd h1
 have core:∀H:Hp,SqL K H a (ns.map V.int)->L2.HOk P w H s₁.heap->(∀b u,H b=some u->(b=a/\K.lookup a=none/\∃o xs,u=.frz o (.lst xs))\/∃p∈tl,b=p.2.2/\u=.tbl (tI K p.1))->(∀p∈tl,H p.2.2=some (.tbl (tI K p.1))) →
   nE (bE P w) HB (.call (.ref fa) ⟨[.ref a],[]⟩) (fun r s'=>r=.ok (.ret (.bool true))/\OldK s₁.heap s'.heap/\s'.os=s₁.os/\iQ s'.gens) s₁:=by
  intro H hS hok hA hP
  have free_of:∀{b:aA} {o:Obj},s₁.heap.get? b=some o->(∀its n,o.data≠.seq its n)->o.data≠.fields #[]->H b=none:=fun {b o} e n1 n2=>by
   cases qb:H b with
   |none=>rfl
   | some u =>
     rcases hA b u qb with⟨rfl,_,_⟩ | ⟨p,hp,rfl,_⟩
     . rw[ha] at e;cases e;exact(n1 _ _ rfl).elim
     . rw[(tf p hp).2] at e;cases e;exact(n2 rfl).elim
  have base_of:∀{b:aA} {o:Obj},s₁.heap.get? b=some o->(∀its n,o.data≠.seq its n)->o.data≠.fields #[]->(hidT s₁.heap H).get? b=some o:=fun e n1 n2=>PM e (free_of e n1 n2);have nsK:∀{b:aA} {m:Str->Option Value},s₁.heap.Ns b m->(hidT s₁.heap H).Ns b m:=fun {b m} ⟨o,es,ep,e,d,r⟩=>⟨o,es,ep,base_of e (fun _ _ z=>by rw[d] at z;cases z) (fun z=>by rw[d] at z;cases z),d,r⟩
  have hKb:K.In (hidT s₁.heap H):=fun b o e=>PM (KX b o e) (by
   cases qb:H b with
   |none=>rfl
   | some u =>
     rcases hA b u qb with⟨rfl,z,_⟩ | ⟨p,hp,rfl,_⟩
     . rw[z] at e;cases e
     . exact(no_cls KX hK e (tf p hp).2).elim)
  have hM:Mod K mg (hidT s₁.heap H):=⟨hKb,nsK T.g,⟨mb,nsK T.b,T.builtins⟩,let ⟨mc,h1,h2⟩:=T.nolimit;⟨mc,nsK h1,h2⟩⟩
  have hTab:TabsK K mg (hidT s₁.heap H) H:=by
   refine⟨?_,fun y c P' hy ht=>?_⟩
   . obtain⟨bm, ob, b1, b2, b3, b4, b5, b6⟩ := T.bmain;exact⟨bm,ob,b1,b2,base_of b3 (fun _ _ z=>by rw[b6] at z;cases z) (fun z=>by rw[b6] at z;cases z),b4,b5,b6⟩
   . have hm := hT.get hy ht;refine⟨?_,hP _ hm⟩;obtain⟨o,ws,file,tf',flags,tg,inF,text,tt,e1,r1,r2,r3,rest⟩:=(tf _ hm).1;refine⟨o,ws,file,tf',flags,tg,inF,text,tt,base_of e1 (fun _ _ z=>by rw[r2] at z;cases z) (fun z=>?_),r1,r2,r3,rest⟩;rw[r2] at z;cases z;cases r3
  have e0:Env0 P w K mg (hidT s₁.heap H) HB [] s₁ H:=⟨rfl,hM,fun b o e=>of_hidT e,⟨nL (YQ _ _),hTab⟩,trivial,fun b hb=>absurd (show b∈([]:List aA) from hb) (by simp),hok,.of_eq hg⟩
  refine oM ((F _ hKb (nsK T.g)).run HB [] s₁ H ⟨[.ref a],[]⟩ [.ref a] [.ref a] _ _ hr e0 (hbind s₁ (.ref a)) (.cons rfl .nil) (hsp H hS)) fun r s' h=>?_;cases r with
  |error e=>exact False.elim h
  | ok fl =>
    cases fl with
    |next=>exact False.elim h
    |brk=>exact False.elim h
    |cont=>exact False.elim h
    | ret u =>
      obtain⟨v,H',os,bare,un,hok',r',hv⟩:=h;have hv':v=.bl true:=hv;subst hv';obtain rfl:u=Value.bool true:=r';refine⟨rfl,⟨fun b o e=>?_,fun b o e=>un.there b o e (by simp)⟩,os,bare⟩;cases qb:H b with
      |none=>exact .inl (un.keep b o e qb (by intro z;exact absurd (show b∈([]:List aA) from z) (by simp)) (by simp))
      | some u =>
        rcases hA b u qb with⟨_,_,ob,xs,rfl⟩ | ⟨p,hp,rfl,rfl⟩
        . obtain⟨e1, _⟩ := hok b _ qb;obtain⟨e2,_⟩:=hok' b _ (un.frzs b ob _ qb);rw[e] at e1;cases e1;exact .inl e2
        . have t2 := (tf p hp).2;rw[e] at t2;cases t2;obtain⟨ps,e2,_⟩:=hok' _ _ (un.tbls _ _ qb);exact .inr (.inl ⟨((tf p hp).1.tab (tf p hp).2).isCodeTable,rfl,#[],ps,rfl,by rw[Array.empty_append];exact e2⟩)
 have tabOk:∀(H:Hp) (p:Str×aA×aA),p∈tl->ObjOk P w H s₁.heap p.2.2 (.tbl (tI K p.1)):=fun H p hp=>⟨#[],(tf p hp).2,trivial,fun pos v z=>by cases z⟩
 cases hk:K.lookup a with
 | some o =>
   have e:=KX a o hk;rw[ha] at e;cases e;refine core (tabH K tl) (.inr ⟨_,vs.toArray,_,hk,rfl,rfl,rfl,by rw[aZ,hi.length];exact hl,by simpa using rv⟩) (fun b u z=>?_) (fun b u z=>.inr (DF z)) fun p hp=>hT.at p hp;obtain⟨p,hp,rfl,rfl⟩:=DF z;exact tabOk _ p hp
 | none =>
   have na:∀p∈tl,p.2.2≠a:=fun p hp z=>by
    have:=(tf p hp).2;rw[z,ha] at this;cases this
   refine core (upd (tabH K tl) a (.frz { cls:=.type "list",data:=.seq vs.toArray } (.lst (ns.map V.int)))) (.inl (.inr ⟨_,bM⟩)) (fun b u z=>?_) (fun b u z=>?_) fun p hp=>by rw[upd_ne (na p hp)];exact hT.at p hp
   . by_cases hb : b = a
     . subst hb;rw[bM] at z;cases z;exact⟨ha,by rw[bO];exact hl,vs,_,rv,ha⟩
     . rw[upd_ne hb] at z;obtain⟨p,hp,rfl,rfl⟩:=DF z;exact tabOk _ p hp
   . by_cases hb : b = a
     . subst hb;rw[bM] at z;cases z;exact .inl ⟨rfl,hk,_,_,rfl⟩
     . rw[upd_ne hb] at z;exact .inr (DF z)
theorem walkB{l:WF}{q:aW}{loose:List Str}{XP:(Str->Option Value)->Heap->Prop}{YP:bR->Heap->Prop}{d:DefRec}{K:Params->aN}{k:Nat}{tl:List (Str×aA×aA)}(hn:l.most=some 63)(hdf:d.params.defaults=[])(hr:Room k HB)(hY:∀(w:bR) (h:Heap),YP w h->(K w.params).In h)(hK:∀w:bR,DB (K w.params)=true)(hT:∀w:bR,TabL (K w.params) q makers tl)(F:∀(w:bR) (mg:Str->Option Value) (fa:aA) (h:Heap),(K w.params).In h->h.Ns aH mg->mg d.name=some (.ref fa) →
    ∃fd:aJ,(∀(s:aD) (u:Value),NB s fd ⟨[u],[]⟩ [("_law_script",u)])/\∀base:Heap,(K w.params).In base->base.Ns aH mg->FnOk l.prog w (K w.params) mg base CX0 k fa fd ["_law_script"] (RJ (K w.params) 63)) :
  PySem.W.WalkO q loose XP YP l.row.toRowW d [] (fun f vs=>PySem.call f vs):=by
 refine Att.attach_callB hn hdf fun w s₀ s₁ mg mb fa o pm cd doc a vs ns G Y ho hd hcd hmg hobj hints hlen hb hg=>?_;have KX:=hY w _ Y;obtain⟨fd,hbd,hF⟩:=F w mg fa _ KX G.T.g hmg;exact YG KX G.T (hT w) (hK w) hg hobj hints (dA hlen (by decide)) hr hF hbd fun H hS=>⟨a,ns,rfl,hS,hlen,hb,fun _=>rfl⟩
structure Cal(P:aW)(w:bR)(K:Frag)(mg:Str->Option Value)(base:Heap)(x:Str)(k n:Nat)(F:List D->Option Ret):Prop where
 ex:∃(f:aA) (fd:aJ) (ps:List Str),FnOk P w K mg base CX0 k f fd ps (spF K n F)/\Binds K fd ps []/\bG K (.ref f)=true/\mg x=some (.ref f)
section
variable{X:Cx}
section
variable{k j:Nat}{n:Nat}{F:List D->Option Ret}{x:Str}{p pos:Pos}{e:Expr}{es:List Expr}{g:FA}
theorem zP(C:Cal X.prog X.w X.K X.mg X.base x k n F)(hr:Room j X.A)(ha:PAn X (e::es) g)(hj:k<=j:=by decide)(hg:Gl X x:=by rfl)(hdb:(6:)=false:=by decide)(he:aF (e::es) X.env=(false,bT e X.env)::aF es X.env:=by rfl)(hpl:(cP pos (aF es X.env)).any (·.1)=false:=by rfl) :
  PV X (.Call (.Name x p) (e::es) [] pos) (qC n F g):=by
 obtain⟨f,fd,ps,Fn,hb,hk,hm⟩:=C.ex;exact aBz Fn (hr.mono hj) hm hk hb ha hg hdb he hpl
theorem qZ(C:Cal X.prog X.w X.K X.mg X.base x k n F)(hr:Room j X.A)(ha:PAn X (e::es) g)(hj:k<=j:=by decide)(hg:Gl X x:=by rfl)(hdb:(6:)=false:=by decide)(he:aF (e::es) X.env=(false,bT e X.env)::aF es X.env:=by rfl)(hpl:(cP pos (aF es X.env)).any (·.1)=false:=by rfl) :
  PVf X (.Call (.Name x p) (e::es) [] pos) (jT n F g):=by
 obtain⟨f,fd,ps,Fn,hb,hk,hm⟩:=C.ex;exact WS Fn (hr.mono hj) hm hk hb ha hg hdb he hpl
end
end
section
variable{X:Cx}{a b:Expr}{fa fb:FE}{pos:Pos}
theorem pv_lt(ha:PVw X a fa)(hb:PVw X b fb):PV X (.Compare a [.Lt] [b] pos) (zJ ltD fa fb):=RP op_lt DK ha hb (nI _)
theorem pv_le(ha:PVw X a fa)(hb:PVw X b fb):PV X (.Compare a [.LtE] [b] pos) (zJ leD fa fb):=RP op_le DK ha hb (nI _)
theorem ES(ha:PVw X a fa)(hb:PVw X b fb):PTv X (.Compare a [.Lt] [b] pos) (zT (zJ ltD fa fb)):=UK op_lt DK ha hb (nI _)
theorem aCi(ha:PVw X a fa)(hb:PVw X b fb):PTv X (.Compare a [.Gt] [b] pos) (zT (zJ gtD fa fb)):=UK op_gt DK ha hb (nI _)
theorem qJ(ha:PVw X a fa)(hb:PVw X b fb):PV X (.BinOp a .Add b pos) (zJ yP fa fb):=AM op_addU os_add ha hb
theorem xE(ha:PVw X a fa)(hb:PVw X b fb):PV X (.BinOp a .Sub b pos) (zJ subD fa fb):=AM op_sub os_sub ha hb
theorem wA(ha:PVw X a fa)(hb:PVw X b fb):PV X (.BinOp a .Mult b pos) (zJ mulD fa fb):=AM op_mulB os_mul ha hb
theorem uJ(ha:PVw X a fa)(hb:PVw X b fb):PV X (.BinOp a .Pow b pos) (zJ powD fa fb):=AM op_powB os_pow ha hb
theorem zV(ha:PVw X a fa)(hb:PVw X b fb):PV X (.BinOp a .Mod b pos) (zJ jK fa fb):=AM op_mod os_mod ha hb
theorem qI(ha:PVw X a fa)(hb:PVw X b fb):PV X (.BinOp a .FloorDiv b pos) (zJ qX fa fb):=AM aDf os_fdiv ha hb
end
end FL
namespace L2
open PySem PySem.Spec PyProof.Rows
section
variable{X:Cx}{tg:Expr}
theorem pi_seq{l:Expr}{tl:TE}(hl:PE X l tl):PI X tg l (fun σ H R=>iList X.K tl σ H R\/iTup X.K tl σ H R):=by
 intro aC s σ H R I h;rcases h with h | h
 . exact pi_list hl aC s σ H R I h
 . exact pi_tup hl aC s σ H R I h
end
end L2
namespace FL
open PySem PySem.Spec PyProof.Rows L2
section
variable{X:Cx}
theorem yC{tg e:Expr}{f:FE}(h:PV X e f):PIv X tg e (viaA f asLT):=by
 obtain⟨t,ht,hf⟩:=h;refine⟨_,pi_seq ht,fun H₀ H O σ ds hd items R o e q=>?_⟩;unfold viaA at e;obtain⟨d,h1,e⟩:=bnd e;cases d with
 | lst l =>
   cases e;refine .inl (hf H₀ H O σ ds hd _ _ o h1 fun v H' s r=>?_);obtain⟨a,xs,rfl,hs,rs⟩:=WRep.seqL (.inl r);exact⟨a,rfl,⟨xs,hs⟩,q _ (.ref a,.lst items) H' s r aAu⟩
 | tup l =>
   cases e;refine .inr (hf H₀ H O σ ds hd _ _ o h1 fun v H' s r=>?_);obtain⟨a,xs,rfl,hs,rs⟩:=WRep.seqT (.inl r);exact⟨a,rfl,⟨xs,hs⟩,q _ (.ref a,.tup items) H' s r wlk_tup⟩
 |_=>cases e
end
end FL
namespace L2
open PySem PySem.Spec PyProof.Rows
section
variable{X:Cx}{tg:Expr}
noncomputable def Itv(K:aN)(a:aA)(n:Nat):It :=
 ⟨fun i H=>∃xs x,SqL K H a xs/\xs.length=n/\i<n/\xs[n-1-i]?=some x,fun i H x H'=>H'=H/\∀xs,SqL K H a xs->xs[n-1-i]?=some x,fun i _=>i=n⟩
theorem aAy{P:aW}{w:bR}{K:aN}{tg:Expr}(a it:aA)(n:Nat):Turn P w K tg (Itv K a n) [it] it (fun i h=>i<=n/\h.IsRevIter it a ((n:Int)-1-(i:Int))) where
 mem:=by simp
 obj:=fun i h st b hb=>by
  have e:b=it:=by simpa using hb
  subst e;obtain⟨_,o,e,c,d⟩:=st;exact⟨o,e,fun v z=>by rw[d] at z;cases z⟩
 keep:=fun i h h' st k=>⟨st.1,st.2.at fun o e=>k it (by simp) o e⟩
 item:=by
  intro X hP hw hK hc i aC s σ H E I hf st hg;subst hP hw hK;obtain⟨xs,x,hq,hn,hi,hx⟩:=hg;obtain⟨its,rv,p,hz⟩:=I.list hq;obtain⟨u,hu,ru⟩:=rv.get hx;obtain⟨f0,f1,f2,f3,f4,f5⟩:=hf it (by simp);have e:(n:Int)-1-(i:Int)=((n-1-i:Nat):Int):=by omega
  have hit:=st.2;rw[e] at hit;refine wpAny_pyNext_rev_item hit p.isList (x:=u) (by simpa using hu) fun h' st' sb=>?_;have I1:Inv X aC σ H { s with heap:=h' }:=I.turned (t':=s.toks) (fun b o hb e=>(sb.2 b hb).trans e) f0 f1 f3 f4 f5;have e2:((n-1-i:Nat):Int)-1=(n:Int)-1-((i+1:Nat):Int):=by omega
  rw[e2] at st';obtain⟨o,eo,co,d⟩:=id st';exact⟨u,rfl,JW (s:={ s with heap:=h' }) eo co d (by decide) ⟨x,H,I1,ru,⟨rfl,fun ys hy=>by rw[I.list_inj hy hq];exact hx⟩,⟨hi,st'⟩,fun b hb=>(hf b hb).1⟩⟩
 done:=by
  intro X hP hw hK hc i aC s σ H E I hf st hg;subst hP hw hK;have hg':i=n:=hg;subst hg';obtain⟨f0,f1,f2,f3,f4,f5⟩:=hf it (by simp);have e:(i:Int)-1-(i:Int)=-1:=by omega
  have hit:=st.2;rw[e] at hit;exact wpAny_pyNext_rev_end (I.ok.hd hc) hit fun h' eb=>⟨rfl,I.turned (t':=s.toks) (fun b o hb e=>eb b o hb e) f0 f1 f3 f4 f5⟩
 self:=fun _ _ _ _ _ st h=>wpAny_pyIter_revIter st.2 h
noncomputable def iRev(K:aN)(ta:TA):TI:=fun σ H R=>ta σ H fun vs H1=>∃a xs,vs=[.ref a]/\SqL K H1 a xs/\R (Itv K a xs.length) H1
theorem pi_rev{l:Expr}{ta:TA}{p pos:Pos}(hg:Gl X "reversed")(hm:X.mg "reversed" = none)(ha:PA X [l] ta)(hs:aF [l] X.env=[(false,bT l X.env)]:=by rfl):PI X tg (.Call (.Name "reversed" p) [l] [] pos) (iRev X.K ta):=by
 intro aC s σ H R I h;refine Call_ (AT I hg hm (show gX "reversed" = some (.type "reversed") by decide +kernel) (gM (thn (ha pos aC s σ H _ I h) fun us s1 zq=>?_) hs rfl));obtain⟨vs,H1,I1,r1,q1⟩:=zq;obtain⟨a,xs,e,hq,q⟩:=q1;subst e;obtain⟨u,rfl,ru⟩:=vals1 r1;cases ru;obtain⟨its,rv,pl,hz⟩:=I1.list hq;have hlen:=rv.length;refine call_reversed_list pl.isList ?_;have hst:Heap.IsRevIter (s1.heap.push (revObj a ((its.toArray.size:Int)-1))) s1.heap.objs.size a ((its.toArray.size:Int)-1):=⟨_,bC _ rfl,rfl,rfl⟩
 refine wpAny_pyIter_revIter hst ?_;refine⟨s1.heap.objs.size,[s1.heap.objs.size],_,_,H1,rfl,I1.kept (t':=s1.toks) fun b o e=>aL _ e,aAy a _ xs.length,⟨eK _,?_⟩,fun b hb=>?_,q⟩
 . have e1 : ((its.toArray.size : Nat) : Int) - 1 = (xs.length : Int) - 1 - ((0 : Nat) : Int) := by simp only [aZ]; omega
   show Heap.IsRevIter _ _ a ((xs.length:Int)-1-((0:Nat):Int));rw[<- e1];exact hst
 . have e : b = s1.heap.objs.size := by simpa using hb
   subst e;exact I1.fpOk (aY _) (I1.hok.fresh (aY _))
end
end L2
namespace FL
open PySem PySem.Spec PyProof.Rows L2
section
variable{X:Cx}
theorem wlk_rev{K:Frag}{a:aA}{l:List D}: Wlk K (Itv K a l.length) (.ref a,.lst l) l.reverse:=by
 intro H O _ r;obtain⟨b,xs,e,hs,rs⟩:=WRep.seqL (.inl r);cases e;have hlen:=rs.length;refine⟨fun i d hd=>?_,show _=l.length from eE⟩
 have hi:i<l.length:=by
  have:=(aT.mp hd).1
  rwa [eE] at this
 rw[rJ hi] at hd;obtain⟨v,h1,h2⟩:=rs.get hd;refine⟨⟨xs,v,hs,hlen,hi,h1⟩,fun x H' y=>?_⟩;obtain⟨rfl,y⟩:=y;have:=y xs hs;rw[h1] at this;cases this;exact⟨Same.refl _,h2⟩
theorem piv_rev{tg e:Expr}{p pos:Pos}{f:FE}(hc:True)(hm:X.mg "reversed" = none)(h:PV X e f)(hg:Gl X "reversed":=by rfl)(hs:aF [e] X.env=[(false,bT e X.env)]:=by rfl):PIv X tg (.Call (.Name "reversed" p) [e] [] pos) (revA f):=by
 obtain⟨t,ht,hf⟩:=zD h zN hs;refine⟨_,pi_rev hg hm ht hs,fun H₀ H O σ ds hd items R o e q=>?_⟩;unfold revA at e;obtain⟨d,h1,e⟩:=bnd e;cases d<;>first | (cases e;done) | skip
 rename_i l;cases e;refine hf H₀ H O σ ds hd [.lst l] _ o (by simp[zA,h1,zM]) fun vs H' s r=>?_;cases r with
 | cons r1 rr =>
   cases rr;obtain⟨a,xs,rfl,hq,rs⟩:=WRep.seqL (.inl r1);refine⟨a,xs,rfl,hq,?_⟩;rw[rs.length];exact q _ (.ref a,.lst l) H' s r1 wlk_rev
theorem pv_int1{p pos:Pos}{e:Expr}{g:FA}(hm:X.mg "int" = none)(ha:PAv X [e] g)(hg:Gl X "int":=by rfl)(he:aF [e] X.env=[(false,bT e X.env)]:=by rfl):PV X (.Call (.Name "int" p) [e] [] pos) (callB int1D g):=by
 obtain⟨t,ht,hf⟩:=ha;refine⟨_,kB ZI hg hm (by decide +kernel) ht (by decide) (by decide) he rfl,(5:)⟩;unfold callB at e;obtain⟨l,h,e⟩:=bnd e;refine hf H₀ H O σ ds hd l _ o h fun vs H1 s1 r1=>?_
 match l,r1,e with
 | [.int i], .cons r .nil, e =>
   cases e;exact .inl ⟨i,by rw[r.int'],q _ H1 s1 (.int _)⟩
 | [.bl b], .cons r .nil, e =>
   cases e;exact .inr ⟨b,by rw[r.bl'],q _ H1 s1 (.int _)⟩
end
end FL
namespace L2
open PySem PySem.Spec PyProof.Rows
section
variable{X:Cx}{aC:List (aA×Obj)}{σ : St}{H:Hp}{s:aD}{h':Heap}
theorem Inv.turnedS{t':Nat}{ch:List aA}(I:Inv X aC σ H s)(k:∀b o,b∉ch->s.heap.get? b=some o->h'.get? b=some o)(hf:∀b∈ch,FpOk X aC H b):Inv X aC σ H { s with heap:=h',toks:=t' }:=by
 have nit:∀b u,H b=some u->b∉ch:=fun b u e z=>by rw[(hf b z).1] at e;cases e
 refine I.step (g':=s.gens) (d':=s.drawn) (ch:=ch) (fun b hb=>?_) (fun b o _ _ hc e _=>k b o hc e) (fun b o _ _ hc e _=>⟨o.slots,k b o hc e⟩) (fun _ _ _ _ n=>n)
  (fun b o hc e=>⟨o,k b o hc e⟩) (fun _ _ e=>e) (fun _ _ _ e=>e) (fun _ _ e=>e) (fun m hm=>?_) (fun b u e=>?_) I.bare
 . obtain⟨f0, f1, f2, f3, f4, f5⟩ := hf b hb;exact⟨f3,f1,f4,f5⟩
 . obtain⟨o, es, ep, ho, r⟩ := hm;exact⟨o,es,ep,k _ o (fun z=>(hf _ z).2.1 rfl) ho,r⟩
 . refine (I.hok b u e).stay (fun c v hc q => k c v ?_ q) (fun _ q => q) fun _ _ q => q;rcases hc with z | z
   . rw[z];exact nit b u e
   . exact nit c _ z
end
section
variable{X:Cx}
end
end L2
namespace FL
open PySem PySem.Spec PyProof.Rows L2
section
variable{X:Cx}
section
variable{scope:Scope}{NY:List Str}{mp:List (Option Nat)}{tg iter elt:Expr}{ifs:List Expr}{pos:Pos}{fi:FA}{ga:D->List Sl->Option (List Sl)}{tt:FT}{fe:FE}
end
end
end FL
namespace L2
open PySem PySem.Spec PyProof.Rows
section
variable{X:Cx}
end
end L2
namespace FL
open PySem PySem.Spec PyProof.Rows L2
section
variable{X:Cx}
end
section
variable{X:Cx}
theorem IQ:∀l:List D,toPys l=l.map toPy
 |[]=>rfl
 |d::r=>by rw[toPys,IQ r];rfl
theorem ZL(l:List D)(x:D):(toPys l).any (fun y=>PyData.eqv y (toPy x))=l.any fun z=>eqvD z x:=by
 rw[IQ,NA];rfl
noncomputable def rInE(X:Cx)(neg:Bool):R2:=fun x y H Q=>∃dx l,Rep X.K H jB x dx/\Rep X.K H jB y (.lst l)/\shal 40 dx=true/\shals 40 l=true/\Q (.bl (if neg=true then !l.any (fun z=>eqvD z dx) else l.any fun z=>eqvD z dx)) H
theorem YC{l:List D}(b2:(toPy (.lst l)).canLay0=true):PyData.canLayAll0 (toPys l)=true:=by simpa[toPy,PyData.canLay0] using b2
theorem XF(hu:X.A.units+100<cLine):OpR X (eO .NotIn) (rInE X true):=by
 intro aC s σ H x y v u Q I rx ry h;obtain⟨dx,l,r1,r2,s1,s2,q⟩:=h;obtain⟨as,a1,a2,a3⟩:=r1.reads I rx s1;obtain⟨bs,b1,b2,b3⟩:=r2.reads I ry (show shal 40 (.lst l)=true by simpa[shal] using s2);refine SeqAt.notIn_list_reads (xs:=toPys l) (by simpa[toPy] using b1) a1 (YC b2) a2 (by have:=Nat.min_le_right (PyData.depthAll (toPys l)) (toPy dx).depth;omega) ⟨.bl _,H,I,rfl,?_⟩;rw[ZL];simpa using q
theorem on_inE{neg:Bool}: OpN X (rInE X neg) (inE neg):=by
 intro H O x y dx dy d Q rx ry e q;unfold inE at e;cases dy<;>first | (cases e;done) | skip
 rename_i l;simp only at e
 split at e
 . rename_i hs;cases e;exact⟨dx,l,rx,ry,hs.1,hs.2,q _ H (Same.refl _) (.bl _)⟩
 . cases e
theorem WX{a b:Expr}{fa fb:FE}{pos:Pos}{k:Nat}(hr:Room k X.A)(ha:PVn X a fa)(hb:PVn X b fb)(hm:dQ .NotIn b=false:=by rfl):PTv X (.Compare a [.NotIn] [b] pos) (zT (zJ (inE true) fa fb)):=vK (XF (hu100 hr)) on_inE ha hb hm
end
section
variable{X:Cx}
theorem Reps.rep{K:Frag}{H:Hp}{O:aA->Prop}{xs:List V}{l:List D}(h:Reps K H O xs l):∀k:Nat,Reps K H O (List.replicate k xs).flatten (List.replicate k l).flatten
 |0=>by simpa using .nil
 | k + 1 => by
   rw[fC,gY,fC,gY];exact h.append (Reps.rep h k)
theorem aBv{a b:Expr}{fa:FA}{fb:FE}{pos:Pos}(ha:PVf X a fa)(hb:PVw X b fb):PVf X (.BinOp a .Mult b pos) (repF fa fb):=by
 obtain⟨ta,pa,ha⟩:=ha;obtain⟨tb,pb,hb⟩:=hb;refine⟨_,aCv op_rep pa pb,fun H₀ H O σ ds hd l Q o e q=>?_⟩;unfold repF at e;obtain⟨l0,h1,e⟩:=bnd e;obtain⟨dy,h2,e⟩:=bnd e;cases dy<;>first | (cases e;done) | skip
 rename_i k;simp only at e
 split at e
 . rename_i hk;cases e;refine ha H₀ H O σ ds hd l0 _ o h1 fun a1 xs H1 s1 n1 e1 r1=>?_;refine hb H₀ H1 O σ ds hd _ _ (o.mono s1) h2 fun v H2 s2 r2=>?_;have r2':=r2.int';subst r2';refine ⟨a1,k,xs,rfl,rfl,s2 _ _ e1,?_,?_,?_,fun p hp=>?_⟩
   . have : (2 : Int) ^ 63 = 9223372036854775808 := by decide
     omega
   . have : (2 : Int) ^ 63 = 9223372036854775808 := by decide
     omega
   . rw[r1.length];exact hk.2.2
   . have ss := s1.trans s2;refine q p _ _ (ss.trans (qG hp _)) (ss.free hp) bM ?_;have r3:Reps X.K H2 O xs l0:=(r1.less fun _ z=>.inr z).mono s2;exact((r3.rep k.toNat).more hp).mono (qG hp _)
 . cases e
end
end FL
namespace L2
open PySem PySem.Spec PyProof.Rows
section
variable{X:Cx}
end
end L2
namespace FL
open PySem PySem.Spec PyProof.Rows L2
section
variable{X:Cx}
end
end FL
namespace L2
open PySem PySem.Spec PyProof.Rows
section
variable{X:Cx}
noncomputable def KY(X:Cx)(m:Str)(k:Nat)(ta:TE)(t:TA):TE:=fun σ H Q=>ta σ H fun x H1=>∃(a C dx:aA) (fs:List (Str×V)) (f:aA) (fd:aJ) (ps:List Str) (sp:Sp),x=.ref a/\H1 a=some (.ins C dx fs)/\fs.lookup m=none ∧
 Cls X.K C/\Meth X.K C m f/\FnOk X.prog X.w X.K X.mg X.base CX0 k f fd ps sp/\Binds X.K fd ps []/\t σ H1 fun vs H2=>sp (x::vs) H2 Q E0
theorem EY{k:Nat}{m:Str}{e o:Expr}{es:List Expr}{apos pos:Pos}{ta:TE}{t:TA}{pl:Sem Bool}(he:PE X o ta)(hr:Room k X.A)(ha:PA X (e::es) t)(hst:aF (e::es) X.env=(false,bT e X.env)::aF es X.env:=by rfl)(hpl:(cP pos (aF es X.env)).any (·.1)=false:=by rfl)(ht:bT (.Call (.Attribute o m apos) (e::es) [] pos) X.env=(do
    let ov <- bT o X.env
    fO apos.atName
    let (f,first) <- eC [ov] (fH ov m pl)
    hW pos f first (cP pos (aF (e::es) X.env)) (fN pos (dJ [] X.env))):=by rfl) :
  PE X (.Call (.Attribute o m apos) (e::es) [] pos) (KY X m k ta t):=by
 intro aC s σ H Q I h;refine gR (pl:=pl) (thn (he aC s σ H _ I h) fun u s1 zq=>?_) ht;obtain⟨x,H1,I1,rx,a,C,dx,fs,f,fd,ps,sp,ex,ea,l,c,hm,F,hb,q⟩:=zq;subst ex;obtain rfl:u=Value.ref a:=rx;refine xR I1 ea c hm l ?_;refine gL (first:=[.ref a]) (h₀:=X.base) I.ok.mod.kin hm.kp (thn (ha pos aC s1 σ H1 _ I1 q) fun us s2 ⟨vs,H2,I2,r,q2⟩=>⟨I2.kIn,?_⟩) hst hpl;exact LD (us:=.ref a::us) (vs:=.ref a::vs) F hr hb .nil pass0 I2 (.cons rfl r) (by simpa using q2)
theorem AQ{k:Nat}{m:Str}{o:Expr}{apos pos:Pos}{ta:TE}{pl:Sem Bool}(he:PE X o ta)(hr:Room k X.A)(ht:bT (.Call (.Attribute o m apos) [] [] pos) X.env=(do
    let ov <- bT o X.env
    fO apos.atName
    let (f,first) <- eC [ov] (fH ov m pl)
    hW pos f first (cP pos (aF [] X.env)) (fN pos (dJ [] X.env))):=by rfl) :
  PE X (.Call (.Attribute o m apos) [] [] pos) (KY X m k ta tNil):=by
 intro aC s σ H Q I h;refine gR (pl:=pl) (thn (he aC s σ H _ I h) fun u s1 zq=>?_) ht;obtain⟨x,H1,I1,rx,a,C,dx,fs,f,fd,ps,sp,ex,ea,l,c,hm,F,hb,q⟩:=zq;subst ex;obtain rfl:u=Value.ref a:=rx;refine xR I1 ea c hm l ?_;exact sC (first:=[.ref a]) I1.kIn hm.kp (LD (us:=[.ref a]) (vs:=[.ref a]) F hr hb .nil pass0 I1 (.cons rfl .nil) q)
structure Sup(K:aN)(C:aA)(m:Str)(f:aA):Prop where
 ex:∃mc,tN K (.ref C) "__getattribute__" = some (some (.builtin "type.__getattribute__"))/\WC K C mc=true/\WE K (.ref C) mc m=some (.val (.ref f))/\bG K (.ref f)=true
theorem pe_sup{k:Nat}{x m:Str}{C f:aA}{fd:aJ}{ps:List Str}{sp:Sp}{e:Expr}{es:List Expr}{p apos pos:Pos}{t:TA}{pl:Sem Bool}(hg:Gl X x)(hmg:X.mg x=some (.ref C))(hs:Sup X.K C m f)(F:FnOk X.prog X.w X.K X.mg X.base CX0 k f fd ps sp)(hr:Room k X.A)(hb:Binds X.K fd ps [])(ha:PA X (e::es) t)(hdb:(6:)=false:=by decide)(hst:aF (e::es) X.env=(false,bT e X.env)::aF es X.env:=by rfl)(hpl:(cP pos (aF es X.env)).any (·.1)=false:=by rfl)(ht:bT (.Call (.Attribute (.Name x p) m apos) (e::es) [] pos) X.env=(do
    let ov <- bT (.Name x p) X.env
    fO apos.atName
    let (f,first) <- eC [ov] (fH ov m pl)
    hW pos f first (cP pos (aF (e::es) X.env)) (fN pos (dJ [] X.env))):=by rfl) :
  PE X (.Call (.Attribute (.Name x p) m apos) (e::es) [] pos) (fun σ H Q=>t σ H fun vs H2=>sp vs H2 Q E0):=by
 intro aC s σ H Q I h;obtain⟨mc,h1,h2,h3,h4⟩:=hs.ex;refine gR (pl:=pl) (xJ I hg hmg ?_ hdb) ht;refine PySem.W.method_cls I.kIn h1 (PySem.W.cls_value I.kIn h2 h3 rfl ?_);have I':=I.tok (s.toks+1);refine gL (first:=[]) (h₀:=X.base) I.ok.mod.kin h4 (thn (ha pos aC _ σ H _ I' h) fun us s2 ⟨vs,H2,I2,r,q2⟩=>⟨I2.kIn,?_⟩) hst hpl;exact LD (us:=us) (vs:=vs) F hr hb .nil pass0 I2 r (by simpa using q2)
end
end L2
namespace FL
open PySem PySem.Spec PyProof.Rows L2
section
variable{X:Cx}
theorem PVd.v{e:Expr}{f:FE}(h:PVd X e f):PV X e f:=by
 obtain⟨t,ht,hf⟩:=h;exact⟨t,ht,fun H₀ H O σ ds hd d Q o e q=>hf H₀ H O σ ds hd d Q o e fun v H' s r=>q v H' s (r.less fun a z=>o.old z)⟩
noncomputable def FldOk(K:Frag)(f:Str)(ix:List (Nat×Nat)):Prop:=∀t i,ix.lookup t=some i->(cQ t)[i]?=some f/\(∀j,j<i->(cQ t)[j]?≠some f)/\∀C,aI K aH (dD t)=some (some (.ref C))->Cls K C/\NoAttr K C f
theorem jH{K:Frag}{f:Str}: FldOk K f []:=fun t i h=>by simp at h
theorem SQ{K:Frag}{f:Str}{t i:Nat}{C:aA}{ix:List (Nat×Nat)}(a:aI K aH (dD t)=some (some (.ref C)))(c:Cls K C)(n:NoAttr K C f)(h1:(cQ t)[i]?=some f)(h2:∀j,j<i->(cQ t)[j]?≠some f)(h:FldOk K f ix):FldOk K f ((t,i)::ix):=by
 intro t' i' e
 by_cases q:t'=t
 . subst q;simp at e;subst e;refine⟨h1,h2,fun C' e'=>?_⟩;rw[a] at e';cases e';exact⟨c,n⟩
 . have : (t' == t) = false := by simpa using q
   rw[cI,this] at e;exact h t' i' e
theorem vP{f:Str}:∀{kvs:List (Str×V)} {i:Nat} {v:V},(kvs.map (·.1))[i]?=some f->(∀j,j<i->(kvs.map (·.1))[j]?≠some f)->(kvs.map (·.2))[i]?=some v->kvs.lookup f=some v
 |[],_,_,h,_,_=>by simp at h
 | (g, x) :: r, 0, v, h1, _, h3 => by
   simp at h1 h3;subst h1 h3;simp[List.lookup]
 | (g, x) :: r, i + 1, v, h1, h2, h3 => by
   have hg:g≠f:=fun z=>h2 0 (by omega) (by simp[z]);have:(f==g)=false:=by simpa using fun z=>hg z.symm
   rw[cI,this];exact vP (i:=i) (by simpa using h1) (fun j hj=>by have:=h2 (j+1) (by omega);simpa using this) (by simpa using h3)
theorem qS{e:Expr}{f:Str}{pos:Pos}{fe:FE}{ix:List (Nat×Nat)}(hF:FldOk X.K f ix)(he:PV X e fe)(hb:eJ e f X.env (bT e X.env)=bT e X.env:=by rfl):PV X (.Attribute e f pos) (fldG ix fe):=by
 obtain⟨t,ht,hf⟩:=he;refine⟨_,aCy ht hb,(5:)⟩;unfold fldG at e;obtain⟨x,h,e⟩:=bnd e;refine hf H₀ H O σ ds hd x _ o h fun v H1 s1 r1=>?_;cases x with
 | ins t es =>
   simp only[fldD] at e;obtain⟨i,hl,e⟩:=bnd e;obtain⟨h1,h2,h3⟩:=hF t i hl;cases r1 with
   | @ins a C dx _ kvs _ c n ha ek rr =>
     obtain⟨cl,na⟩:=h3 C c;obtain⟨w,hw,rw'⟩:=rr.get e;refine⟨a,C,dx,kvs,w,rfl,ha,cl,na,vP (i:=i) (by rw[ek];exact h1) (by rw[ek];exact h2) hw,?_⟩;exact q w H1 s1 rw'
 |_=>simp[fldD] at e
structure MCal(P:aW)(w:bR)(K:Frag)(mg:Str->Option Value)(base:Heap)(m:Str)(k n:Nat)(cs:List Nat)(F:Nat->List D->Option Ret):Prop where
 no:∀t∈cs,m∉cQ t
 of:∀t∈cs,∀C,aI K aH (dD t)=some (some (.ref C))->∃(f:aA) (fd:aJ) (ps:List Str),Cls K C/\Meth K C m f/\FnOk P w K mg base CX0 k f fd ps (spF K (n+1) (F t))/\Binds K fd ps []
theorem yW{P:aW}{w:bR}{K:Frag}{mg:Str->Option Value}{base:Heap}{m:Str}{k n:Nat}{F:Nat->List D->Option Ret}: MCal P w K mg base m k n [] F:=⟨fun _ h=>(nomatch h),fun _ h=>(nomatch h)⟩
theorem JO{P:aW}{w:bR}{K:Frag}{mg:Str->Option Value}{base:Heap}{m:Str}{j k n t:Nat}{cs:List Nat}{F:Nat->List D->Option Ret}{C f:aA}{fd:aJ}{ps:List Str}(a:aI K aH (dD t)=some (some (.ref C)))(c:Cls K C)(hm:Meth K C m f)(G:FnOk P w K mg base CX0 j f fd ps (spF K (n+1) (F t)))(hj:j<=k)(b:Binds K fd ps [])(hn:m∉cQ t)(h:MCal P w K mg base m k n cs F):MCal P w K mg base m k n (t::cs) F:=by
 refine⟨fun t' ht=>(aE.mp ht).elim (fun e=>e▸hn) (h.no t'),fun t' ht C' e=>?_⟩;rcases aE.mp ht with rfl | ht
 . rw[a] at e;cases e;exact⟨f,fd,ps,c,hm,G.mono hj,b⟩
 . exact h.of t' ht C' e
theorem jG{m:Str}:∀{kvs:List (Str×V)},m∉kvs.map (·.1)->kvs.lookup m=none
 |[],_=>rfl
 | (g, x) :: r, h => by
   have hg:(m==g)=false:=by simpa using fun z=>h (by simp[z])
   rw[cI,hg];exact jG fun z=>h (by simp at z ⊢;exact .inr z)
theorem FF{m:Str}{k n:Nat}{cs:List Nat}{F:Nat->List D->Option Ret}(M:MCal X.prog X.w X.K X.mg X.base m k n cs F){ta:TE}{t:TA}{fo:FE}{g:FA}(hfo:∀H₀ H O σ ds hd d Q,Ok X.K H₀ H O σ ds hd->fo ds=some d->(∀v H',Same H H'->Rep X.K H' O v d->Q v H')->ta σ H Q)(hfg:∀H₀ H O σ ds hd l Q,Ok X.K H₀ H O σ ds hd->g ds=some l->(∀vs H',Same H H'->Reps X.K H' jB vs l->Q vs H')->t σ H Q){H₀ H:Hp}{O:aA->Prop}{σ : L2.St}{ds:List Sl}{hd:Hold}{x:D}{l:List D}{r:Ret}{Q:VK}(o:Ok X.K H₀ H O σ ds hd)(h1:fo ds=some x)(h2:g ds=some l)(h3:methR n cs F x l=some r)(q:∀v H1 H',Same H H1->Same H1 H'->RetOk X.K H1 H' v r->Q v H'):KY X m k ta t σ H Q:=by
 refine hfo H₀ H O σ ds hd x _ o h1 fun v H1 s1 r1=>?_;cases x with
 | ins c es =>
   simp only[methR] at h3
   split at h3
   . rename_i hc;cases r1 with
     | @ins a C dx _ kvs _ cc nn ha ek rr =>
       obtain⟨f,fd,ps,cl,hm,Fn,hb⟩:=M.of c hc.1 C cc;refine⟨a,C,dx,kvs,f,fd,ps,_,rfl,ha,jG (by rw[ek];exact M.no c hc.1),cl,hm,Fn,hb,?_⟩;refine hfg H₀ H1 O σ ds hd l _ (o.mono s1) h2 fun vs H2 s2 r2=>?_;have hl:=r2.length;have r1':Rep X.K H2 jB (.ref a) (.ins c es):=(Rep.ins cc (fun z=>z.elim) (s2 _ _ ha) ek ((rr.mono s2).less fun _ z=>z.elim))
       exact⟨by simp only[aM];omega,_,r,.cons r1' r2,h3,fun v H' s' ro=>q v H2 H' (s1.trans s2) s' ro⟩
   . cases h3
 |_=>simp[methR] at h3
section
variable{m:Str}{k j n:Nat}{cs:List Nat}{F:Nat->List D->Option Ret}{o e:Expr}{es:List Expr}{apos pos:Pos}{fo:FE}{g:FA}
theorem xK{pl:Sem Bool}(M:MCal X.prog X.w X.K X.mg X.base m k n cs F)(hr:Room j X.A)(ho:PV X o fo)(ha:PAn X (e::es) g)(hj:k<=j:=by decide)(hst:aF (e::es) X.env=(false,bT e X.env)::aF es X.env:=by rfl)(hpl:(cP pos (aF es X.env)).any (·.1)=false:=by rfl)(ht:bT (.Call (.Attribute o m apos) (e::es) [] pos) X.env=(do
    let ov <- bT o X.env
    fO apos.atName
    let (f,first) <- eC [ov] (fH ov m pl)
    hW pos f first (cP pos (aF (e::es) X.env)) (fN pos (dJ [] X.env))):=by rfl):PV X (.Call (.Attribute o m apos) (e::es) [] pos) (methV n cs F fo g):=by
 obtain⟨ta,pa,hfo⟩:=ho;obtain⟨t,pt,hfg⟩:=ha;refine⟨_,EY (pl:=pl) (k:=k) pa (hr.mono hj) pt hst hpl ht,(5:)⟩;unfold methV at e;obtain⟨x,h1,e⟩:=bnd e;obtain⟨l,h2,e⟩:=bnd e;obtain⟨r,h3,e⟩:=bnd e;refine FF M hfo hfg o h1 h2 h3 fun v H1 H' s1 s' ro=>q v H' (s1.trans s') ?_;exact LF ro e fun a ha=>(o.mono s1).old ha
end
end
noncomputable def eH:Hp:=fun _=>none
noncomputable def Keepx(x:aA)(H H':Hp):Prop:=∀b o,b≠x->H b=some o->H' b=some o
theorem Keepx.trans{x:aA}{H H1 H2:Hp}(a:Keepx x H H1)(b:Keepx x H1 H2):Keepx x H H2:=fun c o n e=>b c o n (a c o n e)
theorem Keepx.of_same{x:aA}{H H1:Hp}(s:Same H H1):Keepx x H H1:=fun c o _ e=>s c o e
section
variable{K:Frag}{H H':Hp}{O:aA->Prop}{x:aA}
theorem Keepx.rd{a C dx:aA}{kvs:List (Str×V)}{xs:List V}(k:Keepx x H H')(hx:H x=some (.ins C dx kvs))(h:Rd H a (.tup xs)):Rd H' a (.tup xs):=by
 rcases h with h | ⟨o,h⟩
 . exact .inl (k _ _ (fun z=>by rw[z,hx] at h;cases h) h)
 . exact .inr ⟨o,k _ _ (fun z=>by rw[z,hx] at h;cases h) h⟩
mutual
theorem Rep.flatKeep{C dx:aA}{kvs:List (Str×V)}(k:Keepx x H H')(hx:H x=some (.ins C dx kvs)):∀{v:V} {d:D},flat d=true->Rep K H O v d->Rep K H' O v d
 |_,_,_,.non=>.non
 |_,_,_,.bl b=>.bl b
 |_,_,_,.int i=>.int i
 |_,_,_,.str y=>.str y
 |_,_,f,.tup n h r=>.tup n (k.rd hx h) (Reps.flatKeep k hx (by simpa[flat] using f) r)
 |_,_,f,.tupK h r=>.tupK h (Reps.flatKeep k hx (by simpa[flat] using f) r)
 |_,_,f,.lst _ _ _=>by simp[flat] at f
 |_,_,f,.lstK _ _=>by simp[flat] at f
 |_,_,f,.dct _ _ _ _=>by simp[flat] at f
 |_,_,f,.dcf _ _ _ _=>by simp[flat] at f
 |_,_,f,.ins _ _ _ _ _=>by simp[flat] at f
 |_,_,f,.clo _ _ _ _ _ _=>by simp[flat] at f
 |_,_,f,.fnK _=>by simp[flat] at f
theorem Reps.flatKeep{C dx:aA}{kvs:List (Str×V)}(k:Keepx x H H')(hx:H x=some (.ins C dx kvs)):∀{vs:List V} {ds:List D},flats ds=true->Reps K H O vs ds->Reps K H' O vs ds
 |_,_,_,.nil=>.nil
 | _, _, f, .cons h t => by
   simp only[flats,bU] at f;exact .cons (Rep.flatKeep k hx f.1 h) (Reps.flatKeep k hx f.2 t)
end
end
noncomputable def FlatS(ds:List Sl):Prop:=∀i:Nat,ds[i]?=none\/ds[i]?=some Sl.no\/∃d,ds[i]?=some (Sl.v d)/\flat d=true
noncomputable def iP(kvs:List (Str×V))(l:List (Str×V)):List (Str×V):=l.foldl (fun k p=>putF p.1 p.2 k) kvs
theorem HK(kvs l m:List (Str×V)):iP kvs (l++m)=iP (iP kvs l) m:=by simp[iP]
theorem sV:∀(l kvs:List (Str×V)),(iP kvs l).length<=kvs.length+l.length
 |[],kvs=>by simp[iP]
 | p :: r, kvs => by
   have h1:=sV r (putF p.1 p.2 kvs);have h2:=wB p.1 p.2 kvs;simp only[iP,mI,aM] at h1 ⊢;omega
theorem EQ{f:Str}{v:V}:∀{kvs:List (Str×V)},f∉kvs.map (·.1)->putF f v kvs=kvs++[(f,v)]
 |[],_=>rfl
 | (g, x) :: r, h => by
   have hg : ¬g=f:=fun z=>h (by simp[z]);rw[show putF f v ((g,x)::r)=(if g=f then (g,v)::r else (g,x)::putF f v r) from rfl,if_neg hg,EQ fun z=>h (by simp at z ⊢;exact .inr z)];rfl
theorem ER:∀{l kvs:List (Str×V)},(kvs.map (·.1)++l.map (·.1)).Nodup->iP kvs l=kvs++l
 |[],kvs,_=>by simp[iP]
 | p :: r, kvs, h => by
   have hp:p.1∉kvs.map (·.1):=fun z=>by
    rw[eD] at h;exact h.2.2 _ z _ (by simp) rfl
   have:iP kvs (p::r)=iP (putF p.1 p.2 kvs) r:=rfl;rw[this,EQ hp,ER (by simpa[eV] using h)];simp
theorem ok_flat{K:Frag}{H H':Hp}{σ : L2.St}{ds:List Sl}{x C dx:aA}{kvs:List (Str×V)}(o:Ok K eH H jB σ ds [])(f:FlatS ds)(k:Keepx x H H')(hx:H x=some (.ins C dx kvs)):Ok K eH H' jB σ ds []:=by
 refine⟨(fun b u e=>by cases e),(fun i l a hi _=>by rcases f i with h | h | ⟨d,h,hf⟩<;>rw[h] at hi<;>cases hi),fun _ z=>z.elim,o.len,fun i s e=>?_,fun i j a _ ⟨l,hi⟩ _ _ _=>?_,(fun p hp=>by cases hp),.no fun i r t e=>by rcases f i with h | h | ⟨d,h,hf⟩<;>rw[h] at e<;>cases e⟩
 . rcases f i with h | h | ⟨d, h, hf⟩
   . rw[h] at e;cases e
   . rw[h] at e;cases e;exact jA
   . rw[h] at e;cases e;obtain⟨v,h1,h2⟩:=o.read h;rw[h1];exact jZ (h2.flatKeep k hx hf)
 . rcases f i with h | h | ⟨d,h,hf⟩<;>rw[h] at hi<;>cases hi
noncomputable def spN(K:Frag)(n:Nat)(ns:List Str)(G:List D->Option (List D)):Sp:=fun vs H Q _=>∃(x C dx:aA) (kvs:List (Str×V)) (vs':List V) (ds new:List D),vs=.ref x::vs'/\vs'.length=n/\H x=some (.ins C dx kvs)/\Cls K C ∧
 Reps K H jB vs' ds/\flats ds=true/\G ds=some new/\(∀f∈ns,NoAttr K C f)/\kvs.length+ns.length<1000 ∧
 ∀ws H',Keepx x H H'->H' x=some (.ins C dx (iP kvs (ns.zip ws)))->Reps K H' jB ws new->new.length=ns.length->flats new=true->Q .non H'
section
variable{X:Cx}
variable(X) in
noncomputable def PIs(st:List Stmt)(ns:List Str)(g:FN):Prop:=∃t,PSs X st t/\∀H σ ds x C dx kvs new E,Ok X.K eH H jB σ ds []->FlatS ds->σ[0]?=some (some (.ref x))->H x=some (.ins C dx kvs)->Cls X.K C->g ds=some new->flats new=true →
 (∀f∈ns,NoAttr X.K C f)->kvs.length+ns.length<1000->(∀ws H',Keepx x H H'->H' x=some (.ins C dx (iP kvs (ns.zip ws)))->Reps X.K H' jB ws new->new.length=ns.length->E.nx σ H')->t E σ H
variable(X) in
noncomputable def PI1(st:Stmt)(ns:List Str)(g:FN):Prop:=∃t,PS X st t/\∀H σ ds x C dx kvs new E,Ok X.K eH H jB σ ds []->FlatS ds->σ[0]?=some (some (.ref x))->H x=some (.ins C dx kvs)->Cls X.K C->g ds=some new->flats new=true →
 (∀f∈ns,NoAttr X.K C f)->kvs.length+ns.length<1000->(∀ws H',Keepx x H H'->H' x=some (.ins C dx (iP kvs (ns.zip ws)))->Reps X.K H' jB ws new->new.length=ns.length->E.nx σ H')->t E σ H
theorem vF{st:Stmt}{ns:List Str}{g:FN}(h:PI1 X st ns g):PIs X [st] ns g:=by
 obtain⟨t,ht,hf⟩:=h;exact⟨_,LO ht,hf⟩
theorem uT:∀{a b:List D},flats (a++b)=true->flats a=true/\flats b=true
 |[],b,h=>⟨rfl,h⟩
 | d :: r, b, h => by
   simp only[gI,flats,bU] at h ⊢;have:=uT h.2;exact⟨⟨h.1,this.1⟩,this.2⟩
theorem jL{st:Stmt}{rest:List Stmt}{ns ms l:List Str}{f g:FN}(h1:PI1 X st ns f)(h2:PIs X rest ms g)(el:l=ns++ms:=by rfl):PIs X (st::rest) l (seqN f g):=by
 subst el;obtain⟨t,ht,hf⟩:=h1;obtain⟨u,hu,hg⟩:=h2;refine⟨_,wT ht hu,fun H σ ds x C dx kvs new E o fl h0 hx cl e hfl hn hk q=>?_⟩;unfold seqN at e;obtain⟨a,e1,e⟩:=bnd e;obtain⟨b,e2,rfl⟩:=mpd e;obtain⟨fa,fb⟩:=uT hfl;simp only[cE] at hk;refine hf H σ ds x C dx kvs a _ o fl h0 hx cl e1 fa (fun f hf=>hn f (by simp[hf])) (by omega) fun ws1 H1 k1 x1 r1 l1=>?_;have hz:(ns.zip ws1).length<=ns.length:=by rw[List.length_zip];omega
 have hkl:=sV (ns.zip ws1) kvs;refine hg H1 σ ds x C dx _ b _ (ok_flat o fl k1 hx) fl h0 x1 cl e2 fb (fun f hf=>hn f (by simp[hf])) (by omega) fun ws2 H2 k2 x2 r2 l2=>?_;refine q (ws1++ws2) H2 (k1.trans k2) ?_ ((r1.flatKeep k2 x1 fa).append r2) (by simp;omega);have hl:ns.length=ws1.length:=by rw[r1.length];exact l1.symm
 rw[List.zip_append hl,HK];exact x2
theorem xZ{y f:Str}{e:Expr}{p pos pos':Pos}{fe:FE}(he:PV X e fe)(hN:X.N[0]?=some y:=by rfl)(hv:Vis X.env.scope y:=by first | exact Or.inl rfl | exact Or.inr (Or.inl rfl) | exact Or.inr (Or.inr rfl))(hd:(y==("__debug__" : Str))=false:=by decide)(hcd:(y==("__classdict__" : Str))=false:=by decide)(hs:dF e (some (.Attribute (.Name y p) f pos')) pos.line X.env=pure false:=by rfl):PI1 X (.Assign [.Attribute (.Name y p) f pos'] e pos) [f] (fldN fe):=by
 obtain⟨t,ht,hf⟩:=he;refine⟨_,RQ (yL hN hv hd hcd) ht hs,fun H σ ds x C dx kvs new E o fl h0 hx cl e hfl hn hk q=>?_⟩;unfold fldN at e;obtain⟨d,e1,e⟩:=bnd e
 split at e
 . rename_i hd1;cases e;simp only [aM,eG] at hk;refine hf eH H jB σ ds [] d _ o e1 fun v H1 s1 r1=>?_;refine ⟨.ref x,h0,x,C,dx,kvs,rfl,s1 _ _ hx,cl,hn f (by simp),by omega,?_⟩;have k2:Keepx x H1 (upd H1 x (.ins C dx (putF f v kvs))):=fun b u hb e=>by rw [upd_ne hb]; exact e
   exact q [v] _ ((Keepx.of_same s1).trans k2) bM (.cons (r1.flatKeep k2 (s1 _ _ hx) hd1) .nil) rfl
 . cases e
theorem DH{e:Expr}{pos:Pos}{fe:FE}(he:PV X e fe)(hs:dF e none pos.line X.env=pure false:=by rfl):PI1 X (.Expr e pos) [] (dropN fe):=by
 obtain⟨t,ht,hf⟩:=he;refine⟨_,xC ht hs,fun H σ ds x C dx kvs new E o fl h0 hx cl e hfl hn hk q=>?_⟩;unfold dropN at e;obtain⟨d,e1,rfl⟩:=mpd e;exact hf eH H jB σ ds [] d _ o e1 fun v H1 s1 r1=>q [] H1 (.of_same s1) (s1 _ _ hx) .nil rfl
structure SCal(P:aW)(w:bR)(K:Frag)(mg:Str->Option Value)(base:Heap)(x:Str)(k:Nat)(ns:List Str)(G:List D->Option (List D)):Prop where
 ex:∃(C f:aA) (fd:aJ) (ps:List Str),mg x=some (.ref C)/\Sup K C "__init__" f/\FnOk P w K mg base CX0 k f fd ps (spN K 0 ns G)/\Binds K fd ps []
theorem LS{x y:Str}{k j:Nat}{ns:List Str}{G:List D->Option (List D)}{p p1 apos pos pos':Pos}(S:SCal X.prog X.w X.K X.mg X.base x k ns G)(hr:Room j X.A)(hj:k<=j:=by decide)(hg:Gl X x:=by rfl)(hN:X.N[0]?=some y:=by rfl)(hv:Vis X.env.scope y:=by first | exact Or.inl rfl | exact Or.inr (Or.inl rfl) | exact Or.inr (Or.inr rfl))(hd:(y==("__debug__" : Str))=false:=by decide)(hcd:(y==("__classdict__" : Str))=false:=by decide)(hdb:(6:)=false:=by decide)(h1:aF [.Name y p1] X.env=(false,bT (.Name y p1) X.env)::aF [] X.env:=by rfl)(hpl:(cP pos (aF [] X.env)).any (·.1)=false:=by rfl)(hs:dF (.Call (.Attribute (.Name x p) "__init__" apos) [.Name y p1] [] pos) none pos'.line X.env=pure false:=by rfl){pl:Sem Bool}(ht:bT (.Call (.Attribute (.Name x p) "__init__" apos) [.Name y p1] [] pos) X.env=(do
    let ov <- bT (.Name x p) X.env
    fO apos.atName
    let (f,first) <- eC [ov] (fH ov "__init__" pl)
    hW pos f first (cP pos (aF [.Name y p1] X.env)) (fN pos (dJ [] X.env))):=by rfl) :
  PI1 X (.Expr (.Call (.Attribute (.Name x p) "__init__" apos) [.Name y p1] [] pos) pos') ns (supN G):=by
 obtain⟨C0,f0,fd,ps,hmg,hsu,Fn,hb⟩:=S.ex;refine⟨_,xC (pe_sup (pl:=pl) hg hmg hsu Fn (hr.mono hj) hb (qY (yL hN hv hd hcd) jW h1) hdb h1 hpl ht) hs,fun H σ ds x C dx kvs new E o fl h0 hx cl e hfl hn hk q=>?_⟩;refine⟨.ref x,h0,x,C,dx,kvs,[],[],new,rfl,rfl,hx,cl,.nil,rfl,e,hn,hk,fun ws H' k' x' r' l' _=>q ws H' k' x' r' l'⟩
end
theorem KA:∀{ds:List D} {i:Nat} {d:D},flats ds=true->ds[i]?=some d->flat d=true
 |[],_,_,_,e=>by simp at e
 | c :: r, 0, d, h, e => by
   simp only[flats,bU] at h;simp at e;subst e;exact h.1
 | c :: r, i + 1, d, h, e => by
   simp only[flats,bU] at h;exact KA h.2 (by simpa using e)
theorem xF{n:Nat}{ds:List D}{i:Nat}{s:Sl}(e:(argsN n ds)[i]?=some s):s=.no\/∃j d,i=j+1/\ds[j]?=some d/\s=.v d:=by
 unfold argsN at e;cases i with
 |zero=>simp at e;exact .inl e.symm
 | succ j =>
   rw[dL] at e
   by_cases hj:j<ds.length
   . rw [bN (by simpa using hj), bA] at e;cases h:ds[j]? with
     |none=>rw[h] at e;cases e
     |some d=>rw[h] at e;cases e;exact .inr ⟨j,d,rfl,h,rfl⟩
   . rw [cW (by simpa using hj), cV] at e
     split at e
     . cases e;exact .inl rfl
     . cases e
theorem vG{P:aW}{w:bR}{K:Frag}{mg:Str->Option Value}{base:Heap}{x qual:Str}{st:Stmt}{f:aA}{fd:aJ}{N ps:List Str}{k n m:Nat}{ns:List Str}{g:FN}(Fn:Fun K x qual st f fd)(S:FnScope N ps (zE st))(hbody:∀(cdv:Value) (A:bL) (outer:List Env) (s:aD) (H:Hp) (E:XK),Room k (A.deeper (fY qual (zE st) s.heap.objs.size f cdv))->PIs (7:).nox (qL st) ns g)(hn:ps.length=n+1)(hN:n+1<=m)(hm:N.length=m):FnOk P w K mg base CX0 (k+1) f fd ps (spN K n ns (runN g m)):=by
 subst hm;refine Fn.ok S (fun vs H Q E h=>?_) (fun cdv A outer s H vs Q E hr h=>?_)
 . obtain⟨x, C, dx, kvs, vs', ds, new, rfl, hl, _⟩ := h;simp[hl,hn]
 . obtain ⟨x, C, dx, kvs, vs', ds, new, rfl, hl, hx, cl, rv, hfl, e, hna, hk, q⟩ := h;obtain ⟨t,ht,hf⟩:=hbody cdv A outer s H E hr;refine ⟨t,ht,?_⟩;have hld:ds.length=n:=by rw [<- rv.length]; exact hl
   unfold runN at e;cases e1:g (argsN N.length ds) with
   |none=>rw[e1] at e;cases e
   | some new' =>
     rw[e1] at e;simp only[aQ] at e
     split at e
     . rename_i hfn;cases e
       have o:Ok K eH H jB (L2.start N (.ref x::vs')) (argsN N.length ds) []:=by
        refine⟨(fun b u e=>by cases e),(fun i l a hi _=>by rcases xF hi with h | ⟨j,d,_,_,h⟩<;>cases h),fun _ z=>z.elim,by simp[L2.start,argsN,hl,hld],fun i s e=>?_,fun i j a _ ⟨l,hi⟩ _ _ _=>?_,(fun p hp=>by cases hp),.no fun i r t e=>by rcases xF e with h | ⟨j,d,_,_,h⟩<;>cases h⟩
        . rcases xF e with rfl | ⟨j, d, rfl, hj, rfl⟩
          . exact jA
          . obtain ⟨v, h1, h2⟩ := rv.get hj;have hjl:j < vs'.length:=(aT.mp h1).1
            have:(L2.start N (.ref x::vs'))[j+1]?=some (some v):=by
             unfold L2.start;rw[bN (by simpa using hjl)];simp[h1]
            rw[this];exact jZ h2
        . rcases xF hi with h | ⟨j,d,_,_,h⟩<;>cases h
       have fl:FlatS (argsN N.length ds):=fun i=>by
        cases e:(argsN N.length ds)[i]? with
        |none=>exact .inl rfl
        | some s =>
          rcases xF e with rfl | ⟨j,d,rfl,hj,rfl⟩
          . exact .inr (.inl rfl)
          . exact .inr (.inr ⟨d,rfl,KA hfl hj⟩)
       exact hf H _ _ x C dx kvs new _ o fl (by simp[L2.start]) hx cl e1 hfn hna hk fun ws H' k' x' r' l'=>q ws H' k' x' r' l' hfn
     . cases e
structure MkC(P:aW)(w:bR)(K:Frag)(mg:Str->Option Value)(base:Heap)(t k n:Nat)(G:List D->Option (List D)):Prop where
 ex:∃(C f:aA) (fd:aJ) (ps:List Str),aI K aH (dD t)=some (some (.ref C))/\mg (dD t)=some (.ref C)/\Mk K C f/\Cls K C/\FnOk P w K mg base CX0 k f fd ps (spN K n (cQ t) G)/\Binds K fd ps []/\(∀f∈cQ t,NoAttr K C f)
section
variable{X:Cx}{t k j n:Nat}{G:List D->Option (List D)}{x:Str}{p pos:Pos}{e:Expr}{es:List Expr}{g:FA}
theorem OY{C:aA}{ta:TA}{l:List D}{new:List D}{H₀ H:Hp}{O:aA->Prop}{σ : L2.St}{ds:List Sl}{hd:Hold}{Q:VK}(hc:aI X.K aH (dD t)=some (some (.ref C)))(hcl:Cls X.K C)(hna:∀f∈cQ t,NoAttr X.K C f)(hnd:(cQ t).Nodup)(hln:(cQ t).length<900)(hfa:∀H₀ H O σ ds hd l Q,Ok X.K H₀ H O σ ds hd->g ds=some l->(∀vs H',Same H H'->Reps X.K H' jB vs l->Q vs H')->ta σ H Q)(o:Ok X.K H₀ H O σ ds hd)(h1:g ds=some l)(hl:l.length=n/\flats l=true)(h2:G l=some new)(q:∀v H',Same H H'->Rep X.K H' (Old H) v (.ins t new)->Q v H'):tMake C (spN X.K n (cQ t) G) [] E0 ta σ H Q:=by
 refine hfa H₀ H O σ ds hd l _ o h1 fun vs H1 s1 r1=>?_;intro x dx nx ndx nex
 have s2:Same H1 (upd (upd H1 dx (.own x)) x (.ins C dx [])):=fun b o e=>by
  rw[upd_ne (qT e nx),upd_ne (qT e ndx)];exact e
 refine⟨x,C,dx,[],vs,l,new,by simp,by rw[r1.length];exact hl.1,bM,hcl,r1.mono s2,hl.2,h2,hna,by simp;omega,fun ws H' k' x' r' l' f'=>⟨rfl,?_⟩⟩;have s3:Same H1 H':=fun b o e=>k' b o (qT e nx) (s2 b o e);have hlw:(cQ t).length=ws.length:=by rw[r'.length];exact l'.symm
 have ek:iP [] ((cQ t).zip ws)=(cQ t).zip ws:=by
  rw[ER (by simpa[aAo (nL hlw)] using hnd)];simp
 rw[ek] at x';have nx0:H x=none:=s1.free nx;refine q (.ref x) H' (s1.trans s3) (.ins hc (not_old nx0) x' (aAo (nL hlw)) ?_);rw[List.map_snd_zip (nL hlw.symm)];exact Reps.flatten (fun a z=>Old.mono (s1.trans s3) z) f' r'
theorem wR(M:MkC X.prog X.w X.K X.mg X.base t k n G)(hr:Room j X.A)(ha:PAn X (e::es) g)(hj:k+1<=j:=by decide)(hx:dD t=x:=by rfl)(hnd:(cQ t).Nodup:=by decide +kernel)(hln:(cQ t).length<900:=by decide)(hg:Gl X x:=by rfl)(hdb:(6:)=false:=by decide)(he:aF (e::es) X.env=(false,bT e X.env)::aF es X.env:=by rfl)(hpl:(cP pos (aF es X.env)).any (·.1)=false:=by rfl) :
  PVd X (.Call (.Name x p) (e::es) [] pos) (makeG t n G g):=by
 obtain⟨C,f,fd,ps,hc,hm,mk,cl,Fn,hb,hna⟩:=M.ex;obtain⟨ta,pa,hfa⟩:=ha;subst hx;refine⟨_,pe_make (CX:=CX0) (E:=E0) mk Fn (hr.mono hj) hg hm hb .nil pass0 pa hdb he hpl,(5:)⟩;unfold makeG at e;obtain⟨l,h1,e⟩:=bnd e
 split at e
 . rename_i hl;obtain⟨new,h2,rfl⟩:=mpd e;exact OY hc cl hna hnd hln hfa o h1 hl h2 q
 . cases e
theorem WU(M:MkC X.prog X.w X.K X.mg X.base t k 0 G)(hr:Room j X.A)(hj:k+1<=j:=by decide)(hx:dD t=x:=by rfl)(hnd:(cQ t).Nodup:=by decide +kernel)(hln:(cQ t).length<900:=by decide)(hg:Gl X x:=by rfl)(hdb:(6:)=false:=by decide) :
  PVd X (.Call (.Name x p) [] [] pos) (makeG t 0 G zM):=by
 obtain⟨C,f,fd,ps,hc,hm,mk,cl,Fn,hb,hna⟩:=M.ex;subst hx;refine⟨_,OG (CX:=CX0) (E:=E0) mk Fn (hr.mono hj) hg hm hb .nil pass0 hdb,(5:)⟩;simp only[makeG,zM,aQ,eG,flats,and_self,if_true] at e;obtain⟨new,h2,rfl⟩:=mpd e;exact OY (g:=zM) hc cl hna hnd hln (fun _ H _ _ _ _ _ _ _ e q=>by cases e;exact q _ H (Same.refl _) .nil) o rfl ⟨rfl,rfl⟩ h2 q
end
theorem FJ{K:Frag}(C:aA):cZ K (.ref C) (.ref C)=some true:=by unfold cZ;rw[if_pos (by simp)]
theorem kit_no{K:Frag}{C C':aA}(u:pE K C=true)(y:mO K (.ref C)=some (.type "type"))(s:fA K (.ref C') (.ref C)=some false)(n:(Value.ref C'==Value.ref C)=false):cZ K (.ref C') (.ref C)=some false:=by
 unfold cZ;rw[n,if_neg (by decide)];unfold mP;simp only;rw[show(sE K C).isSome=true from u,y,if_pos (by simp),s]
section
variable{X:Cx}
end
section
variable{X:Cx}
theorem NW{x:Str}{i:Int}{pos:Pos}(hm:∃t,X.mg x=some (.int i t))(hg:Gl X x:=by rfl)(hd:(6:)=false:=by decide):PV X (.Name x pos) (zB (.int i)):=
 let ⟨t,h⟩:=hm
 UI (v:=.int i) hg h ⟨t,rfl⟩ (fun _ _=>.int i) hd
theorem aBx{x:Str}{i:Str}{pos:Pos}(hm:∃t,X.mg x=some (.str i t))(hg:Gl X x:=by rfl)(hd:(6:)=false:=by decide):PV X (.Name x pos) (zB (.str i)):=
 let ⟨t,h⟩:=hm
 UI (v:=.str i) hg h ⟨t,rfl⟩ (fun _ _=>.str i) hd
end
inductive NoAll(K:Frag)(C:aA):List Str->Prop
 |nil:NoAll K C []
 |cons {f:Str} {l:List Str} (h:NoAttr K C f) (t:NoAll K C l):NoAll K C (f::l)
theorem yR{K:Frag}{C:aA}: NoAll K C []:=.nil
theorem qP{K:Frag}{C:aA}{f:Str}{l:List Str}(h:NoAttr K C f)(t:NoAll K C l):NoAll K C (f::l):=.cons h t
theorem yH{K:Frag}{C:aA}:∀{l:List Str},NoAll K C l->∀f∈l,NoAttr K C f
 |_,.nil,f,h=>(nomatch h)
 |_,.cons q t,f,h=>(aE.mp h).elim (fun e=>e▸q) (yH t f)
section
variable{X:Cx}
end
section
variable{X:Cx}{k j n:Nat}{F:List D->Option Ret}{x:Str}{p pos:Pos}{e:Expr}{es:List Expr}{g:FA}
end
end FL
namespace PySem
open Sem (wp)
section
variable{prog:aW}{w:bR}{A:bL}{R:QT->aD->Prop}{I:aA}{fp wr:List aA}{n:Nat}{P:Nat->Value->Prop}{St:Nat->Heap->Prop}{kw:List (Str×Value)}
end
section
variable{prog:aW}{w:bR}{A:bL}{E:Value->aD->Prop}{s:aD}
end
end PySem
namespace FL
open PySem PySem.Spec PyProof.Rows L2
section
variable{X:Cx}
end
open PySem.Calls PySem.Builtin PySem.Builtin.ObjectAttr PySem.Builtin.Getset_descriptor
open PySem.W (Looks looks_findIn looks_mroIn findIn mroIn specialIn takesIn KitX)
structure XIn(K:Frag)(C:aA):Prop where
 ga:findIn K (.ref C) "__getattribute__" = some (some (.builtin "BaseException.__getattribute__"))
 gt:findIn K (.ref C) "__getattr__" = some none
 cl:findIn K (.ref C) "__class__" = some (some (.builtin "object.__class__"))
 ob:mroIn K C (.type "object")=some true
 be:mroIn K C (.type "BaseException")=some true
section
variable{prog:aW}{w:bR}{A:bL}{E:Value->aD->Prop}{h:Heap}{g:Array GenState}{d:Drawn}{t:Nat}{os:OsState}{a C:aA}{o:Obj}{K:Frag}
theorem AH{M:QV}(hx:h.get? a=some o)(hc:o.cls=.ref C):Looks M h (typeOf (.ref a)) (.ref C):=hc▸(PySem.W.Looks.ld hx).andThen .now
theorem NC{R:QT->aD->Prop}{tp:Value}(X:K.In h)(hx:h.get? a=some o)(hc:o.cls=.ref C)(I:XIn K C)(hq:R (.ok (.ret (.ref C))) ⟨h,g,d,t,os⟩) :
  nE (bE prog w) A (.call (.builtin "getset_descriptor.__get__") ⟨[.builtin "object.__class__",.ref a,tp],[]⟩) R ⟨h,g,d,t,os⟩:=by
 have L0:=AH (M:=bE prog w) hx hc;have L1:=looks_mroIn (M:=bE prog w) X I.ob;refine codeAny_call_builtin KU.plain PySem.W.KF.entry_gs (KU.check _ _ _ _ _ _ _ _ PySem.W.KF.type_class (PySem.W.KF.args_gs _ _ _) ?_);unfold Builtin.«getset_descriptor.__get__» descrGet;rw[PySem.W.dga_obj];refine aS (cJ ?_);unfold descrGetter descrCheckInstance descrNameAndClass isInstance;simp only[PySem.W.KF.owner_class]
 repeat lk
 refine⟨Code.quiet_builtin _ (by decide +kernel),codeAny_builtin PySem.W.KF.entry_class ?_⟩;unfold Builtin.«object.__class__» shownTypeOf
 repeat lk
 exact hq
theorem RF{M:QV}{nameV:Value}{Q:Unit->aD->Prop}(X:K.In h)(hx:h.get? a=some o)(hc:o.cls=.ref C)(I:XIn K C)(hq:Q () ⟨h,g,d,t,os⟩) :
  bF M A (checkBuiltinCall "BaseException.__getattribute__" ⟨[.ref a,nameV],[]⟩) Q E ⟨h,g,d,t,os⟩:=by
 have hk:builtinKind "BaseException.__getattribute__" = some .slot:=by decide +kernel
 have hsplit:splitId "BaseException.__getattribute__" = some ("BaseException","__getattribute__"):=by decide +kernel
 have L0:=AH (M:=M) hx hc;have L1:=looks_mroIn (M:=M) X I.be;have ha:=F.args_bexc_ga (.ref a) nameV;simp only[checkBuiltinCall,hk,hsplit];refine aS ?_
 . unfold isInstance
   repeat (first | with_reducible refine L0.at ?_ | with_reducible refine L1.at ?_ | wp_step)
   exact hq
theorem x_entry{tk:Tok}{Q:Fin->aD->Prop}(X:K.In h)(hx:h.get? a=some o)(hc:o.cls=.ref C)(I:XIn K C)(hq:Q (.done (.ret (.ref C))) ⟨h,g,d,t,os⟩) :
  bF (bE prog w) A (Builtin.«object.__getattribute__» ⟨[.ref a,.str "__class__" tk],[]⟩) Q E ⟨h,g,d,t,os⟩:=by
 have L0:=AH (M:=bE prog w) hx hc;have L1:=looks_findIn (M:=bE prog w) X I.cl;have hT5:(⟨h,g,d,t,os⟩:aD).TypeIs (.builtin "object.__class__") "getset_descriptor":=F.typeOf_object_class;have f5:=F.typeOf_object_class;have f6:=F.slot_gs_get.lookup;have f7:=F.slot_gs_set.lookup
 repeat (any_goals (first | assumption | with_reducible refine L0.at ?_ | with_reducible refine L1.at ?_ | wp_step))
 refine NC X hx hc I ?_
 repeat (any_goals (first | assumption | wp_step))
theorem x_call{tk:Tok}{R:QT->aD->Prop}(X:K.In h)(hx:h.get? a=some o)(hc:o.cls=.ref C)(I:XIn K C)(hq:R (.ok (.ret (.ref C))) ⟨h,g,d,t,os⟩) :
  nE (bE prog w) A (.call (.builtin "BaseException.__getattribute__") ⟨[.ref a,.str "__class__" tk],[]⟩) R ⟨h,g,d,t,os⟩ :=
 codeAny_call_builtin F.attr_ValueError.ga.plain F.entry_bexc_ga (RF X hx hc I (x_entry X hx hc I hq))
theorem x_by{tk:Tok}{fill expr:Bool}{Q:Value->aD->Prop}(X:K.In h)(hx:h.get? a=some o)(hc:o.cls=.ref C)(I:XIn K C)(hq:Q (.ref C) ⟨h,g,d,t,os⟩) :
  bF (bE prog w) A (getAttrBy (.ref a) (.str "__class__" tk) fill expr) Q E ⟨h,g,d,t,os⟩:=by
 have L0:=AH (M:=bE prog w) hx hc;have L1:=looks_findIn (M:=bE prog w) X I.ga;have L2:=looks_findIn (M:=bE prog w) X I.gt;have f3:=F.attr_ValueError.ga.bind (.ref a);have hx0:(expr&&onTheHeap (Value.builtin "BaseException.__getattribute__"))=false:=by cases expr<;>rfl
 have hx2:(Value.builtin "BaseException.__getattribute__"==Value.builtin "object.__getattribute__")=false:=by decide +kernel
 have hx1:(onTheHeap (Value.ref C)&&Value.builtin "BaseException.__getattribute__"==Value.builtin "object.__getattribute__")=false:=by rw[hx2];rfl
 repeat (any_goals (first | assumption | with_reducible refine L0.at ?_ | with_reducible refine L1.at ?_ | with_reducible refine L2.at ?_ | wp_step))
 refine x_call X hx hc I ?_
 repeat (any_goals (first | assumption | wp_step))
theorem x_attr{Q:Option Value->aD->Prop}(X:K.In h)(hx:h.get? a=some o)(hc:o.cls=.ref C)(I:XIn K C)(hq:Q (some (.ref C)) ⟨h,g,d,t+1,os⟩) :
  bF (bE prog w) A (getAttr? (.ref a) "__class__") Q E ⟨h,g,d,t,os⟩:=by
 unfold getAttr? getAttrBy?
 repeat (any_goals (first | assumption | with_reducible apply x_by X hx hc I | wp_step))
noncomputable def IsX(a C:aA)(h:Heap):Prop:=∃o,h.get? a=some o/\o.cls=.ref C
theorem aEc(I:XIn K C):KitX K (.ref a) (.ref C) (IsX a C) where
 ty:=fun _ _ _ ⟨o,h1,h2⟩=>AH h1 h2
 it:=fun _ _ X _=>by
  have hm:=I.ob;unfold mroIn at hm;obtain⟨cd,hcD,hm⟩:=bnd hm;unfold sE at hcD
  split at hcD
  . rename_i c' d' cd' sl' ho;intro A' Q' E' s' k q;unfold isType loadHead;exact aS (wpAny_loadPart (k _ _ (X _ _ ho)) (cJ q))
  . cases hcD
 ne:=fun h tp dd its n sl X htp=>by
  have hm:=I.ob;unfold mroIn at hm;obtain⟨cd,hcD,hm⟩:=bnd hm;refine ZX.mpr fun q=>?_;have e:C=tp:=Value.ref.inj (beq_iff_eq.mp q);subst e;unfold sE at hcD
  split at hcD
  . rename_i c' d' cd' sl' ho;have z:=(X _ _ ho).symm.trans htp;cases z
  . cases hcD
 ca:=fun {prog w A E Q s} X p k=>by
  obtain⟨o,h1,h2⟩:=p;obtain⟨h,g,d,t,os⟩:=s;exact x_attr X h1 h2 I k
end
end FL
namespace FL
open PySem PySem.Spec PyProof.Rows L2
noncomputable def Fl2(B:Heap)(l:List Env)(e:aA)(cls a0 fl:Value)(h:Heap):Prop:=B.StaysIn h/\B.get? e=none/\h.FunFrames B l ∧
 ∃oe vs T oT ts,h.get? e=some oe/\(oe.cls=cls/\vs[0]?=some a0/\vs[2]?=some .none)/\oe.data=.fields vs/\vs[1]?=some (.ref T)/\B.get? T=none/\T≠e/\h.get? T=some oT/\oT.data=.fields ts/\ts[3]?=some fl
section
variable{M:QV}{A:bL}{E:Value->aD->Prop}{s:aD}{B:Heap}{l outer:List Env}{env:Env}{e L:aA}{cls a0 fl:Value}{oe:Obj}{vs:Array Value}{Q:Unit->aD->Prop}
theorem set2{v:Option aA}(R:Fl2 B l e cls a0 fl s.heap)(h:∀h',Fl2 B l e cls a0 (v.elim .none fun f=>uX f) h'->s.heap.UpToSlots h'->Q () { s with heap:=h' }):bF M A (setFlight (.ref e) v) Q E s:=by
 obtain⟨r1,r2,r3,oe,vs,T,oT,ts,q1,q2,q3,q4,q5,q6,q7,q8,q9⟩:=R;have hz:3<ts.size:=(nM.mp q9).1;have ot:∀b,b≠T->(s.heap.update T (Obj.mapFields (·.setIfInBounds 3 (v.elim .none fun f=>uX f)))).get? b=s.heap.get? b:=fun b hb=>fJ _ _ (Ne.symm hb)
 have nr:∀b o,s.heap.get? b=some o->(∀vs,o.data≠.fields vs)->b≠T:=fun b o hb hn z=>by
  rw[z,q7] at hb;cases hb;exact hn _ q8
 unfold setFlight;refine aS (lI q1 q3 q4 ?_);rw[if_pos (by simp)];refine QP q7 q8 hz (h _ ⟨fun b o hb=>(ot b fun z=>?_).trans (r1 b o hb),r2,r3.of_keeps fun b o hb hn=>⟨o,(ot b (nr b o hb hn)).trans hb,rfl⟩,?_⟩ fun b o hb hn=>⟨o.slots,(ot b (nr b o hb hn)).trans hb⟩)
 . rw[z,q5] at hb;cases hb
 . exact⟨oe,vs,T,_,_,(ot e (Ne.symm q6)).trans q1,q2,q3,q4,q5,q6,lJ _ q7 (Obj.isFreed_of_fields (Obj.data_mapFields q8 _)),Obj.data_mapFields q8 _,by simp[hz]⟩
theorem aFa{head:Value}{had:Bool}(hfr:A.frames=some (env::outer))(hl:s.heap.FunFrames B (env::outer))(hf:env.frame=some L)(he:s.heap.get? e=some oe)(hk:B.StaysIn s.heap)(hn:B.get? e=none)(hd:oe.data=.fields vs)(hc:oe.cls=cls/\vs[0]?=some a0/\vs[2]?=some .none)(h:∀h',Fl2 B (env::outer) e cls a0 (uX L) h'->s.heap.UpToSlots h'->Q () { s with heap:=h' }) :
  bF M A (do let a <- frameOf env;let pl <- entryPlaceOf L had;let b <- EntryCells.newEntry head a .none (uX L) .none pl;setField (.ref e) 1 b) Q E s:=by
 have ne:e∉(env::outer).filterMap (·.frame):=fun hm=>by
  obtain⟨_,o,ho,hx⟩:=hl.mem hm;rw[he] at ho;cases ho;exact hx vs hd
 have hsz:1<vs.size:=by have:=(nM.mp hc.2.2).1;omega
 refine aS (wpAny_frameOf_fun hfr hl hf fun h1 s1=>aS (wpAny_entryPlaceOf fun pl hpl=>?_));unfold EntryCells.newEntry newFields;refine aS (pR ?_ (hpl.sizeOk5 _ _ _ _ _));have e1:h1.get? e=some oe:=(s1.2.1 e ne).trans he;have k1:B.StaysIn h1:=fun b o q=>(s1.2.1 b fun hm=>by rw[(hl.mem hm).1] at q;cases q).trans (hk b o q);have te:h1.objs.size≠e:=Nat.ne_of_gt (bB e1);have ot:∀(O:Obj) b o,b≠e->h1.get? b=some o->((h1.push O).update e (Obj.mapFields (·.setIfInBounds 1 (Value.ref h1.objs.size)))).get? b=some o:=fun O b o hb q=>(fJ _ _ (Ne.symm hb)).trans (aL _ q)
 have nr:∀b o,s.heap.get? b=some o->(∀vs,o.data≠.fields vs)->b≠e:=fun b o q hx z=>by
  rw[z,he] at q;cases q;exact hx vs hd
 have d3:=Obj.data_mapFields hd (·.setIfInBounds 1 (Value.ref h1.objs.size));refine QP (aL _ e1) hd hsz (h _ ⟨fun b o q=>ot _ b o (fun z=>by rw[z,hn] at q;cases q) (k1 b o q),hn,hl.of_keeps fun b o q hx=>?_,?_⟩ fun b o q hx=>?_)
 . obtain⟨sl, z⟩ := s1.2.2 b o q;exact⟨_,ot _ b _ (nr b o q hx) z,rfl⟩
 . refine ⟨_, _, h1.objs.size, _, _, lJ _ (aL _ e1) (Obj.isFreed_of_fields d3), ⟨(Obj.cls_mapFields _ _).trans hc.1, ?_, ?_⟩, d3, by simp [hsz], k1.fresh, te, (fJ _ _ (Ne.symm te)).trans (bC _ rfl), rfl, by first | (simp; done) | (rcases hpl with rfl | ⟨_, _, _, _, _, _, _, rfl⟩ <;> simp)⟩
   . rw[AG (by decide)];exact hc.2.1
   . rw[AG (by decide)];exact hc.2.2
 . obtain⟨sl, z⟩ := s1.2.2 b o q;exact⟨sl,ot _ b _ (nr b o q hx) z⟩
theorem note2(hfr:A.frames=some (env::outer))(hf:env.frame=some L)(R:Fl2 B (env::outer) e cls a0 .none s.heap)(h:∀h',Fl2 B (env::outer) e cls a0 (uX L) h'->s.heap.UpToSlots h'->Q () { s with heap:=h' }):bF M A (AF (.ref e) env) Q E s:=by
 obtain⟨r1,r2,r3,oe,vs,T,oT,ts,q1,q2,q3,q4,q5,q6,q7,q8,q9⟩:=R;have ot:∀b,b≠T->(s.heap.update T (Obj.mapFields (·.setIfInBounds 3 Value.none))).get? b=s.heap.get? b:=fun b hb=>fJ _ _ (Ne.symm hb)
 have nr:∀b o,s.heap.get? b=some o->(∀vs,o.data≠.fields vs)->b≠T:=fun b o hb hn z=>by
  rw[z,q7] at hb;cases hb;exact hn _ q8
 unfold AF;simp only[hf];refine aS (lI q1 q3 q4 ?_);rw[if_pos (by simp)];refine aS (lI q7 q8 q9 ?_);rw[if_neg (by simp[uX])];refine aS (QP q7 q8 (nM.mp q9).1 ?_);exact aFa hfr (r3.of_keeps fun b o hb hn=>⟨o,(ot b (nr b o hb hn)).trans hb,rfl⟩) hf ((ot e (Ne.symm q6)).trans q1) (fun b o hb=>(ot b fun z=>by rw[z,q5] at hb;cases hb).trans (r1 b o hb)) r2 q3 q2 fun h' f u=>h h' f fun b o hb hn=>u b o ((ot b (nr b o hb hn)).trans hb) hn
theorem made2{h:Heap}{args:List Value}(hfr:A.frames=some (env::outer))(hf:env.frame=some L)(hk:B.StaysIn h)(hl:h.FunFrames B (env::outer))(hx:Heap.MadeExcOf h s.heap e cls args)(hQ:∀h' t,Fl2 B outer e cls (.ref t) .none h'->s.heap.UpToSlots h'->Q () { s with heap:=h' }):bF M A (leaving env (.ref e)) Q E s:=by
 obtain⟨t,he,_,_⟩:=hx.there
 have hn:B.get? e=none:=by
  cases q:B.get? e with
  |none=>rfl
  |some o=>have:=hk e o q;rw[hx.new] at this;cases this
 unfold leaving AF;simp only[hf];refine aS (aS (lI he rfl (x:=Value.none) rfl ?_));rw[if_neg (by decide)];refine aFa (a0:=.ref t) hfr (hl.of_keeps fun b o hb _=>⟨o,hx.keeps b o hb,rfl⟩) hf he (fun b o hb=>hx.keeps b o (hk b o hb)) hn rfl ⟨rfl,rfl,rfl⟩ fun h1 f1 u1=>set2 (s:={ s with heap:=h1 }) f1 fun h2 f2 u2=>hQ h2 t ?_ (u1.trans u2);obtain⟨k1,k2,⟨_,_,k3⟩,k4⟩:=f2;exact⟨k1,k2,k3,k4⟩
end
noncomputable def HdA(A:bL)(H:Hp):Prop:=∃ea oe u vs,A.handled=some (.ref ea)/\H ea=some (.frz oe u)/\oe.data=.fields vs/\vs[2]?=some .none
noncomputable def HdP(X:Cx):Prop:=HdA X.A X.H₀
theorem SK{X:Cx}{aC:List (aA×Obj)}{σ : L2.St}{H:Hp}{s:aD}(I:Inv X aC σ H s)(h:HdP X):HdA X.A H:=by
 obtain⟨ea,oe,u,vs,h1,h2,h3⟩:=h;exact⟨ea,oe,u,vs,h1,I.base.frzs _ _ _ h2,h3⟩
open PySem.W (hideAll hideAll_get of_hideAll hideAll_none funFrames_hide excIn tail_of_in nsMap_none_of_in isNs_of_in)
theorem obj_get{P:aW}{w:bR}{H:Hp}{h:Heap}{a:aA}{o:HO}(x:ObjOk P w H h a o):∃u,h.get? a=some u:=by
 cases o with
 |lst xs=>obtain⟨_,_,_,_,e⟩:=x;exact⟨_,e⟩
 |tup xs=>obtain⟨_,_,_,_,e,_⟩:=x;exact⟨_,e⟩
 |dK kvs=>obtain⟨_,_,_,_,o,_,_,e,_⟩:=x;exact⟨_,e⟩
 |dT kvs=>obtain⟨_,_,_,_,o,_,_,e,_⟩:=x;exact⟨_,e⟩
 |set S n=>obtain⟨o,_,_,_,e,_⟩:=x;exact⟨_,e⟩
 |ins C dx fs=>obtain⟨_,_,_,e,_⟩:=x;exact⟨_,e⟩
 |own y=>obtain⟨_,e⟩:=x;exact⟨_,e⟩
 |xd fs=>obtain⟨_,⟨_,_,_,e,_⟩,_⟩:=x;exact⟨_,e⟩
 |rng lo hi=>obtain⟨_,_,_,e⟩:=x;exact⟨_,e⟩
 |frz ob u=>obtain⟨e,_⟩:=x;exact⟨_,e⟩
 |tbl ps=>obtain⟨_,e,_⟩:=x;exact⟨_,e⟩
 |met f y=>exact⟨_,(show h.get? a=some _ from x)⟩
 |ext φ=>obtain⟨_,⟨_,e⟩,_⟩:=x;exact⟨_,e⟩
structure Thrown(P:aW)(w:bR)(outer:List Env)(H:Hp)(s:aD)(cls:Value)(ea:aA)(a0:Value)(B:Heap)(H':Hp)(h:Heap):Prop where
 fly:Fl2 B outer ea cls a0 .none h
 keep:∀b o,s.heap.get? b=some o->H b=none->b∉frs outer->B.get? b=some o
 there:∀b o,s.heap.get? b=some o->b∉frs outer->∃o',B.get? b=some o'
 slot:∀b o,s.heap.get? b=some o->b∈frs outer->∃sl,h.get? b=some { o with slots:=sl }
 free:∀b o,s.heap.get? b=some o->H b=none->H' b=none
 tups:∀b xs,H b=some (.tup xs)->H' b=some (.tup xs)
 frzs:∀b o u,H b=some (.frz o u)->H' b=some (.frz o u)
 tbls:∀b ps,H b=some (.tbl ps)->H' b=some (.tbl ps)
 hok:L2.HOk P w H' B
section
variable{P:aW}{w:bR}{outer:List Env}{H H':Hp}{s:aD}{cls a0:Value}{ea:aA}{B h h':Heap}
theorem Thrown.un(t:Thrown P w outer H s cls ea a0 B H' h):Un (frs outer) [] H H' s.heap h where
 keep:=fun b o e n hb _=>t.fly.1 b o (t.keep b o e n hb)
 slot:=fun b o e n hb _=>t.slot b o e hb
 free:=fun b o e n _=>t.free b o e n
 there:=fun b o e _=>by
  by_cases hb:b∈frs outer
  . obtain⟨sl,q⟩:=t.slot b o e hb;exact⟨_,q⟩
  . obtain⟨o',q⟩:=t.there b o e hb;exact⟨o',t.fly.1 b o' q⟩
 tups:=t.tups
 frzs:=t.frzs
 tbls:=t.tbls
theorem Thrown.hokh(t:Thrown P w outer H s cls ea a0 B H' h):L2.HOk P w H' h:=t.hok.kept t.fly.1
theorem Thrown.on(t:Thrown P w outer H s cls ea a0 B H' h)(f:Fl2 B outer ea cls a0 .none h')(u:h.UpToSlots h'):Thrown P w outer H s cls ea a0 B H' h' where
 fly:=f
 keep:=t.keep
 there:=t.there
 slot:=fun b o e hb=>by
  obtain⟨sl,q⟩:=t.slot b o e hb;obtain⟨_,ob,ho,hd⟩:=t.fly.2.2.1.mem hb;rw[q] at ho;cases ho;obtain⟨sl',q'⟩:=u b _ q hd;exact⟨sl',q'⟩
 free:=t.free
 tups:=t.tups
 frzs:=t.frzs
 tbls:=t.tbls
 hok:=t.hok
theorem Thrown.no(t:Thrown P w outer H s cls ea a0 B H' h):H' ea=none:=by
 cases q:H' ea with
 |none=>rfl
 | some u =>
   obtain⟨o,e⟩:=obj_get (t.hok _ _ q);rw[t.fly.2.1] at e;cases e
end
theorem SJ{P:aW}{w:bR}{H:Hp}{h:Heap}(x:L2.HOk P w H h)(l:List aA)(hl:∀b∈l,H b=none):L2.HOk P w H (hideAll h l):=fun a o e =>
 (x a o e).stay (fun b u hb q=>hideAll_get _ q fun z=>by
   rcases hb with rfl | hb
   . rw[hl _ z] at e;cases e
   . rw[hl _ z] at hb;cases hb) (fun _ q=>q) fun _ _ q=>q
noncomputable def CXM(P:aW)(w:bR):CXT:=fun outer H s E e s'=>∃ea cls a0 B H',e=.ref ea/\s'.os=s.os/\iQ s'.gens/\Thrown P w outer H s cls ea a0 B H' s'.heap/\E cls none H'
noncomputable def XeOk(X:Cx)(C:aA)(σ : L2.St)(H:Hp):Prop:=∀(aC:List (aA×Obj)) (s:aD) (h':Heap) (e:aA) (as:List Value),Inv X aC σ H s->Heap.MadeExcOf s.heap h' e (.ref C) as->X.xe (.ref e) { s with heap:=h' }
theorem aAs{P:aW}{w:bR}{K:Frag}{mg:Str->Option Value}{base:Heap}{N:List Str}{qual:Str}{scope:Scope}{f C:aA}{cd:Value}{A:bL}{outer:List Env}{s:aD}{H H':Hp}{E:XK}{σ : L2.St}(hE:E (.ref C) none H'):XeOk (cxOf (CXM P w) P w K mg base N qual scope f cd A outer s H E) C σ H':=by
 intro aC s1 h1 e as I hx;have hfr:frs (fY qual scope s.heap.objs.size f cd::outer)=s.heap.objs.size::frs outer:=rfl
 have nm:∀b o,s.heap.get? b=some o->b∉frs outer->b∉frs (fY qual scope s.heap.objs.size f cd::outer):=fun b o q n z=>by
  rw[hfr] at z;rcases aE.mp z with z | z
  . exact absurd (bB q) (by rw[z];exact dO _)
  . exact n z
 show bF _ _ (leaving _ _) _ _ _;refine made2 (B:=hideAll s1.heap (frs (fY qual scope s.heap.objs.size f cd::outer))) (h:=s1.heap) I.ok.frames rfl (fun b o q=>of_hideAll _ q) (funFrames_hide I.stack fun env he b hb=>nR.mpr ⟨env,he,hb⟩) hx fun h' t x1 x4=>?_;refine⟨e,.ref C,.ref t,_,H',rfl,I.os,I.bare,⟨x1,fun b o q n hb=>?_,fun b o q hb=>?_,fun b o q hb=>?_,fun b o q n=>I.base.free b o q n (by intro z;cases z),I.base.tups,I.base.frzs,I.base.tbls,?_⟩,hE⟩
 . exact hideAll_get _ (I.base.keep b o q n hb (by intro z;cases z)) (nm b o q hb)
 . obtain⟨o', q'⟩ := I.base.there b o q (by intro z;cases z);exact⟨o',hideAll_get _ q' (nm b o q hb)⟩
 . obtain⟨sl, q'⟩ := I.base.slot b o q (I.ok.frf b hb) hb (by intro z;cases z);obtain⟨_,ob,ho,hd⟩:=I.ok.funs.mem hb;have ho':s.heap.get? b=some ob:=ho;rw[q] at ho';cases ho';obtain⟨sl',q''⟩:=x4 b _ (hx.keeps _ _ q') hd;exact⟨sl',q''⟩
 . exact SJ I.hok _ I.stkFree
abbrev bmVE:List Value:=[.type "ValueError",.type "Exception",.type "BaseException",.type "object"]
structure XCls(K:Frag)(C:aA):Prop where
 exc:excIn K C bmVE "ValueError.__new__" = true
 xin:XIn K C
theorem xcls_at{K:Frag}{h:Heap}{C:aA}{bmB:List Value}{newId:String}(X:K.In h)(q:excIn K C bmB newId=true):∃bm N nm qn bs hdct sn sub ab col dd k0 k1 k2 k3 k5 mN,h.get? C=some (excClassObj nm qn C N bs bm hdct sn sub ab col dd k0 k1 k2 k3 k5 newId)/\h.Ns N mN/\mN "__init__" = none/\OwnTail h bmB bm:=by
 unfold excIn at q
 split at q
 . rename_i dd cd sl ho
   split at q
   . rename_i C' bm k0 k1 k2 k3 n k5 hm hs;simp only [bU,beq_iff_eq,ZW] at q;obtain ⟨⟨⟨⟨⟨rfl,rfl⟩,hdel⟩,ht⟩,hok⟩,hni⟩:=q;obtain ⟨nm,bs,mro,ns,qn,hd,sn,sub,ab,col,del⟩:=cd;dsimp only at hm hdel hok hni;subst hm hdel
     have hsl:sl=#[k0,k1,k2,k3,some (.builtin n),k5]:=by
      obtain⟨l⟩:=sl;simp only at hs;rw[hs]
     subst hsl;exact⟨bm,ns,nm,qn,bs,hd,sn,sub,ab,col,dd,k0,k1,k2,k3,k5,_,X _ _ ho,.of_isNs (isNs_of_in X hok),nsMap_none_of_in X hok hni,tail_of_in X ht⟩
   . cases q
 . cases q
noncomputable def tRaise(X:Cx)(C:aA):TS:=fun _ σ H=>XeOk X C σ H
theorem aCp{X:Cx}{C:aA}{x txt:Str}{j:Nat}{np cp cpos pos:Pos}(hC:XCls X.K C)(hm:X.mg x=some (.ref C))(hcalm:X.calm=true)(hg:Gl X x:=by rfl)(hdb:(6:)=false:=by decide)(he:aF [.Constant (.str txt) j cp] X.env=[(false,bT (.Constant (.str txt) j cp) X.env)]:=by rfl):PS X (.Raise (some (.Call (.Name x np) [.Constant (.str txt) j cp] [] cpos)) none pos) (tRaise X C):=by
 intro aC s σ H D I h;obtain⟨bm,N,nm,qn,bs,hdct,sn,sub,ab,col,dd,k0,k1,k2,k3,k5,mN,h1,h2,h3,h4⟩:=xcls_at I.kIn hC.exc;have hbase:bm.contains (.type "BaseException")=true:=h4.hasType (by decide +kernel);refine wpAny_Raise_call_subU (C:=C) (mN:=mN) (N:=N) (nm:=nm) (q:=qn) (bs:=bs) (bm:=bm) (hdct:=hdct) (sn:=sn) (sub:=sub) (ab:=ab) (col:=col) (dd:=dd) (k0:=k0) (k1:=k1) (k2:=k2) (k3:=k3) (k5:=k5) F.excBase_ValueError (by decide +kernel) F.excBase_ValueError hbase (I.ok.hd hcalm) (by rw[he];rfl) h3 (xJ I hg hm ⟨rfl,?_⟩ hdb);rw[he];show bF _ _ (evalArgs _ true ((false,bT (.Constant (.str txt) j cp) X.env)::[]) []) _ _ s;refine Calls.evalArgs_plain (Calls.spliced_cons ?_);refine Calls.Constant_str (k:=j) (pos:=cp) (Calls.spliced_nil ?_);have I2:=I.tok (s.toks+1);refine⟨rfl,by show 1<=sizeLine;decide,h1,h2,h4,fun h' e hx=>?_⟩;exact h aC _ h' e _ I2 hx
section
variable(X:Cx)(C:aA)
noncomputable def PSx(st:Stmt)(x:List Sl->Bool):Prop:=∃t,PS X st t/\∀H₀ H O σ ds hd E,Ok X.K H₀ H O σ ds hd->x ds=true->(∀σ' H',Same H₀ H'->XeOk X C σ' H')->t E σ H
end
section
variable{X:Cx}{C:aA}
theorem wW{x txt:Str}{j:Nat}{np cp cpos pos:Pos}(hC:XCls X.K C)(hm:X.mg x=some (.ref C))(hcalm:X.calm=true:=by rfl)(hg:Gl X x:=by rfl)(hdb:(6:)=false:=by decide)(he:aF [.Constant (.str txt) j cp] X.env=[(false,bT (.Constant (.str txt) j cp) X.env)]:=by rfl):PSx X C (.Raise (some (.Call (.Name x np) [.Constant (.str txt) j cp] [] cpos)) none pos) lM :=
 ⟨_,aCp hC hm hcalm hg hdb he,fun H₀ H O σ ds hd E o _ h=>h σ H o.same⟩
end
noncomputable def spX(K:Frag)(n:Nat)(R:List D->Bool)(C:aA):Sp:=fun vs H _ E=>vs.length=n/\∃ds,Reps K H jB vs ds/\R ds=true/\∀H',Same H H'->E (.ref C) none H'
end FL
namespace FL
open PySem PySem.Spec PyProof.Rows L2
open PySem.W (Looks looks_mroIn mroIn)
abbrev gU(X:Cx)(ea:aA)(xe:Value->aD->Prop)(H0:Hp:=X.H₀):Cx:={ X with A:=X.A.mark (some (.ref ea)),calm:=false,H₀:=H0,xe:=xe }
section
variable{X:Cx}{aC:List (aA×Obj)}{σ : L2.St}{H:Hp}{s:aD}{ea:aA}{oe:Obj}{xe:Value->aD->Prop}
theorem YM(I:Inv X aC σ H s):Inv (gU X ea xe) aC σ H s:=by
 have ok:=I.ok;exact⟨⟨ok.mod,ok.kind,ok.glob,ok.blt,ok.above,ok.inj,ok.has,ok.cab,(fun z=>by cases z),ok.frames,ok.stk,ok.exf,ok.bs,ok.bsz,ok.noex,ok.exfs,ok.funs,ok.frf⟩,I.os,I.bare,I.base,I.loc,I.cell,I.free,I.freeC,I.pin,I.hok,I.len⟩
theorem SH{u:HO}(I:Inv X aC σ H s)(hH:H ea=some (.frz oe u))(h0:X.s₀.heap.get? ea=none)(nt:∀q,X.H₀ ea≠some (.tbl q))(nf:ea∉X.fs):Inv (gU X ea xe (upd X.H₀ ea (.frz oe u))) aC σ H s:=by
 have ok:=I.ok;have n0:∀{b:aA} {o:Obj},X.s₀.heap.get? b=some o->b≠ea:=fun e z=>by rw[z,h0] at e;cases e
 refine⟨⟨ok.mod,ok.kind,ok.glob,ok.blt,ok.above,ok.inj,ok.has,ok.cab,(fun z=>by cases z),ok.frames,ok.stk,ok.exf,fun b o e=>?_,⟨ok.bsz.1,ok.bsz.2.bm,fun x c P h1 h2=>?_⟩,ok.noex,ok.exfs,ok.funs,fun b hb=>?_⟩,I.os,I.bare,⟨fun b o e n=>?_,fun b o e n=>?_,fun b o e n=>?_,I.base.there,fun b xs e=>?_,fun b o u e=>?_,fun b q e=>?_⟩,I.loc,I.cell,I.free,I.freeC,I.pin,I.hok,I.len⟩
 . have := ok.bs b o e;exact⟨this.1,(upd_ne (n0 this.1)).trans this.2⟩
 . have := ok.bsz.2.tab x c P h1 h2;exact⟨this.1,(upd_ne (fun z:P=ea=>nt _ (z▸this.2))).trans this.2⟩
 . exact(upd_ne (fun z:b=ea=>nf (z▸hb))).trans (ok.frf b hb)
 . exact I.base.keep b o e ((upd_ne (n0 e)).symm.trans n)
 . exact I.base.slot b o e ((upd_ne (n0 e)).symm.trans n)
 . exact I.base.free b o e ((upd_ne (n0 e)).symm.trans n)
 . by_cases hb : b = ea
   . subst hb;cases(bM (o:=.frz oe u)).symm.trans e
   . exact I.base.tups b xs ((upd_ne hb).symm.trans e)
 . by_cases hb : b = ea
   . subst hb;cases bM.symm.trans e;exact hH
   . exact I.base.frzs b o _ ((upd_ne hb).symm.trans e)
 . by_cases hb : b = ea
   . subst hb;cases(bM (o:=.frz oe u)).symm.trans e
   . exact I.base.tbls b q ((upd_ne hb).symm.trans e)
theorem MF{u:HO}{pins0:List (aA×Obj)}{σ0:L2.St}{H0:Hp}{s0:aD}(I0:Inv X pins0 σ0 H0 s0)(hn:H0 ea=none)(h0:X.s₀.heap.get? ea=none)(I:Inv (gU X ea xe (upd X.H₀ ea (.frz oe u))) aC σ H s):Inv X aC σ H s:=by
 have n0:∀{b:aA} {o:Obj},X.s₀.heap.get? b=some o->b≠ea:=fun e z=>by rw[z,h0] at e;cases e
 have ne:∀{b:aA} {v:HO},H0 b=some v->b≠ea:=fun e z=>by rw[z,hn] at e;cases e
 refine⟨I0.ok,I.os,I.bare,⟨fun b o e n=>I.base.keep b o e ?_,fun b o e n=>I.base.slot b o e ?_,fun b o e n=>I.base.free b o e ?_,I.base.there,fun b xs e=>I.base.tups b xs ?_,fun b o u e=>I.base.frzs b o u ?_,fun b q e=>I.base.tbls b q ?_⟩,I.loc,I.cell,I.free,I.freeC,I.pin,I.hok,I.len⟩
 . exact(upd_ne (n0 e)).trans n
 . exact(upd_ne (n0 e)).trans n
 . exact(upd_ne (n0 e)).trans n
 . exact(upd_ne (ne (I0.base.tups b xs e))).trans e
 . exact(upd_ne (ne (I0.base.frzs b o u e))).trans e
 . exact(upd_ne (ne (I0.base.tbls b q e))).trans e
theorem YL(I:Inv X aC σ H s)(hn:H ea=none)(h1:s.heap.get? ea=some oe)(h3:ea≠X.env.locals)(h0:X.s₀.heap.get? ea=none)(hc:∀v,oe.data≠.cell v)(hp:∀p∈X.pn++aC,p.1≠ea) :
  Inv X aC σ (upd H ea (.frz oe (.own ea))) s:=by
 have nz:∀b u,H b=some u->b≠ea:=fun b u e z=>by rw[z,hn] at e;cases e
 have n0:∀b o,X.s₀.heap.get? b=some o->b≠ea:=fun b o e z=>by rw[z,h0] at e;cases e
 refine⟨I.ok,I.os,I.bare,⟨I.base.keep,I.base.slot,fun b o e n hx=>?_,I.base.there,fun b xs e=>?_,fun b o u e=>?_,fun b ps e=>?_⟩,I.loc,I.cell,?_,fun x c e=>?_,fun p hpp=>?_,fun b u e=>?_,I.len⟩
 . rw[upd_ne (n0 b o e)];exact I.base.free b o e n hx
 . have:=I.base.tups b xs e;rw[upd_ne (nz b _ this)];exact this
 . have:=I.base.frzs b o u e;rw[upd_ne (nz b _ this)];exact this
 . have:=I.base.tbls b ps e;rw[upd_ne (nz b _ this)];exact this
 . rw[upd_ne (Ne.symm h3)];exact I.free
 . have hz:c≠ea:=by
    intro z;obtain⟨v,o,ho,hd⟩:=I.cell x c e;rw[z,h1] at ho;cases ho;exact hc v hd
   have:=I.freeC x c e;unfold FreeC at this ⊢;rw[upd_ne hz];exact this
 . obtain⟨q1, q2, q3, q4, q5⟩ := I.pin p hpp;exact⟨q1,by rw[upd_ne (hp p hpp)];exact q2,q3,q4,q5⟩
 . by_cases hb : b = ea
   . subst hb;rw[bM] at e;cases e;exact⟨h1,oe,h1⟩
   . rw[upd_ne hb] at e;exact(I.hok b u e).stay (fun _ _ _ q=>q) (fun c q=>by rw[upd_ne (nz c _ q)];exact q) fun c xs q=>by rw[upd_ne (nz c _ q)];exact q
theorem aEg{i:Nat}{x:Str}{m:Str->Option Value}{h':Heap}{v:Option Value}{t':Nat}(I:Inv X aC σ H s)(hN:X.N.Nodup)(hi:X.N[i]?=some x)(hn:s.heap.Ns X.env.locals m)(hl:∀(i:Nat) (x:Str) (v:V),X.N[i]?=some x->σ[i]?=some (some v)->Vis X.env.scope x->∃u,RelV v u/\Look X.env s.heap m x u)(hn':h'.Ns X.env.locals (fun y=>if y=x then v else m y))(hs:Heap.SameBut X.env.locals s.heap h'):Inv X aC (σ.set i none) H { s with heap:=h',toks:=t' }:=by
 have cne:=I.cne;obtain⟨oL,_,_,hoL,_⟩:=id hn;refine⟨I.ok,I.os,I.bare,⟨fun b o e n hb hx=>?_,fun b o e n hb hx=>?_,I.base.free,fun b o e hx=>?_,I.base.tups,I.base.frzs,I.base.tbls⟩,⟨_,hn',fun j y v' e1 e2 e3=>?_⟩,fun y c e=>?_,I.free,I.freeC,fun p hp=>?_,fun b ob e=>?_,by simpa using I.len⟩
 . exact(hs.2 b (bS (bH (bB e) I.ok.above))).trans (I.base.keep b o e n hb hx)
 . obtain⟨sl, e1⟩ := I.base.slot b o e n hb hx;exact⟨sl,(hs.2 b (bS (bH (bB e) I.ok.above))).trans e1⟩
 . obtain⟨o', e1⟩ := I.base.there b o e hx;exact⟨o',(hs.2 b (bS (bH (bB e) I.ok.above))).trans e1⟩
 . by_cases hj : j = i
   . subst hj;have hiσ : j < σ.length:=by rw [I.len]; exact (aT.mp hi).1
     rw[aK hiσ] at e2;cases e2
   . rw [aB (Ne.symm hj)] at e2;obtain ⟨u',r',q⟩:=hl j y v' e1 e2 e3;refine ⟨u',r',?_⟩;rcases q with ⟨k,e⟩ | ⟨k,c,e,z⟩
     . refine .inl ⟨k, ?_⟩;have:y≠x:=fun e=>hj (FC hN e1 (e▸hi));simp[this,e]
     . exact .inr ⟨k,c,e,z.sameBut hs (cne y c e)⟩
 . obtain⟨w', z⟩ := I.cell y c e;exact⟨w',z.sameBut hs (cne y c e)⟩
 . obtain⟨e, n, ne, nf, d⟩ := I.pin p hp;exact⟨(hs.2 p.1 ne).trans e,n,ne,nf,d⟩
 . refine (I.hok b ob e).stay (fun c w' hc q => (hs.2 c ?_).trans q) (fun _ q => q) fun _ _ q => q;rintro rfl;have hfree:=I.free;rcases hc with rfl | hc
   . rw[hfree] at e;cases e
   . rw[hfree] at hc;cases hc
end
theorem Ok.setNo{K:Frag}{H₀ H:Hp}{O:aA->Prop}{σ : L2.St}{ds:List Sl}{hd:Hold}(o:Ok K H₀ H O σ ds hd)(i:Nat)(v:Option V):Ok K H₀ H O (σ.set i v) (ds.set i .no) hd:=by
 have own':∀{j:Nat},IsOwn (ds.set i .no) j->j≠i/\IsOwn ds j:=fun {j} ⟨l,e⟩=>by
  by_cases hj:j=i
  . subst hj
    by_cases hl:j<ds.length
    . rw[aK hl] at e;cases e
    . rw[bK (by simpa using hl)] at e;cases e
  . rw[aB (Ne.symm hj)] at e;exact⟨hj,l,e⟩
 refine⟨o.same,fun j l a e1 e2=>?_,o.dom,by simpa using o.len,fun j s e=>?_,fun j k a hjk hj hk e1 e2=>?_,o.hold,o.obs.tr (fun _ _ _ r _=>r) (fun j r t e=>by
  obtain⟨e1,hj⟩:=xY (fun r t=>by intro z;cases z) e
  exact⟨e1,by rw[aB (Ne.symm hj)]⟩) (fun j b oj ej=>by
  obtain⟨o1,hj⟩:=xD (fun l=>by intro z;cases z) oj;rw[aB (Ne.symm hj)] at ej
  exact .inl ⟨o1,ej⟩)⟩
 . obtain⟨n1, h1⟩ := own' ⟨l, e1⟩;rw[aB (Ne.symm n1)] at e1 e2;exact o.fresh j l a e1 e2
 . by_cases hj : j = i
   . subst hj
     by_cases hl:j<ds.length
     . rw[aK hl] at e;cases e;exact jA
     . rw[bK (by simpa using hl)] at e;cases e
   . rw[aB (Ne.symm hj)] at e;rw[aB (Ne.symm hj)];exact o.sl j s e
 . obtain⟨n1, h1⟩ := own' hj;obtain⟨n2,h2⟩:=own' hk;rw[aB (Ne.symm n1)] at e1;rw[aB (Ne.symm n2)] at e2;exact o.apart j k a hjk h1 h2 e1 e2
theorem Ok.setX{K:Frag}{H₀ H:Hp}{O:aA->Prop}{σ : L2.St}{ds:List Sl}{hd:Hold}(o:Ok K H₀ H O σ ds hd){i t:Nat}{a C:aA}{ob:Obj}{u:HO}(h1:aI K aH (xName t)=some (some (.ref C)))(h2:H a=some (.frz ob u))(h3:ob.cls=.ref C) :
  Ok K H₀ H O (σ.set i (some (.ref a))) (ds.set i (.exc t)) hd:=by
 have own':∀{j:Nat},IsOwn (ds.set i (.exc t)) j->j≠i/\IsOwn ds j:=fun {j} ⟨l,e⟩=>by
  by_cases hj:j=i
  . subst hj
    by_cases hl:j<ds.length
    . rw[aK hl] at e;cases e
    . rw[bK (by simpa using hl)] at e;cases e
  . rw[aB (Ne.symm hj)] at e;exact⟨hj,l,e⟩
 refine⟨o.same,fun j l a e1 e2=>?_,o.dom,by simpa using o.len,fun j s e=>?_,fun j k a hjk hj hk e1 e2=>?_,o.hold,o.obs.tr (fun _ _ _ r _=>r) (fun j r t e=>by
  obtain⟨e1,hj⟩:=xY (fun r t=>by intro z;cases z) e
  exact⟨e1,by rw[aB (Ne.symm hj)]⟩) (fun j b oj ej=>by
  obtain⟨o1,hj⟩:=xD (fun l=>by intro z;cases z) oj;rw[aB (Ne.symm hj)] at ej
  exact .inl ⟨o1,ej⟩)⟩
 . obtain⟨n1, h1⟩ := own' ⟨l, e1⟩;rw[aB (Ne.symm n1)] at e1 e2;exact o.fresh j l a e1 e2
 . by_cases hj : j = i
   . subst hj
     by_cases hl:j<ds.length
     . rw[aK hl] at e;cases e;rw[aK (by rw[o.len];exact hl)];exact⟨C,ob,u,h1,h2,h3⟩
     . rw[bK (by simpa using hl)] at e;cases e
   . rw[aB (Ne.symm hj)] at e;rw[aB (Ne.symm hj)];exact o.sl j s e
 . obtain⟨n1, h1⟩ := own' hj;obtain⟨n2,h2⟩:=own' hk;rw[aB (Ne.symm n1)] at e1;rw[aB (Ne.symm n2)] at e2;exact o.apart j k a hjk h1 h2 e1 e2
noncomputable def pI(X:Cx)(C:aA)(st:Stmt)(x:List Sl->Bool):Prop:=∀(aC:List (aA×Obj)) (s:aD) (σ : L2.St) (H H₀ : Hp) (O:aA->Prop) (ds:List Sl) (hd:Hold),Inv X aC σ H s->Ok X.K H₀ H O σ ds hd->x ds=true →
 (∀ea a0 B H1 H' s1 s',Inv X aC σ H1 s1->Same H H1->Same H1 H'->Thrown X.prog X.w X.stack H1 s1 (.ref C) ea a0 B H' s'.heap->s'.os=s1.os->iQ s'.gens->X.xe (.ref ea) s')->bF (8:) X.A (exec st X.env) (fun _ _=>False) X.xe s
section
variable{X:Cx}{k j n:Nat}{R:List D->Bool}{C:aA}{x:Str}{p pos:Pos}{e:Expr}{es:List Expr}{g:FA}
end
end FL
namespace FL
open PySem PySem.Spec PyProof.Rows L2
open PySem.W (Looks looks_mroIn mroIn clsIn)
structure XCatch(K:Frag)(C S:aA):Prop where
 kit:mP K (.ref C) (.ref S)=some true
 be:mroIn K S (.type "BaseException")=some true
section
variable{prog:aW}{w:bR}{A:bL}{E:Value->aD->Prop}{h:Heap}{g:Array GenState}{d:Drawn}{t:Nat}{os:OsState}{a C S:aA}{o:Obj}{K:Frag}
theorem WI{M:QV}{Q:Bool->aD->Prop}(X:K.In h)(hx:h.get? a=some o)(hc:o.cls=.ref C)(hS:XCatch K C S)(hq:Q true ⟨h,g,d,t,os⟩) :
  bF M A (excMatches (.ref a) (.ref S)) Q E ⟨h,g,d,t,os⟩:=by
 have L0:=AH (M:=M) hx hc;have L1:=looks_mroIn (M:=M) X hS.be;obtain⟨L3,L4,L2⟩:=PySem.W.kit_cls (M:=M) X hS.kit;have f:=tc_notTuple;unfold excMatches
 repeat (first | with_reducible refine L0.at ?_ | with_reducible refine L1.at ?_ | with_reducible refine L2.at ?_ | with_reducible refine L3.at ?_ | with_reducible refine L4.at ?_ | with_reducible refine wpAny_loadPart_at hx ?_ | wp_step)
 exact hq
end
section
variable{X:Cx}
theorem WO{ea:aA}{H0:Hp}{xe0:Value->aD->Prop}{sts:List Stmt}{h:FS}{aC:List (aA×Obj)}{σ : L2.St}{H H₀ : Hp}{O:aA->Prop}{ds:List Sl}{hd:Hold}{out:Out}{D:Ends}{s:aD}(hs:∀xe,PSsv (gU X ea xe H0) sts h)(I:Inv (gU X ea xe0 H0) aC σ H s)(o:Ok X.K H₀ H O σ ds hd)(e:h ds=some out)(af:After X H₀ hd D out){EXC:Value->aD->Prop}{POST:Flow->aD->Prop}(hp:∀f s',SP (gU X ea EXC H0) aC D f s'->POST f s'):bF (8:) (X.A.mark (some (.ref ea))) (execs sts X.env) POST EXC s:=by
 obtain⟨t,ht,hf⟩:=hs EXC;exact dG (ht aC s σ H D (I.wish EXC) (hf H₀ H O σ ds hd out D o e af)) hp (fun _ _ z=>z)
theorem TK{H₀ : Hp}{hd:Hold}{D:Ends}{i:Nat}{out:Out}(af:After X H₀ hd D (goneO i out)) :
  After X H₀ hd { nx:=fun σ H=>D.nx (σ.set i none) H,rt:=D.rt,bk:=fun σ H=>D.bk (σ.set i none) H,ct:=fun σ H=>D.ct (σ.set i none) H } out:=by
 cases out with
 |nx ds=>exact fun σ H O o=>af _ _ O (o.setNo i none)
 |bk ds=>exact fun σ H O o=>af _ _ O (o.setNo i none)
 |ct ds=>exact fun σ H O o=>af _ _ O (o.setNo i none)
 |rt r=>exact af
theorem JZ{B h:Heap}{l:List Env}{e:aA}{cls a0:Value}(f:Fl2 B l e cls a0 .none h):e∉frs l/\∃oe,h.get? e=some oe/\oe.cls=cls/\(∀v,oe.data≠.cell v)/\∃vs,oe.data=.fields vs/\vs[2]?=some .none:=by
 obtain⟨_,_,f3,oe,vs,T,oT,ts,he,hc,hd,_⟩:=f;refine⟨fun z=>?_,oe,he,hc.1,(fun v q=>by rw[hd] at q;cases q),vs,hd,hc.2.2⟩;obtain⟨_,o,ho,hn⟩:=f3.mem z;rw[he] at ho;cases ho;exact hn vs hd
noncomputable def tryE(X:Cx)(aC:List (aA×Obj))(D:Ends)(hs:List ExceptHandler):Value->aD->Prop:=fun e s₁=>bF (8:) X.A (AF e X.env) (fun _ s₂=>bF (8:) X.A (setFlight e none) (fun _ s₃=>bF (8:) X.A (handleBy e X.env hs) (SP X aC D) X.xe s₃) X.xe s₂) X.xe s₁
theorem WL{st b₀ : Stmt}{suite:List Stmt}{sx en:Str}{hp hpos:Pos}{i t:Nat}{C S:aA}{h:FS}{x:List Sl->Bool}(hN:X.N.Nodup)(hm:X.mg sx=some (.ref S))(hS:XCatch X.K C S)(hC:aI X.K aH (xName t)=some (some (.ref C)))(hx:∀W,pI (X.wish W) C st x)(hs:∀ea oe xe,HdP (gU X ea xe (upd X.H₀ ea (.frz oe (.own ea))))->PSsv (gU X ea xe (upd X.H₀ ea (.frz oe (.own ea)))) (b₀::suite) h)(hi:X.N[i]?=some en)(hlo:X.env.kindOf en=some .local)(hst:X.stack=X.env::X.outer)(hfr:X.env.frame=some X.env.locals)(hex:X.ex=[])(hgS:Gl X sx)(hdb:(sx==("__debug__" : Str))=false){aC:List (aA×Obj)}{s:aD}{σ : L2.St}{H H₀ : Hp}{O:aA->Prop}{ds:List Sl}{hd:Hold}{D:Ends}{out':Out}(I:Inv X aC σ H s)(o:Ok X.K H₀ H O σ ds hd)(hxd:x ds=true)(hh:h (ds.set i (.exc t))=some out')(af:After X H₀ hd D (goneO i out')) :
  bF (8:) X.A (exec st X.env) (fun _ _=>False) (tryE X aC D [.ExceptHandler (some (.Name sx hp)) (some en) (b₀::suite) hpos]) s:=by
 have hLoc:Loc X.env.scope en:=.inl hlo
 have hsub:∀b,b∈X.env.locals::X.fs->b∈frs X.stack:=fun b hb=>by
  rw[hst];unfold frs;rw[gH,hfr];exact hb
 refine hx (tryE X aC D [.ExceptHandler (some (.Name sx hp)) (some en) (b₀::suite) hpos]) aC s σ H H₀ O ds hd (I.wish _) o hxd ?_;intro ea a0 B H1 H' s1 s' I1 m1 m2 T os bare;have I1':Inv X aC σ H1 s1:=I1.unwish;have T:Thrown X.prog X.w X.stack H1 s1 (.ref C) ea a0 B H' s'.heap:=T;show bF _ _ (AF _ _) _ _ _;have hA:X.A.frames=some (X.env::X.outer):=by rw[<- hst];exact I.ok.frames
 refine note2 hA hfr (by rw[<- hst];exact T.fly) fun h₄ held₄ sm₄=>?_;refine set2 (s:={ s' with heap:=h₄ }) held₄ fun h₅ fly₅ sm₅=>?_;have T5:=T.on (h':=h₅) (by rw[hst];exact fly₅) (sm₄.trans sm₅);have I5:Inv X aC σ H' { s' with heap:=h₅ }:=I1'.call' (ch:=[]) os T5.un T5.hokh bare (fun b z=>by cases z);obtain⟨ap5,ob,hob,hobc,hobd,_⟩:=JZ T5.fly;refine wpAny_handleBy_cons (codeAny_handlers_test ?_) (by intro q;cases q);refine xJ (X:=gU X ea X.xe) (YM I5) hgS hm ?_ hdb;refine WI (K:=X.K) I5.kIn hob hobc hS ?_;refine codeAny_handlers_suite_as ?_;refine set2 (s:={ s' with heap:=h₅ }) fly₅ fun h₆ fly₆ sm₆=>?_;have T6:=T5.on (h':=h₆) (by rw[hst];exact fly₆) sm₆;have I6:Inv X aC σ H' { s' with heap:=h₆ }:=I1'.call' (ch:=[]) os T6.un T6.hokh bare (fun b z=>by cases z);obtain⟨ap6,oe,hoe,hoec,hoed,vs,hvs,hv2⟩:=JZ T6.fly
 have nb:∀b o,s1.heap.get? b=some o->b≠ea:=fun b o e z=>by
  subst z;obtain⟨o',q⟩:=T6.there b o e ap6;rw[T6.fly.2.1] at q;cases q
 have h0:X.s₀.heap.get? ea=none:=by
  cases q:X.s₀.heap.get? ea with
  |none=>rfl
  | some o' =>
    obtain⟨o'',q'⟩:=I1'.base.there ea o' q (by rw[hex];intro z;cases z);exact(nb ea o'' q' rfl).elim
 have It:=YL I6 T6.no hoe (fun z=>ap6 (hsub _ (by rw[z];exact aV))) h0 hoed fun p hpp=>nb p.1 p.2 (I1'.pin p hpp).1;have sm:Same H' (upd H' ea (.frz oe (.own ea))):=fun b u e=>by rw[upd_ne (fun z=>by rw[z,T6.no] at e;cases e)];exact e
 have Is:Inv (gU X ea X.xe (upd X.H₀ ea (.frz oe (.own ea)))) aC σ (upd H' ea (.frz oe (.own ea))) { s' with heap:=h₆ }:=SH It bM h0 (fun q e=>by have:=I6.base.tbls _ _ e;rw[T6.no] at this;cases this) (fun z=>ap6 (hsub _ (aP _ z)));refine EG (X:=gU X ea X.xe (upd X.H₀ ea (.frz oe (.own ea)))) (i:=i) (v:=.ref ea) Is hN hi hLoc rfl (fun s7 I7=>?_) (.inr hlo);refine WO (fun xe=>hs ea oe xe ⟨ea,oe,_,vs,rfl,bM,hvs,hv2⟩) I7 ((o.mono ((m1.trans m2).trans sm)).setX hC bM hoec) hh (TK af) fun f s8 h8=>?_;have hcls:(X.env.scope.kind==.class||(X.env.scope.kind==.module&&X.env.locals != X.env.globals))=false:=by rw[I.ok.kind];rfl
 have gone:∀xe σ' H8,Inv (gU X ea xe (upd X.H₀ ea (.frz oe (.own ea)))) aC σ' H8 s8->∀Q:Unit->aD->Prop,(∀s9,Inv X aC (σ'.set i none) H8 s9->Q () s9)->bF (8:) X.A (do bindName X.env en .none;unbindBehindTheSuite X.env en hpos) Q X.xe s8:=fun xe σ' H8 I8 Q k=>by
  have I8':=MF I6 T6.no h0 I8;obtain⟨m,hn,hl⟩:=id I8'.loc;exact wpAny_nameGoes_keeps hlo hn hcls fun h' v hn' hs'=>k _ (aEg I8' hN hi hn hl hn' hs')
 cases f with
 |next=>obtain⟨σ',H8,I8,q⟩:=h8;exact gone _ σ' H8 I8 _ fun s9 I9=>⟨_,H8,I9,q⟩
 |brk=>obtain⟨σ',H8,I8,q⟩:=h8;exact gone _ σ' H8 I8 _ fun s9 I9=>⟨_,H8,I9,q⟩
 |cont=>obtain⟨σ',H8,I8,q⟩:=h8;exact gone _ σ' H8 I8 _ fun s9 I9=>⟨_,H8,I9,q⟩
 |ret u=>obtain⟨v,σ',H8,I8,r,q⟩:=h8;exact gone _ σ' H8 I8 _ fun s9 I9=>⟨v,_,H8,I9,r,q⟩
end
end FL
namespace FL
open PySem PySem.Spec PyProof.Rows L2
noncomputable def IsxOk(K:Frag)(cv:Value)(tb:List (Nat×Bool)):Prop:=∀t b,tb.lookup t=some b->∀C,aI K aH (xName t)=some (some (.ref C))->XIn K C/\cZ K (.ref C) cv=some b
section
variable{X:Cx}
theorem QJ:CallR X (.builtin "isinstance") (fun xs H Q=>∃a o u C c cv b,xs=[.ref a,c]/\clsV c cv/\H a=some (.frz o u)/\o.cls=.ref C/\XIn X.K C/\cZ X.K (.ref C) cv=some b/\Q (.bl b) H):=by
 intro aC s σ H xs us Q I r h;obtain⟨a,o,v,C,c,cv,b,rfl,hc,ha,ho,hx,e,q⟩:=h;obtain⟨u,u2,rfl,ru,ru2⟩:=vals2 r
 have e2:u2=cv:=by
  cases c with
  |ty n=>cases(show cv=.type n from hc);cases(show u2=.type n from ru2);rfl
  |ref a=>cases(show cv=.ref a from hc);cases(show u2=.ref a from ru2);rfl
  |_=>exact(show False from hc).elim
 subst e2;cases(show u=Value.ref a from ru);have hg:s.heap.get? a=some o:=(show s.heap.get? a=some o/\ObjOk X.prog X.w H s.heap a v from I.hok a _ ha).1;exact cO (aEc hx) I.kIn ⟨o,hg,ho⟩ e (fun z=>nomatch z) fun tk=>⟨.bl b,H,I.tok tk,rfl,q⟩
section
variable{en:Str}{i:Nat}{p pe pT pos:Pos}{tb:List (Nat×Bool)}
theorem PL{σ : L2.St}{H₀ H:Hp}{O:aA->Prop}{ds:List Sl}{hd:Hold}{d:D}(o:Ok X.K H₀ H O σ ds hd)(e:isxG i tb ds=some d):∃t b,ds[i]?=some (.exc t)/\tb.lookup t=some b/\d=.bl b:=by
 unfold isxG at e;cases hs:ds[i]? with
 |none=>rw[hs] at e;cases e
 | some s =>
   rw[hs] at e;cases s with
   | exc t =>
     simp only at e;cases hl:tb.lookup t with
     |none=>rw[hl] at e;cases e
     |some b=>rw[hl] at e;cases e;exact⟨t,b,rfl,hl,rfl⟩
   |no=>cases e
   |v d=>cases e
   |own l=>cases e
   |fr l=>cases e
   |ob _ _=>cases e
theorem xB{x:Str}(hm:X.mg "isinstance" = none)(hI:∃D,X.mg x=some (.ref D)/\IsxOk X.K (.ref D) tb)(hN:X.N[i]?=some en:=by rfl)(hv:Vis X.env.scope en:=by exact Or.inl rfl)(hde:(en==("__debug__" : Str))=false:=by decide)(hcd:(en==("__classdict__" : Str))=false:=by decide)(hg:Gl X "isinstance":=by rfl)(hgT:Gl X x:=by rfl)(h1:aF [.Name en pe,.Name x pT] X.env=(false,bT (.Name en pe) X.env)::aF [.Name x pT] X.env:=by rfl)(h2:aF [.Name x pT] X.env=(false,bT (.Name x pT) X.env)::aF [] X.env:=by rfl)(h3:(cP pos (aF [.Name x pT] X.env)).any (·.1)=false:=by rfl)(hd:(6:)=false:=by decide):PV X (.Call (.Name "isinstance" p) [.Name en pe,.Name x pT] [] pos) (isxG i tb):=by
 obtain⟨D,hT,hI⟩:=hI;refine⟨_,wL QJ hg hm (by decide +kernel) (qY (yL hN hv hde hcd) (qY (UP (v:=.ref D) hgT hT rfl hd) jW h2) h1) (by decide) (by decide) h1 h3,(5:)⟩;obtain⟨t,b,hs,hl,rfl⟩:=PL o e;obtain⟨a,C,ob,u,q1,q2,q3,q4⟩:=o.readX hs;obtain⟨x1,x2⟩:=hI t b hl C q2;exact⟨.ref a,q1,a,ob,u,C,.ref D,.ref D,b,rfl,rfl,q3,q4,x1,x2,q _ H (Same.refl _) (.bl b)⟩
theorem pv_isxB{x:Str}{T:String}(hm:X.mg "isinstance" = none)(hx:X.mg x=none)(hI:IsxOk X.K (.type T) tb)(hb:gX x=some (.type T):=by decide +kernel)(hN:X.N[i]?=some en:=by rfl)(hv:Vis X.env.scope en:=by exact Or.inl rfl)(hde:(en==("__debug__" : Str))=false:=by decide)(hcd:(en==("__classdict__" : Str))=false:=by decide)(hg:Gl X "isinstance":=by rfl)(hgT:Gl X x:=by rfl)(h1:aF [.Name en pe,.Name x pT] X.env=(false,bT (.Name en pe) X.env)::aF [.Name x pT] X.env:=by rfl)(h2:aF [.Name x pT] X.env=(false,bT (.Name x pT) X.env)::aF [] X.env:=by rfl)(h3:(cP pos (aF [.Name x pT] X.env)).any (·.1)=false:=by rfl)(hn:x≠"__name__":=by decide)(hd:(6:)=false:=by decide):PV X (.Call (.Name "isinstance" p) [.Name en pe,.Name x pT] [] pos) (isxG i tb):=by
 refine⟨_,wL QJ hg hm (by decide +kernel) (qY (yL hN hv hde hcd) (qY (UR (v:=.ty T) hgT hx hb rfl hn hd) jW h2) h1) (by decide) (by decide) h1 h3,(5:)⟩;obtain⟨t,b,hs,hl,rfl⟩:=PL o e;obtain⟨a,C,ob,u,q1,q2,q3,q4⟩:=o.readX hs;obtain⟨x1,x2⟩:=hI t b hl C q2;exact⟨.ref a,q1,a,ob,u,C,.ty T,.type T,b,rfl,rfl,q3,q4,x1,x2,q _ H (Same.refl _) (.bl b)⟩
end
end
structure XR(K:Frag)(mg:Str->Option Value)(t:Nat)(C:aA):Prop where
 nm:aI K aH (xName t)=some (some (.ref C))
 gl:mg (xName t)=some (.ref C)
 cls:XCls K C
structure XT(K:Frag)(mg:Str->Option Value)(t:Nat)(x:Str)(C S:aA):Prop where
 nm:aI K aH (xName t)=some (some (.ref C))
 gl:mg x=some (.ref S)
 cat:XCatch K C S
section
variable{X:Cx}{m:Str}{k j:Nat}{cs:List Nat}{F:Nat->List D->Option Ret}{o:Expr}{apos pos:Pos}{fo:FE}
theorem aBw{pl:Sem Bool}(M:MCal X.prog X.w X.K X.mg X.base m k 0 cs F)(hr:Room j X.A)(ho:PV X o fo)(hj:k<=j:=by decide)(ht:bT (.Call (.Attribute o m apos) [] [] pos) X.env=(do
    let ov <- bT o X.env
    fO apos.atName
    let (f,first) <- eC [ov] (fH ov m pl)
    hW pos f first (cP pos (aF [] X.env)) (fN pos (dJ [] X.env))):=by rfl):PV X (.Call (.Attribute o m apos) [] [] pos) (methV 0 cs F fo zM):=by
 obtain⟨ta,pa,hfo⟩:=ho;refine⟨_,AQ (pl:=pl) (k:=k) pa (hr.mono hj) ht,(5:)⟩;unfold methV at e;obtain⟨x,h1,e⟩:=bnd e;simp only[zM,aQ] at e;obtain⟨r,h3,e⟩:=bnd e;refine FF (g:=zM) M hfo (fun _ H _ _ _ _ _ _ _ e q=>by cases e;exact q _ H (Same.refl _) .nil) o h1 rfl h3 fun v H1 H' s1 s' ro=>q v H' (s1.trans s') ?_;exact LF ro e fun a ha=>(o.mono s1).old ha
end
section
variable{X:Cx}{C:aA}{x:Str}{p pos:Pos}
end
theorem vB{K:Frag}{C C':aA}(u:pE K C=true)(y:mO K (.ref C)=some (.type "type"))(s:fA K (.ref C') (.ref C)=some true):mP K (.ref C') (.ref C)=some true:=by
 unfold mP;simp only;rw[show(sE K C).isSome=true from u,y,if_pos (by simp),s]
theorem FK{K:Frag}{C':aA}{T:String}(u:WD T=true)(s:fA K (.ref C') (.type T)=some true):cZ K (.ref C') (.type T)=some true:=by
 unfold cZ
 split
 . rfl
 . unfold mP;simp only;rw[u,if_pos rfl,s]
section
variable{K:Frag}{H:Hp}{O:aA->Prop}{a:aA}{xs ys:List V}
end
section
variable{X:Cx}
end
section
variable(X:Cx)(E:XK)(C:aA)
noncomputable def PSy(st:Stmt)(x:List Sl->Bool):Prop:=∃t,PS X st t/\∀H₀ H O σ ds hd D,Ok X.K H₀ H O σ ds hd->x ds=true->(∀σ' H',Same H₀ H'->XeOk X C σ' H')->(∀H',Same H₀ H'->E (.ref C) none H')->t D σ H
noncomputable def PSsy(st:List Stmt)(x:List Sl->Bool):Prop:=∃t,PSs X st t/\∀H₀ H O σ ds hd D,Ok X.K H₀ H O σ ds hd->x ds=true->(∀σ' H',Same H₀ H'->XeOk X C σ' H')->(∀H',Same H₀ H'->E (.ref C) none H')->t D σ H
noncomputable def MY(st:List Stmt):Prop:=∃t,PSs X st t
end
section
variable{X:Cx}{E:XK}{C:aA}
theorem PSx.y{st:Stmt}{x:List Sl->Bool}(h:PSx X C st x):PSy X E C st x:=by
 obtain⟨t,ht,hf⟩:=h;exact⟨t,ht,fun H₀ H O σ ds hd D o e q _=>hf H₀ H O σ ds hd D o e q⟩
theorem PSsv.any{st:List Stmt}{g:FS}(h:PSsv X st g):MY X st:=let ⟨t,ht,_⟩:=h;⟨t,ht⟩
theorem xM{st:List Stmt}(h:MY X st):PSsy X E C st kL:=by
 obtain⟨t,ht⟩:=h;exact⟨t,ht,fun _ _ _ _ _ _ _ _ e _ _=>by cases e⟩
theorem yA{st:Stmt}{rest:List Stmt}{x:List Sl->Bool}(h1:PSy X E C st x)(h2:MY X rest):PSsy X E C (st::rest) x:=by
 obtain⟨t,ht,hf⟩:=h1;obtain⟨u,hu⟩:=h2;exact⟨_,wT ht hu,fun H₀ H O σ ds hd D o e q p=>hf H₀ H O σ ds hd _ o e q p⟩
theorem LM{c:Expr}{a b:List Stmt}{pos:Pos}{fc:FT}{xa xb:List Sl->Bool}(hc:PTv X c fc)(ha:PSsy X E C a xa)(hb:PSsy X E C b xb):PSy X E C (.If c a b pos) (ifX fc xa xb):=by
 obtain⟨tc,hc,hcf⟩:=hc;obtain⟨ta,ha,haf⟩:=ha;obtain⟨tb,hb,hbf⟩:=hb;refine⟨_,UO hc ha hb,fun H₀ H O σ ds hd D o e q p=>?_⟩;unfold ifX at e;cases hh:fc ds with
 |none=>rw[hh] at e;cases e
 | some k =>
   rw[hh] at e;refine hcf H₀ H O σ ds hd k _ o hh fun H' s=>?_;cases k with
   |true=>exact haf H₀ H' O σ ds hd D (o.mono s) e q p
   |false=>exact hbf H₀ H' O σ ds hd D (o.mono s) e q p
section
variable{k j n:Nat}{R:List D->Bool}{x:Str}{p pos:Pos}{e:Expr}{es:List Expr}{g:FA}
end
end
theorem DS{P:aW}{w:bR}{K:Frag}{mg:Str->Option Value}{base:Heap}{x qual:Str}{st:Stmt}{f C:aA}{fd:aJ}{N ps:List Str}{k:Nat}{R:List D->Bool}(Fn:Fun K x qual st f fd)(S:FnScope N ps (zE st)){g:List Sl->Bool}(hbody:∀(cdv:Value) (A:bL) (outer:List Env) (s:aD) (H:Hp) (E:XK),Room k (A.deeper (fY qual (zE st) s.heap.objs.size f cdv))->PSsy (cxOf (CXM P w) P w K mg base N qual (zE st) f cdv A outer s H E) E C (qL st) g)(hg:∀ds,ds.length=ps.length->R ds=true->g (args N.length ds)=true):FnOk P w K mg base (CXM P w) (k+1) f fd ps (spX K ps.length R C):=by
 obtain⟨oc,od,kV,doc,pm,an,cdv,ct,osl,rfl,lk,hcd⟩:=Fn.ex;refine aEo lk hcd S (fun vs H Q E h=>h.1) fun A outer s H vs Q E hr h=>?_;obtain⟨hl,ds,rv,e,q⟩:=h;obtain⟨t,ht,hf⟩:=hbody cdv A outer s H E hr;exact⟨t,ht,hf H H jB _ _ [] _ (OO (N:=N) rv) (hg ds (by rw[<- rv.length];exact hl) e) (fun σ' H' s'=>aAs (q H' s')) q⟩
section
variable{X:Cx}{E:XK}{C:aA}{t k j n:Nat}{R:List D->Bool}{x:Str}{p pos:Pos}{e:Expr}{es:List Expr}{g:FA}
end
section
variable{X:Cx}
end
structure RoomH(k:Nat)(A:bL):Prop where
 dp:A.depth+3*k+5<recursionLimit
 un:A.units+16*k+200<cLine
theorem RoomH.of{k:Nat}{A:bL}{v:Option Value}(r:Room k A):RoomH k (A.mark v):=⟨r.dp,r.un⟩
theorem RoomH.mono{j k:Nat}{A:bL}(r:RoomH k A)(h:j<=k):RoomH j A:=⟨by have:=r.dp;omega,by have:=r.un;omega⟩
theorem RoomH.depth{k:Nat}{A:bL}(r:RoomH k A):A.depth<recursionLimit:=by have:=r.dp;omega
abbrev ED(X:Cx):Cx:={ X with calm:=false,xe:=fun _ _=>False }
structure FnOkH(P:aW)(w:bR)(K:Frag)(mg:Str->Option Value)(base:Heap)(k:Nat)(f:aA)(fd:aJ)(ps:List Str)(sp:Sp):Prop where
 len:∀vs H Q E,sp vs H Q E->vs.length=ps.length
 run:∀(A:bL) (outer:List Env) (s:aD) (H:Hp) (args:Args) (us:List Value) (vs:List V) (Q:VK) (E:XK),RoomH k A->HdA A H->Env0 P w K mg base A outer s H->NB s fd args (ps.zip us)->Vals vs us->sp vs H Q E →
  nE (bE P w) A (.call (.ref f) args) (CR CX0 outer P w H s Q E) s
theorem aEh{X:Cx}{A':bL}{xe:Value->aD->Prop}{aC:List (aA×Obj)}{σ : L2.St}{H:Hp}{s:aD}(I:Inv X aC σ H s)(hA:A'.frames=X.A.frames):Inv { X with A:=A',calm:=false,xe:=xe } aC σ H s:=by
 have ok:=I.ok;exact⟨⟨ok.mod,ok.kind,ok.glob,ok.blt,ok.above,ok.inj,ok.has,ok.cab,(fun z=>by cases z),hA.trans ok.frames,ok.stk,ok.exf,ok.bs,ok.bsz,ok.noex,ok.exfs,ok.funs,ok.frf⟩,I.os,I.bare,I.base,I.loc,I.cell,I.free,I.freeC,I.pin,I.hok,I.len⟩
theorem fnH_of{P:aW}{w:bR}{K:Frag}{mg:Str->Option Value}{base:Heap}{k:Nat}{x qual:Str}{st:Stmt}{f:aA}{fd:aJ}{N ps:List Str}{sp:Sp}(Fn:Fun K x qual st f fd)(S:FnScope N ps (zE st))(len:∀vs H Q E,sp vs H Q E->vs.length=ps.length)(hbody:∀(cdv:Value) (A:bL) (outer:List Env) (s:aD) (H:Hp) (vs:List V) (Q:VK) (E:XK),HdA A H->sp vs H Q E →
    ∃t,PSs (ED (7:)) (qL st) t/\t { nx:=fun _ H'=>Q .non H',rt:=Q } (L2.start N vs) H) :
  FnOkH P w K mg base (k+1) f fd ps sp:=by
 obtain⟨oc,od,kV,doc,pm,an,cdv,ct,osl,rfl,lk,hcd⟩:=Fn.ex;refine⟨len,fun A outer s H args us vs Q E hr ha e0 hb r hsp=>?_⟩;have hl:=len _ _ _ _ hsp;have KX:K.In s.heap:=e0.mod.kin.keeps fun b o e=>(e0.bs b o e).1;have lim:s.heap.NoLimit:=e0.mod.nolimit.keeps fun b o e=>(e0.bs b o e).1
 have hkind:∀y∈ps.zip us,(zE st).names.lookup y.1=some .local\/((zE st).names.lookup y.1=some .cell/\((VZ (s.heap.objs.size+1) (zE st).names []).lookup y.1).isSome=true):=fun⟨n,v⟩ hy=>by
  rcases S.par n (pY hy).1 with q | q
  . exact .inl q
  . exact .inr ⟨q,oW _ _ _ (.inl q)⟩
 refine codeAny_call_function hr.depth (KX _ _ lk) rfl S.co S.gen rfl (QU KX hcd) (hb _ _ _ _ ?_);refine wpAny_newFunctionEnv_cells S.kind hkind fun env he s1 x=>?_;subst he;refine⟨lim.keeps x.toInCall.keep,codeAny_func ?_⟩;obtain⟨t,ht,hq⟩:=hbody cdv A outer s H vs Q E ha hsp;have e1:Env0 P w K mg base { A with handled:=none } outer s H:=⟨e0.frames,e0.mod,e0.bs,e0.bsz,e0.funs,e0.frf,e0.hok,e0.bare⟩
 have I0:Inv (cxOf CX0 P w K mg base N qual (zE st) f cdv { A with handled:=none } outer s H E) [] (L2.start N vs) H s1:=JV S rfl e1 hl r x;have I:Inv (ED (7:)) [] (L2.start N vs) H s1:=aEh (X:=cxOf CX0 P w K mg base N qual (zE st) f cdv { A with handled:=none } outer s H E) (A':=A.deeper (fY qual (zE st) s.heap.objs.size f cdv)) (xe:=fun _ _=>False) I0 rfl;refine dG (ht [] s1 (L2.start N vs) H _ I hq) (fun fl s' hs=>?_) fun e s' hs=>hs.elim
 have fin:∀{σ':L2.St} {H':Hp} {v:V} {u:Value},Inv (ED (7:)) [] σ' H' s'->RelV v u->Q v H'->CE outer P w H s Q u s' :=
  fun {σ' H' v u} J rv q=>⟨v,H',J.os,J.bare,J.base,J.hok,rv,q⟩
 cases fl with
 | ret u =>
   obtain⟨v,σ',H',J,rv,q⟩:=hs;exact fin J rv q
 | next =>
   obtain⟨σ',H',J,q⟩:=hs;exact fin (v:=V.non) (u:=Value.none) J rfl q
 | brk =>
   obtain⟨_,_,_,q⟩:=hs;exact False.elim q
 | cont =>
   obtain⟨_,_,_,q⟩:=hs;exact False.elim q
noncomputable def spH(K:Frag)(F:Nat->Option Ret):Sp:=fun vs H Q _=>∃a t C ob u r,vs=[.ref a]/\aI K aH (xName t)=some (some (.ref C))/\H a=some (.frz ob u)/\ob.cls=.ref C/\F t=some r/\∀v H',Same H H'->RetOk K H H' v r->Q v H'
theorem vA{n t i:Nat}{s:Sl}(e:(argsE n t)[i]?=some s):(i=0/\s=.exc t)\/s=.no:=by
 cases i with
 |zero=>exact .inl ⟨rfl,by simpa[argsE] using e.symm⟩
 | succ i =>
   refine .inr ?_;simp only[argsE,dL,cV] at e
   split at e
   . cases e;rfl
   . cases e
theorem XJ{K:Frag}{H:Hp}{N:List Str}{a C:aA}{t:Nat}{ob:Obj}{u:HO}(h1:aI K aH (xName t)=some (some (.ref C)))(h2:H a=some (.frz ob u))(h3:ob.cls=.ref C) :
  Ok K H H jB (L2.start N [.ref a]) (argsE N.length t) []:=by
 refine⟨Same.refl _,(fun i l a hi _=>by rcases vA hi with⟨_,h⟩ | h<;>cases h),fun _ z=>z.elim,by simp[L2.start,argsE],fun i s e=>?_,fun i j a _ ⟨l,hi⟩ _ _ _=>?_,(fun p hp=>by cases hp),.no fun i r t e=>by rcases vA e with⟨_,h⟩ | h<;>cases h⟩
 . rcases vA e with ⟨rfl, rfl⟩ | rfl
   . exact⟨C,ob,u,h1,h2,h3⟩
   . exact jA
 . rcases vA hi with⟨_,h⟩ | h<;>cases h
theorem fun_okH{P:aW}{w:bR}{K:Frag}{mg:Str->Option Value}{base:Heap}{x qual y:Str}{st:Stmt}{f:aA}{fd:aJ}{N:List Str}{k:Nat}{g:FS}(Fn:Fun K x qual st f fd)(S:FnScope N [y] (zE st))(hbody:∀(cdv:Value) (A:bL) (outer:List Env) (s:aD) (H:Hp) (E:XK),HdP (ED (7:))->PSsv (ED (7:)) (qL st) g) :
  FnOkH P w K mg base (k+1) f fd [y] (spH K (runH g N.length)):=by
 refine fnH_of Fn S (fun vs H Q E h=>?_) fun cdv A outer s H vs Q E ha h=>?_
 . obtain⟨a,t,C,ob,u,r,rfl,_⟩:=h;rfl
 . obtain ⟨a, t, C, ob, u, r, rfl, h1, h2, h3, e, q⟩ := h;obtain ⟨tt,ht,hf⟩:=hbody cdv A outer s H E ha;refine ⟨tt,ht,?_⟩;unfold runH at e;cases hg:g (argsE N.length t) with
   |none=>rw[hg] at e;cases e
   | some o1 =>
     rw[hg] at e;cases o1 with
     | rt r' =>
       cases e;exact hf H H jB _ _ [] _ _ (XJ (N:=N) h1 h2 h3) hg (fun v H' s r _=>q v H' s r)
     |nx ds=>cases e
     |bk ds=>cases e
     |ct ds=>cases e
structure CalH(P:aW)(w:bR)(K:Frag)(mg:Str->Option Value)(base:Heap)(x:Str)(k:Nat)(F:Nat->Option Ret):Prop where
 ex:∃(f:aA) (fd:aJ) (ps:List Str),FnOkH P w K mg base k f fd ps (spH K F)/\Binds K fd ps []/\bG K (.ref f)=true/\mg x=some (.ref f)
section
variable{X:Cx}{k j i:Nat}{F:Nat->Option Ret}{x en:Str}{p pe pos:Pos}
theorem aCz{f:aA}{fd:aJ}{ps:List Str}{sp:Sp}{e:Expr}{es:List Expr}{t:TA}(Fn:FnOkH X.prog X.w X.K X.mg X.base k f fd ps sp)(hr:RoomH k X.A)(hH:HdP X)(hg:Gl X x)(hm:X.mg x=some (.ref f))(hk:bG X.K (.ref f)=true)(hb:Binds X.K fd ps [])(ha:PA X (e::es) t)(hdb:(6:)=false)(he:aF (e::es) X.env=(false,bT e X.env)::aF es X.env)(hpl:(cP pos (aF es X.env)).any (·.1)=false) :
  PE X (.Call (.Name x p) (e::es) [] pos) (fun σ H Q=>t σ H fun vs H1=>sp vs H1 Q E0):=by
 intro aC s σ H Q I h;refine gW (xJ I hg hm ?_ hdb);refine gL (h₀:=X.base) I.ok.mod.kin hk (thn (ha pos aC s σ H _ I h) fun us s1 ⟨vs,H1,I1,r,q⟩=>⟨I1.kIn,?_⟩) he hpl;have hl:us.length=ps.length:=by rw[<- r.length];exact Fn.len _ _ _ _ q
 have bd:=hb s1 us I1.kIn (by rw[eI];exact hl);rw[eI] at bd;refine QQ (oM (Fn.run X.A X.stack s1 H1 ⟨us,[]⟩ us vs Q E0 hr (SK I1 hH) I1.env0 bd r q) fun r s' hq=>?_);cases r with
 |error e=>exact hq.elim
 | ok fl =>
   cases fl with
   |ret u=>exact I1.after hq
   |next=>exact False.elim hq
   |brk=>exact False.elim hq
   |cont=>exact False.elim hq
theorem WT(CH:CalH X.prog X.w X.K X.mg X.base x k F)(hr:RoomH j X.A)(hH:HdP X)(hj:k<=j:=by decide)(hN:X.N[i]?=some en:=by rfl)(hv:Vis X.env.scope en:=by exact Or.inl rfl)(hde:(en==("__debug__" : Str))=false:=by decide)(hcd:(en==("__classdict__" : Str))=false:=by decide)(hg:Gl X x:=by rfl)(hdb:(6:)=false:=by decide)(he:aF [.Name en pe] X.env=(false,bT (.Name en pe) X.env)::aF [] X.env:=by rfl) :
  PVf X (.Call (.Name x p) [.Name en pe] [] pos) (tM i F):=by
 obtain⟨f,fd,ps,Fn,hb,hk,hm⟩:=CH.ex;refine⟨_,aCz Fn (hr.mono hj) hH hg hm hk hb (qY (yL hN hv hde hcd) jW he) hdb he rfl,(5:)⟩;unfold tM at e;cases hs:ds[i]? with
 |none=>rw[hs] at e;cases e
 | some sl =>
   rw[hs] at e;cases sl with
   | exc t =>
     simp only at e;obtain⟨r,h2,e⟩:=bnd e;obtain⟨a,C,ob,u,q1,q2,q3,q4⟩:=o.readX hs;refine⟨.ref a,q1,a,t,C,ob,u,r,rfl,q2,q3,q4,h2,fun v H' s' ro=>?_⟩;obtain⟨a,xs,rfl,h3,h4,h5⟩:=LG ro e fun a ha=>o.old ha;exact q a xs H' s' h3 h4 h5
   |no=>cases e
   |v d=>cases e
   |own l=>cases e
   |fr l=>cases e
   |ob _ _=>cases e
end
theorem jX{K:Frag}{cv:Value}: IsxOk K cv []:=fun t b e=>by cases e
theorem aEf{K:Frag}{cv:Value}{t:Nat}{b:Bool}{C:aA}{tb:List (Nat×Bool)}(n:aI K aH (xName t)=some (some (.ref C)))(x:XIn K C)(k:cZ K (.ref C) cv=some b)(r:IsxOk K cv tb):IsxOk K cv ((t,b)::tb):=fun t' b' e C' n'=>by
 by_cases h:t'=t
 . subst h;simp[List.lookup] at e;subst e;rw[n] at n';cases n';exact⟨x,k⟩
 . have hf : (t'==t)=false := beq_eq_false_iff_ne.mpr h;simp only[List.lookup,hf] at e;exact r t' b' e C' n'
end FL
namespace L2
open PySem PySem.Spec PyProof.Rows
section
variable{X:Cx}
end
end L2
namespace FL
open PySem PySem.Spec PyProof.Rows L2
section
variable{X:Cx}
end
section
variable{X:Cx}
end
end FL
namespace L2
open PySem PySem.Spec PyProof.Rows
section
variable{X:Cx}
end
end L2
namespace FL
open PySem PySem.Spec PyProof.Rows L2
section
variable{X:Cx}
end
end FL
namespace L2
open PySem PySem.Spec PyProof.Rows
section
variable{prog:aW}{w:bR}{A:bL}{E:Value->aD->Prop}{s:aD}
end
section
variable{X:Cx}
end
end L2
namespace FL
open PySem PySem.Spec PyProof.Rows L2
section
variable{X:Cx}
end
open PySem.W (tabIn CodeHd tabObj kla_eval kla_makeFunction kla_makeFunctionHit kla_obj kla_fn kla_callFunE kla_codeExpr FnAt callWith_F envX)
section
variable{X:Cx}
end
section
variable{X:Cx}{aC:List (aA×Obj)}{σ : L2.St}{H H':Hp}{s s':aD}{cs:List aA}
end
section
variable{K:Frag}{H:Hp}{O:aA->Prop}{cs:List aA}
end
section
variable{X:Cx}
end
end FL
namespace FL
open PySem PySem.Spec PyProof.Rows L2
open PySem.W (tabIn CodeHd tabObj kla_callFunE kla_codeExpr FnAt callWith_F envX)
section
variable{X:Cx}
section
variable{k j' n m j:Nat}{F:List D->Option Ret}{x y:Str}{p pos:Pos}{e:Expr}{es:List Expr}{g:FA}{is:List Nat}{t:LamT}{st:Stmt}{f c P:aA}
end
end
theorem ClosOk.get{H:Hp}{O:aA->Prop}:∀{cl:List (Str×aA)} {xs:List V},ClosOk H O cl xs->∀{i:Nat} {v:V},xs[i]?=some v->∃p o u w,cl[i]?=some p/\H p.2=some (.frz o u)/\o.data=.cell (some w)/\RelV v w
 |_,_,.nil,_,_,h=>by cases h
 |_,_,.cons no h d r t,0,v,hv=>by cases hv;exact⟨_,_,_,_,rfl,h,d,r⟩
 |_,_,.cons no h d r t,i+1,v,hv=>t.get hv
theorem ClosOk.length{H:Hp}{O:aA->Prop}:∀{cl:List (Str×aA)} {xs:List V},ClosOk H O cl xs->cl.length=xs.length
 |_,_,.nil=>rfl
 |_,_,.cons no h d r t=>by simp[t.length]
section
variable{X:Cx}{k j i:Nat}{Φ : Fun2}{x:Str}{p pos:Pos}{e:Expr}{es:List Expr}{g:FA}
end
end FL
namespace FL
open PySem PySem.Spec PyProof.Rows L2
section
variable{X:Cx}
end
open PySem.W (tabIn CodeHd tabObj makeFunction_K makeFunction_hit fnMade fnX nestDef_K kla_callFunE envX)
section
variable{X:Cx}{aC:List (aA×Obj)}{σ : L2.St}{H:Hp}{s:aD}
end
section
variable{X:Cx}
end
section
variable{X:Cx}{aC:List (aA×Obj)}{σ : L2.St}{H:Hp}{s:aD}{cs:List aA}
end
section
variable{X:Cx}
end
end FL
namespace FL
open PySem PySem.Spec PyProof.Rows L2
section
variable{X:Cx}{tg:Expr}
end
section
variable{X:Cx}
end
open PySem.W (tabIn CodeHd)
section
variable{X:Cx}
theorem aCj{st b₀ : Stmt}{suite:List Stmt}{sx en:Str}{hp hpos pos:Pos}{i t u v:Nat}{C C' C2 S:aA}{g h:FS}{x y z:List Sl->Bool}(hN:X.N.Nodup)(hm:X.mg sx=some (.ref S))(hS:XCatch X.K C S)(hS':XCatch X.K C' S)(hS2:XCatch X.K C2 S)(hC:aI X.K aH (xName t)=some (some (.ref C)))(hC':aI X.K aH (xName u)=some (some (.ref C')))(hC2:aI X.K aH (xName v)=some (some (.ref C2)))(hg:∀W,PSv (X.wish W) st g)(hx:∀W,pI (X.wish W) C st x)(hy:∀W,pI (X.wish W) C' st y)(hz:∀W,pI (X.wish W) C2 st z)(hs:∀ea oe xe,HdP (gU X ea xe (upd X.H₀ ea (.frz oe (.own ea))))->PSsv (gU X ea xe (upd X.H₀ ea (.frz oe (.own ea)))) (b₀::suite) h)(hi:X.N[i]?=some en:=by rfl)(hlo:X.env.kindOf en=some .local:=by rfl)(hst:X.stack=X.env::X.outer:=by rfl)(hfr:X.env.frame=some X.env.locals:=by rfl)(hex:X.ex=[]:=by rfl)(hgS:Gl X sx:=by rfl)(hdb:(sx==("__debug__" : Str))=false:=by decide) :
  PSv X (.Try [st] [.ExceptHandler (some (.Name sx hp)) (some en) (b₀::suite) hpos] [] [] pos) (tryG3 i t u v g x y z h):=by
 refine⟨fun D σ H=>∀aC s,Inv X aC σ H s->bF (8:) X.A (exec (.Try [st] [.ExceptHandler (some (.Name sx hp)) (some en) (b₀::suite) hpos] [] [] pos) X.env) (SP X aC D) X.xe s,
  fun aC s σ H D I h=>h aC s I,fun H₀ H O σ ds hd out D o e af aC s I=>?_⟩
 refine wpAny_Try_except (sA ?_);show bF _ _ _ _ (tryE X aC D [.ExceptHandler (some (.Name sx hp)) (some en) (b₀::suite) hpos]) s;unfold tryG3 at e
 have one:∀{t':Nat} {C':aA} {x':List Sl->Bool},XCatch X.K C' S->aI X.K aH (xName t')=some (some (.ref C'))->(∀W,pI (X.wish W) C' st x')->x' ds=true->(h (ds.set i (.exc t'))).map (goneO i)=some out →
   bF (8:) X.A (exec st X.env) (fun f s1=>bF (8:) X.A (execs [] X.env) (fun f s2=>SP X aC D f s2) (tryE X aC D [.ExceptHandler (some (.Name sx hp)) (some en) (b₀::suite) hpos]) s1/\False) (tryE X aC D [.ExceptHandler (some (.Name sx hp)) (some en) (b₀::suite) hpos]) s:=fun {t' C' x'} k1 k2 k3 k4 k5=>by
  cases hh:h (ds.set i (.exc t')) with
  |none=>rw[hh] at k5;cases k5
  | some out' =>
    rw[hh] at k5;cases k5;exact dG (WL hN hm k1 k2 k3 hs hi hlo hst hfr hex hgS hdb I o k4 hh af) (fun _ _ z=>z.elim) (fun _ _ z=>z)
 by_cases hxd:x ds=true
 . rw[if_pos hxd] at e;exact dG (one hS hC hx hxd e) (fun _ _ z=>z.2.elim) (fun _ _ z=>z)
 rw[if_neg hxd] at e
 by_cases hyd:y ds=true
 . rw[if_pos hyd] at e;exact dG (one hS' hC' hy hyd e) (fun _ _ z=>z.2.elim) (fun _ _ z=>z)
 rw[if_neg hyd] at e
 by_cases hzd:z ds=true
 . rw[if_pos hzd] at e;exact dG (one hS2 hC2 hz hzd e) (fun _ _ z=>z.2.elim) (fun _ _ z=>z)
 . rw [if_neg hzd] at e;obtain ⟨t,ht,hf⟩:=hg (tryE X aC D [.ExceptHandler (some (.Name sx hp)) (some en) (b₀::suite) hpos]);refine dG (ht aC s σ H D (I.wish _) (hf H₀ H O σ ds hd out D o e af)) (fun f s1 q=>?_) (fun _ _ z=>z);have q':=q.unwish;cases f with
   |next=>exact nU (nU q')
   |brk=>exact q'
   |cont=>exact q'
   |ret u=>exact q'
end
section
variable{X:Cx}{E:XK}{C:aA}
end
section
variable{X:Cx}{k j:Nat}{n:Nat}{F:List D->Option Ret}{x:Str}{p pos:Pos}{e:Expr}{es:List Expr}{g:FA}
end
end FL
namespace FL
open PySem PySem.Spec PyProof.Rows L2
section
variable{X:Cx}{E:XK}{C:aA}
end
section
variable{X:Cx}{E:XK}{C:aA}
end
end FL
namespace L2
open PySem PySem.Spec PyProof.Rows
section
variable{X:Cx}
end
end L2
namespace FL
open PySem PySem.Spec PyProof.Rows L2
section
variable{X:Cx}{E:XK}{C:aA}
end
section
variable{X:Cx}
end
end FL
namespace L2
open PySem PySem.Spec PyProof.Rows
open Builtin Builtin.Str
section
variable{X:Cx}
theorem split_len(x y:Str):(Txt.split x y).length<=x.length+2:=by
 unfold Txt.split;have e1:=StrLaws.occ_length_le x y 0 x.length (x.length+1)
 split
 . simp
 . split
   . simp
   . rw[length_partsBetween];omega
noncomputable def rSlS:V->Option Int->Option Int->Hp->VK->Prop:=fun x lo hi H Q=>∃a,x=.str a/\a.length<=sizeLine/\Q (.str (Txt.slice a lo hi)) H
theorem sl_str:SlR X rSlS:=by
 intro aC s σ H x v vl vu lo hi sl Q I rx hs pl pu h;obtain⟨a,rfl,hz,q⟩:=h;obtain⟨tk,rfl⟩:=(show ∃tk,v=Value.str a tk from rx)
 obtain⟨o,ho,hc,hd⟩:=hs
 have fin:∀(l u:Option (Int×Tok)),partValue l=vl->partValue u=vu->l.map (·.1)=lo->u.map (·.1)=hi->bF (8:) X.A (HA (.str a tk) (.ref sl)) (EP X aC σ Q) X.xe s:=by
  intro l u e1 e2 e3 e4;refine wpAny_getItem_str_slice (l:=l) (u:=u) (st:=none) ⟨o,ho,hc,by rw[hd,e1,e2];rfl⟩ rfl ?_;subst e3 e4;exact post_val_or_str ⟨dA (Txt.slice_le a _ _) hz,fun t' k=>⟨.str _,H,I.tok _,⟨_,rfl⟩,q⟩⟩
 refine⟨"str",_,F.slot_str_getitem.lookup,typeIs_str _ _ _,?_⟩;cases pl with
 | none =>
   cases pu with
   |none=>exact fin none none rfl rfl rfl rfl
   |int j t2=>exact fin none (some (j,t2)) rfl rfl rfl rfl
 | int i t1 =>
   cases pu with
   |none=>exact fin (some (i,t1)) none rfl rfl rfl rfl
   |int j t2=>exact fin (some (i,t1)) (some (j,t2)) rfl rfl rfl rfl
end
end L2
namespace FL
open PySem PySem.Spec PyProof.Rows L2
section
variable{X:Cx}
section
variable{o e:Expr}{apos cpos:Pos}{f g:FE}{name:Str}{id:String}
theorem JA{K:Frag}{H:Hp}{O:aA->Prop}:∀(l:List Str),Reps K H O (l.map V.str) (l.map D.str)
 |[]=>.nil
 |a::l=>.cons (.str a) (JA l)
end
theorem AK{e:Expr}{lo hi:Option Expr}{f:FE}{gl gh:List Sl->Option (Option Int)}{p2 pos:Pos}(he:PVw X e f)(hl:POv X lo gl)(hh:POv X hi gh):PV X (.Subscript e (.Slice lo hi none p2) pos) (slsS f gl gh):=by
 obtain⟨te,pe,he⟩:=he;obtain⟨tl,pl,hl⟩:=hl;obtain⟨th,ph,hh⟩:=hh;refine⟨_,OF sl_str pe pl ph,fun H₀ H O σ ds hd d' Q o e q=>?_⟩;unfold slsS at e;obtain⟨d,h1,e⟩:=bnd e;obtain⟨a,h2,e⟩:=bnd e;obtain⟨b,h3,e⟩:=bnd e;cases d<;>first | (cases e;done) | skip
 simp only at e
 split at e
 . rename_i hc;cases e;refine he H₀ H O σ ds hd _ _ o h1 fun v H1 s1 r1=>?_;refine hl H₀ H1 O σ ds hd _ _ (o.mono s1) h2 fun H2 s2=>?_;refine hh H₀ H2 O σ ds hd _ _ ((o.mono s1).mono s2) h3 fun H3 s3=>?_;rw[r1.str'];exact⟨_,rfl,hc,q _ H3 ((s1.trans s2).trans s3) (.str _)⟩
 . cases e
noncomputable def DV(X:Cx)(C:aA)(sts:List Stmt)(x:List Sl->Bool):Prop:=∀(aC:List (aA×Obj)) (s:aD) (σ : L2.St) (H H₀ : Hp) (O:aA->Prop) (ds:List Sl) (hd:Hold),Inv X aC σ H s->Ok X.K H₀ H O σ ds hd->x ds=true →
 (∀ea a0 B H1 H' s1 s',Inv X aC σ H1 s1->Same H H1->Same H1 H'->Thrown X.prog X.w X.stack H1 s1 (.ref C) ea a0 B H' s'.heap->s'.os=s1.os->iQ s'.gens->X.xe (.ref ea) s')->bF (8:) X.A (execs sts X.env) (fun _ _=>False) X.xe s
theorem jN{C:aA}{st:Stmt}{x:List Sl->Bool}(h:pI X C st x):DV X C [st] x:=by
 intro aC s σ H H₀ O ds hd I o ex W;exact sA (dG (h aC s σ H H₀ O ds hd I o ex W) (fun _ _ z=>False.elim z) fun _ _ z=>z)
theorem jV{C:aA}{sts:List Stmt}: DV X C sts kL:=fun _ _ _ _ _ _ _ _ _ _ ex _=>by cases ex
theorem AI{C:aA}{c:Expr}{a b:List Stmt}{pos:Pos}{fc:FT}{xa xb:List Sl->Bool}(hc:PTv X c fc)(ha:DV X C a xa)(hb:DV X C b xb):pI X C (.If c a b pos) (ifX fc xa xb):=by
 obtain⟨tc,pc,hf⟩:=hc;intro aC s σ H H₀ O ds hd I o ex W;unfold ifX at ex;cases h:fc ds with
 |none=>rw[h] at ex;cases ex
 | some k =>
   rw[h] at ex;refine wpAny_If (thn (pc aC s σ H (fun d H1=>d=k/\Same H H1) I (hf H₀ H O σ ds hd k _ o h fun H' sm=>⟨rfl,sm⟩)) fun d s1 zq=>?_);obtain⟨H1,I1,e1,sm⟩:=zq;subst e1;cases d with
   |true=>exact ha aC s1 σ H1 H₀ O ds hd I1 (o.mono sm) ex fun ea a0 B H2 H' s2 s' i2 s2'=>W ea a0 B H2 H' s2 s' i2 (sm.trans s2')
   |false=>exact hb aC s1 σ H1 H₀ O ds hd I1 (o.mono sm) ex fun ea a0 B H2 H' s2 s' i2 s2'=>W ea a0 B H2 H' s2 s' i2 (sm.trans s2')
end
section
variable{X:Cx}{E:XK}{C:aA}
theorem pe_or{e:Expr}{t u:TE}(h1:PE X e t)(h2:PE X e u):PE X e (fun σ H Q=>t σ H Q\/u σ H Q):=fun aC s σ H Q I h=>h.elim (h1 aC s σ H Q I) (h2 aC s σ H Q I)
section
variable{x:Str}{p pos:Pos}{e:Expr}{t k j:Nat}{G:List D->Option (List D)}{y:List Sl->Bool}
end
end
end FL
namespace L2
open PySem PySem.Spec PyProof.Rows
section
variable{prog:aW}{w:bR}{A:bL}{E:Value->aD->Prop}{s:aD}
end
section
variable{X:Cx}{pos:Pos}
end
end L2
namespace FL
open PySem PySem.Spec PyProof.Rows L2
section
variable{X:Cx}
end
section
variable{K:Frag}{H H' H₀ : Hp}{O O':aA->Prop}
abbrev orL(fs:List aA)(O:aA->Prop):aA->Prop:=fun b=>b∈fs\/O b
theorem Rep.moreL{v:V}{d:D}:∀{ps:List aA},(∀p∈ps,H p=none)->Rep K H O v d->Rep K H (orL ps O) v d
 |[],_,h=>h.less fun a z=>z.elim (fun q=>nomatch q) id
 |p::ps,hp,h=>((Rep.moreL (ps:=ps) (fun q hq=>hp q (.tail _ hq)) h).more (p:=p) (hp p (.head _))).less fun a z=>z.elim (fun q=>(aE.mp q).elim .inl fun q=>.inr (.inl q)) fun q=>.inr (.inr q)
theorem Reps.moreL{v:List V}{d:List D}:∀{ps:List aA},(∀p∈ps,H p=none)->Reps K H O v d->Reps K H (orL ps O) v d
 |[],_,h=>h.less fun a z=>z.elim (fun q=>nomatch q) id
 |p::ps,hp,h=>((Reps.moreL (ps:=ps) (fun q hq=>hp q (.tail _ hq)) h).more (p:=p) (hp p (.head _))).less fun a z=>z.elim (fun q=>(aE.mp q).elim .inl fun q=>.inr (.inl q)) fun q=>.inr (.inr q)
theorem RepO.moreL{v:V}{t:OT}{fs:List aA}:∀{ps:List aA},(∀p∈ps,H p=none)->RepO K H O v t fs->RepO K H (orL ps O) v t fs
 |[],_,h=>h.less (fun a z=>z.elim (fun q=>nomatch q) id) fun b hb=>.inr (h.owns b hb).1
 |p::ps,hp,h=>((RepO.moreL (ps:=ps) (fun q hq=>hp q (.tail _ hq)) h).more (p:=p) (hp p (.head _))).less (fun a z=>z.elim (fun q=>(aE.mp q).elim .inl fun q=>.inr (.inl q)) fun q=>.inr (.inr q)) fun b hb=>.inr (h.owns b hb).1
theorem Ok.moreL{σ : L2.St}{ds:List Sl}{hd:Hold}{fs:List aA}(o:Ok K H₀ H O σ ds hd)(s:Same H H')(hn:∀b∈fs,H b=none)(hl:∀b∈fs,∃u:MutHO,H' b=some u.1):Ok K H₀ H' (orL fs O) σ ds hd:=by
 refine⟨o.same.trans s,o.fresh,fun b hb=>hb.elim (hl b) fun z=>let ⟨xs,e⟩:=o.dom b z;⟨xs,s _ _ e⟩,o.len,fun i sl e=>?_,o.apart,fun p hp=>?_,o.obs.tr (fun _ _ _ r _=>(r.moreL hn).mono s) (fun _ _ _ e=>⟨e,rfl⟩) fun _ _ oj ej=>.inl ⟨oj,ej⟩⟩
 . cases sl with
   |no=>exact jA
   |ob r t=>exact yG
   | exc t =>
     obtain⟨a',C',ob',u',q1,q2,q3,q4⟩:=o.readX e;rw[q1];exact⟨C',ob',u',q2,s _ _ q3,q4⟩
   | fr l' =>
     obtain⟨a',xs',q1,q2,q0,q3,q4⟩:=o.readF e;rw[q1];exact⟨fun z=>z.elim (fun z=>by rw[hn _ z] at q3;cases q3) q2,q0,xs',s _ _ q3,(q4.moreL hn).mono s⟩
   | v d =>
     obtain⟨v,h1,h2⟩:=o.read e;rw[h1];exact jZ ((h2.moreL hn).mono s)
   | own l' =>
     obtain⟨b,ys,h1,h2,h3,h4⟩:=o.readO e;rw[h1];exact⟨.inr h2,ys,s _ _ h3,(h4.moreL hn).mono s⟩
 . have := o.hold p hp;cases p with
   |rep v d=>exact(Rep.moreL hn this).mono s
   |base B=>exact fun b hb=>⟨.inr (this b hb).1,(this b hb).2⟩
   |root k a=>exact True.intro
   |fz a' o' kvs' l'=>exact⟨fun z=>z.elim (fun z=>by have:=this.2.1;rw[hn _ z] at this;cases this) this.1,s _ _ this.2.1,(Reps.moreL hn this.2.2).mono s⟩
theorem Ok.setOb{σ : L2.St}{ds:List Sl}{hd:Hold}{fs:List aA}{i:Nat}{v:V}{t:OT}(o:Ok K H₀ H O σ ds hd)(s:Same H H')(r:RepO K H' (orL fs O) v t fs)(nd:fs.Nodup)(hn:∀b∈fs,H b=none) :
  Ok K H₀ H' (orL fs O) (σ.set i (some v)) (ds.set i (.ob none t)) hd:=by
 have o1:Ok K H₀ H' (orL fs O) σ ds hd:=o.moreL s hn fun b hb=>(r.owns b hb).2;have own':∀{j:Nat},IsOwn (ds.set i (.ob none t)) j->IsOwn ds j/\j≠i:=fun h=>xD (fun l=>by intro z;cases z) h;refine⟨o1.same,fun j l a e1 e2=>?_,o1.dom,by simpa using o1.len,fun j sl e=>?_,fun j k a hjk hj hk e1 e2=>?_,o1.hold,?_⟩
 . obtain⟨⟨l', e'⟩, n1⟩ := own' ⟨l, e1⟩;rw[aB (Ne.symm n1)] at e2;exact o1.fresh j l' a e' e2
 . by_cases hj : j = i
   . subst hj
     by_cases hl:j<ds.length
     . rw[aK hl] at e;cases e;exact yG
     . rw[bK (by simpa using hl)] at e;cases e
   . rw[aB (Ne.symm hj)] at e;rw[aB (Ne.symm hj)];exact o1.sl j sl e
 . obtain⟨h1, n1⟩ := own' hj;obtain⟨h2,n2⟩:=own' hk;rw[aB (Ne.symm n1)] at e1;rw[aB (Ne.symm n2)] at e2;exact o1.apart j k a hjk h1 h2 e1 e2
 . obtain ⟨F, hF⟩ := o.obs
   have ne:∀{j:Nat} {r':Option Nat} {t':OT},ds[j]?=some (.ob r' t')->∀b∈F j,b∉fs:=fun {j r' t'} e b hb z=>by
    obtain⟨w,_,q,_⟩:=hF j r' t' e;obtain⟨_,xs,ex⟩:=q.owns b hb;rw[hn b z] at ex;cases ex
   refine⟨fun j=>if j=i then fs else F j,fun j r' t' e=>?_⟩
   by_cases hj:j=i
   . subst hj
     by_cases hl:j<ds.length
     . rw [aK hl] at e;cases e;refine ⟨v,by rw [aK (by rw [o.len]; exact hl)],by simpa using r,(fun k a z=>by cases z),by simpa using nd,fun b hb=>?_⟩;have hb:b∈fs:=by simpa using hb
       refine⟨o.same.free (hn b hb),fun k r2 t2 hk e2 z=>?_,fun k ok ek=>?_⟩
       . simp only[hk, if_false] at z;rw[aB (Ne.symm hk)] at e2;exact ne e2 b z hb
       . obtain⟨⟨l2, e2⟩, hk⟩ := own' ok;rw[aB (Ne.symm hk)] at ek;obtain⟨b',ys,q1,_,q3,_⟩:=o.readO e2;rw[ek] at q1;cases q1;rw[hn b hb] at q3;cases q3
     . rw[bK (by simpa using hl)] at e;cases e
   . rw [aB (Ne.symm hj)] at e;obtain ⟨w,h1,h2,h3,h4,h5⟩:=hF j r' t' e;refine ⟨w,by rw [aB (Ne.symm hj)]; exact h1,by simp only [hj,if_false]; exact (h2.moreL hn).mono s,h3,by simpa [hj] using h4,fun b hb=>?_⟩;have hb:b∈F j:=by simpa [hj] using hb
     refine⟨(h5 b hb).1,fun k r2 t2 hk e2 z=>?_,fun k ok ek=>?_⟩
     . by_cases hki : k = i
       . simp only[hki, if_true] at z;exact ne e b hb z
       . simp only[hki, if_false] at z;rw[aB (Ne.symm hki)] at e2;exact(h5 b hb).2.1 k r2 t2 hk e2 z
     . obtain⟨ok', hk⟩ := own' ok;rw[aB (Ne.symm hk)] at ek;exact(h5 b hb).2.2 k ok' ek
inductive Kid(H:Hp)(b:aA):List V->Prop
 |tup {xs:List V} (h:Rd H b (.tup xs)):Kid H b xs
 |lst {xs:List V} (h:H b=some (.lst xs)):Kid H b xs
 |dct {kvs:List (Key×V)} (h:H b=some (.dK kvs)):Kid H b (kvs.map (·.2))
 |ins {C dx:aA} {kvs:List (Str×V)} (h:H b=some (.ins C dx kvs)):Kid H b (kvs.map (·.2))
noncomputable def PathV(H:Hp):V->List Nat->V->Prop
 |v,[],w=>w=v
 |v,k::p,w=>∃b xs x,v=.ref b/\Kid H b xs/\xs[k]?=some x/\PathV H x p w
theorem Kid.det{b:aA}{xs ys:List V}(h:Kid H b xs)(g:Kid H b ys):xs=ys:=by
 have rd:∀{zs ws:List V},Rd H b (.tup zs)->Rd H b (.tup ws)->zs=ws:=fun h g=>by
  rcases h with h | ⟨o,h⟩<;>rcases g with g | ⟨o',g⟩<;>rw[h] at g<;>cases g<;>rfl
 have no:∀{zs:List V} {u:HO},Rd H b (.tup zs)->H b=some u->(∀ws,u≠.tup ws)->(∀o w,u≠.frz o w)->False:=fun h g n1 n2=>by
  rcases h with h | ⟨o,h⟩<;>rw[h] at g<;>cases g
  . exact n1 _ rfl
  . exact n2 _ _ rfl
 cases h with
 | tup h => cases g with
   |tup g=>exact rd h g
   |lst g=>exact(no h g (fun _ z=>by cases z) (fun _ _ z=>by cases z)).elim
   |dct g=>exact(no h g (fun _ z=>by cases z) (fun _ _ z=>by cases z)).elim
   |ins g=>exact(no h g (fun _ z=>by cases z) (fun _ _ z=>by cases z)).elim
 | lst h => cases g with
   |tup g=>exact(no g h (fun _ z=>by cases z) (fun _ _ z=>by cases z)).elim
   |lst g=>rw[h] at g;cases g;rfl
   |dct g=>rw[h] at g;cases g
   |ins g=>rw[h] at g;cases g
 | dct h => cases g with
   |tup g=>exact(no g h (fun _ z=>by cases z) (fun _ _ z=>by cases z)).elim
   |lst g=>rw[h] at g;cases g
   |dct g=>rw[h] at g;cases g;rfl
   |ins g=>rw[h] at g;cases g
 | ins h => cases g with
   |tup g=>exact(no g h (fun _ z=>by cases z) (fun _ _ z=>by cases z)).elim
   |lst g=>rw[h] at g;cases g
   |dct g=>rw[h] at g;cases g
   |ins g=>rw[h] at g;cases g;rfl
theorem yS:∀{p:List Nat} {v x y:V},PathV H v p x->PathV H v p y->x=y
 |[],v,x,y,h,g=>h.trans g.symm
 | k :: p, v, x, y, ⟨b, xs, z, h1, h2, h3, h4⟩, ⟨b', xs', z', g1, g2, g3, g4⟩ => by
   rw[h1] at g1;cases g1;cases h2.det g2;rw[h3] at g3;cases g3;exact yS h4 g4
theorem JJ:∀{p:List Nat} {k:Nat} {v x:V} {b:aA} {xs:List V},PathV H v p (.ref b)->Kid H b xs->xs[k]?=some x->PathV H v (p++[k]) x
 |[],k,v,x,b,xs,h,hk,hx=>⟨b,xs,x,h.symm,hk,hx,rfl⟩
 |j::p,k,v,x,b,xs,⟨c,ys,y,h1,h2,h3,h4⟩,hk,hx=>⟨c,ys,y,h1,h2,h3,JJ h4 hk hx⟩
theorem wY:∀(p:List Nat) (k:Nat) (t:OT),subO (p++[k]) t=(subO p t).bind (subO [k])
 |[],k,t=>by simp[subO]
 | j :: p, k, t => by
   cases t with
   |val d=>simp[subO]
   |lst l=>simp only[gI,subO];cases l[j]?<;>simp[wY p k]
   |tup l=>simp only[gI,subO];cases l[j]?<;>simp[wY p k]
   |dct ks l=>simp only[gI,subO];cases l[j]?<;>simp[wY p k]
   |ins c l=>simp only[gI,subO];cases l[j]?<;>simp[wY p k]
theorem RepsO.length:∀{xs:List V} {ts:List OT} {fs:List aA},RepsO K H O xs ts fs->xs.length=ts.length
 |_,_,_,.nil=>rfl
 |_,_,_,.cons _ r=>by simp[RepsO.length r]
theorem RepsO.pick:∀{xs:List V} {ts:List OT} {fs:List aA} {k:Nat} {t:OT},RepsO K H O xs ts fs->ts[k]?=some t->∃(x:V) (pre f post:List aA),xs[k]?=some x/\fs=pre++(f++post)/\RepO K H O x t f ∧
  ∀{H':Hp} {O':aA->Prop} {g:OT->OT} {f':List aA},RepO K H' O' x (g t) f'->(∀y s e,RepO K H O y s e->(∀b∈e,b∈pre\/b∈post)->RepO K H' O' y s e)->RepsO K H' O' xs (ts.modify k g) (pre++(f'++post))
 | _, _, _, 0, t, .cons (x := x) (fs := f) (gs := gs) h r, e => by
   simp only[eU,Option.some.injEq] at e;subst e;refine⟨x,[],f,gs,rfl,rfl,h,fun {H' O' g f'} h' ho=>?_⟩
   have:∀{xs:List V} {ts:List OT} {gs':List aA},RepsO K H O xs ts gs'->(∀b∈gs',b∈gs)->RepsO K H' O' xs ts gs':=by
    intro xs ts gs' h
    induction xs generalizing ts gs' with
    |nil=>intro _;cases h;exact .nil
    | cons y ys ih =>
      intro hb;cases h with
      |cons h1 h2=>exact .cons (ho _ _ _ h1 fun b z=>.inr (hb b (aU _ z))) (ih h2 fun b z=>hb b (aG _ z))
   show RepsO K H' O' _ _ (f'++gs);exact .cons h' (this r fun _ z=>z)
 | _, _, _, k + 1, t, .cons (x := x) (t := t0) (fs := f0) (gs := gs) h r, e => by
   obtain⟨y,pre,f,post,h1,h2,h3,h4⟩:=RepsO.pick (k:=k) (t:=t) r (by simpa using e);refine⟨y,f0++pre,f,post,by simpa using h1,by rw[h2];simp,h3,fun {H' O' g f'} h' ho=>?_⟩;have q:=h4 h' fun z s e' hz hb=>ho z s e' hz fun b hb'=>(hb b hb').elim (fun z=>.inl (aG _ z)) .inr;have:=RepsO.cons (ho _ _ _ h fun b hb=>.inl (aU _ hb)) q;simpa[eV] using this
theorem JL{pre f post:List aA}(nd:(pre++(f++post)).Nodup):f.Nodup/\(∀b∈f,b∉pre/\b∉post)/\∀(f':List aA),f'.Nodup->(∀b∈f',b∈f\/(b∉pre/\b∉post))->(pre++(f'++post)).Nodup:=by
 rw[eD] at nd;obtain⟨n1,n2,n3⟩:=nd;rw[eD] at n2;obtain⟨n4,n5,n6⟩:=n2;have ap:∀b∈f,b∉pre/\b∉post:=fun b hb=>⟨fun z=>n3 b z b (aU _ hb) rfl,fun z=>n6 b hb b z rfl⟩
 refine⟨n4,ap,fun f' hf hs=>?_⟩;have ap':∀b∈f',b∉pre/\b∉post:=fun b hb=>(hs b hb).elim (ap b) id;rw[eD];refine⟨n1,?_,fun a ha b hb e=>?_⟩
 . rw[eD];exact⟨hf,n5,fun a ha b hb e=>(ap' a ha).2 (e▸hb)⟩
 . rcases cA.mp hb with z | z
   . exact(ap' b z).1 (e▸ha)
   . exact n3 a ha b (aG _ z) e
structure Chg(H H':Hp)(O O':aA->Prop)(f:List aA)(f':List aA):Prop where
 keep:∀b u,¬O b->H b=some u->H' b=some u
 rest:∀b u,O b->b∉f->H b=some u->H' b=some u
 sub:∀b,O b->b∉f->O' b
 new:∀b,O' b->O b\/(b∈f'/\H b=none)
 fp:∀b∈f',b∈f\/H b=none
theorem Chg.rep{f f':List aA}(c:Chg H H' O O' f f'){v:V}{d:D}(r:Rep K H O v d):Rep K H' O' v d:=by
 have hn:∀p∈f'.filter (fun b=>(H b).isNone),H p=none:=fun p hp=>by simpa using(eF.mp hp).2
 have r1:=(r.moreL hn).keep (H':=H') fun b u hb e=>c.keep b u (fun z=>hb (.inr z)) e;exact r1.less (O':=O') fun a z=>(c.new a z).elim .inr fun q=>.inl (eF.mpr ⟨q.1,by rw[q.2];rfl⟩)
theorem Chg.reps{f f':List aA}(c:Chg H H' O O' f f'){v:List V}{d:List D}(r:Reps K H O v d):Reps K H' O' v d:=by
 have hn:∀p∈f'.filter (fun b=>(H b).isNone),H p=none:=fun p hp=>by simpa using(eF.mp hp).2
 have r1:=(r.moreL hn).keep (H':=H') fun b u hb e=>c.keep b u (fun z=>hb (.inr z)) e;exact r1.less (O':=O') fun a z=>(c.new a z).elim .inr fun q=>.inl (eF.mpr ⟨q.1,by rw[q.2];rfl⟩)
theorem Chg.repO{f f':List aA}(c:Chg H H' O O' f f'){v:V}{t:OT}{e:List aA}(r:RepO K H O v t e)(he:∀b∈e,b∉f):RepO K H' O' v t e:=by
 have hn:∀p∈f'.filter (fun b=>(H b).isNone),H p=none:=fun p hp=>by simpa using(eF.mp hp).2
 have r1:=(r.moreL hn).keep (H':=H') (fun b u hb e=>c.keep b u (fun z=>hb (.inr z)) e) fun b hb u eb=>c.rest b u (r.owns b hb).1 (he b hb) eb;exact r1.less (O':=O') (fun a z=>(c.new a z).elim .inr fun q=>.inl (eF.mpr ⟨q.1,by rw[q.2];rfl⟩)) fun b hb=>c.sub b (r.owns b hb).1 (he b hb)
theorem RepO.modAt:∀(p:List Nat) {v:V} {t u:OT} {fs:List aA},RepO K H O v t fs->fs.Nodup->subO p t=some u->∃w f,PathV H v p w/\RepO K H O w u f/\f.Nodup/\(∀b∈f,b∈fs) ∧
  ∀{H':Hp} {O':aA->Prop} {u':OT} {f':List aA},Chg H H' O O' f f'->RepO K H' O' w u' f'->f'.Nodup->∃fs',RepO K H' O' v (putO u' p t) fs'/\fs'.Nodup/\(∀b∈fs',b∈fs\/b∈f')/\∀b∈f',b∈fs'
 | [], v, t, u, fs, r, nd, e => by
   cases e;exact⟨v,fs,rfl,r,nd,fun _ h=>h,fun {H' O' u' f'} c r' nd'=>⟨f',r',nd',fun b hb=>.inr hb,fun b hb=>hb⟩⟩
 | k :: p, v, t, u, fs, r, nd, e => by
   have core:∀{xs:List V} {ts:List OT} {gs:List aA},RepsO K H O xs ts gs->gs.Nodup->(ts[k]?).bind (subO p)=some u->∃x w f,xs[k]?=some x/\PathV H x p w/\RepO K H O w u f/\f.Nodup/\(∀b∈f,b∈gs) ∧
     ∀{H':Hp} {O':aA->Prop} {u':OT} {f':List aA},Chg H H' O O' f f'->RepO K H' O' w u' f'->f'.Nodup->∃gs',RepsO K H' O' xs (ts.modify k (putO u' p)) gs'/\gs'.Nodup/\(∀b∈gs',b∈gs\/b∈f')/\∀b∈f',b∈gs':=by
    intro xs ts gs rs nds es;obtain⟨t1,ht,es⟩:=bnd es;obtain⟨x,pre,f0,post,h1,rfl,h3,h4⟩:=rs.pick ht;obtain⟨nf,nfr,nre⟩:=JL nds;obtain⟨w,f,g1,g2,g3,g4,g5⟩:=RepO.modAt p h3 nf es;have inn:∀b∈f,b∈pre++(f0++post):=fun b hb=>aG _ (aU _ (g4 b hb));refine⟨x,w,f,h1,g1,g2,g3,inn,fun {H' O' u' f'} c r' nd'=>?_⟩;obtain⟨f1,q1,q2,q3,q4⟩:=g5 c r' nd'
    have old:∀b,b∈pre++(f0++post)->H b≠none:=fun b hb z=>by
     obtain⟨_,y,ey⟩:=rs.owns b hb;rw[z] at ey;cases ey
    refine⟨pre++(f1++post),h4 (g:=putO u' p) q1 fun y s e hy hb=>c.repO hy fun b hb' z=>?_,nre f1 q2 fun b hb=>?_,fun b hb=>?_,fun b hb=>aG _ (aU _ (q4 b hb))⟩
    . exact(hb b hb').elim (nfr b (g4 b z)).1 (nfr b (g4 b z)).2
    . rcases q3 b hb with z | z
      . exact .inl z
      . rcases c.fp b z with y | y
        . exact .inl (g4 b y)
        . exact .inr ⟨fun q=>old b (aU _ q) y,fun q=>old b (aG _ (aG _ q)) y⟩
    . rcases cA.mp hb with z | z
      . exact .inl (aU _ z)
      . rcases cA.mp z with z | z
        . exact(q3 b z).imp (fun z=>aG _ (aU _ z)) id
        . exact .inl (aG _ (aG _ z))
   have head:∀{a0:aA} {gs gs' f f':List aA} {H':Hp} {O':aA->Prop},(a0::gs).Nodup->O a0->H a0≠none->Chg H H' O O' f f'->gs'.Nodup->(∀b∈gs',b∈gs\/b∈f')->(∀b∈f,b∈gs)->(a0::gs').Nodup/\(∀b∈a0::gs',b∈a0::gs\/b∈f')/\a0∉f:=by
    intro a0 gs gs' f f' H' O' nd0 oa ha c ndg hg hf;obtain⟨n0,_⟩:=bZ.mp nd0;refine⟨bZ.mpr ⟨fun z=>?_,ndg⟩,fun b hb=>?_,fun z=>n0 (hf a0 z)⟩
    . rcases hg a0 z with y | y
      . exact n0 y
      . exact(c.fp a0 y).elim (fun q=>n0 (hf a0 q)) ha
    . rcases aE.mp hb with rfl | z
      . exact .inl (.head _)
      . exact(hg b z).imp (fun y=>.tail _ y) id
   cases r with
   |val r=>simp[subO] at e
   | tup n h r =>
     obtain⟨x,w,f,h1,g1,g2,g3,g4,g5⟩:=core r nd e;refine⟨w,f,⟨_,_,x,rfl,.tup h,h1,g1⟩,g2,g3,g4,fun {H' O' u' f'} c r' nd'=>?_⟩;obtain⟨gs',q1,q2,q3,q4⟩:=g5 c r' nd';refine⟨gs',?_,q2,q3,q4⟩;have kk:Keep O H H':=fun b u hb eb=>c.keep b u hb eb;exact .tup (fun z=>(c.new _ z).elim n fun q=>Rd.some h q.2) (kk.rd n h) q1
   | lst n h r =>
     obtain⟨x,w,f,h1,g1,g2,g3,g4,g5⟩:=core r (bZ.mp nd).2 e;refine⟨w,f,⟨_,_,x,rfl,.lst h,h1,g1⟩,g2,g3,fun b hb=>.tail _ (g4 b hb),fun {H' O' u' f'} c r' nd'=>?_⟩;obtain⟨gs',q1,q2,q3,q4⟩:=g5 c r' nd';obtain⟨k1,k2,k3⟩:=head nd n (by rw[h];simp) c q2 q3 g4;exact⟨_::gs',.lst (c.sub _ n k3) (c.rest _ _ n k3 h) q1,k1,k2,fun b hb=>.tail _ (q4 b hb)⟩
   | dct n h he r =>
     obtain⟨x,w,f,h1,g1,g2,g3,g4,g5⟩:=core r (bZ.mp nd).2 e;refine⟨w,f,⟨_,_,x,rfl,.dct h,h1,g1⟩,g2,g3,fun b hb=>.tail _ (g4 b hb),fun {H' O' u' f'} c r' nd'=>?_⟩;obtain⟨gs',q1,q2,q3,q4⟩:=g5 c r' nd';obtain⟨k1,k2,k3⟩:=head nd n (by rw[h];simp) c q2 q3 g4;exact⟨_::gs',.dct (c.sub _ n k3) (c.rest _ _ n k3 h) he q1,k1,k2,fun b hb=>.tail _ (q4 b hb)⟩
   | ins hc n h he r =>
     obtain⟨x,w,f,h1,g1,g2,g3,g4,g5⟩:=core r (bZ.mp nd).2 e;refine⟨w,f,⟨_,_,x,rfl,.ins h,h1,g1⟩,g2,g3,fun b hb=>.tail _ (g4 b hb),fun {H' O' u' f'} c r' nd'=>?_⟩;obtain⟨gs',q1,q2,q3,q4⟩:=g5 c r' nd';obtain⟨k1,k2,k3⟩:=head nd n (by rw[h];simp) c q2 q3 g4;exact⟨_::gs',.ins hc (c.sub _ n k3) (c.rest _ _ n k3 h) he q1,k1,k2,fun b hb=>.tail _ (q4 b hb)⟩
theorem Ok.modAt{σ : L2.St}{ds:List Sl}{hd:Hold}{i:Nat}{r:Option Nat}{t u:OT}{p:List Nat}(o:Ok K H₀ H O σ ds hd)(e:ds[i]?=some (.ob r t))(hs:subO p t=some u) :
  ∃v w f,σ[i]?=some (some v)/\PathV H v p w/\RepO K H O w u f/\f.Nodup/\(∀b∈f,H₀ b=none) ∧
   ∀{H':Hp} {O':aA->Prop} {u':OT} {f':List aA},Chg H H' O O' f f'->(∀b∈f,O' b->∃y:MutHO,H' b=some y.1)->RepO K H' O' w u' f'->f'.Nodup->Ok K H₀ H' O' σ (ds.set i (.ob r (putO u' p t))) hd:=by
 obtain⟨F,hF⟩:=o.obs;obtain⟨v,h1,h2,h3,h4,h5⟩:=hF i r t e;obtain⟨w,f,g1,g2,g3,g4,g5⟩:=h2.modAt p h4 hs;have hl:i<ds.length:=(aT.mp e).1;refine⟨v,w,f,h1,g1,g2,g3,fun b hb=>(h5 b (g4 b hb)).1,fun {H' O' u' f'} c hf r' nd'=>?_⟩;obtain⟨fs',q1,q2,q3,q4⟩:=g5 c r' nd';have own':∀{j:Nat},IsOwn (ds.set i (.ob r (putO u' p t))) j->IsOwn ds j/\j≠i:=fun h=>xD (fun l=>by intro z;cases z) h;have nown:∀{j:Nat} {b:aA},IsOwn ds j->σ[j]?=some (some (.ref b))->b∉f:=fun {j b} oj ej z=>(h5 b (g4 b z)).2.2 j oj ej;have free0:∀b,H b=none->H₀ b=none:=fun b hb=>o.same.free hb;refine⟨fun b x eb=>?_,fun j l b e1 e2=>?_,fun b hb=>?_,by simpa using o.len,fun j sl es=>?_,fun j m b hjm hj hm e1 e2=>o.apart j m b hjm (own' hj).1 (own' hm).1 e1 e2,fun q hq=>?_,?_⟩
 . have hb := o.same b x eb
   by_cases ob:O b
   . by_cases bf : b ∈ f
     . rw[(h5 b (g4 b bf)).1] at eb;cases eb
     . exact c.rest b x ob bf hb
   . exact c.keep b x ob hb
 . obtain⟨⟨l', e'⟩, _⟩ := own' ⟨l, e1⟩;exact o.fresh j l' b e' e2
 . rcases c.new b hb with z | z
   . by_cases bf : b ∈ f
     . exact hf b bf hb
     . obtain⟨y, ey⟩ := o.dom b z;exact⟨y,c.rest b _ z bf ey⟩
   . exact(r'.owns b z.1).2
 . by_cases hj : j = i
   . subst hj;rw[aK hl] at es;cases es;exact yG
   . rw [aB (Ne.symm hj)] at es;cases sl with
     |no=>exact jA
     |ob r t=>exact yG
     | exc t =>
       obtain⟨a',C',ob',x',q1,q2,q3,q4⟩:=o.readX es;rw[q1];refine⟨C',ob',x',q2,c.keep _ _ (fun z=>?_) q3,q4⟩;obtain⟨y,ey⟩:=o.dom _ z;rw[q3] at ey;have h2:=y.2;rw[<- Option.some.inj ey] at h2;cases h2
     | fr l' =>
       obtain⟨a',xs'',q1,q2,q0,q3,q4⟩:=o.readF es;rw[q1];exact⟨fun z=>(c.new _ z).elim q2 (fun y=>by rw[y.2] at q3;cases q3),q0,xs'',c.keep _ _ q2 q3,c.reps q4⟩
     | v d =>
       obtain⟨v,q1,q2⟩:=o.read es;rw[q1];exact jZ (c.rep q2)
     | own l'' =>
       obtain⟨b,ys,q1,q2,q3,q4⟩:=o.readO es;rw[q1];exact⟨c.sub _ q2 (nown ⟨l'',es⟩ q1),ys,c.rest _ _ q2 (nown ⟨l'',es⟩ q1) q3,c.reps q4⟩
 . have := o.hold q hq;cases q with
   |rep v d=>exact c.rep this
   |base B=>exact fun b hb=>⟨c.sub _ (this b hb).1 (fun z=>(this b hb).2 (h5 b (g4 b z)).1),(this b hb).2⟩
   |root k a=>exact True.intro
   |fz a' o' kvs' l'=>exact⟨fun z=>(c.new _ z).elim this.1 (fun y=>by have z:=this.2.1;rw[y.2] at z;cases z),c.keep _ _ this.1 this.2.1,c.reps this.2.2⟩
 . refine ⟨fun j => if j = i then fs' else F j, fun j r2 t2 ej => ?_⟩;have fsOld:∀ b∈fs',b∈F i \/ H b=none:=fun b hb=>(q3 b hb).elim .inl fun z=>(c.fp b z).imp (g4 b) id
   by_cases hj:j=i
   . subst hj;rw [aK hl] at ej;cases ej;refine ⟨v,h1,by simpa using q1,h3,by simpa using q2,fun b hb=>?_⟩;have hb:b∈fs':=by simpa using hb
     rcases fsOld b hb with z | z
     . refine⟨(h5 b z).1, fun m r3 t3 hm e3 y => ?_, fun m om em => (h5 b z).2.2 m (own' om).1 em⟩;simp only[hm,if_false] at y;rw[aB (Ne.symm hm)] at e3;exact(h5 b z).2.1 m r3 t3 hm e3 y
     . refine ⟨free0 b z, fun m r3 t3 hm e3 y => ?_, fun m om em => ?_⟩
       . simp only[hm, if_false] at y;rw[aB (Ne.symm hm)] at e3;obtain⟨_,_,w3,_⟩:=hF m r3 t3 e3;obtain⟨_,x3,ex3⟩:=w3.owns b y;rw[z] at ex3;cases ex3
       . obtain⟨⟨l3, e3⟩, _⟩ := own' om;obtain⟨b3,ys,y1,_,y3,_⟩:=o.readO e3;rw[em] at y1;cases y1;rw[z] at y3;cases y3
   . rw [aB (Ne.symm hj)] at ej;obtain ⟨w2,y1,y2,y3,y4,y5⟩:=hF j r2 t2 ej;have apart:∀ b∈F j,b ∉ f:=fun b hb z=>(h5 b (g4 b z)).2.1 j r2 t2 hj ej hb;refine ⟨w2,y1,by simp only [hj,if_false]; exact c.repO y2 apart,y3,by simpa [hj] using y4,fun b hb=>?_⟩;have hb:b∈F j:=by simpa [hj] using hb
     refine⟨(y5 b hb).1,fun m r3 t3 hm e3 z=>?_,fun m om em=>(y5 b hb).2.2 m (own' om).1 em⟩
     by_cases hmi:m=i
     . simp only [hmi, if_true] at z;rcases fsOld b z with x | x
       . exact(y5 b hb).2.1 i r t (fun z=>hj z.symm) e x
       . obtain⟨_, x3, ex3⟩ := y2.owns b hb;rw[x] at ex3;cases ex3
     . simp only[hmi, if_false] at z;rw[aB (Ne.symm hmi)] at e3;exact(y5 b hb).2.1 m r3 t3 hm e3 z
end
section
variable(X:Cx)
noncomputable def PVo(e:Expr)(f:FO):Prop:=∃t,PE X e t/\∀H₀ H O σ ds hd T Q,Ok X.K H₀ H O σ ds hd->f ds=some T->(∀v H' fs,Same H H'->RepO X.K H' (orL fs O) v T fs->fs.Nodup->(∀b∈fs,H b=none)->Q v H')->t σ H Q
noncomputable def PAo(es:List Expr)(f:FOs):Prop:=∃t,PA X es t/\∀H₀ H O σ ds hd T Q,Ok X.K H₀ H O σ ds hd->f ds=some T->(∀vs H' fs,Same H H'->RepsO X.K H' (orL fs O) vs T fs->fs.Nodup->(∀b∈fs,H b=none)->Q vs H')->t σ H Q
noncomputable def PVp(e:Expr)(f:FP):Prop:=∃t,PE X e t/\∀H₀ H O σ ds hd q Q,Ok X.K H₀ H O σ ds hd->f ds=some q->(∀r T v w fs,ds[q.1]?=some (.ob r T)->subO q.2.1 T=some q.2.2->σ[q.1]?=some (some v)->PathV H v q.2.1 w->RepO X.K H O w q.2.2 fs->Q w H)->t σ H Q
end
section
variable{X:Cx}
theorem vN{K:Frag}{H:Hp}{O:aA->Prop}:∀{xs:List V} {l:List D},Reps K H O xs l->RepsO K H O xs (l.map OT.val) []
 |_,_,.nil=>.nil
 |_,_,.cons h t=>.cons (fs:=[]) (gs:=[]) (.val h) (vN t)
theorem JC{e:Expr}{f:FE}(h:PV X e f):PVo X e (vO f):=by
 obtain⟨t,ht,hf⟩:=h;refine⟨t,ht,fun H₀ H O σ ds hd T Q o e q=>?_⟩;unfold vO at e;obtain⟨d,h1,rfl⟩:=mpd e;exact hf H₀ H O σ ds hd d Q o h1 fun v H' s r=>q v H' [] s (.val (r.less fun a z=>z.elim (fun q=>nomatch q) id)) .nil (fun b hb=>nomatch hb)
theorem pvo_l{e:Expr}{f:FA}(h:PVf X e f):PVo X e (lO f):=by
 obtain⟨t,ht,hf⟩:=h;refine⟨t,ht,fun H₀ H O σ ds hd T Q o e q=>?_⟩;unfold lO at e;obtain⟨l,h1,rfl⟩:=mpd e;refine hf H₀ H O σ ds hd l Q o h1 fun a xs H' s hn he r=>q (.ref a) H' [a] s ?_ (by simp) fun b hb=>by rw[aR.mp hb];exact hn
 exact .lst (.inl (.head _)) he (vN (r.less fun b z=>z.elim (fun q=>.inl (aR.mp q)) .inr))
theorem DJ:PAo X [] nilO:=⟨_,jW,fun _ H _ _ _ _ _ _ _ e q=>by cases e;exact q [] H [] (Same.refl _) .nil .nil (fun b hb=>nomatch hb)⟩
theorem OK{e:Expr}{es:List Expr}{f:FO}{g:FOs}(ha:PVo X e f)(hr:PAo X es g)(hs:aF (e::es) X.env=(false,bT e X.env)::aF es X.env:=by rfl):PAo X (e::es) (consO f g):=by
 obtain⟨t,ht,hf⟩:=ha;obtain⟨t2,ht2,hg⟩:=hr;refine⟨_,qY ht ht2 hs,fun H₀ H O σ ds hd T Q o e q=>?_⟩;unfold consO at e;obtain⟨x,h1,e⟩:=bnd e;obtain⟨r,h2,rfl⟩:=mpd e;refine hf H₀ H O σ ds hd x _ o h1 fun v H1 fs s1 r1 nd1 n1=>?_;refine hg H₀ H1 (orL fs O) σ ds hd r _ (o.moreL s1 n1 fun b hb=>(r1.owns b hb).2) h2 fun vs H2 gs s2 r2 nd2 n2=>?_;have eq:∀a,orL (fs++gs) O a->orL gs (orL fs O) a:=fun a z=>z.elim (fun z=>(cA.mp z).elim (fun z=>.inr (.inl z)) .inl) fun z=>.inr (.inr z);refine q _ H2 (fs++gs) (s1.trans s2) (.cons ?_ ?_) ?_ ?_
 . exact(((r1.moreL n2).mono s2).less eq fun b hb=>.inl (aU _ hb))
 . exact r2.less eq fun b hb=>.inl (aG _ hb)
 . rw[eD];refine⟨nd1,nd2,fun a ha b hb z=>?_⟩;obtain⟨_,xs,ex⟩:=r1.owns a ha;rw[z,n2 b hb] at ex;cases ex
 . intro b hb;rcases cA.mp hb with z | z
   . exact n1 b z
   . exact s1.free (n2 b z)
theorem pvo_t{es:List Expr}{x1}{pos:Pos}{g:FOs}(h:PAo X es g):PVo X (.Tuple es x1 pos) (tO g):=by
 obtain⟨t,ht,hf⟩:=h;refine⟨_,aCu ht,fun H₀ H O σ ds hd T Q o e q=>?_⟩;unfold tO at e;obtain⟨l,h1,e⟩:=bnd e
 split at e
 . rename_i hl;cases e;refine hf H₀ H O σ ds hd l _ o h1 fun vs H1 fs s1 r1 nd n1=>⟨by rw [r1.length]; exact hl,fun p hp=>?_⟩
   have np : ¬orL fs O p:=fun z=>by
    rcases z with z | z
    . obtain⟨_, xs, ex⟩ := r1.owns p z;rw[hp] at ex;cases ex
    . exact(o.mono s1).free hp z
   exact q _ _ fs (s1.trans (qG hp _)) (.tup np (.inl bM) (r1.mono (qG hp _))) nd n1
 . cases e
theorem aBt{es:List Expr}{pos:Pos}{g:FOs}(h:PAo X es g):PVo X (.List es pos) (sO g):=by
 obtain⟨t,ht,hf⟩:=h;refine⟨_,aCw ht,fun H₀ H O σ ds hd T Q o e q=>?_⟩;unfold sO at e;obtain⟨l,h1,e⟩:=bnd e
 split at e
 . rename_i hl;cases e;refine hf H₀ H O σ ds hd l _ o h1 fun vs H1 fs s1 r1 nd n1=>⟨by rw [r1.length]; exact hl,fun p hp=>?_⟩
   have r2:RepsO X.K (upd H1 p (.lst vs)) (orL (p::fs) O) vs l fs:=by
    have e1:∀a,orL (p::fs) O a->orL [p] (orL fs O) a:=fun a z=>z.elim (fun z=>(aE.mp z).elim (fun z=>.inl (by rw[z];exact .head _)) fun z=>.inr (.inl z)) fun z=>.inr (.inr z);have mm:RepsO X.K H1 (ins1 p (orL fs O)) vs l fs:=r1.more hp;exact(mm.mono (qG hp _)).less (fun a z=>(e1 a z).elim (fun z=>.inl (aR.mp z)) .inr) fun b hb=>.inl (.tail _ hb)
   refine q _ _ (p::fs) (s1.trans (qG hp _)) (.lst (.inl (.head _)) bM r2) (bZ.mpr ⟨fun z=>?_,nd⟩) fun b hb=>?_
   . obtain⟨_, xs, ex⟩ := r1.owns p z;rw[hp] at ex;cases ex
   . rcases aE.mp hb with z | z
     . rw[z];exact s1.free hp
     . exact n1 b z
 . cases e
theorem EU{i:Nat}{x:Str}{e:Expr}{pos pos':Pos}{f:FO}(hN:X.N.Nodup)(he:PVo X e f)(hi:X.N[i]?=some x:=by rfl)(hx:Loc X.env.scope x:=by first | exact Or.inl rfl | exact Or.inr rfl)(hs:dF e (some (.Name x pos')) pos.line X.env=pure false:=by rfl)(hf:X.fn x=true\/X.env.scope.names.lookup x=some .local:=by first | exact .inl rfl | exact .inr rfl):PSv X (.Assign [.Name x pos'] e pos) (setB i f):=by
 obtain⟨t,ht,hg⟩:=he;refine⟨_,LP hN hi hx ht hs hf,(3:)⟩;unfold setB at e;obtain⟨T,h1,rfl⟩:=mpd e;exact hg H₀ H O σ ds hd T _ o h1 fun v H' fs s r nd n=>h _ _ _ (o.setOb s r nd n)
theorem qB(i:Nat){x:Str}{pos:Pos}(hN:X.N[i]?=some x:=by rfl)(hv:Vis X.env.scope x:=by first | exact Or.inl rfl | exact Or.inr (Or.inl rfl) | exact Or.inr (Or.inr rfl))(hd:(6:)=false:=by decide)(hcd:(x==("__classdict__" : Str))=false:=by decide):PVp X (.Name x pos) (varP i):=by
 refine⟨_,yL hN hv hd hcd,fun H₀ H O σ ds hd q Q o e h=>?_⟩;unfold varP at e;cases hs:ds[i]? with
 |none=>rw[hs] at e;cases e
 | some s =>
   rw[hs] at e;cases s with
   | ob r t =>
     cases e;obtain⟨F,hF⟩:=o.obs;obtain⟨v,h1,h2,_⟩:=hF i r t hs;exact⟨v,h1,h r t v v _ hs rfl h1 rfl h2⟩
   |_=>cases e
theorem RepsO.nth{K:Frag}{H:Hp}{O:aA->Prop}{xs:List V}{ts:List OT}{fs:List aA}{k:Nat}{t:OT}(h:RepsO K H O xs ts fs)(e:ts[k]?=some t):∃x f,xs[k]?=some x/\RepO K H O x t f:=by
 obtain⟨x,_,f,_,h1,_,h3,_⟩:=h.pick e;exact⟨x,f,h1,h3⟩
theorem Chg.ofUpd{H:Hp}{O:aA->Prop}{a:aA}{y:HO}{f f':List aA}(oa:O a)(ha:a∈f)(hf:∀b∈f',b∈f):Chg H (upd H a y) O O f f' :=
 ⟨fun b u nb e=>by have z:b≠a:=fun z=>nb (by rw[z];exact oa);rw[L2.upd_ne z];exact e,fun b u _ nb e=>by have z:b≠a:=fun z=>nb (by rw[z];exact ha);rw[L2.upd_ne z];exact e,fun _ z _=>z,fun _ z=>.inl z,fun b hb=>.inl (hf b hb)⟩
section
variable{x:Str}{k j n:Nat}{F:List D->Option Ret}{p pos:Pos}{e:Expr}{es:List Expr}{g:FA}
theorem yI(C:Cal X.prog X.w X.K X.mg X.base x k n F)(hr:Room j X.A)(ha:PAn X (e::es) g)(hj:k<=j:=by decide)(hg:Gl X x:=by rfl)(hdb:(6:)=false:=by decide)(he:aF (e::es) X.env=(false,bT e X.env)::aF es X.env:=by rfl)(hpl:(cP pos (aF es X.env)).any (·.1)=false:=by rfl) :
  PVo X (.Call (.Name x p) (e::es) [] pos) (callO n F g):=by
 obtain⟨f,fd,ps,Fn,hb,hk,hm⟩:=C.ex;obtain⟨t,ht,hf⟩:=ha;refine⟨_,DI (CX:=CX0) (E:=E0) Fn (hr.mono hj) hg hm hk hb .nil pass0 ht hdb he hpl,fun H₀ H O σ ds hd T Q o e q=>?_⟩;unfold callO at e;obtain⟨l,h,e⟩:=bnd e
 split at e
 . rename_i hln;obtain ⟨r,h2,e⟩:=bnd e;cases r with
   |any d'=>cases e
   |val _=>cases e
   |fresh _=>cases e
   | obj T' =>
     cases e;refine hf H₀ H O σ ds hd l _ o h fun vs H1 s1 r1=>?_;have hl:=r1.length;refine⟨by simp only[eI];omega,l,_,by simpa using r1,h2,fun v H' s' ro=>?_⟩;obtain⟨fs,q1,q2,q3⟩:=ro;exact q v H' fs (s1.trans s') (q1.less (fun a z=>z.elim .inl fun z=>.inr ((o.mono s1).old z)) fun b hb=>.inl hb) q2 fun b hb=>s1.free (q3 b hb)
 . cases e
end
mutual
theorem RepO.flatten{K:Frag}{H:Hp}{O O':aA->Prop}(ho:∀a,O a->Old H a):∀{v:V} {t:OT} {fs:List aA},flatO t=true->RepO K H O' v t fs->(∀b∈fs,O b)->RepO K H O v t fs
 |_,_,_,f,.val r,_=>.val (Rep.flatten ho (by simpa[flatO] using f) r)
 |_,_,_,f,.lst n h r,hb=>.lst (hb _ (.head _)) h (RepsO.flatten ho (by simpa[flatO] using f) r fun b z=>hb b (.tail _ z))
 |_,_,_,f,.dct n h e r,hb=>.dct (hb _ (.head _)) h e (RepsO.flatten ho (by simpa[flatO] using f) r fun b z=>hb b (.tail _ z))
 |_,_,_,f,.ins c n h e r,hb=>.ins c (hb _ (.head _)) h e (RepsO.flatten ho (by simpa[flatO] using f) r fun b z=>hb b (.tail _ z))
 |_,_,_,f,.tup (a:=a) n h r,hb=>.tup (fun z=>by
    obtain⟨u,e,m⟩:=ho a z;rcases h with h | ⟨o,h⟩
    . rw[e] at h;cases h;cases m
    . rw[e] at h;cases h;cases m) h (RepsO.flatten ho (by simpa[flatO] using f) r hb)
theorem RepsO.flatten{K:Frag}{H:Hp}{O O':aA->Prop}(ho:∀a,O a->Old H a):∀{v:List V} {t:List OT} {fs:List aA},oK t=true->RepsO K H O' v t fs->(∀b∈fs,O b)->RepsO K H O v t fs
 |_,_,_,_,.nil,_=>.nil
 | _, _, _, f, .cons h r, hb => by
   simp only[oK,bU] at f;exact .cons (RepO.flatten ho f.1 h fun b z=>hb b (aU _ z)) (RepsO.flatten ho f.2 r fun b z=>hb b (aG _ z))
end
theorem aCl{e:Expr}{pos:Pos}{f:FO}(he:PVo X e f):PSv X (.Return (some e) pos) (retBG f):=by
 obtain⟨t,ht,hg⟩:=he;refine⟨_,AO ht,(3:)⟩;unfold retBG at e;obtain⟨T,h1,e⟩:=bnd e
 split at e
 . rename_i hf;cases e;refine hg H₀ H O σ ds hd T _ o h1 fun v H' fs s r nd hn=>h _ _ (o.same.trans s) ⟨fs,RepO.flatten (fun a z=>?_) hf r fun b hb=>.inl hb,nd,fun b hb=>o.same.free (hn b hb)⟩ True.intro;rcases z with z | z
   . obtain⟨_, xs, ex⟩ := r.owns a z;exact⟨_,ex,xs.2⟩
   . exact Old.mono (o.same.trans s) z
 . cases e
end
section
variable{X:Cx}
end
section
variable{K:Frag}{H H' H₀ : Hp}{O O':aA->Prop}
theorem Kid.mono(s:Same H H'){b:aA}{xs:List V}(h:Kid H b xs):Kid H' b xs:=by
 cases h with
 |tup h=>exact .tup (Keep.rd (O:=jB) (.of_same s) (fun z=>z) h)
 |lst h=>exact .lst (s _ _ h)
 |dct h=>exact .dct (s _ _ h)
 |ins h=>exact .ins (s _ _ h)
theorem yF(s:Same H H'):∀{p:List Nat} {v w:V},PathV H v p w->PathV H' v p w
 |[],_,_,h=>h
 |_::_,_,_,⟨b,xs,x,h1,h2,h3,h4⟩=>⟨b,xs,x,h1,h2.mono s,h3,yF s h4⟩
theorem RepsO.put:∀{xs:List V} {ts:List OT} {fs:List aA} {k:Nat} {t:OT},RepsO K H O xs ts fs->ts[k]?=some t->∃(pre f post:List aA),fs=pre++(f++post) ∧
  ∀{H':Hp} {O':aA->Prop} {v:V} {T:OT} {f':List aA},RepO K H' O' v T f'->(∀y s e,RepO K H O y s e->(∀b∈e,b∈pre\/b∈post)->RepO K H' O' y s e)->RepsO K H' O' (xs.set k v) (ts.set k T) (pre++(f'++post))
 | _, _, _, 0, t, .cons (x := x) (fs := f) (gs := gs) h r, e => by
   refine⟨[],f,gs,rfl,fun {H' O' v T f'} h' ho=>?_⟩
   have:∀{xs:List V} {ts:List OT} {gs':List aA},RepsO K H O xs ts gs'->(∀b∈gs',b∈gs)->RepsO K H' O' xs ts gs':=by
    intro xs ts gs' h
    induction xs generalizing ts gs' with
    |nil=>intro _;cases h;exact .nil
    | cons y ys ih =>
      intro hb;cases h with
      |cons h1 h2=>exact .cons (ho _ _ _ h1 fun b z=>.inr (hb b (aU _ z))) (ih h2 fun b z=>hb b (aG _ z))
   show RepsO K H' O' (v::_) (T::_) (f'++gs);exact .cons h' (this r fun _ z=>z)
 | _, _, _, k + 1, t, .cons (x := x) (t := t0) (fs := f0) (gs := gs) h r, e => by
   obtain⟨pre,f,post,h2,h4⟩:=RepsO.put (k:=k) (t:=t) r (by simpa using e);refine⟨f0++pre,f,post,by rw[h2];simp,fun {H' O' v T f'} h' ho=>?_⟩;have q:=h4 h' fun z s e' hz hb=>ho z s e' hz fun b hb'=>(hb b hb').elim (fun z=>.inl (aG _ z)) .inr;have:=RepsO.cons (ho _ _ _ h fun b hb=>.inl (aU _ hb)) q;simpa[eV] using this
theorem UJ{f:Str}{v:V}:∀{kvs:List (Str×V)} {i:Nat},(kvs.map (·.1))[i]?=some f->(∀j,j<i->(kvs.map (·.1))[j]?≠some f)->(putF f v kvs).map (·.1)=kvs.map (·.1)/\(putF f v kvs).map (·.2)=(kvs.map (·.2)).set i v
 |[],_,h,_=>by simp at h
 | (g, x) :: r, 0, h, _ => by
   simp at h;subst h;simp[putF]
 | (g, x) :: r, i + 1, h1, h2 => by
   have hg:g≠f:=fun z=>h2 0 (by omega) (by simp[z]);have:=UJ (v:=v) (kvs:=r) (i:=i) (by simpa using h1) (fun j hj=>by have:=h2 (j+1) (by omega);simpa using this);simp[putF,hg,this.1,this.2]
end
section
variable{X:Cx}
theorem yB{e:Expr}{n:Str}{pos:Pos}{f:FP}{ix:List (Nat×Nat)}(hF:FldOk X.K n ix)(he:PVp X e f)(hb:eJ e n X.env (bT e X.env)=bT e X.env:=by rfl):PVp X (.Attribute e n pos) (atP ix f):=by
 obtain⟨t,ht,hf⟩:=he;refine⟨_,aCy ht hb,fun H₀ H O σ ds hd q Q o e h=>?_⟩;unfold atP at e;obtain⟨q0,h1,e⟩:=bnd e;refine hf H₀ H O σ ds hd q0 _ o h1 fun r T v w fs g1 g2 g3 g4 g5=>?_;cases hu:q0.2.2 with
 | ins c l =>
   rw[hu] at e g5;simp only at e;obtain⟨k,hl,e⟩:=bnd e;obtain⟨u,hk,rfl⟩:=mpd e;cases g5 with
   | @ins a C dx _ kvs _ fs' hc n ha ek rs =>
     obtain⟨y1,y2,y3⟩:=hF c k hl;obtain⟨cl,na⟩:=y3 C hc;obtain⟨x,f2,z1,z2⟩:=rs.nth hk;refine⟨a,C,dx,kvs,x,rfl,ha,cl,na,vP (i:=k) (by rw[ek];exact y1) (by rw[ek];exact y2) z1,h r T v x f2 g1 ?_ g3 (JJ g4 (.ins ha) z1) z2⟩;rw[wY,g2,hu];simp[subO,hk]
 |_=>rw[hu] at e;cases e
theorem yO{e:Expr}{f:FP}(he:PVp X e f):PV X e (valP f):=by
 obtain⟨t,ht,hf⟩:=he;refine⟨t,ht,(5:)⟩;unfold valP at e;obtain⟨q0,h1,e⟩:=bnd e;refine hf H₀ H O σ ds hd q0 _ o h1 fun r T v w fs g1 g2 g3 g4 g5=>?_;cases hu:q0.2.2 with
 | val d' =>
   rw[hu] at e g5;cases e;cases g5 with
   |val r5=>exact q w H (Same.refl _) r5
 |_=>rw[hu] at e;cases e
theorem NS{e:Expr}{f:FP}(he:PVp X e f):PVn X e (seeP f):=by
 obtain⟨t,ht,hf⟩:=he;refine⟨t,ht,(5:)⟩;unfold seeP at e;obtain⟨q0,h1,rfl⟩:=mpd e;exact hf H₀ H O σ ds hd q0 _ o h1 fun r T v w fs g1 g2 g3 g4 g5=>q w H (Same.refl _) g5.any
theorem xI{oe e:Expr}{n:Str}{pos pos':Pos}{f:FP}{g:FO}{ix:List (Nat×Nat)}(hF:FldOk X.K n ix)(ho:PVp X oe f)(he:PVo X e g)(hs:dF e (some (.Attribute oe n pos')) pos.line X.env=pure false:=by rfl) :
  PSv X (.Assign [.Attribute oe n pos'] e pos) (setAt ix f g):=by
 obtain⟨tp,hp,hfp⟩:=ho;obtain⟨tv,hv,hg⟩:=he;refine⟨_,RQ hp hv hs,(3:)⟩;unfold setAt at e;obtain⟨T,h1,e⟩:=bnd e;obtain⟨q,h2,e⟩:=bnd e;refine hg H₀ H O σ ds hd T _ o h1 fun v H1 fs s1 r1 nd1 n1=>?_;have o1:Ok X.K H₀ H1 (orL fs O) σ ds hd:=o.moreL s1 n1 fun b hb=>(r1.owns b hb).2;refine hfp H₀ H1 (orL fs O) σ ds hd q _ o1 h2 fun r T0 v0 w fs0 g1 g2 g3 g4 g5=>?_;obtain⟨v',w',f',y1,y2,y3,y4,y5,y6⟩:=o.modAt g1 g2;rw[g3] at y1;cases y1;cases yS g4 (yF s1 y2);cases hq:q.2.2 with
 | ins t l =>
   rw[hq] at y3 e;simp only at e;obtain⟨k,hl,e⟩:=bnd e
   split at e
   . rename_i hk;cases e;cases y3 with
     | @ins a C dx _ kvs _ fs' c na ha ek rs =>
       obtain⟨z1,z2,z3⟩:=hF t k hl;obtain⟨cl,nat⟩:=z3 C c;have ln:kvs.length=l.length:=by simpa using rs.length
       refine⟨a,C,dx,kvs,rfl,s1 _ _ ha,cl,nat,by omega,?_⟩;obtain⟨pre,f0,post,e0,put⟩:=rs.put (cC hk.1);subst e0;obtain⟨n3,n4⟩:=bZ.mp y4;obtain⟨nf,nfr,nre⟩:=JL n4
       have old:∀b,H b=none->b∉a::(pre++(f0++post)):=fun b hb z=>by
        rcases aE.mp z with z | z
        . rw[z,ha] at hb;cases hb
        . obtain⟨_, x, ex⟩ := rs.owns b z;rw[hb] at ex;cases ex
       have afs:a∉fs:=fun z=>by rw[n1 a z] at ha;cases ha
       obtain⟨p1,p2⟩:=UJ (f:=n) (v:=v) (kvs:=kvs) (i:=k) (by rw[ek];exact z1) (by rw[ek];exact z2);have hs':∀b u,b≠a->H b=some u->upd H1 a (.ins C dx (putF n v kvs)) b=some u:=fun b u nb eb=>by rw[L2.upd_ne nb];exact s1 _ _ eb
       have nO:∀{b:aA},¬O b->b≠a:=fun nb z=>nb (by rw[z];exact na)
       have c0:Chg H (upd H1 a (.ins C dx (putF n v kvs))) O (orL fs O) [a] (a::fs):=
        ⟨fun b u nb eb=>hs' b u (nO nb) eb,fun b u _ nb eb=>hs' b u (fun z=>nb (by rw[z];exact .head _)) eb,fun b z _=>.inr z,fun b z=>z.elim (fun z=>.inr ⟨.tail _ z,n1 b z⟩) .inl,fun b z=>(aE.mp z).elim (fun z=>.inl (by rw[z];exact .head _)) fun z=>.inr (n1 b z)⟩
       have rT:RepO X.K (upd H1 a (.ins C dx (putF n v kvs))) (orL fs O) v T fs:=r1.keep (fun b u nb eb=>by rw[L2.upd_ne (nO fun z=>nb (.inr z))];exact eb) fun b hb u eb=>by
        have z:b≠a:=fun z=>afs (by rw[<- z];exact hb);rw[L2.upd_ne z];exact eb
       have rs':=put rT fun y s e hy hb=>c0.repO hy fun b hb' z=>n3 (by
        rw[<- aR.mp z]
        exact(hb b hb').elim (fun z=>aU _ z) fun z=>aG _ (aG _ z))
       have ok:=y6 (H':=upd H1 a (.ins C dx (putF n v kvs))) (O':=orL fs O) (u':=.ins t (l.set k T)) (f':=a::(pre++(fs++post)))
        ⟨fun b u nb eb=>hs' b u (nO nb) eb,fun b u _ nb eb=>hs' b u (fun z=>nb (by rw[z];exact .head _)) eb,fun b z _=>.inr z,fun b z=>z.elim (fun z=>.inr ⟨.tail _ (aG _ (aU _ z)),n1 b z⟩) .inl,fun b z=>?_⟩
        (fun b z _=>?_) (.ins c (.inr na) bM (p1.trans ek) (by rw[p2];exact rs')) (bZ.mpr ⟨fun z=>?_,nre fs nd1 fun b z=>.inr ?_⟩)
       . have e' : putP q (.ins t (l.set k T)) ds = ds.set q.1 (.ob r (putO (.ins t (l.set k T)) q.2.1 T0)) := by simp [putP, g1]
         rw[e'] at h;exact h _ _ _ ok
       . rcases aE.mp z with z | z
         . exact .inl (by rw[z];exact .head _)
         . rcases cA.mp z with z | z
           . exact .inl (.tail _ (aU _ z))
           . rcases cA.mp z with z | z
             . exact .inr (n1 b z)
             . exact .inl (.tail _ (aG _ (aG _ z)))
       . by_cases z' : b = a
         . rw[z',bM];exact⟨⟨.ins C dx (putF n v kvs),rfl⟩,rfl⟩
         . rcases aE.mp z with q' | q'
           . exact(z' q').elim
           . obtain⟨_, y, ey⟩ := rs.owns b q';exact⟨y,hs' b _ z' ey⟩
       . rcases cA.mp z with z | z
         . exact n3 (aU _ z)
         . rcases cA.mp z with z | z
           . exact afs z
           . exact n3 (aG _ (aG _ z))
       . have := old b (n1 b z);exact⟨fun y=>this (.tail _ (aU _ y)),fun y=>this (.tail _ (aG _ (aG _ y)))⟩
   . cases e
 |_=>rw[hq] at e;cases e
theorem RepsO.snoc{K:Frag}{H:Hp}{O:aA->Prop}:∀{xs:List V} {ts:List OT} {fs:List aA} {v:V} {d:D},RepsO K H O xs ts fs->Rep K H O v d->RepsO K H O (xs++[v]) (ts++[.val d]) fs
 |_,_,_,_,_,.nil,r=>.cons (fs:=[]) (gs:=[]) (.val r) .nil
 |_,_,_,_,_,.cons h t,r=>.cons h (RepsO.snoc t r)
theorem Ok.putL{K:Frag}{H₀ H:Hp}{O:aA->Prop}{σ : L2.St}{ds:List Sl}{hd:Hold}{i:Nat}{r:Option Nat}{T:OT}{p:List Nat}{l l':List OT}{a:aA}{v:V}{ys:List V}(o:Ok K H₀ H O σ ds hd)(e:ds[i]?=some (.ob r T))(hs:subO p T=some (.lst l))(hv : σ[i]?=some (some v))(hp:PathV H v p (.ref a))(h:∀xs fs,H a=some (.lst xs)->O a->RepsO K H O xs l fs->fs.Nodup->a∉fs->∃fs',(∀b∈fs',b∈fs)/\fs'.Nodup/\∀{H':Hp},Chg H H' O O [a] [a]->RepsO K H' O ys l' fs'):Ok K H₀ (upd H a (.lst ys)) O σ (ds.set i (.ob r (putO (.lst l') p T))) hd:=by
 obtain⟨v',w',f,y1,y2,y3,y4,y5,y6⟩:=o.modAt e hs;rw[hv] at y1;cases y1;cases yS hp y2;cases y3 with
 | @lst _ xs _ fs n hb rs =>
   obtain⟨n3,n4⟩:=bZ.mp y4;obtain⟨fs',w1,w2,w3⟩:=h xs fs hb n rs n4 n3;refine y6 (f':=a::fs') (.ofUpd n (.head _) fun b z=>(aE.mp z).elim (fun z=>by rw[z];exact .head _) fun z=>.tail _ (w1 b z)) (fun b z _=>?_) (.lst n bM (w3 (.ofUpd n (.head _) fun _ z=>z))) (bZ.mpr ⟨fun z=>n3 (w1 _ z),w2⟩)
   by_cases z':b=a
   . rw[z',bM];exact⟨⟨.lst ys,rfl⟩,rfl⟩
   . rw [upd_ne z'];rcases aE.mp z with q' | q'
     . exact(z' q').elim
     . exact(rs.owns b q').2
theorem Chg.repsO{K:Frag}{H H':Hp}{O O':aA->Prop}{f f':List aA}(c:Chg H H' O O' f f'):∀{v:List V} {t:List OT} {e:List aA},RepsO K H O v t e->(∀b∈e,b∉f)->RepsO K H' O' v t e
 |_,_,_,.nil,_=>.nil
 |_,_,_,.cons h r,he=>.cons (c.repO h fun b z=>he b (aU _ z)) (Chg.repsO c r fun b z=>he b (aG _ z))
theorem EV{oe e:Expr}{pos p2 p3:Pos}{f:FP}{fe:FE}(ho:PVp X oe f)(he:PV X e fe)(hfew:((cP p3 (aF [e] X.env)).all (fun x=>!x.1)&&(fN p3 (dJ [] X.env)).all (fun x=>x.1.isSome)
    && decide ([e].length+([]:List sJ).length+(if ([]:List sJ).isEmpty then 0 else 1)<30))=true:=by rfl)(hline:(p2.endLine==p3.line)=true:=by rfl)(hs:aF [e] X.env=(false,bT e X.env)::aF [] X.env:=by rfl)(hbase:eJ oe "append" X.env (bT oe X.env)=bT oe X.env:=by rfl)(hsw:dF (.Call (.Attribute oe "append" p2) [e] [] p3) none pos.line X.env=pure false:=by rfl) :
  PSv X (.Expr (.Call (.Attribute oe "append" p2) [e] [] p3) pos) (appP f fe):=by
 obtain⟨tp,hp,hf⟩:=ho;obtain⟨te,pe,he⟩:=he;refine⟨_,xC (aDa iM HE HD JN hp (qY pe jW hs) hbase hfew hline hs rfl) hsw,(3:)⟩;unfold appP at e;obtain⟨q,h1,e⟩:=bnd e;obtain⟨d,h2,e⟩:=bnd e;refine hf H₀ H O σ ds hd q _ o h1 fun r T v w fs g1 g2 g3 g4 g5=>?_;cases hq:q.2.2 with
 | lst l =>
   rw[hq] at e g2 g5;simp only at e
   split at e
   . rename_i hl;cases e;cases g5 with
     | @lst a xs _ fs' n hb rs =>
       refine⟨.inl ⟨rfl,xs,SqL.of hb⟩,?_⟩;refine he H₀ H O σ ds hd d _ o h2 fun v1 H1 s1 r1=>?_;refine⟨a,xs,v1,rfl,rfl,s1 _ _ hb,by rw[rs.length];exact hl,?_⟩
       have ok:=(o.mono s1).putL (l':=l++[.val d]) (ys:=xs++[v1]) g1 g2 g3 (yF s1 g4) fun xs2 fs2 k1 k2 k3 k4 k5=>⟨fs2,fun _ z=>z,k4,fun {H'} c=>by
        rw[s1 _ _ hb] at k1;cases k1
        exact(c.repsO k3 fun b z y=>k5 (aR.mp y▸z)).snoc (c.rep r1)⟩
       have e':putP q (.lst (l++[.val d])) ds=ds.set q.1 (.ob r (putO (.lst (l++[.val d])) q.2.1 T)):=by simp[putP,g1]
       rw[e'] at h;exact h _ _ _ ok
   . cases e
 |_=>rw[hq] at e;cases e
end
section
variable{K:Frag}{H H' H₀ : Hp}{O O':aA->Prop}
mutual
theorem RepO.frz:∀{v:V} {t:OT} {fs:List aA},RepO K H O v t fs->(∀a,O' a->O a/\a∉fs)->Rep K H O' v (otD t)
 |_,_,_,.val r,h=>r.less fun a z=>(h a z).1
 |_,_,_,.lst n hh r,h=>by unfold otD;exact .lst (fun z=>(h _ z).2 (.head _)) (.inl hh) (RepsO.frz r fun a z=>⟨(h a z).1,fun y=>(h a z).2 (.tail _ y)⟩)
 |_,_,_,.tup n hh r,h=>by unfold otD;exact .tup (fun z=>n (h _ z).1) hh (RepsO.frz r h)
 |_,_,_,.dct n hh e r,h=>by unfold otD;exact .dct (fun z=>(h _ z).2 (.head _)) hh e (RepsO.frz r fun a z=>⟨(h a z).1,fun y=>(h a z).2 (.tail _ y)⟩)
 |_,_,_,.ins c n hh e r,h=>by unfold otD;exact .ins c (fun z=>(h _ z).2 (.head _)) hh e (RepsO.frz r fun a z=>⟨(h a z).1,fun y=>(h a z).2 (.tail _ y)⟩)
theorem RepsO.frz:∀{v:List V} {t:List OT} {fs:List aA},RepsO K H O v t fs->(∀a,O' a->O a/\a∉fs)->Reps K H O' v (otDs t)
 |_,_,_,.nil,_=>by unfold otDs;exact .nil
 |_,_,_,.cons hh r,h=>by unfold otDs;exact .cons (RepO.frz hh fun a z=>⟨(h a z).1,fun y=>(h a z).2 (aU _ y)⟩) (RepsO.frz r fun a z=>⟨(h a z).1,fun y=>(h a z).2 (aG _ y)⟩)
end
theorem Ok.frz{σ : L2.St}{ds:List Sl}{hd:Hold}{i:Nat}{r:Option Nat}{T:OT}(o:Ok K H₀ H O σ ds hd)(e:ds[i]?=some (.ob r T)):∃O',Ok K H₀ H O' σ (ds.set i (.v (otD T))) hd:=by
 obtain⟨F,hF⟩:=o.obs;obtain⟨v,h1,h2,h3,h4,h5⟩:=hF i r T e;have hl:i<ds.length:=(aT.mp e).1
 let O':aA->Prop:=fun b=>O b/\b∉F i
 have sub:∀b,O' b->O b:=fun b hb=>hb.1;have own':∀{j:Nat},IsOwn (ds.set i (.v (otD T))) j->IsOwn ds j/\j≠i:=fun h=>xD (fun l=>by intro z;cases z) h;refine⟨O',o.same,fun j l' b e1 e2=>?_,fun b hb=>o.dom b (sub b hb),by simpa using o.len,fun j s es=>?_,fun j m b hjm hj hm e1 e2=>o.apart j m b hjm (own' hj).1 (own' hm).1 e1 e2,fun p hp=>?_,?_⟩
 . obtain⟨⟨l2, e2'⟩, _⟩ := own' ⟨l', e1⟩;exact o.fresh j l2 b e2' e2
 . by_cases hj : j = i
   . subst hj;rw[aK hl] at es;cases es;rw[h1];exact jZ (h2.frz fun a z=>z)
   . rw [aB (Ne.symm hj)] at es;cases s with
     |no=>exact jA
     |ob r t=>exact yG
     | exc t =>
       obtain⟨a',C',ob',u',q1,q2,q3,q4⟩:=o.readX es;rw[q1];exact⟨C',ob',u',q2,q3,q4⟩
     | fr l' =>
       obtain⟨a',xs',q1,q2,q0,q3,q4⟩:=o.readF es;rw[q1];exact⟨fun z=>q2 (sub _ z),q0,xs',q3,q4.less sub⟩
     | v d =>
       obtain⟨v,q1,q2⟩:=o.read es;rw[q1];exact jZ (q2.less sub)
     | own l' =>
       obtain⟨b,ys,q1,q2,q3,q4⟩:=o.readO es;rw[q1];exact⟨⟨q2,fun z=>(h5 b z).2.2 j ⟨l',es⟩ q1⟩,ys,q3,q4.less sub⟩
 . have := o.hold p hp;cases p with
   |rep v d=>exact Rep.less sub this
   |base B=>exact fun b hb=>⟨⟨(this b hb).1,fun z=>(this b hb).2 (h5 b z).1⟩,(this b hb).2⟩
   |root k a=>exact True.intro
   |fz a' o' kvs' l'=>exact⟨fun z=>this.1 (sub _ z),this.2.1,Reps.less sub this.2.2⟩
 . refine⟨F, fun j r' t' ej => ?_⟩;obtain⟨ej,hj⟩:=xY (fun r t=>by intro z;cases z) ej;obtain⟨w,g1,g2,g3,g4,g5⟩:=hF j r' t' ej;refine⟨w,g1,g2.less sub fun b hb=>⟨(g2.owns b hb).1,fun z=>(h5 b z).2.1 j r' t' hj ej hb⟩,g3,g4,fun b hb=>⟨(g5 b hb).1,fun m r2 t2 hm em=>(g5 b hb).2.1 m r2 t2 hm (xY (fun r t=>by intro z;cases z) em).1,fun m om em=>(g5 b hb).2.2 m (own' om).1 em⟩⟩
end
section
variable{X:Cx}
end
noncomputable def spL(K:Frag)(n:Nat)(F:OT->List D->Option OT):Sp:=fun vs H Q _=>∃(a:aA) (T T':OT) (fs:List aA) (B:aA->Prop) (vs':List V) (l:List D),vs=.ref a::vs'/\vs'.length=n/\RepO K H (orL fs B) (.ref a) T fs/\fs.Nodup ∧
 (∀b,B b->b∉fs/\∃u:MutHO,H b=some u.1)/\Reps K H (orL fs B) vs' l/\F T l=some T' ∧
 ∀H' fs',(∀b u,b∉fs->H b=some u->H' b=some u)->RepO K H' (orL fs' B) (.ref a) T' fs'->fs'.Nodup->(∀b∈fs',b∈fs\/H b=none)->Q .non H'
noncomputable def cutH(fs:List aA)(H:Hp):Hp:=fun b=>if b∈fs then none else H b
theorem DT{fs:List aA}{H:Hp}{b:aA}(h:b∈fs):cutH fs H b=none:=if_pos h
theorem yX{fs:List aA}{H:Hp}{b:aA}(h:b∉fs):cutH fs H b=H b:=if_neg h
theorem KG{fs:List aA}{H:Hp}{b:aA}(h:cutH fs H b=none):b∈fs\/H b=none:=by
 by_cases z:b∈fs
 . exact .inl z
 . rw[yX z] at h;exact .inr h
theorem BI{n:Nat}{T:OT}{l:List D}{i:Nat}:¬IsOwn (argsL n T l) i:=fun⟨l',e⟩=>by
 unfold argsL at e;cases i with
 |zero=>cases e
 | succ i =>
   rw[dL] at e;unfold args at e
   by_cases hi:i<l.length
   . rw [bN (by simpa using hi), bA] at e;cases h:l[i]? with
     |none=>rw[h] at e;cases e
     |some d=>rw[h] at e;cases e
   . rw [cW (by simpa using hi), cV] at e
     split at e<;>cases e
theorem XH{K:Frag}{H:Hp}{N:List Str}{a:aA}{T:OT}{fs:List aA}{B:aA->Prop}{vs:List V}{l:List D}(rt:RepO K H (orL fs B) (.ref a) T fs)(nd:fs.Nodup)(hB:∀b,B b->b∉fs/\∃u:MutHO,H b=some u.1)(r:Reps K H (orL fs B) vs l)(hN:0<N.length) :
  Ok K (cutH fs H) H (orL fs B) (L2.start N (.ref a::vs)) (argsL N.length T l) [.root 0 a,.base B]:=by
 have hl:=r.length;refine⟨fun b u e=>?_,fun i l' a' e _=>(BI ⟨l',e⟩).elim,fun b hb=>hb.elim (fun z=>(rt.owns b z).2) fun z=>(hB b z).2,?_,fun i s e=>?_,fun i j a _ hi _ _ _=>(BI hi).elim,fun p hp=>?_,?_⟩
 . by_cases z : b ∈ fs
   . rw[DT z] at e;cases e
   . rwa [yX z] at e
 . simp only[L2.start, argsL, args, cE, bO, rG, aM, hl];omega
 . unfold argsL at e;cases i with
   |zero=>cases e;exact yG
   | succ i =>
     rw[dL] at e
     have eσ : (L2.start N (.ref a::vs))[i+1]?=(vs.map some++List.replicate (N.length-(vs.length+1)) none)[i]?:=by
      simp only[L2.start,bI,gI,dL,aM]
     rw[eσ];unfold args at e
     by_cases hi:i<l.length
     . rw[bN (by simpa using hi), bA] at e;rw[bN (by simpa[hl] using hi),bA];obtain⟨d,h,rfl⟩:=mpd e;obtain⟨v,h1,h2⟩:=r.get h;rw[h1];exact jZ h2
     . rw [cW (by simpa using hi), cV] at e
       split at e
       . cases e;exact jA
       . cases e
 . rcases aE.mp hp with rfl | hp
   . exact True.intro
   . cases aR.mp hp;refine fun b hb=>⟨.inr hb,fun z=>?_⟩
     obtain⟨n,u,e⟩:=hB b hb;rw[yX n,e] at z;cases z
 . refine ⟨fun i => if i = 0 then fs else [], fun i r' t' e => ?_⟩;cases i with
   | succ i =>
     unfold argsL at e;rw[dL] at e;exact(VX _ _ _ _ _ e).elim
   | zero =>
     unfold argsL at e;cases e;refine⟨.ref a,rfl,by simpa using rt,fun k a' ek h=>?_,by simpa using nd,fun b hb=>⟨DT (by simpa using hb),fun j r2 t2 hj _=>by simp[hj],fun j oj=>(BI oj).elim⟩⟩;cases ek;rcases aE.mp h with h | h
     . cases h;rfl
     . cases aR.mp h
theorem PR{P:aW}{w:bR}{K:Frag}{mg:Str->Option Value}{base:Heap}{qual:Str}{st:Stmt}{f:aA}{fd:aJ}{N ps:List Str}{k n:Nat}{F:OT->List D->Option OT}(hok:∀sp:Sp,(∀vs H Q E,sp vs H Q E->vs.length=ps.length)->(∀(cdv:Value) (A:bL) (outer:List Env) (s:aD) (H:Hp) (vs:List V) (Q:VK) (E:XK),Room k (A.deeper (fY qual (zE st) s.heap.objs.size f cdv))->sp vs H Q E->∃t,PSs (7:).nox (qL st) t/\t { nx:=fun _ H'=>Q .non H',rt:=Q } (start N vs) H)->FnOk P w K mg base CX0 (k+1) f fd ps sp){g:FS}(hbody:∀(cdv:Value) (A:bL) (outer:List Env) (s:aD) (H:Hp) (E:XK),Room k (A.deeper (fY qual (zE st) s.heap.objs.size f cdv))->PSsv (7:).nox (qL st) g)(hg:∀T l T',l.length=n->F T l=some T'->lentF g N.length T l=some T')(hn:ps.length=n+1:=by rfl)(hN:0<N.length:=by decide):FnOk P w K mg base CX0 (k+1) f fd ps (spL K n F):=by
 refine hok _ (fun vs H Q E h=>?_) (fun cdv A outer s H vs Q E hr h=>?_)
 . obtain⟨a, T, T', fs, B, vs', l, rfl, hl, _⟩ := h;simp only[aM];omega
 . obtain ⟨a, T, T', fs, B, vs', l, rfl, hl, rt, nd, hB, ra, e, q⟩ := h;obtain ⟨t,ht,hf⟩:=hbody cdv A outer s H E hr;refine ⟨t,ht,?_⟩;have o:=XH (N:=N) rt nd hB ra hN;have e:=hg T l T' (by rw [<- ra.length]; exact hl) e;unfold lentF at e;cases h1:g (argsL N.length T l) with
   |none=>rw[h1] at e;cases e
   | some out =>
     rw[h1] at e;cases out with
     | nx ds =>
       simp only at e;cases h2:ds[0]? with
       |none=>rw[h2] at e;cases e
       | some s0 =>
         rw[h2] at e;cases s0 with
         | ob r T2 =>
           have hr0:r=some 0/\T2=T':=by
            cases r with
            |none=>cases e
            | some i =>
              cases i with
              |zero=>cases e;exact⟨rfl,rfl⟩
              |succ i=>cases e
           obtain⟨rfl,rfl⟩:=hr0;refine hf _ H _ _ _ _ _ _ o h1 (fun σ H' O' o'=>?_);obtain⟨F',hF⟩:=o'.obs;obtain⟨v,y1,y2,y3,y4,y5⟩:=hF 0 _ _ h2;cases y3 0 a rfl (.head _);have hb:=o'.hold (.base B) (.tail _ (.head _));exact q H' (F' 0) (fun b u nb eb=>o'.same b u (by rw[yX nb];exact eb)) (y2.less (fun b z=>z.elim (fun z=>(y2.owns b z).1) fun z=>(hb b z).1) fun b z=>.inl z) y4 fun b z=>KG (y5 b z).1
         |_=>cases e
     |_=>cases e
theorem vC{P:aW}{w:bR}{K:Frag}{mg:Str->Option Value}{base:Heap}{x qual:Str}{st:Stmt}{f:aA}{fd:aJ}{N ps:List Str}{k n:Nat}{F:OT->List D->Option OT}(Fn:Fun K x qual st f fd)(S:FnScope N ps (zE st)){g:FS}(hbody:∀(cdv:Value) (A:bL) (outer:List Env) (s:aD) (H:Hp) (E:XK),Room k (A.deeper (fY qual (zE st) s.heap.objs.size f cdv))->PSsv (7:).nox (qL st) g)(hg:∀T l T',l.length=n->F T l=some T'->lentF g N.length T l=some T')(hn:ps.length=n+1:=by rfl)(hN:0<N.length:=by decide):FnOk P w K mg base CX0 (k+1) f fd ps (spL K n F):=by
 exact PR (fun sp a b=>Fn.ok S a b) hbody hg hn hN
structure LCal(P:aW)(w:bR)(K:Frag)(mg:Str->Option Value)(base:Heap)(m:Str)(k n:Nat)(cs:List Nat)(F:Nat->OT->List D->Option OT):Prop where
 no:∀t∈cs,m∉cQ t
 of:∀t∈cs,∀C,aI K aH (dD t)=some (some (.ref C))->∃(f:aA) (fd:aJ) (ps:List Str),Cls K C/\Meth K C m f/\FnOk P w K mg base CX0 k f fd ps (spL K n (F t))/\Binds K fd ps []
theorem xU{P:aW}{w:bR}{K:Frag}{mg:Str->Option Value}{base:Heap}{m:Str}{k n:Nat}{F:Nat->OT->List D->Option OT}: LCal P w K mg base m k n [] F:=⟨fun _ h=>(nomatch h),fun _ h=>(nomatch h)⟩
theorem wM{P:aW}{w:bR}{K:Frag}{mg:Str->Option Value}{base:Heap}{m:Str}{j k n t:Nat}{cs:List Nat}{F:Nat->OT->List D->Option OT}{C f:aA}{fd:aJ}{ps:List Str}(a:aI K aH (dD t)=some (some (.ref C)))(c:Cls K C)(hm:Meth K C m f)(G:FnOk P w K mg base CX0 j f fd ps (spL K n (F t)))(hj:j<=k)(b:Binds K fd ps [])(hn:m∉cQ t)(h:LCal P w K mg base m k n cs F):LCal P w K mg base m k n (t::cs) F:=by
 refine⟨fun t' ht=>(aE.mp ht).elim (fun e=>e▸hn) (h.no t'),fun t' ht C' e=>?_⟩;rcases aE.mp ht with rfl | ht
 . rw[a] at e;cases e;exact⟨f,fd,ps,c,hm,G.mono hj,b⟩
 . exact h.of t' ht C' e
section
variable{X:Cx}{m:Str}{k j n:Nat}{cs:List Nat}{F:Nat->OT->List D->Option OT}{oe e:Expr}{es:List Expr}{apos pos pos':Pos}{f:FP}{g:FA}
theorem PH(M:LCal X.prog X.w X.K X.mg X.base m k n cs F){ta:TE}{t:TA}(hf:∀H₀ H O σ ds hd q Q,Ok X.K H₀ H O σ ds hd->f ds=some q->(∀r T v w fs,ds[q.1]?=some (.ob r T)->subO q.2.1 T=some q.2.2->σ[q.1]?=some (some v)->PathV H v q.2.1 w->RepO X.K H O w q.2.2 fs->Q w H)->ta σ H Q)(hfg:∀H₀ H O σ ds hd l Q,Ok X.K H₀ H O σ ds hd->g ds=some l->(∀vs H',Same H H'->Reps X.K H' O vs l->Q vs H')->t σ H Q){H₀ H:Hp}{O:aA->Prop}{σ : L2.St}{ds ds':List Sl}{hd:Hold}{Q:VK}(o:Ok X.K H₀ H O σ ds hd)(h1:lentG n cs F f g ds=some (.nx ds'))(q:∀H' O',Ok X.K H₀ H' O' σ ds' hd->Q .non H'):KY X m k ta t σ H Q:=by
 unfold lentG at h1;obtain⟨q0,h2,h1⟩:=bnd h1;obtain⟨l,h3,h1⟩:=bnd h1;refine hf H₀ H O σ ds hd q0 _ o h2 fun r T v w fs g1 g2 g3 g4 g5=>?_;cases hu:q0.2.2 with
 | ins c ts =>
   rw[hu] at h1 g5 g2;simp only at h1
   split at h1
   . rename_i hc;cases h4:F c (.ins c ts) l with
     |none=>rw[h4] at h1;cases h1
     | some T' =>
       rw[h4] at h1;cases h1;cases g5 with
       | @ins a C dx _ kvs _ fs' cc nn ha ek rr =>
         obtain⟨fa,fd,ps,cl,hm,Fn,hb⟩:=M.of c hc.1 C cc;refine⟨a,C,dx,kvs,fa,fd,ps,_,rfl,ha,jG (by rw[ek];exact M.no c hc.1),cl,hm,Fn,hb,?_⟩;refine hfg H₀ H O σ ds hd l _ o h3 fun vs H2 s2 r2=>?_;have o2:=o.mono s2;obtain⟨v',w',f',y1,y2,y3,y4,y5,y6⟩:=o2.modAt g1 g2;rw[g3] at y1;cases y1;cases yS (yF s2 g4) y2;have ow:∀b∈f',O b:=fun b z=>(y3.owns b z).1
         let B:aA->Prop:=fun b=>O b/\b∉f'
         have toO:∀b,orL f' B b->O b:=fun b z=>z.elim (ow b) fun z=>z.1;refine⟨a,_,T',f',B,vs,l,rfl,by rw[r2.length];exact hc.2,y3.less toO (fun b z=>.inl z),y4,fun b z=>⟨z.2,o2.dom b z.1⟩,r2.less toO,h4,fun H' fs2 k1 k2 k3 k4=>?_⟩;have e':putP q0 T' ds=ds.set q0.1 (.ob r (putO T' q0.2.1 T)):=by simp[putP,g1]
         rw[e'] at q;refine q H' (orL fs2 B) (y6 ⟨fun b u nb eb=>k1 b u (fun z=>nb (ow b z)) eb,fun b u _ nb eb=>k1 b u nb eb,fun b z nb=>.inr ⟨z,nb⟩,fun b z=>z.elim (fun z=>(k4 b z).elim (fun y=>.inl (ow b y)) fun y=>.inr ⟨z,y⟩) fun z=>.inl z.1,k4⟩ (fun b z y=>y.elim (fun y=>(k2.owns b y).2) fun y=>(y.2 z).elim) k2 k3)
   . cases h1
 |_=>rw[hu] at h1;cases h1
theorem wQ{pl:Sem Bool}(M:LCal X.prog X.w X.K X.mg X.base m k n cs F)(hr:Room j X.A)(ho:PVp X oe f)(ha:PAs X (e::es) g)(hj:k<=j:=by decide)(hst:aF (e::es) X.env=(false,bT e X.env)::aF es X.env:=by rfl)(hpl:(cP pos (aF es X.env)).any (·.1)=false:=by rfl)(ht:bT (.Call (.Attribute oe m apos) (e::es) [] pos) X.env=(do
    let ov <- bT oe X.env
    fO apos.atName
    let (f,first) <- eC [ov] (fH ov m pl)
    hW pos f first (cP pos (aF (e::es) X.env)) (fN pos (dJ [] X.env))):=by rfl)(hsw:dF (.Call (.Attribute oe m apos) (e::es) [] pos) none pos'.line X.env=pure false:=by rfl):PSv X (.Expr (.Call (.Attribute oe m apos) (e::es) [] pos) pos') (lentG n cs F f g):=by
 obtain⟨ta,pa,hf⟩:=ho;obtain⟨t,pt,hfg⟩:=ha;refine⟨_,xC (EY (pl:=pl) (k:=k) pa (hr.mono hj) pt hst hpl ht) hsw,(3:)⟩
 have:∃ds',out=.nx ds':=by
  unfold lentG at e;obtain⟨q0,h2,e⟩:=bnd e;obtain⟨l,h3,e⟩:=bnd e
  split at e
  . split at e
    . rename_i c ts _ _;cases h4:F c (.ins c ts) l with
      |none=>rw[h4] at e;cases e
      |some T'=>rw[h4] at e;cases e;exact⟨_,rfl⟩
    . cases e
  . cases e
 obtain⟨ds',rfl⟩:=this;exact PH M hf hfg o e fun H' O' o'=>h _ _ _ o'
theorem kD{pl:Sem Bool}(M:LCal X.prog X.w X.K X.mg X.base m k 0 cs F)(hr:Room j X.A)(ho:PVp X oe f)(hj:k<=j:=by decide)(ht:bT (.Call (.Attribute oe m apos) [] [] pos) X.env=(do
    let ov <- bT oe X.env
    fO apos.atName
    let (f,first) <- eC [ov] (fH ov m pl)
    hW pos f first (cP pos (aF [] X.env)) (fN pos (dJ [] X.env))):=by rfl)(hsw:dF (.Call (.Attribute oe m apos) [] [] pos) none pos'.line X.env=pure false:=by rfl):PSv X (.Expr (.Call (.Attribute oe m apos) [] [] pos) pos') (lentG 0 cs F f zM):=by
 obtain⟨ta,pa,hf⟩:=ho;refine⟨_,xC (AQ (pl:=pl) (k:=k) pa (hr.mono hj) ht) hsw,(3:)⟩
 have:∃ds',out=.nx ds':=by
  unfold lentG at e;obtain⟨q0,h2,e⟩:=bnd e;simp only[aQ,zM] at e
  split at e
  . split at e
    . rename_i c ts _ _;cases h4:F c (.ins c ts) [] with
      |none=>rw[h4] at e;cases e
      |some T'=>rw[h4] at e;cases e;exact⟨_,rfl⟩
    . cases e
  . cases e
 obtain⟨ds',rfl⟩:=this;exact PH M hf (fun H₀ H O σ ds hd l Q o e q=>by cases e;exact q [] H (Same.refl _) .nil) o e fun H' O' o'=>h _ _ _ o'
end
section
variable{K:Frag}{H H' H₀ : Hp}{O O':aA->Prop}
theorem Ok.putN{σ : L2.St}{ds:List Sl}{hd:Hold}{i:Nat}{r:Option Nat}{T u u':OT}{p:List Nat}{a:aA}{v:V}(y:MutHO)(o:Ok K H₀ H O σ ds hd)(e:ds[i]?=some (.ob r T))(hs:subO p T=some u)(hv : σ[i]?=some (some v))(hp:PathV H v p (.ref a))(h:∀f,RepO K H O (.ref a) u f->f.Nodup->∃f',O a/\a∈f/\(∀b∈f',b∈f)/\f'.Nodup/\RepO K (upd H a y.1) O (.ref a) u' f'):Ok K H₀ (upd H a y.1) O σ (ds.set i (.ob r (putO u' p T))) hd:=by
 obtain⟨v',w',f,y1,y2,y3,y4,y5,y6⟩:=o.modAt e hs;rw[hv] at y1;cases y1;cases yS hp y2;obtain⟨f',n,h1,h2,h3,h4⟩:=h f y3 y4;refine y6 (f':=f') (.ofUpd n h1 h2) (fun b z _=>?_) h4 h3
 by_cases z':b=a
 . rw[z',bM];exact⟨y,rfl⟩
 . rw[upd_ne z'];exact(y3.owns b z).2
theorem FQ{v:V}{d:D}{k:Key}(r:Rep K H O v d)(e:keyD d=some k):v=kV k:=by
 cases d<;>first | (cases e;done) | skip
 . cases e;cases r;rfl
 . cases e;cases r;rfl
theorem DO{v:V}{d:D}{p:List Key×List D}(r:Rep K H O v d)(e:kdD d=some p):∃(a:aA) (kvs:List (Key×V)),v=.ref a/\Rd H a (.dK kvs)/\kvs.map (·.1)=p.1/\Reps K H O (kvs.map (·.2)) p.2:=by
 cases d<;>first | (cases e;done) | skip
 . cases e;cases r with
   |@dct a kvs _ _ n hb ek rs=>exact⟨a,kvs,rfl,.inl hb,ek,rs⟩
 . cases e;cases r with
   |@dcf a o kvs _ _ n hb ek rs=>exact⟨a,kvs,rfl,.inr ⟨o,hb⟩,ek,rs⟩
theorem NE:∀{kvs:List (Key×V)} {l:List D} {k:Key} {d:D},Reps K H O (kvs.map (·.2)) l->getKD k (kvs.map (·.1)) l=some d->∃v,valV kvs k=some v/\Rep K H O v d
 |[],_,_,_,_,e=>by simp[getKD] at e
 |(k',v)::r,[],_,_,h,_=>by cases h
 | (k', v) :: r, d' :: l, k, d, .cons h t, e => by
   simp only[bI,getKD] at e
   by_cases z:k'=k
   . rw[if_pos z] at e;cases e;exact⟨v,vY z,h⟩
   . rw[if_neg z] at e;obtain⟨w,h1,h2⟩:=NE t e;exact⟨w,by simpa[valV,eX,z] using h1,h2⟩
theorem IP:∀(kvs:List (Key×V)) (k:Key),(valV kvs k).isSome=hasK k (kvs.map (·.1))
 |[],k=>rfl
 | (k', v) :: r, k => by
   by_cases z:k'=k
   . simp[valV,eX,z,hasK]
   . have := IP r k;simp only[valV,hasK] at this ⊢;rw[List.find?_cons_of_neg (by simpa using z),this];simp[z]
theorem JE{kvs:List (Key×V)}{k:Key}{v:V}(h:hasK k (kvs.map (·.1))=true):putK kvs k v=kvs.map (fun kv=>if kv.1=k then (kv.1,v) else kv):=by
 unfold putK;rw[if_pos];rw[hasK,NA] at h;exact h
theorem putK_new{kvs:List (Key×V)}{k:Key}{v:V}(h : ¬hasK k (kvs.map (·.1))=true):putK kvs k v=kvs++[(k,v)]:=by
 unfold putK;rw[if_neg];rw[hasK,NA] at h;exact h
theorem WV(kvs:List (Key×V))(k:Key)(v:V):(kvs.map (fun kv=>if kv.1=k then (kv.1,v) else kv)).map (·.1)=kvs.map (·.1):=by
 rw[fI];refine iF fun kv _=>?_;simp only[Function.comp]
 split<;>rfl
theorem RepsO.putTs{k:Key}{v:V}{d:D}(r:Rep K H O v d):∀{kvs:List (Key×V)} {ts:List OT} {fs:List aA},RepsO K H O (kvs.map (·.2)) ts fs->∃fs':List aA,fs'.Sublist fs/\RepsO K H O ((kvs.map (fun kv=>if kv.1=k then (kv.1,v) else kv)).map (·.2)) (FL.putTs k (.val d) (kvs.map (·.1)) ts) fs'
 |[],_,_,.nil=>⟨[],.slnil,.nil⟩
 | (k', w) :: kvs, _, _, .cons (t := t) (ts := ts) (fs := fs) (gs := gs) h q => by
   obtain⟨gs',h1,h2⟩:=RepsO.putTs r q
   by_cases z:k'=k
   . refine⟨gs', h1.trans (List.sublist_append_right _ _), ?_⟩;simp only[bI,z,if_true,FL.putTs];exact .cons (fs:=[]) (.val r) h2
   . refine⟨fs ++ gs', h1.append_left _, ?_⟩;simp only[bI,z,if_false,FL.putTs];exact .cons h h2
end
section
variable{X:Cx}{i:Nat}
theorem aBu{pos:Pos}: PVo X (.Dict [] [] pos) dO0:=by
 refine⟨_,OH,fun H₀ H O σ ds hd T Q o e q=>fun p hp=>?_⟩;cases e;exact q _ _ [p] (qG hp _) (.dct (kvs:=[]) (.inl (.head _)) bM rfl .nil) (by simp) fun b hb=>by rw[aR.mp hb];exact hp
theorem OC{oe ke e:Expr}{pos pos':Pos}{f:FP}{fk fv:FE}{j:Nat}(hr:Room j X.A)(ho:PVp X oe f)(hk:PV X ke fk)(he:PV X e fv)(hs:dF e (some (.Subscript oe ke pos')) pos.line X.env=pure false:=by rfl) :
  PSv X (.Assign [.Subscript oe ke pos'] e pos) (dputG f fk fv):=by
 obtain⟨tp,hp,hf⟩:=ho;obtain⟨tk,pk,hk⟩:=hk;obtain⟨te,pe,he⟩:=he;refine⟨_,ps_dput (dX (by omega) (hu100 hr)) hp pk pe hs,(3:)⟩;unfold dputG at e;obtain⟨d,h1,e⟩:=bnd e;obtain⟨q,h2,e⟩:=bnd e;obtain⟨y,h3,e⟩:=bnd e;obtain⟨k,h4,e⟩:=bnd e;refine he H₀ H O σ ds hd d _ o h1 fun v H1 s1 r1=>?_;refine hf H₀ H1 O σ ds hd q _ (o.mono s1) h2 fun r T v0 w fs g1 g2 g3 g4 g5=>?_;refine hk H₀ H1 O σ ds hd y _ (o.mono s1) h3 fun yv H2 s2 r2=>?_;have o2:=(o.mono s1).mono s2;cases hq:q.2.2 with
 | dct ks ts =>
   rw[hq] at e g2 g5;simp only at e
   split at e
   . rename_i hl;cases e;cases g5 with
     | @dct a kvs _ _ fs' n hb ek rs =>
       have hb2:=s2 _ _ hb;cases FQ r2 h4;have ln:kvs.length<sizeLine:=by rw[<- ek] at hl;simpa using hl
       refine⟨a,_,rfl,DPut.k hb2 ln,?_⟩;have e':putP q (putKT k (.val d) ks ts) ds=ds.set q.1 (.ob r (putO (putKT k (.val d) ks ts) q.2.1 T)):=by simp[putP,g1]
       rw[e'] at h;refine h _ _ _ (Ok.putN ⟨.dK (putK kvs k v),rfl⟩ o2 g1 g2 g3 (yF s2 g4) fun f2 k1 k2=>?_);cases k1 with
       | @dct _ kvs2 _ _ fs2 n2 hb3 ek2 rs2 =>
         rw[hb2] at hb3;cases hb3;obtain⟨n3,n4⟩:=bZ.mp k2;have c:Chg H2 (upd H2 a (.dK (putK kvs k v))) O O [a] [a]:=.ofUpd n (.head _) fun _ z=>z;have rs3:=c.repsO rs2 fun b z y=>n3 (aR.mp y▸z);have rv:=c.rep (r1.mono s2);unfold putKT
         by_cases hm:hasK k ks=true
         . rw [if_pos hm];have hm':hasK k (kvs.map (·.1))=true:=by rw [ek]; exact hm
           obtain⟨fs3,w1,w2⟩:=RepsO.putTs (k:=k) rv rs3;refine⟨a::fs3,n,.head _,fun b z=>(aE.mp z).elim (fun z=>by rw[z];exact .head _) fun z=>.tail _ (w1.subset z),bZ.mpr ⟨fun z=>n3 (w1.subset z),w1.nodup n4⟩,?_⟩;refine .dct n bM ?_ ?_
           . rw[JE hm',WV,ek]
           . have z := congrArg (List.map (·.2)) (JE (v := v) hm');rw[ek] at w2;rw[<- z] at w2;exact w2
         . rw [if_neg hm];have hm' : ¬ hasK k (kvs.map (·.1))=true:=by rw [ek]; exact hm
           refine⟨a::fs2,n,.head _,fun b z=>z,k2,?_⟩;refine .dct n bM ?_ ?_
           . rw[putK_new hm'];simp[ek]
           . have z : (putK kvs k v).map (·.2) = kvs.map (·.2) ++ [v] := by rw [putK_new hm']; simp
             rw[z];exact rs3.snoc rv
   . cases e
 |_=>rw[hq] at e;cases e
theorem pv_dget{oe ke:Expr}{pos:Pos}{fd fk:FE}{j:Nat}(hr:Room j X.A)(ho:PV X oe fd)(hk:PV X ke fk)(hs:NoSl ke:=by exact fun _ _=>rfl):PV X (.Subscript oe ke pos) (dgetG fd fk):=by
 obtain⟨td,pd,hd'⟩:=ho;obtain⟨tk,pk,hk⟩:=hk;refine⟨_,pe_dget (dX (by omega) (hu100 hr)) pd pk hs,(5:)⟩;unfold dgetG at e;obtain⟨x,h1,e⟩:=bnd e;obtain⟨y,h3,e⟩:=bnd e;obtain⟨k,h4,e⟩:=bnd e;refine hd' H₀ H O σ ds hd x _ o h1 fun v H1 s1 r1=>?_;refine hk H₀ H1 O σ ds hd y _ (o.mono s1) h3 fun yv H2 s2 r2=>?_;obtain⟨p,h6,e⟩:=bnd e;obtain⟨a,kvs,rfl,hb,ek,rs⟩:=DO (r1.mono s2) h6;cases FQ r2 h4;rw[<- ek] at e;obtain⟨w,h5,h6⟩:=NE rs e;exact⟨a,w,rfl,.inl ⟨kvs,k,hb,rfl,h5.symm⟩,q w H2 (s1.trans s2) h6⟩
theorem OA{oe ke:Expr}{pos:Pos}{fd fk:FE}{j:Nat}(hr:Room j X.A)(hk:PVn X ke fk)(ho:PVn X oe fd)(hm:dQ .NotIn oe=false:=by rfl):PTv X (.Compare ke [.NotIn] [oe] pos) (dnotG fk fd):=by
 obtain⟨td,pd,hd'⟩:=ho;obtain⟨tk,pk,hk⟩:=hk;refine⟨_,pt_cmp (XD (dX (by omega) (hu100 hr)) pk pd) hm,fun H₀ H O σ ds hd b Q o e q=>?_⟩;unfold dnotG dinG at e;cases h3:fk ds with
 |none=>rw[h3] at e;cases e
 | some y =>
   rw[h3] at e;simp only[aQ] at e;cases h4:keyD y with
   |none=>rw[h4] at e;cases e
   | some k =>
     rw[h4] at e;simp only[aQ] at e;cases h1:fd ds with
     |none=>rw[h1] at e;cases e
     | some x =>
       rw[h1] at e;simp only[aQ] at e;refine hk H₀ H O σ ds hd y _ o h3 fun yv H1 s1 r1=>?_;refine hd' H₀ H1 O σ ds hd x _ (o.mono s1) h1 fun v H2 s2 r2=>?_;cases h6:kdD x with
       |none=>rw[h6] at e;cases e
       | some p =>
         rw[h6] at e;cases e;obtain⟨a,kvs,rfl,hb,ek,rs⟩:=DO r2 h6;cases FQ r1 h4;refine⟨a,_,rfl,.inl ⟨kvs,k,hb,rfl,rfl⟩,_,rfl,?_⟩;rw[IP,ek];exact q H2 (s1.trans s2)
theorem ZJ:CallR X (.type "dict") (fun xs H Q=>∃a kvs,xs=[V.ref a]/\Rd H a (.dK kvs)/\∀p,H p=none->Q (.ref p) (upd H p (.dK kvs))):=by
 intro aC s σ H xs us Q I r h;obtain⟨a,kvs,rfl,ha,q⟩:=h;obtain⟨u,rfl,ru⟩:=vals1 r;cases ru;exact aFf I ha fun p s' hp I'=>⟨.ref p,_,I',rfl,q p hp⟩
theorem WQ{e:Expr}{f:FE}{p pos:Pos}(hm:X.mg "dict" = none)(he:PV X e f)(hg:Gl X "dict":=by rfl)(hs:aF [e] X.env=[(false,bT e X.env)]:=by rfl):PVo X (.Call (.Name "dict" p) [e] [] pos) (MN f):=by
 obtain⟨te,pe,he⟩:=he;refine⟨_,kB ZJ hg hm (by decide +kernel) (qY pe jW hs) (by decide) (by decide) hs rfl,fun H₀ H O σ ds hd T Q o e q=>?_⟩;unfold MN at e;obtain⟨x,h1,e⟩:=bnd e;refine he H₀ H O σ ds hd x _ o h1 fun v H1 s1 r1=>?_;obtain⟨p,h6,rfl⟩:=mpd e;obtain⟨a,kvs,rfl,hb,ek,rs⟩:=DO r1 h6;refine⟨a,kvs,rfl,hb,fun c hc=>?_⟩;refine q _ _ [c] (s1.trans (qG hc _)) (.dct (.inl (.head _)) bM ek (vN ?_)) (by simp) fun b hb=>by rw[aR.mp hb];exact s1.free hc
 exact((rs.moreL (ps:=[c]) fun p hp=>by rw[aR.mp hp];exact hc).mono (qG hc _))
end
end FL
namespace L2
open PySem PySem.Spec PyProof.Rows
section
variable{X:Cx}
theorem Inv.freezeD{aC:List (aA×Obj)}{σ : L2.St}{H:Hp}{s:aD}{a:aA}{kvs:List (Key×V)}(I:Inv X aC σ H s)(e:H a=some (.dK kvs)):∃o,Inv X aC σ (upd H a (.frz o (.dK kvs))) s:=by
 obtain⟨z,hd,vs,rel,dd⟩:=dk_of I.hok e;obtain⟨o,es,ep,ho,r⟩:=id dd;exact⟨o,MO (h':=s.heap) (t':=s.toks) (ob:=.frz o (.dK kvs)) I (by rw[e];trivial) ⟨rfl,fun _ _=>rfl⟩ ⟨o,ho⟩ ⟨ho,z,hd,vs,rel,dd⟩⟩
noncomputable def sFrz(i:Nat)(t:TS):TS:=fun D σ H=>∃a kvs,σ[i]?=some (some (.ref a))/\H a=some (.dK kvs)/\∀o,t D σ (upd H a (.frz o (.dK kvs)))
theorem ps_frz{st:Stmt}{t:TS}{i:Nat}(h:PS X st t):PS X st (sFrz i t):=by
 intro aC s σ H D I ⟨a,kvs,h1,h2,h3⟩;obtain⟨o,I'⟩:=I.freezeD h2;exact h aC s σ _ D I' (h3 o)
end
noncomputable def Itd(d:aA)(o:Obj)(kvs:List (Key×V)):It :=
 ⟨fun i H => H d = some (.frz o (.dK kvs)) /\ i < kvs.length,
  fun i H v H'=>∃T k x,kvs[i]?=some (k,x)/\v=.ref T/\H T=none/\H'=upd H T (.tup [kV k,x]),
  fun i H=>H d=some (.frz o (.dK kvs))/\kvs.length<=i⟩
theorem mD:entryFor table "dict_itemiterator.__iter__" = some Builtin.«dict_keyiterator.__iter__» :=
 entryFor_alias (id':="dict_keyiterator.__iter__") (by kernel_rfl) rfl (by decide +kernel) (by kernel_rfl)
theorem pU{prog:aW}{w:bR}{A:bL}{E:Value->aD->Prop}{s:aD}{it d:aA}{i n ep:Nat}{ok ov:Value}{Q:Value->aD->Prop}(hit:IsItemIter s.heap it d i n ep ok ov)(h:Q (.ref it) s):bF (bE prog w) A (pyIter (.ref it)) Q E s:=by
 have hT:s.TypeIs (.ref it) "dict_itemiterator":=⟨_,hit,rfl⟩
 refine wpAny_pyIter_slot hT sF (II sF hT mD ?_ (PySem.F.args_dict_itemiterator_iter_1 _));show bF _ _ (ret (.ref it)) _ _ s;exact cJ ⟨_,rfl,"dict_itemiterator",_,hT,PySem.F.slot_dict_itemiterator_next.lookup,h⟩
theorem FW{X:Cx}{aC:List (aA×Obj)}{σ : L2.St}{H:Hp}{s:aD}{d:aA}{o:Obj}{kvs:List (Key×V)}{es:Array DictEntry}{ep:Nat}(I:Inv X aC σ H s)(hd:H d=some (.frz o (.dK kvs)))(dat:o.data=.dict es ep):∃vs,KV kvs vs/\s.heap.DictAt (fX X.prog X.w) d vs ep:=by
 obtain⟨ho,z,hds,vs,rel,o',es',ep',e1,ex,dat',r⟩:=I.hok d _ hd;rw[ho] at e1;cases e1;rw[dat] at dat';cases dat';exact⟨vs,rel,o,es,ho,ex,dat,r⟩
theorem KV.get{κ : Type}{kvs:List (κ×V)}{vs:List (κ×Value)}{i:Nat}{k : κ}{x:V}(h:KV kvs vs)(e:kvs[i]?=some (k,x)):∃u,vs[i]?=some (k,u)/\RelV x u:=by
 unfold KV at h
 induction h generalizing i with
 |nil=>simp at e
 | @cons p q _ _ h _ ih =>
   cases i with
   | zero =>
     simp only[eU,Option.some.injEq] at e;subst e;exact⟨q.2,by simp only[eU];rw[show q=(k,q.2) from Prod.ext h.1.symm rfl],h.2⟩
   | succ i =>
     simp only[dL] at e ⊢;exact ih e
theorem NH{P:aW}{w:bR}{K:aN}{es:List Expr}{x1}{pos:Pos}(it d:aA)(o:Obj)(kvs:List (Key×V)){en:Array DictEntry}{ep:Nat}(dat:o.data=.dict en ep) :
  Turn P w K (.Tuple es x1 pos) (Itd d o kvs) [it] it (fun i h=>∃ok ov,IsItemIter h it d i kvs.length ep ok ov) where
 mem:=by simp
 obj:=fun i h st b hb=>by
  obtain⟨ok,ov,he⟩:=st;rw[aR.mp hb];exact⟨_,he,fun v z=>by have z':Data.fields _=Data.cell v:=z;cases z'⟩
 keep:=fun i h h' st k=>by
  obtain⟨ok,ov,he⟩:=st;exact⟨ok,ov,k it (by simp) _ he⟩
 item:=by
  intro X hP hw hK hc i aC s σ H E I hf st hg;subst hP hw hK;obtain⟨hd,hi⟩:=hg;obtain⟨ok,ov,he⟩:=st;obtain⟨vs,rel,hat⟩:=FW I hd dat;have hl:=rel.length;obtain⟨k,x,hx⟩:∃k x,kvs[i]?=some (k,x):=⟨kvs[i].1,kvs[i].2,cC hi⟩
  obtain⟨u,hu,ru⟩:=rel.get hx;rw[hl] at he;refine wpAny_pyNext_items_item he hat hu fun key h' hkey a1 a2 a3 hk=>?_;refine⟨_,rfl,wpAny_letOwnedTupleGo_items a1 fun h2' b1 bs=>?_⟩
  have rk:RelV (kV k) key:=by
   rcases qV hkey with⟨j,t,rfl,rfl⟩ | ⟨y,t,rfl,rfl⟩
   . exact⟨t,rfl⟩
   . exact⟨t,rfl⟩
  have hT:∀b∈[it],b≠s.heap.objs.size:=fun b hb z=>by
   rw[aR.mp hb] at z;exact bS (bB he) z
  have fr:H s.heap.objs.size=none:=I.hok.fresh (aY _)
  have I1:Inv X aC σ (upd H s.heap.objs.size (.tup [kV k,x])) { s with heap:=s.heap.push { cls:=.type "tuple",data:=.seq #[key,u] },toks:=s.toks }:=by
   refine I.laid (t':=s.toks) (fun b u q=>aL _ q) (aY _) ?_;exact⟨by simp[sizeLine],[key,u],.cons rk (.cons ru .nil),⟨_,bC _ rfl,rfl,_,rfl⟩⟩
  have nz:s.heap.objs.size≠it:=fun z=>hT it (by simp) z.symm
  have I2:Inv X aC σ (upd H s.heap.objs.size (.tup [kV k,x])) { s with heap:=h2',toks:=s.toks }:=by
   refine Inv.turnedS (s:={ s with heap:=s.heap.push { cls:=.type "tuple",data:=.seq #[key,u] },toks:=s.toks }) I1 (h':=h2') (t':=s.toks) (ch:=[it]) (fun b o hb q=>?_) (fun b hb=>?_)
   . simp only [aE, aAn, or_false] at hb
     by_cases hbT:b=s.heap.objs.size
     . subst hbT;have q':(s.heap.push { cls:=.type "tuple",data:=.seq #[key,u] }).get? s.heap.objs.size=some o:=q;rw[bC _ rfl] at q';cases q';exact bs.extBut _ _ nz a2
     . have q' : (s.heap.push { cls := .type "tuple", data := .seq #[key, u] }).get? b = some o := q
       have q2:s.heap.get? b=some o:=by
        rwa [Heap.get?_push_ne _ _ _ hbT] at q'
       exact bs.extBut _ _ hb (hk b o hb q2)
   . obtain⟨f0, fr'⟩ := hf b hb;exact⟨by rw[upd_ne (hT b hb)];exact f0,fr'⟩
  refine⟨.ref s.heap.objs.size,_,I2,rfl,⟨_,k,x,hx,rfl,fr,rfl⟩,⟨key,u,by rw[hl];exact b1⟩,fun b hb=>?_⟩;rw[upd_ne (hT b hb)];exact(hf b hb).1
 done:=by
  intro X hP hw hK hc i aC s σ H E I hf st hg;subst hP hw hK;obtain⟨hd,hi⟩:=hg;obtain⟨ok,ov,he⟩:=st;obtain⟨vs,rel,hat⟩:=FW I hd dat;have hl:=rel.length;rw[hl] at he;refine wpAny_pyNext_items_end (I.ok.hd hc) he hat (bK (by omega)) fun h' hk=>⟨rfl,?_⟩
  refine I.turnedS (t':=s.toks) (ch:=[it]) (fun b o hb q=>?_) hf;simp only[aE,aAn,or_false] at hb;exact hk b o hb q
 self:=fun _ _ _ _ _ st h=>by
  obtain⟨ok,ov,he⟩:=st;exact pU he h
section
variable{X:Cx}
noncomputable def iDI(to:TE):TI:=fun σ H R=>to σ H fun x H1=>∃d o kvs,x=.ref d/\H1 d=some (.frz o (.dK kvs))/\R (Itd d o kvs) H1
theorem XB{es:List Expr}{x1}{tp:Pos}{oe:Expr}{to:TE}{apos pos:Pos}(ho:PE X oe to)(hbase:eJ oe "items" X.env (bT oe X.env)=bT oe X.env:=by rfl)(hline:(apos.endLine==pos.line)=true:=by rfl) :
  PI X (.Tuple es x1 tp) (.Call (.Attribute oe "items" apos) [] [] pos) (iDI to):=by
 intro aC s σ H R I h;refine wpAny_Call_method0_late hbase hline (thn (ho aC s σ H _ I h) fun v s1 zq=>?_);obtain⟨x,H1,I1,r1,d,o,kvs,ex,hd,q⟩:=zq;subst ex;obtain rfl:v=Value.ref d:=r1;obtain⟨hob,z,hds,vs,rel,dd⟩:=I1.hok d _ hd;obtain⟨o',en,ep,e1,exd,dat,r⟩:=id dd;rw[hob] at e1;cases e1;have hat:s1.heap.DictAt (fX X.prog X.w) d vs ep:=⟨o,en,hob,exd,dat,r⟩
 refine⟨"dict","dict.items",PySem.F.plainAttrs_dict,HF,PySem.F.type_dict_items,⟨o,hob,exd.1⟩,fun a e2=>?_,Calls.callWith_builtin rfl (RB (call_meetsIn HF dd.typeIs PySem.F.entry_dict_items (PySem.F.args_dict_items_1 _) (meets_dict_items (fX X.prog X.w) d hds) ⟨⟨vs,dd⟩,?_⟩))⟩
 . cases e2;exact⟨o,hob,exd.2.1⟩
 . refine wpAny_pyIter_items (v := s1.heap.objs.size) ⟨_, bC _ rfl, rfl, rfl⟩ (hat.push _) ?_;have I2:Inv X aC σ H1 { s1 with heap:=s1.heap.push { cls:=.type "dict_items",data:=.fields #[.ref d] } }:=I1.kept (t':=s1.toks) fun b o e=>aL _ e;refine ⟨_,[_],_,_,H1,rfl,I2.kept (t':=s1.toks) fun b o e=>aL _ e,NH _ d o kvs dat,⟨.none,.none,?_⟩,fun c hc=>?_,q⟩
   . rw[rel.length];exact bC _ rfl
   . rw[aR.mp hc];exact I2.fpOk (aY _) (I2.hok.fresh (aY _))
end
end L2
namespace FL
open PySem PySem.Spec PyProof.Rows L2
section
variable{K:Frag}{H H' H₀ : Hp}{O O':aA->Prop}
theorem EA:∀{ts:List OT} {l:List D},valsO ts=some l->ts=l.map OT.val
 |[],_,e=>by cases e;rfl
 | .val d :: r, l, e => by
   unfold valsO at e;cases h:valsO r with
   |none=>rw[h] at e;cases e
   |some m=>rw[h] at e;cases e;rw[EA h];rfl
 | .lst _::_,_,e=>by cases e
 | .tup _::_,_,e=>by cases e
 | .dct _ _::_,_,e=>by cases e
 | .ins _ _::_,_,e=>by cases e
theorem RepsO.ofVals:∀{l:List D} {xs:List V} {fs:List aA},RepsO K H O xs (l.map OT.val) fs->fs=[]/\Reps K H O xs l
 |[],_,_,.nil=>⟨rfl,.nil⟩
 | d :: l, _, _, .cons (.val r) t => by
   obtain⟨rfl,rs⟩:=RepsO.ofVals t;exact⟨rfl,.cons r rs⟩
theorem Ok.frzD{σ : L2.St}{ds:List Sl}{hd:Hold}{i:Nat}{r:Option Nat}{ks:List Key}{l:List D}(o:Ok K H₀ H O σ ds hd)(e:ds[i]?=some (.ob r (.dct ks (l.map OT.val)))) :
  ∃a kvs,σ[i]?=some (some (.ref a))/\H a=some (.dK kvs)/\∀ob,∃O',Ok K H₀ (upd H a (.frz ob (.dK kvs))) O' σ (ds.set i (.v (.dcf ks l))) hd:=by
 obtain⟨F,hF⟩:=o.obs;obtain⟨v,h1,h2,h3,h4,h5⟩:=hF i r _ e;have hl:i<ds.length:=(aT.mp e).1;generalize hfi:F i=fi at h2 h4 h5;cases h2 with
 | @dct a kvs _ _ fs n hb ek rs =>
   obtain⟨rfl,rv⟩:=rs.ofVals;refine⟨a,kvs,h1,hb,fun ob=>?_⟩
   let O':aA->Prop:=fun b=>O b/\b≠a
   have sub:∀b,O' b->O b:=fun b hb=>hb.1;have h0:H₀ a=none:=(h5 a (.head _)).1
   have kp:Keep O H (upd H a (.frz ob (.dK kvs))):=fun b u nb eb=>by
    have z:b≠a:=fun z=>nb (by rw[z];exact n);rw[L2.upd_ne z];exact eb
   have ne:∀{b:aA} {u:HO},b≠a->H b=some u->upd H a (.frz ob (.dK kvs)) b=some u:=fun z eb=>by rw[L2.upd_ne z];exact eb
   have own':∀{j:Nat},IsOwn (ds.set i (.v (.dcf ks l))) j->IsOwn ds j/\j≠i:=fun h=>xD (fun l=>by intro z;cases z) h;have nown:∀{j:Nat} {b:aA},IsOwn ds j->σ[j]?=some (some (.ref b))->b≠a:=fun {j b} oj ej z=>(h5 a (.head _)).2.2 j oj (by rw[<- z];exact ej);refine⟨O',fun b u eb=>ne (fun z=>by rw[z,h0] at eb;cases eb) (o.same b u eb),fun j l' b e1 e2=>?_,fun b hb=>?_,by simpa using o.len,fun j s es=>?_,fun j m b hjm hj hm e1 e2=>o.apart j m b hjm (own' hj).1 (own' hm).1 e1 e2,fun p hp=>?_,?_⟩
   . obtain⟨⟨l2, e2'⟩, _⟩ := own' ⟨l', e1⟩;exact o.fresh j l2 b e2' e2
   . obtain⟨u, eu⟩ := o.dom b hb.1;exact⟨u,ne hb.2 eu⟩
   . by_cases hj : j = i
     . subst hj;rw[aK hl] at es;cases es;rw[h1];exact jZ (.dcf (fun z=>z.2 rfl) bM ek ((rv.keep kp).less sub))
     . rw [aB (Ne.symm hj)] at es;cases s with
       |no=>exact jA
       |ob r t=>exact yG
       | exc t =>
         obtain⟨a',C',ob',u',q1,q2,q3,q4⟩:=o.readX es;rw[q1];exact⟨C',ob',u',q2,ne (fun z=>by rw[z,hb] at q3;cases q3) q3,q4⟩
       | fr l' =>
         obtain⟨a',xs',q1,q2,q0,q3,q4⟩:=o.readF es;rw[q1];exact⟨fun z=>q2 (sub _ z),q0,xs',kp _ _ q2 q3,(q4.keep kp).less sub⟩
       | v d =>
         obtain⟨v,q1,q2⟩:=o.read es;rw[q1];exact jZ ((q2.keep kp).less sub)
       | own l' =>
         obtain⟨b,ys,q1,q2,q3,q4⟩:=o.readO es;rw[q1];have z:=nown ⟨l',es⟩ q1;exact⟨⟨q2,z⟩,ys,ne z q3,(q4.keep kp).less sub⟩
   . have := o.hold p hp;cases p with
     |rep v d=>exact(Rep.keep kp this).less sub
     |base B=>exact fun b hb=>⟨⟨(this b hb).1,fun z=>(this b hb).2 (by rw[z];exact h0)⟩,(this b hb).2⟩
     |root k a=>exact True.intro
     |fz a' o' kvs' l'=>exact⟨fun z=>this.1 (sub _ z),kp _ _ this.1 this.2.1,(Reps.keep kp this.2.2).less sub⟩
   . refine⟨F, fun j r' t' ej => ?_⟩;obtain⟨ej,hj⟩:=xY (fun r t=>by intro z;cases z) ej;obtain⟨w,g1,g2,g3,g4,g5⟩:=hF j r' t' ej;have na:a∉F j:=fun z=>(h5 a (.head _)).2.1 j r' t' hj ej z;refine⟨w,g1,(g2.keep kp fun b hb u eb=>ne (fun z=>na (by rw[<- z];exact hb)) eb).less sub fun b hb=>⟨(g2.owns b hb).1,fun z=>na (by rw[<- z];exact hb)⟩,g3,g4,fun b hb=>⟨(g5 b hb).1,fun m r2 t2 hm em=>(g5 b hb).2.1 m r2 t2 hm (xY (fun r t=>by intro z;cases z) em).1,fun m om em=>(g5 b hb).2.2 m (own' om).1 em⟩⟩
end
section
variable{X:Cx}
theorem OB{i:Nat}{st:Stmt}{g:FS}(h:PSv X st g):PSv X st (frzDG i g):=by
 obtain⟨t,ht,hg⟩:=h;refine⟨_,ps_frz (i:=i) ht,(3:)⟩;unfold frzDG at e;cases hs:ds[i]? with
 |none=>rw[hs] at e;cases e
 | some s =>
   rw[hs] at e;cases s with
   | ob r T =>
     cases T with
     | dct ks ts =>
       simp only at e;obtain⟨l,hv,e⟩:=bnd e;rw[EA hv] at hs;obtain⟨a,kvs,h1,h2,h3⟩:=o.frzD hs;refine⟨a,kvs,h1,h2,fun ob=>?_⟩;obtain⟨O',o'⟩:=h3 ob;exact hg H₀ _ O' σ _ hd out E o' e h
     |_=>cases e
   |_=>cases e
noncomputable def WlkD(K:Frag)(J:It)(h:HI)(items:List D):Prop:=∀H₀ H O,(∀a,O a->∃u:MutHO,H a=some u.1)->HOk K H₀ H O h →
 (∀i d,items[i]?=some d->J.go i H/\∀x H',J.yld i H x H'->Same H H'/\Rep K H' O x d)/\J.stop items.length H
variable(X) in
noncomputable def PId(tg iter:Expr)(fi:FA):Prop:=∃wi,PI X tg iter wi/\∀H₀ H O σ ds hd items R,Ok X.K H₀ H O σ ds hd->fi ds=some items →
 (∀J p H',Same H H'->HOk X.K H₀ H' O p->(∀k a,HI.root k a≠p)->(∀B,HI.base B≠p)->WlkD X.K J p items->R J H')->wi σ H R
theorem kV_rep{K:Frag}{H:Hp}{O:aA->Prop}:∀k:Key,Rep K H O (kV k) (keyDD k)
 | .inl i=>.int i
 | .inr x=>.str x
theorem RG{K:Frag}{d:aA}{o:Obj}{kvs:List (Key×V)}{l:List D}: WlkD K (Itd d o kvs) (.fz d o kvs l) (nJ (kvs.map (·.1)) l):=by
 intro H₀ H O dom ⟨n,hd,rs⟩;have hl:l.length=kvs.length:=by rw[<- rs.length];simp
 have hi:(nJ (kvs.map (·.1)) l).length=kvs.length:=by simp[nJ,hl]
 refine⟨fun i x hx=>?_,⟨hd,by rw[hi];exact aY _⟩⟩;have lt:i<kvs.length:=by rw[<- hi];exact(aT.mp hx).1
 refine⟨⟨hd,lt⟩,fun v H' zq=>?_⟩;obtain⟨T,k,y,hk,e1,hT,e2⟩:=zq;subst e1 e2;have h1:(kvs.map (·.1))[i]?=some k:=by rw[bA,hk];rfl
 have h2:(kvs.map (·.2))[i]?=some y:=by rw[bA,hk];rfl
 have h3:l[i]?=some l[i]:=cC (by omega);obtain⟨y',h4,h5⟩:=rs.get h3;rw[h2] at h4;cases h4
 have:x=.tup [keyDD k,l[i]]:=by
  have q:((kvs.map (·.1)).zip l)[i]?=some (k,l[i]):=List.getElem?_zip_eq_some.mpr ⟨h1,h3⟩;simp only[nJ,bA,q,cR,Option.some.injEq] at hx;exact hx.symm
 subst this;have sm:Same H (upd H T (.tup [kV k,y])):=qG hT _;refine⟨sm,.tup (fun z=>?_) (.inl bM) (.cons (kV_rep k) (.cons (h5.mono sm) .nil))⟩;obtain⟨u,eu⟩:=dom T z;rw[hT] at eu;cases eu
theorem WZ{es:List Expr}{x1}{tp:Pos}{oe:Expr}{f:FE}{apos pos:Pos}(h:PV X oe f)(hbase:eJ oe "items" X.env (bT oe X.env)=bT oe X.env:=by rfl)(hline:(apos.endLine==pos.line)=true:=by rfl) :
  PId X (.Tuple es x1 tp) (.Call (.Attribute oe "items" apos) [] [] pos) (tH f):=by
 obtain⟨t,ht,hf⟩:=h;refine⟨_,XB ht hbase hline,fun H₀ H O σ ds hd items R o e q=>?_⟩;unfold tH at e;obtain⟨x,h1,e⟩:=bnd e;refine hf H₀ H O σ ds hd x _ o h1 fun v H1 s1 r1=>?_;cases x<;>first | (cases e;done) | skip
 cases e;cases r1 with
 | @dcf a ob kvs _ _ n hb ek rs =>
   refine⟨a,ob,kvs,rfl,hb,?_⟩;rw[<- ek] at q;exact q _ (.fz a ob kvs _) H1 s1 ⟨n,hb,rs⟩ (fun _ _ z=>by cases z) (fun _ z=>by cases z) RG
theorem aCo{tg iter:Expr}{body:List Stmt}{pos:Pos}{fi:FA}{ga:D->List Sl->Option (List Sl)}{g:FS}(hp:PassesOwn (8:) X.A X.env X.xe)(hc:X.calm=true)(hi:PId X tg iter fi)(hg:PGv X tg ga)(hb:PSsv X body g)(hs:∀x,eL iter X.env x=pure x:=by intro _;rfl):PSv X (.For tg iter body [] pos) (forG fi ga g):=by
 obtain⟨wi,pi,hi⟩:=hi;obtain⟨tg',pg,hg⟩:=hg;obtain⟨tb,pb,hb⟩:=hb;refine⟨_,aCr hp hc pi pg pb hs,(3:)⟩;unfold forG at e;obtain⟨items,h1,e⟩:=bnd e;refine hi H₀ H O σ ds hd items _ o h1 fun J p H' s r nr nb wk=>?_;refine⟨fun i m σ' H'=>i<=items.length/\m=items.length-i/\∃O' ds',Ok X.K H₀ H' O' σ' ds' (p::hd)/\jI ga g (items.drop i) ds'=some out,⟨items.length,eK _,rfl,O,ds,(o.mono s).holdMore (p:=p) r nr,by simpa using e⟩,?_⟩;rintro i m σ1 H1 ⟨hi1,rfl,O1,ds1,o1,e1⟩;obtain⟨go,stop⟩:=wk H₀ H1 O1 o1.dom (o1.hold p aV)
 by_cases hlt:i<items.length
 . right;have hd0:items[i]? = some items[i]:=cC hlt;obtain ⟨hgo,hy⟩:=go i _ hd0;rw [oJ hlt,jI] at e1;refine ⟨hgo,fun σ' H'=>i+1<=items.length/\∃ O' ds',Ok X.K H₀ H' O' σ' ds' (p::hd)/\jI ga g (items.drop (i+1)) ds'=some out,fun σ' H' ⟨q1,q2⟩=>⟨items.length - (i+1),by omega,q1,rfl,q2⟩,fun x H2 y=>?_⟩;obtain ⟨s2,r2⟩:=hy x H2 y;obtain ⟨ds2,h2,e1⟩:=bnd e1;obtain ⟨o3,h3,e1⟩:=bnd e1;refine hg H₀ H2 O1 σ1 ds1 (p::hd) x _ ds2 _ (o1.mono s2) r2 h2 fun σ' o'=>?_;refine hb H₀ H2 O1 σ' ds2 (p::hd) o3 _ o' h3 ?_;cases o3 with
   |nx ds3=>exact fun σ3 H3 O3 ok3=>⟨hlt,O3,ds3,ok3,e1⟩
   |ct ds3=>exact fun σ3 H3 O3 ok3=>⟨hlt,O3,ds3,ok3,e1⟩
   |bk ds3=>cases e1;exact fun σ3 H3 O3 ok3=>h σ3 H3 O3 ok3.holdLess
   |rt rr=>cases e1;exact fun v H s r b=>h v H s r (IZ b)
 . left;have ei:i=items.length:=by omega
   subst ei;rw[pF,jI] at e1;cases e1;exact⟨stop,h σ1 H1 O1 o1.holdLess⟩
end
section
variable{K:Frag}{H H' H₀ : Hp}{O O':aA->Prop}
theorem RepsO.snocO:∀{xs:List V} {ts:List OT} {fs:List aA} {v:V} {T:OT} {f:List aA},RepsO K H O xs ts fs->RepO K H O v T f->RepsO K H O (xs++[v]) (ts++[T]) (fs++f)
 | _, _, _, _, _, f, .nil, r => by
   have:=RepsO.cons (gs:=[]) r .nil;simpa using this
 | _, _, _, _, _, _, .cons (fs := fs) (gs := gs) h t, r => by
   rw[eV];exact .cons h (RepsO.snocO t r)
end
section
variable{X:Cx}
theorem xQ{oe e:Expr}{n:Str}{pos pos':Pos}{f:FP}{g:FO}{t t':Nat}(hF:∀C,aI X.K aH (dD t)=some (some (.ref C))->Cls X.K C/\NoAttr X.K C n)(ho:PVp X oe f)(he:PVo X e g)(hn:dD t'=dD t:=by rfl)(hfl:cQ t'=cQ t++[n]:=by rfl)(hnew:n∉cQ t:=by decide +kernel)(hs:dF e (some (.Attribute oe n pos')) pos.line X.env=pure false:=by rfl) :
  PSv X (.Assign [.Attribute oe n pos'] e pos) (setNw t t' f g):=by
 obtain⟨tp,hp,hfp⟩:=ho;obtain⟨tv,hv,hg⟩:=he;refine⟨_,RQ hp hv hs,(3:)⟩;unfold setNw at e;cases h1:g ds with
 |none=>rw[h1] at e;cases e
 | some T =>
   rw[h1] at e;simp only[aQ] at e;cases h2:f ds with
   |none=>rw[h2] at e;cases e
   | some q =>
     rw[h2] at e;simp only[aQ] at e;refine hg H₀ H O σ ds hd T _ o h1 fun v H1 fs s1 r1 nd1 n1=>?_;have o1:Ok X.K H₀ H1 (orL fs O) σ ds hd:=o.moreL s1 n1 fun b hb=>(r1.owns b hb).2;refine hfp H₀ H1 (orL fs O) σ ds hd q _ o1 h2 fun r T0 v0 w fs0 g1 g2 g3 g4 g5=>?_;obtain⟨v',w',f',y1,y2,y3,y4,y5,y6⟩:=o.modAt g1 g2;rw[g3] at y1;cases y1;cases yS g4 (yF s1 y2);cases hq:q.2.2 with
     | ins c l =>
       rw[hq] at y3 e;simp only at e
       split at e
       . rename_i hk;obtain ⟨rfl,hk⟩:=hk;cases e;cases y3 with
         | @ins a C dx _ kvs _ fs' cc na ha ek rs =>
           obtain⟨cl,nat⟩:=hF C cc;have ln:kvs.length=l.length:=by simpa using rs.length
           refine⟨a,C,dx,kvs,rfl,s1 _ _ ha,cl,nat,by omega,?_⟩;obtain⟨n3,n4⟩:=bZ.mp y4
           have old:∀b,H b=none->b∉a::fs':=fun b hb z=>by
            rcases aE.mp z with z | z
            . rw[z,ha] at hb;cases hb
            . obtain⟨_, x, ex⟩ := rs.owns b z;rw[hb] at ex;cases ex
           have afs:a∉fs:=fun z=>by rw[n1 a z] at ha;cases ha
           have pn:putF n v kvs=kvs++[(n,v)]:=EQ (by rw[ek];exact hnew);have hs':∀b u,b≠a->H b=some u->upd H1 a (.ins C dx (putF n v kvs)) b=some u:=fun b u nb eb=>by rw[L2.upd_ne nb];exact s1 _ _ eb
           have nO:∀{b:aA},¬O b->b≠a:=fun nb z=>nb (by rw[z];exact na)
           have c0:Chg H (upd H1 a (.ins C dx (putF n v kvs))) O (orL fs O) [a] (a::fs):=
            ⟨fun b u nb eb=>hs' b u (nO nb) eb,fun b u _ nb eb=>hs' b u (fun z=>nb (by rw[z];exact .head _)) eb,fun b z _=>.inr z,fun b z=>z.elim (fun z=>.inr ⟨.tail _ z,n1 b z⟩) .inl,fun b z=>(aE.mp z).elim (fun z=>.inl (by rw[z];exact .head _)) fun z=>.inr (n1 b z)⟩
           have rT:RepO X.K (upd H1 a (.ins C dx (putF n v kvs))) (orL fs O) v T fs:=r1.keep (fun b u nb eb=>by rw[L2.upd_ne (nO fun z=>nb (.inr z))];exact eb) fun b hb u eb=>by
            have z:b≠a:=fun z=>afs (by rw[<- z];exact hb);rw[L2.upd_ne z];exact eb
           have rs':=(c0.repsO rs fun b hb z=>n3 (aR.mp z▸hb)).snocO rT
           have ok:=y6 (H':=upd H1 a (.ins C dx (putF n v kvs))) (O':=orL fs O) (u':=.ins t' (l++[T])) (f':=a::(fs'++fs))
            ⟨fun b u nb eb=>hs' b u (nO nb) eb,fun b u _ nb eb=>hs' b u (fun z=>nb (by rw[z];exact .head _)) eb,fun b z _=>.inr z,fun b z=>z.elim (fun z=>.inr ⟨.tail _ (aG _ z),n1 b z⟩) .inl,fun b z=>?_⟩
            (fun b z _=>?_) (.ins (by rw[hn];exact cc) (.inr na) bM (by rw[pn,hfl,<- ek];simp) (by rw[show(putF n v kvs).map (·.2)=kvs.map (·.2)++[v] by rw[pn];simp];exact rs')) (bZ.mpr ⟨fun z=>?_,?_⟩)
           . have e' : putP q (.ins t' (l ++ [T])) ds = ds.set q.1 (.ob r (putO (.ins t' (l ++ [T])) q.2.1 T0)) := by simp [putP, g1]
             rw[e'] at h;exact h _ _ _ ok
           . rcases aE.mp z with z | z
             . exact .inl (by rw[z];exact .head _)
             . rcases cA.mp z with z | z
               . exact .inl (.tail _ z)
               . exact .inr (n1 b z)
           . by_cases z' : b = a
             . rw[z',bM];exact⟨⟨.ins C dx (putF n v kvs),rfl⟩,rfl⟩
             . rcases aE.mp z with q' | q'
               . exact(z' q').elim
               . obtain⟨_, y, ey⟩ := rs.owns b q';exact⟨y,hs' b _ z' ey⟩
           . rcases cA.mp z with z | z
             . exact n3 z
             . exact afs z
           . rw[eD];refine⟨n4,nd1,fun x hx y hy z=>old x (by rw[z];exact n1 y hy) (.tail _ hx)⟩
       . cases e
     |_=>rw[hq] at e;cases e
structure LMk(P:aW)(w:bR)(K:Frag)(mg:Str->Option Value)(base:Heap)(t k n m:Nat)(F:OT->List D->Option OT):Prop where
 ex:∃(C f:aA) (fd:aJ) (ps:List Str),aI K aH (dD t)=some (some (.ref C))/\mg (dD t)=some (.ref C)/\Mk K C f/\FnOk P w K mg base CX0 k f fd ps (spL K n F)/\Binds K fd ps (List.replicate m .none)
theorem ND:∀m:Nat,Vals (List.replicate m V.non) (List.replicate m Value.none)
 |0=>.nil
 |m+1=>.cons rfl (ND m)
theorem NP{K:Frag}{H:Hp}{O:aA->Prop}:∀m:Nat,Reps K H O (List.replicate m V.non) (List.replicate m D.non)
 |0=>.nil
 |m+1=>.cons .non (NP m)
theorem YB{t n m:Nat}{F:OT->List D->Option OT}{g:FA}{C:aA}{ta:TA}{T:OT}{H₀ H:Hp}{O:aA->Prop}{σ : L2.St}{ds:List Sl}{hd:Hold}{Q:VK}(hc:aI X.K aH (dD t)=some (some (.ref C)))(hfl:cQ t=[])(hfa:∀H₀ H O σ ds hd l Q,Ok X.K H₀ H O σ ds hd->g ds=some l->(∀vs H',Same H H'->Reps X.K H' O vs l->Q vs H')->ta σ H Q)(o:Ok X.K H₀ H O σ ds hd)(h1:makeO t n m F g ds=some T)(q:∀v H' fs,Same H H'->RepO X.K H' (orL fs O) v T fs->fs.Nodup->(∀b∈fs,H b=none)->Q v H'):tMake C (spL X.K n F) (List.replicate m .non) E0 ta σ H Q:=by
 unfold makeO at h1;obtain⟨l,h2,h1⟩:=bnd h1
 split at h1
 . rename_i hl;refine hfa H₀ H O σ ds hd l _ o h2 fun vs H1 s1 r1=>?_;intro x dx nx ndx nex
   have s2:Same H1 (upd (upd H1 dx (.own x)) x (.ins C dx [])):=fun b o e=>by
    rw[upd_ne (qT e nx),upd_ne (qT e ndx)];exact e
   have o1:=o.mono s1;have rl:=r1.length;refine⟨x,.ins t [],T,[x],O,vs++List.replicate m .non,l++List.replicate m .non,rfl,by simp;omega,.ins (kvs:=[]) (fs:=[]) hc (.inl (.head _)) bM (by rw[hfl];rfl) .nil,by simp,fun b hb=>?_,?_,h1,fun H' fs' k1 k2 k3 k4=>⟨rfl,q _ H' fs' (fun b u eb=>?_) k2 k3 fun b hb=>?_⟩⟩
   . obtain⟨u, eu⟩ := o1.dom b hb;exact⟨(fun z=>by rw[aR.mp z,nx] at eu;cases eu),u,s2 _ _ eu⟩
   . exact((r1.moreL (ps:=[x]) fun p hp=>by rw[aR.mp hp];exact nx).mono s2).append (NP m)
   . have e1 := s1 _ _ eb;exact k1 b u (fun z=>by rw[aR.mp z,nx] at e1;cases e1) (s2 _ _ e1)
   . rcases k4 b hb with z | z
     . rw[aR.mp z];exact s1.free nx
     . exact s1.free (s2.free z)
 . cases h1
section
variable{t k j n m:Nat}{F:OT->List D->Option OT}{x:Str}{p pos:Pos}{e:Expr}{es:List Expr}{g:FA}
theorem WP(M:LMk X.prog X.w X.K X.mg X.base t k n m F)(hr:Room j X.A)(hj:k+1<=j:=by decide)(hx:dD t=x:=by rfl)(hfl:cQ t=[]:=by rfl)(hg:Gl X x:=by rfl)(hdb:(6:)=false:=by decide) :
  PVo X (.Call (.Name x p) [] [] pos) (makeO t n m F zM):=by
 obtain⟨C,f,fd,ps,hc,hm,mk,Fn,hb⟩:=M.ex;subst hx;exact⟨_,OG (CX:=CX0) (E:=E0) mk Fn (hr.mono hj) hg hm hb (ND m) pass0 hdb,fun H₀ H O σ ds hd T Q o e q=>YB (g:=zM) hc hfl (fun _ H _ _ _ _ _ _ _ e q=>by cases e;exact q _ H (Same.refl _) .nil) o e q⟩
end
end
section
variable{X:Cx}
variable(X) in
noncomputable def PVx(e:Expr)(f:FX):Prop:=∃t,PE X e t/\∀H₀ H O σ ds hd d ds' Q,Ok X.K H₀ H O σ ds hd->f ds=some (d,ds')->(∀v H' O',Ok X.K H₀ H' O' σ ds' hd->Rep X.K H' O' v d->Q v H')->t σ H Q
theorem RepsO.last{K:Frag}{H:Hp}{O:aA->Prop}:∀{l:List OT} {xs:List V} {fs:List aA} {d:D},RepsO K H O xs (l++[.val d]) fs->∃ys y,xs=ys++[y]/\RepsO K H O ys l fs/\Rep K H O y d
 |[],_,_,_,.cons (x:=x) (.val r) .nil=>⟨[],x,rfl,.nil,r⟩
 | _ :: l, _, _, _, .cons (x := x) h t => by
   obtain⟨ys,y,rfl,h1,h2⟩:=RepsO.last t;exact⟨x::ys,y,rfl,.cons h h1,h2⟩
theorem UG{oe:Expr}{p2 p3:Pos}{f:FP}(ho:PVp X oe f)(hline:(p2.endLine==p3.line)=true:=by rfl)(hbase:eJ oe "pop" X.env (bT oe X.env)=bT oe X.env:=by rfl) :
  PVx X (.Call (.Attribute oe "pop" p2) [] [] p3) (popX f):=by
 obtain⟨t,ht,hf⟩:=ho;refine⟨_,pe_bm0 iM PySem.F.slot_list_pop PySem.F.type_list_pop mt_pop ht hbase hline,fun H₀ H O σ ds hd d ds' Q o e h=>?_⟩;unfold popX at e;obtain⟨q,h1,e⟩:=bnd e;refine hf H₀ H O σ ds hd q _ o h1 fun r T v w fs g1 g2 g3 g4 g5=>?_;cases hq:q.2.2 with
 | lst l =>
   rw[hq] at e g2 g5;simp only at e;cases hl:l.getLast? with
   |none=>rw[hl] at e;cases e
   | some u =>
     rw[hl] at e;cases u with
     | val d' =>
       cases e;obtain⟨l',rfl⟩:=List.getLast?_eq_some_iff.mp hl;have e0:(l'++[OT.val d]).dropLast=l':=by simp
       rw[e0] at h;cases g5 with
       | @lst a xs _ fs' n hb rs =>
         obtain⟨ys,y,rfl,rs',ry⟩:=rs.last;have e2:(ys++[y]).dropLast=ys:=by simp
         refine⟨.inl ⟨rfl,_,SqL.of hb⟩,a,ys++[y],y,rfl,rfl,hb,by simp,?_⟩;rw[e2]
         have ok:=o.putL (l':=l') (ys:=ys) g1 g2 g3 g4 fun xs2 fs2 k1 k2 k3 k4 k5=>⟨fs2,fun _ z=>z,k4,fun {H'} c=>by
          rw[hb] at k1;cases k1;obtain⟨ys2,y2,e3,rs2,_⟩:=k3.last;obtain⟨e4,_⟩:=List.append_inj' e3 rfl;subst e4
          exact c.repsO rs2 fun b z y=>k5 (aR.mp y▸z)⟩
         have e':putP q (.lst l') ds=ds.set q.1 (.ob r (putO (.lst l') q.2.1 T)):=by simp[putP,g1]
         rw[e'] at h;have c:Chg H (upd H a (.lst ys)) O O [a] [a]:=.ofUpd n (.head _) fun _ z=>z;exact h y _ O ok (c.rep ry)
     |_=>cases e
 |_=>rw[hq] at e;cases e
section
variable{m:Str}{k j n:Nat}{cs:List Nat}{F:Nat->OT->List D->Option OT}{oe e:Expr}{es:List Expr}{apos pos pos':Pos}{f:FP}{g:FA}
theorem JG{pl:Sem Bool}{i:Nat}{x:Str}{px:Pos}{gx:FX}(M:LCal X.prog X.w X.K X.mg X.base m k 1 cs F)(hr:Room j X.A)(ha:PVx X e gx)(hj:k<=j:=by decide)(hN:X.N[i]?=some x:=by rfl)(hv:Vis X.env.scope x:=by first | exact Or.inl rfl | exact Or.inr (Or.inl rfl) | exact Or.inr (Or.inr rfl))(hd:(6:)=false:=by decide)(hcd:(x==("__classdict__" : Str))=false:=by decide)(hst:aF [e] X.env=(false,bT e X.env)::aF [] X.env:=by rfl)(hpl:(cP pos (aF [] X.env)).any (·.1)=false:=by rfl)(ht:bT (.Call (.Attribute (.Name x px) m apos) [e] [] pos) X.env=(do
    let ov <- bT (.Name x px) X.env
    fO apos.atName
    let (f,first) <- eC [ov] (fH ov m pl)
    hW pos f first (cP pos (aF [e] X.env)) (fN pos (dJ [] X.env))):=by rfl)(hsw:dF (.Call (.Attribute (.Name x px) m apos) [e] [] pos) none pos'.line X.env=pure false:=by rfl):PSv X (.Expr (.Call (.Attribute (.Name x px) m apos) [e] [] pos) pos') (lentX cs F i gx):=by
 obtain⟨t,pt,hgx⟩:=ha;refine⟨_,xC (EY (pl:=pl) (k:=k) (yL hN hv hd hcd) (hr.mono hj) (qY pt jW hst) hst hpl ht) hsw,(3:)⟩;unfold lentX varP at e;cases hs:ds[i]? with
 |none=>rw[hs] at e;cases e
 | some s =>
   rw[hs] at e;cases s with
   | ob r T =>
     simp only[aQ] at e;cases T with
     | ins c ts =>
       simp only at e
       split at e
       . rename_i hc;cases h2:gx ds with
         |none=>rw[h2] at e;cases e
         | some p =>
           obtain⟨d,ds2⟩:=p;rw[h2] at e;simp only[aQ] at e;cases hs2:ds2[i]? with
           |none=>rw[hs2] at e;cases e
           | some s2 =>
             rw[hs2] at e;cases s2 with
             | ob r2 T2 =>
               simp only[aQ] at e;cases T2 with
               | ins c2 ts2 =>
                 simp only at e
                 split at e
                 . rename_i hc2;subst hc2;cases h4:F c2 (.ins c2 ts2) [d] with
                   |none=>rw[h4] at e;cases e
                   | some T' =>
                     rw[h4] at e;cases e;obtain⟨F0,hF0⟩:=o.obs;obtain⟨v,y1,y2,_⟩:=hF0 i r _ hs;generalize F0 i=fi at y2;cases y2 with
                     | @ins a C dx _ kvs _ fs' cc nn ha ek rr =>
                       obtain⟨fa,fd,ps,cl,hm,Fn,hb⟩:=M.of c2 hc C cc;refine⟨.ref a,y1,a,C,dx,kvs,fa,fd,ps,_,rfl,ha,jG (by rw[ek];exact M.no c2 hc),cl,hm,Fn,hb,?_⟩;refine hgx H₀ H O σ ds hd d ds2 _ o h2 fun vd H2 O2 o2 rd=>?_;obtain⟨v',w',f',z1,z2,z3,z4,z5,z6⟩:=o2.modAt (p:=[]) hs2 rfl;rw[y1] at z1;cases z1;cases(show w'=.ref a from z2);have ow:∀b∈f',O2 b:=fun b z=>(z3.owns b z).1
                       let B:aA->Prop:=fun b=>O2 b/\b∉f'
                       have toO:∀b,orL f' B b->O2 b:=fun b z=>z.elim (ow b) fun z=>z.1;refine⟨a,_,T',f',B,[vd],[d],rfl,rfl,z3.less toO (fun b z=>.inl z),z4,fun b z=>⟨z.2,o2.dom b z.1⟩,.cons (rd.less toO) .nil,h4,fun H' fs2 k1 k2 k3 k4=>?_⟩;have e':putP (i,[],OT.ins c2 ts2) T' ds2=ds2.set i (.ob r2 (putO T' [] (.ins c2 ts2))):=by simp[putP,hs2]
                       have h:After X H₀ hd E (.nx (putP (i,[],OT.ins c2 ts2) T' ds2)):=h;rw[e'] at h;exact h _ _ _ (z6 ⟨fun b u nb eb=>k1 b u (fun z=>nb (ow b z)) eb,fun b u _ nb eb=>k1 b u nb eb,fun b z nb=>.inr ⟨z,nb⟩,fun b z=>z.elim (fun z=>(k4 b z).elim (fun y=>.inl (ow b y)) fun y=>.inr ⟨z,y⟩) fun z=>.inl z.1,k4⟩ (fun b z y=>y.elim (fun y=>(k2.owns b y).2) fun y=>(y.2 z).elim) k2 k3)
                 . cases e
               |_=>cases e
             |_=>cases e
       . cases e
     |_=>cases e
   |_=>cases e
end
end
end FL
namespace L2
open PySem PySem.Spec PyProof.Rows
section
variable{X:Cx}
theorem EF:∀{vs:List Value} {ks:List Str},vs.length=ks.length->(∀(j:Nat) (v:Value),vs[j]?=some v->∃(x:Str) (t:Tok),ks[j]?=some x/\v=Value.str x t)->ZQ vs ks
 |[],[],_,_=>.nil
 |[],_::_,h,_=>by simp at h
 |_::_,[],h,_=>by simp at h
 | v :: vs, k :: ks, h, H => by
   obtain⟨x,t,h1,h2⟩:=H 0 v rfl;simp only[eU,Option.some.injEq] at h1;subst h1 h2;exact .cons _ _ (EF (by simpa using h) fun j u e=>H (j+1) u (by simpa using e))
theorem DZ:∀{us:List Value} {ns:List Str},ZQ us ns->Vals (ns.map V.str) us
 |_,_,.nil=>.nil
 |_,_,.cons n t h=>.cons ⟨t,rfl⟩ (DZ h)
theorem KV.at'{κ : Type}{kvs:List (κ×V)}{vs:List (κ×Value)}{i:Nat}{k : κ}{u:Value}(h:KV kvs vs)(e:vs[i]?=some (k,u)):∃x,kvs[i]?=some (k,x)/\RelV x u:=by
 unfold KV at h
 induction h generalizing i with
 |nil=>simp at e
 | @cons p q _ _ h _ ih =>
   cases i with
   | zero =>
     simp only[eU,Option.some.injEq] at e;subst e;exact⟨p.2,by simp only[eU];rw[show p=(k,p.2) from Prod.ext h.1 rfl],h.2⟩
   | succ i =>
     simp only[dL] at e ⊢;exact ih e
theorem MR(hc:X.calm=true):CallR X (.builtin "sorted") (fun xs H Q=>∃(p:aA) (kvs:List (Key×V)) (ks:List Str),xs=[.ref p]/\Rd H p (.dK kvs)/\kvs.map (·.1)=ks.map Sum.inr/\ks.length<64/\∀l,H l=none->Q (.ref l) (upd H l (.lst ((FL.srtT ks).map V.str)))):=by
 intro aC s σ H xs us Q I r h;obtain⟨p,kvs,ks,rfl,hq,ek,h64,q⟩:=h;obtain⟨u,rfl,ru⟩:=vals1 r;cases ru;obtain⟨z,hds,vs,rel,dd⟩:=KD I.hok hq;obtain⟨ep,hat⟩:=dd.dictAt;have hl:=rel.length;have hk:kvs.length=ks.length:=by have:=congrArg List.length ek;simpa using this
 refine Calls.call_function_entry (A:=X.A) kind_sorted plain_sorted entry_sorted (args_sorted1 _) ?_;show bF _ _ (checkCount "sorted" 1 1 1 >>= _) _ _ s;refine aS (cJ (aS (PySem.W.kdu_collect (PySem.W.kdl_dict hds) (by simpa using I.ok.hd hc) hat (by omega) fun h1 tk acc k1 hit=>?_)))
 have hS:ZQ acc.toList ks:=EF (by rw[mJ,hit.1];omega) fun j v e=>by
  obtain⟨k,x,e1,e2⟩:=hit.2 j v (by rw[<- rA];exact e);obtain⟨y,e3,_⟩:=rel.at' e1;have e4:(kvs.map (·.1))[j]?=some k:=by rw[bA,e3];rfl
  rw[ek,bA] at e4;cases e5:ks[j]? with
  |none=>rw[e5] at e4;cases e4
  | some w =>
    rw[e5] at e4;cases e4;rcases qV (k:=Sum.inr w) (v:=v) e2 with⟨i,t,e6,_⟩ | ⟨y,t,e6,e7⟩
    . cases e6
    . cases e6;exact⟨w,t,rfl,e7⟩
 refine TU.sorted_endS (s:={ s with heap:=h1,toks:=tk }) hS (by rw[mJ,hit.1];omega) fun h2 vs' ns' e p1 p2 p3 p4 p5=>?_;have en:ns'=FL.srtT ks:=FL.leT_unique _ _ (p4.trans (FL.srtT_perm ks).symm) (FL.sortedS_le p5) (FL.srtT_le ks);have I1:Inv X aC σ H { s with heap:=h1,toks:=tk }:=I.kept k1;refine⟨.ref h1.objs.size,_,Inv.laid (s:={ s with heap:=h1,toks:=tk }) I1 (t':=tk) p1 (aY _) (show ObjOk X.prog X.w _ h2 _ (.lst ((FL.srtT ks).map V.str)) from ⟨?_,vs',e,?_,p2⟩),rfl,q _ (I1.hok.fresh (aY _))⟩
 . have := (FL.srtT_perm ks).length_eq;simp only[bO];omega
 . rw[<- en];exact DZ p3
end
end L2
namespace FL
open PySem PySem.Spec PyProof.Rows L2
section
variable{X:Cx}
theorem NT{e:Expr}{f:FE}{p pos:Pos}(hc:X.calm=true)(hm:X.mg "sorted" = none)(he:PVn X e f)(hg:Gl X "sorted":=by rfl)(hs:aF [e] X.env=[(false,bT e X.env)]:=by rfl) :
  PVf X (.Call (.Name "sorted" p) [e] [] pos) (srtDA f):=by
 obtain⟨te,pe,he⟩:=he;refine⟨_,wL (MR hc) hg hm (by decide +kernel) (qY pe jW hs) (by decide) (by decide) hs rfl,fun H₀ H O σ ds hd l Q o e q=>?_⟩;unfold srtDA at e;obtain⟨d,h1,e⟩:=bnd e;obtain⟨kl,h2,e⟩:=bnd e;obtain⟨ks,h3,e⟩:=bnd e
 split at e
 . rename_i h64;cases e;refine he H₀ H O σ ds hd _ _ o h1 fun v H1 s1 r1=>?_;obtain⟨a,kvs,rfl,hb,ek,rs⟩:=DO r1 h2;exact⟨a,kvs,ks,rfl,hb,ek.trans (FM h3),h64,fun p hp=>q p _ _ (s1.trans (qG hp _)) (s1.free hp) bM (JA _)⟩
 . cases e
end
end FL
namespace L2
open PySem PySem.Spec PyProof.Rows
section
variable{X:Cx}
noncomputable def tFrz(t:TE):TE:=fun σ H Q=>t σ H fun x H1=>∃a kvs,x=.ref a/\H1 a=some (.dK kvs)/\∀o,Q x (upd H1 a (.frz o (.dK kvs)))
theorem pe_frz{e:Expr}{t:TE}(h:PE X e t):PE X e (tFrz t):=by
 intro aC s σ H Q I hq;refine thn (h aC s σ H _ I hq) fun v s1 zq=>?_;obtain⟨x,H1,I1,r1,a,kvs,e1,h1,q1⟩:=zq;obtain⟨o,I2⟩:=I1.freezeD h1;exact⟨x,_,I2,r1,q1 o⟩
end
end L2
namespace FL
open PySem PySem.Spec PyProof.Rows L2
section
variable{X:Cx}
theorem aBy{pos:Pos}: PV X (.Dict [] [] pos) (zB (.dcf [] [])):=by
 refine⟨_,pe_frz OH,fun H₀ H O σ ds hd d Q o e q=>fun p hp=>?_⟩;cases e;refine⟨p,[],rfl,bM,fun ob=>?_⟩
 have sm:Same H (upd (upd H p (.dK [])) p (.frz ob (.dK []))):=fun b u eb=>by
  rw[upd_ne (qT eb hp),upd_ne (qT eb hp)];exact eb
 exact q _ _ sm (.dcf (kvs:=[]) (fun z=>by obtain⟨u,eu⟩:=o.dom p z;rw[hp] at eu;cases eu) bM rfl .nil)
end
section
variable{X:Cx}
theorem Ok.look{K:Frag}{H₀ H:Hp}{O:aA->Prop}{σ : L2.St}{ds:List Sl}{hd:Hold}(o:Ok K H₀ H O σ ds hd)(i:Nat):∃O',Ok K H₀ H O' σ (relO i ds) hd:=by
 by_cases hs:∃r T,ds[i]?=some (.ob r T)
 . obtain ⟨r, T, hl⟩ := hs;have e':relO i ds=ds.set i (.v (otD T)):=by unfold relO; rw [hl]
   rw[e'];exact o.frz hl
 . have e':relO i ds=ds:=by
    unfold relO
    split
    . rename_i r T hl;exact(hs ⟨r,T,hl⟩).elim
    . rfl
   rw[e'];exact⟨O,o⟩
theorem pv_relO(i:Nat){e:Expr}{f:FE}(h:PV X e f):PV X e (relVO i f):=by
 obtain⟨t,ht,hf⟩:=h;refine⟨t,ht,(5:)⟩;obtain⟨O',o'⟩:=o.look i;unfold relVO at e;cases h1:f (relO i ds) with
 |none=>rw[h1] at e;cases e
 | some d' =>
   rw[h1] at e;simp only[aQ,flV'] at e
   split at e
   . rename_i hfl;cases e;exact hf H₀ H O' σ _ hd _ Q o' h1 fun v H' s r=>q v H' s (Rep.flatten (fun a z=>((o.mono s).dom a z).elim fun u e=>⟨_,e,u.2⟩) hfl r)
   . cases e
theorem yK(i:Nat){e:Expr}{f:FA}(h:PVf X e f):PVf X e (relFO i f):=by
 obtain⟨t,ht,hf⟩:=h;refine⟨t,ht,fun H₀ H O σ ds hd l Q o e q=>?_⟩;obtain⟨O',o'⟩:=o.look i;unfold relFO at e;cases h1:f (relO i ds) with
 |none=>rw[h1] at e;cases e
 | some l' =>
   rw[h1] at e;simp only[aQ] at e
   split at e
   . rename_i hfl;cases e;refine hf H₀ H O' σ _ hd _ Q o' h1 fun a xs H' s hn he r=>q a xs H' s hn he (Reps.flatten (fun b z=>?_) hfl r);rcases z with rfl | z
     . exact⟨_,he,rfl⟩
     . obtain⟨u, eu⟩ := (o.mono s).dom b z;exact⟨_,eu,u.2⟩
   . cases e
end
abbrev LkF(K:Frag)(f:aA)(oc:Value)(od:Option aA)(nm q:Str)(st:Stmt)(dV kV dc pm:Value)(an:Option aA)(cd ct:Value)(sl:Array (Option Value)):Prop:=K.lookup f=some ⟨oc,od,.func (dH nm q (jR st) (qL st) (zE st) dV kV dc pm an cd ct),sl⟩
structure FunD(K:Frag)(x qual:Str)(st:Stmt)(f:aA)(fd:aJ)(its:Array Value):Prop where
 ex:∃(Tu:aA) (ob:Obj) (n:Nat) (oc:Value) (od:Option aA) (kV doc pm:Value) (an:Option aA) (cdv ct:Value) (osl:Array (Option Value)),
  fd=dH x qual (jR st) (qL st) (zE st) (.ref Tu) kV doc pm an cdv ct/\K.lookup f=some ⟨oc,od,.func fd,osl⟩/\fK K cdv qual=true/\K.lookup Tu=some ob/\ob.data=.seq its n
 kp:bG K (.ref f)=true
section
variable{P:aW}{w:bR}{K:Frag}{mg:Str->Option Value}{base:Heap}{x qual:Str}{st:Stmt}{f:aA}{fd:aJ}{its:Array Value}
theorem fun_mkD{Tu:aA}{ob:Obj}{n:Nat}{oc:Value}{od an:Option aA}{osl:Array (Option Value)}{kV doc pm cdv ct:Value}(l:K.lookup f=some ⟨oc,od,.func (dH x qual (jR st) (qL st) (zE st) (.ref Tu) kV doc pm an cdv ct),osl⟩)(c:fK K cdv qual=true)(k:bG K (.ref f)=true)(lt:K.lookup Tu=some ob)(hs:ob.data=.seq its n):FunD K x qual st f (dH x qual (jR st) (qL st) (zE st) (.ref Tu) kV doc pm an cdv ct) its :=
 ⟨⟨Tu,ob,n,oc,od,kV,doc,pm,an,cdv,ct,osl,rfl,l,c,lt,hs⟩,k⟩
theorem FunD.binds{ps:List Str}{ds:List Value}(F:FunD K x qual st f fd its)(h:∀(Tu:aA) (kV doc pm:Value) (an:Option aA) (cdv ct:Value) (us:List Value),(us++ds).length=ps.length->∃k:Option (Array Value)->Sem (List (Str×Value)),uY (dH x qual (jR st) (qL st) (zE st) (.ref Tu) kV doc pm an cdv ct) ⟨us,[]⟩=seqItems? (.ref Tu) >>= k/\k (some its)=pure (ps.zip (us++ds))):Binds K fd ps ds:=by
 obtain⟨Tu,ob,n,oc,od,kV,doc,pm,an,cdv,ct,osl,rfl,lk,hcd,lt,hs⟩:=F.ex;intro s us X hl;obtain⟨k,h1,h2⟩:=h Tu kV doc pm an cdv ct us hl;exact PySem.W.binds_K X rfl lt hs h1 h2
theorem aEl{N ps:List Str}{k n:Nat}{F:OT->List D->Option OT}(Fn:FunD K x qual st f fd its)(S:FnScope N ps (zE st)){g:FS}(hbody:∀(cdv:Value) (A:bL) (outer:List Env) (s:aD) (H:Hp) (E:XK),Room k (A.deeper (fY qual (zE st) s.heap.objs.size f cdv))->PSsv (7:).nox (qL st) g)(hg:∀T l T',l.length=n->F T l=some T'->lentF g N.length T l=some T')(hn:ps.length=n+1:=by rfl)(hN:0<N.length:=by decide):FnOk P w K mg base CX0 (k+1) f fd ps (spL K n F):=by
 refine PR (fun sp a b=>?_) hbody hg hn hN;obtain⟨Tu,ob,n,oc,od,kV,doc,pm,an,cdv,ct,osl,rfl,lk,hcd,lt,hs⟩:=Fn.ex;refine aEo lk hcd S a fun A outer s H vs Q E hr hsp=>?_;obtain⟨t,h,q⟩:=b cdv A outer s H vs Q E hr hsp;exact⟨t,h.nox,q⟩
theorem len0{P:List Value->Prop}(h:P []):∀us:List Value,us.length=0->P us:=fun us hl=>by cases us with | nil=>exact h | cons _ _=>cases hl
theorem lenS{P:List Value->Prop}{n:Nat}(h:∀a us,us.length=n->P (a::us)):∀us:List Value,us.length=n+1->P us:=fun us hl=>by cases us with | nil=>cases hl | cons a r=>exact h a r (Nat.succ.inj hl)
theorem len1{P:List Value->Prop}(h:∀a0,P [a0]):∀us:List Value,us.length=1->P us:=lenS fun a=>len0 (P:=fun us=>P (a::us)) (h a)
theorem len2{P:List Value->Prop}(h:∀a0 a1,P [a0,a1]):∀us:List Value,us.length=2->P us:=lenS fun a=>len1 (P:=fun us=>P (a::us)) (h a)
theorem len3{P:List Value->Prop}(h:∀a0 a1 a2,P [a0,a1,a2]):∀us:List Value,us.length=3->P us:=lenS fun a=>len2 (P:=fun us=>P (a::us)) (h a)
theorem len4{P:List Value->Prop}(h:∀a0 a1 a2 a3,P [a0,a1,a2,a3]):∀us:List Value,us.length=4->P us:=lenS fun a=>len3 (P:=fun us=>P (a::us)) (h a)
theorem len5{P:List Value->Prop}(h:∀a0 a1 a2 a3 a4,P [a0,a1,a2,a3,a4]):∀us:List Value,us.length=5->P us:=lenS fun a=>len4 (P:=fun us=>P (a::us)) (h a)
noncomputable def DefM(K:Frag)(x:Str)(st:Stmt)(f:aA):Prop:=∃(oc:Value) (od:Option aA) (kV dc pm:Value) (an:Option aA) (cd ct:Value) (sl:Array (Option Value)),aI K aH x=some (some (.ref f))/\LkF K f oc od x x st .none kV dc pm an cd ct sl/\fK K cd x=true/\bG K (.ref f)=true
noncomputable def DefC(K:Frag)(C:aA)(m q:Str)(st:Stmt)(f:aA):Prop:=∃(oc:Value) (od:Option aA) (kV dc pm:Value) (an:Option aA) (cd ct:Value) (sl:Array (Option Value)),cF K (.ref C) m=some (some (.ref f))/\LkF K f oc od m q st .none kV dc pm an cd ct sl/\fK K cd q=true/\bG K (.ref f)=true/\mE K (.ref f)=true
theorem DefM.get{x:Str}{st:Stmt}{f:aA}(h:DefM K x st f):∃fd,Fun K x x st f fd/\aI K aH x=some (some (.ref f))/\bG K (.ref f)=true:=by
 obtain⟨_,_,_,_,_,_,_,_,_,a,l,c,k⟩:=h;exact⟨_,SN l c k,a,k⟩
theorem DefC.get{C:aA}{m q:Str}{st:Stmt}{f:aA}(h:DefC K C m q st f):∃fd,Fun K m q st f fd/\cF K (.ref C) m=some (some (.ref f))/\bG K (.ref f)=true/\mE K (.ref f)=true:=by
 obtain⟨_,_,_,_,_,_,_,_,_,a,l,c,k,i⟩:=h;exact⟨_,SN l c k,a,k,i⟩
theorem cal_mk{k n:Nat}{x:Str}{f:aA}{fd:aJ}{ps:List Str}{F:List D->Option Ret}(G:FnOk P w K mg base CX0 k f fd ps (spF K n F))(b:Binds K fd ps [])(h:bG K (.ref f)=true)(m:mg x=some (.ref f)):Cal P w K mg base x k n F:=⟨f,_,_,G,b,h,m⟩
structure SysAt(P:aW)(w:bR)(base:Heap)(K:Frag)(mg:Str->Option Value):Prop where
 ex:∃h:Heap,K.In h/\h.Ns aH mg
noncomputable def CN(K:Frag)(x:Str)(C:aA):Prop:=aI K aH x=some (some (.ref C))/\kQ K C Str.empty=true/\nN K C=true/\tP K C=true/\cF K (.ref C) "__setattr__" = some (some (.builtin "object.__setattr__"))
theorem CN.get{C:aA}(h:CN K x C):aI K aH x=some (some (.ref C))/\Cls K C:=⟨h.1,⟨h.2.1,h.2.2.1,h.2.2.2.1,h.2.2.2.2⟩⟩
theorem jF{f:Str}{t i:Nat}{C:aA}{ix:List (Nat×Nat)}(a:aI K aH (dD t)=some (some (.ref C)))(c:Cls K C)(n:NoAttr K C f)(h:FldOk K f ix)(h1:(cQ t)[i]?=some f:=by rfl)(h2:∀j,j<i->(cQ t)[j]?≠some f:=by decide +kernel):FldOk K f ((t,i)::ix):=SQ a c n h1 h2 h
noncomputable def XN(K:Frag)(A B:aA):Prop:=pE K B=true/\mO K (.ref B)=some (.type "type")/\fA K (.ref A) (.ref B)=some false/\(Value.ref A==Value.ref B)=false
theorem XN.k{A B:aA}(h:XN K A B):cZ K (.ref A) (.ref B)=some false:=kit_no h.1 h.2.1 h.2.2.1 h.2.2.2
noncomputable def XI(K:Frag)(x:Str)(C:aA):Prop:=aI K aH x=some (some (.ref C))/\cF K (.ref C) "__getattribute__" = some (some (.builtin "BaseException.__getattribute__"))/\cF K (.ref C) "__getattr__" = some none/\cF K (.ref C) "__class__" = some (some (.builtin "object.__class__"))/\sD K C (.type "object")=some true/\sD K C (.type "BaseException")=some true
theorem XI.i{C:aA}(h:XI K x C):XIn K C:=⟨h.2.1,h.2.2.1,h.2.2.2.1,h.2.2.2.2.1,h.2.2.2.2.2⟩
theorem jE{cv:Value}{t:Nat}{b:Bool}{C:aA}{tb:List (Nat×Bool)}(y:XI K (xName t) C)(k:cZ K (.ref C) cv=some b)(r:IsxOk K cv tb):IsxOk K cv ((t,b)::tb):=aEf y.1 y.i k r
theorem DefM.cal{k n:Nat}{x:Str}{st:Stmt}{f:aA}{ps:List Str}{F:List D->Option Ret}(d:DefM K x st f)(X:SysAt P w base K mg)(hf:∀{fd},Fun K x x st f fd->FnOk P w K mg base CX0 k f fd ps (spF K n F))(hb:∀(kV doc pm:Value) (an:Option aA) (cdv ct:Value) (us:List Value),us.length=ps.length->uY (dH x x (jR st) (qL st) (zE st) .none kV doc pm an cdv ct) ⟨us,[]⟩=pure (ps.zip us):=by
    intro _ _ _ _ _ _;first | exact len0 rfl | exact len1 fun _=>rfl | exact len2 fun _ _=>rfl | exact len3 fun _ _ _=>rfl | exact len4 fun _ _ _ _=>rfl | exact len5 fun _ _ _ _ _=>rfl):Cal P w K mg base x k n F:=by
 obtain⟨_,F1,a,c⟩:=d.get;obtain⟨_,X,G⟩:=X.ex;exact cal_mk (hf F1) (F1.binds hb) c (bD X G a)
theorem DefC.mc{j k n t:Nat}{cs:List Nat}{C f:aA}{m q:Str}{st:Stmt}{ps:List Str}{F:Nat->List D->Option Ret}(d:DefC K C m q st f)(a:aI K aH (dD t)=some (some (.ref C)))(c:Cls K C)(hf:∀{fd},Fun K m q st f fd->FnOk P w K mg base CX0 j f fd ps (spF K (n+1) (F t)))(h:MCal P w K mg base m k n cs F)(hj:j<=k:=by decide)(hn:m∉cQ t:=by decide +kernel)(hb:∀(kV doc pm:Value) (an:Option aA) (cdv ct:Value) (us:List Value),us.length=ps.length->uY (dH m q (jR st) (qL st) (zE st) .none kV doc pm an cdv ct) ⟨us,[]⟩=pure (ps.zip us):=by
    intro _ _ _ _ _ _;first | exact len1 fun _=>rfl | exact len2 fun _ _=>rfl | exact len3 fun _ _ _=>rfl):MCal P w K mg base m k n (t::cs) F:=by
 obtain⟨_,F1,x,y,z⟩:=d.get;exact JO a c ⟨x,z,y⟩ (hf F1) hj (F1.binds hb) hn h
theorem DefC.lc{j k n t:Nat}{cs:List Nat}{C f:aA}{m q:Str}{st:Stmt}{ps:List Str}{F:Nat->OT->List D->Option OT}(d:DefC K C m q st f)(a:aI K aH (dD t)=some (some (.ref C)))(c:Cls K C)(hf:∀{fd},Fun K m q st f fd->FnOk P w K mg base CX0 j f fd ps (spL K n (F t)))(h:LCal P w K mg base m k n cs F)(hj:j<=k:=by decide)(hn:m∉cQ t:=by decide +kernel)(hb:∀(kV doc pm:Value) (an:Option aA) (cdv ct:Value) (us:List Value),us.length=ps.length->uY (dH m q (jR st) (qL st) (zE st) .none kV doc pm an cdv ct) ⟨us,[]⟩=pure (ps.zip us):=by
    intro _ _ _ _ _ _;first | exact len1 fun _=>rfl | exact len2 fun _ _=>rfl | exact len3 fun _ _ _=>rfl):LCal P w K mg base m k n (t::cs) F:=by
 obtain⟨_,F1,x,y,z⟩:=d.get;exact wM a c ⟨x,z,y⟩ (hf F1) hj (F1.binds hb) hn h
theorem newOk{t:Nat}{C:aA}{a:Str}(n:aI K aH (dD t)=some (some (.ref C)))(c:Cls K C)(na:NoAttr K C a):∀C',aI K aH (dD t)=some (some (.ref C'))->Cls K C'/\NoAttr K C' a:=fun C' e=>by
 rw[n] at e;cases e;exact⟨c,na⟩
end
section
variable{X:Cx}
end
section
variable{X:Cx}{m:Str}{k j:Nat}{cs:List Nat}{F:Nat->List D->Option Ret}{o:Expr}{apos pos:Pos}{fo:FE}
theorem vZ{pl:Sem Bool}(M:MCal X.prog X.w X.K X.mg X.base m k 0 cs F)(hr:Room j X.A)(ho:PV X o fo)(hj:k<=j:=by decide)(ht:bT (.Call (.Attribute o m apos) [] [] pos) X.env=(do
    let ov <- bT o X.env
    fO apos.atName
    let (f,first) <- eC [ov] (fH ov m pl)
    hW pos f first (cP pos (aF [] X.env)) (fN pos (dJ [] X.env))):=by rfl):PVf X (.Call (.Attribute o m apos) [] [] pos) (methF 0 cs F fo zM):=by
 obtain⟨ta,pa,hfo⟩:=ho;refine⟨_,AQ (pl:=pl) (k:=k) pa (hr.mono hj) ht,(5:)⟩;unfold methF at e;obtain⟨x,h1,e⟩:=bnd e;simp only[zM,aQ] at e;obtain⟨r,h3,e⟩:=bnd e;refine FF (g:=zM) M hfo (fun _ H _ _ _ _ _ _ _ e q=>by cases e;exact q _ H (Same.refl _) .nil) o h1 rfl h3 fun v H1 H' s1 s' ro=>?_;obtain⟨a,xs,rfl,h4,h5,h6⟩:=LG ro e fun a ha=>(o.mono s1).old ha;exact q a xs H' (s1.trans s') (s1.free h4) h5 h6
end
end FL
namespace L2
open PySem PySem.Spec PyProof.Rows
section
variable{prog:aW}{w:bR}{A:bL}{E:Value->aD->Prop}{s:aD}
end
section
variable{X:Cx}
end
section
variable{X:Cx}
end
section
variable{X:Cx}
end
end L2
namespace FL
open PySem PySem.Spec PyProof.Rows L2
section
variable{X:Cx}
end
section
variable{X:Cx}
section
variable{scope:Scope}{NY:List Str}{mp:List (Option Nat)}{tg iter elt:Expr}{ifs:List Expr}{pos:Pos}{fi:FA}{ga:D->List Sl->Option (List Sl)}{tt:FT}{fe:FE}
end
theorem PVo.n{e:Expr}{f:FO}(h:PVo X e f):PVn X e (seeO f):=by
 obtain⟨t,ht,hf⟩:=h;refine⟨t,ht,(5:)⟩;unfold seeO at e;obtain⟨T,h1,rfl⟩:=mpd e;exact hf H₀ H O σ ds hd T Q o h1 fun v H' fs s r nd hn=>q v H' s (r.frz fun a z=>z.elim)
end
section
variable{X:Cx}
end
end FL
namespace L2
open PySem PySem.Spec PyProof.Rows
section
variable{X:Cx}
end
end L2
namespace FL
open PySem PySem.Spec PyProof.Rows L2
section
variable{X:Cx}
end
section
variable{prog:aW}{w:bR}{A:bL}{E:Value->aD->Prop}{s:aD}
theorem IE:entryFor table "proto.unchain" = some Builtin.«proto.unchain»:=entryFor_of_tree (by kernel_rfl)
theorem NR{α : Type}{Q : α->aD->Prop}{a ea:aA}{oe o:Obj}{vs ws:Array Value}(hh:A.handled=some (.ref ea))(he:s.heap.get? ea=some oe)(hd:oe.data=.fields vs)(h2:vs[2]?=some .none)(hn:ea≠a)(ho:s.heap.get? a=some o)(hod:o.data=.fields ws)(hws:2<ws.size)(h:E (.ref a) { s with heap:=s.heap.update a (Obj.mapFields (·.setIfInBounds 2 (.ref ea))) }):bF (bE prog w) A (raiseNew (.ref a):Sem α) Q E s:=by
 unfold raiseNew;refine aS (wpAny_handled ?_);rw[hh]
 have hb:(Value.ref ea != Value.ref a)=true:=by
  simp[bne,hn]
 dsimp only;rw[if_pos hb];refine aS (pV (wpAny_runValue (codeAny_builtin IE ?_)));unfold Builtin.«proto.unchain»;dsimp only;refine aS (lI he hd h2 ?_);rw[if_pos (by rfl)];refine aS (cJ (cJ ?_));dsimp only;refine aS ?_;simp only[updateField];refine aS (wpAny_load ho ?_);rw[hod];dsimp only;rw[if_pos hws];refine wpAny_update ho ?_;exact wpAny_throw h
theorem LH{it ea:aA}{oe:Obj}{vs:Array Value}{x left step:Int}{Q:Option Value->aD->Prop}(hh:A.handled=some (.ref ea))(he:s.heap.get? ea=some oe)(hd:oe.data=.fields vs)(h2:vs[2]?=some .none)(hit:uZ s.heap it x left step)(hleft:left<=0)(hQ:∀h',Heap.ExtBut it s.heap h'->Q none { s with heap:=h' }):bF (bE prog w) A (pyNext (.ref it)) Q E s:=by
 have hT:s.TypeIs (.ref it) "range_iterator":=⟨_,hit,rfl⟩
 unfold pyNext
 refine aS (wpAny_attempt (wpAny_callSpecial?_slot (name:=Str.ofString "__next__") hT F.slot_range_iterator_next
  (II F.slot_range_iterator_next hT F.entry_range_iterator_next ?_ (F.args_range_iterator_next_1 _))))
 show bF _ _ (field (.ref it) 0 >>= _) _ _ s;refine aS (lI hit rfl (x:=uX x) rfl ?_);show bF _ _ (field (.ref it) 1 >>= _) _ _ s;refine aS (lI hit rfl (x:=uX left) rfl ?_);show bF _ _ (field (.ref it) 2 >>= _) _ _ s;refine aS (lI hit rfl (x:=uX step) rfl ?_);show bF _ _ (if left<=0 then _ else _) _ _ s;rw[if_pos hleft];refine aS (wpAny_rule (aS ?_));refine aS (m:=newExc (.type "StopIteration") []) ?_;simp only[newExc,newTuple];refine aS (pR ?_ (by size_fits));refine aS (m:=firstArgMember _ _) (wpAny_of_eq (a:=Value.none) (by first | rfl | (simp only[firstArgMember];rfl)) ?_);refine pR ?_ (by size_fits);have hlt:=bB he;refine NR (ea:=ea) hh (aL _ (aL _ he)) hd h2 (bS (bH hlt (by rw[kP];exact TW _))) (bC _ rfl) rfl (by rw[Array.size_append];exact bH (show 2<6 by decide) (Nat.le_add_right _ _)) ?_;refine aS (wpAny_isInstance (T:="StopIteration") (b:=true) ⟨_,lJ _ (bC _ rfl) rfl,rfl⟩ isSubtype_stop ?_);refine cJ (hQ _ ?_);intro b o hb e;rw[Heap.get?_update_ne]
 . exact aL _ (aL _ e)
 . exact bS (bH (bB e) (by rw[kP];omega))
end
theorem NG{P:aW}{w:bR}{K:aN}{tg:Expr}(it:aA)(lo:Int)(n:Nat):Turn P w K tg (Itr lo n) [it] it (fun i h=>uZ h it (lo+(i:Nat)*1) ((n:Int)-(i:Nat)) 1) HdP where
 mem:=by simp
 obj:=(vI (P:=P) (w:=w) (K:=K) (tg:=tg) it lo n).obj
 keep:=(vI (P:=P) (w:=w) (K:=K) (tg:=tg) it lo n).keep
 item:=by
  intro X hP hw hK hc i aC s σ H E I hf st hg;subst hP hw hK;obtain⟨f0,f1,f2,f3,f4,f5⟩:=hf it (by simp);have hi:i<n:=hg;refine wpAny_pyNext_range_item st (by omega) fun h' st' sb=>?_;have I1:Inv X aC σ H { s with heap:=h',toks:=s.toks+1 }:=I.turned (fun b o hb e=>sb.extBut b o hb e) f0 f1 f3 f4 f5;have e1:lo+(i:Int)*1+1=lo+((i+1:Nat):Int)*1:=by push_cast;omega
  have e2:(n:Int)-(i:Int)-1=(n:Int)-((i+1:Nat):Int):=by push_cast;omega
  rw[e1,e2] at st';refine⟨_,rfl,JW (s:={ s with heap:=h',toks:=s.toks+1 }) (n:="range_iterator") st' rfl rfl (by decide) ⟨.int (lo+i),H,I1,⟨s.toks,?_⟩,⟨rfl,rfl⟩,st',fun b hb=>(hf b hb).1⟩⟩;rw[Int.mul_one]
 done:=by
  intro X hP hw hK hc i aC s σ H E I hf st hg;subst hP hw hK;obtain⟨f0,f1,f2,f3,f4,f5⟩:=hf it (by simp);obtain⟨ea,oe,u,vs,h1,h2,h3,h4⟩:=SK I hc;obtain⟨he,_⟩:=I.hok ea _ h2;exact LH h1 he h3 h4 st (by have:n<=i:=hg;omega) fun h' eb=>⟨rfl,I.turned (t':=s.toks) (fun b o hb e=>eb b o hb e) f0 f1 f3 f4 f5⟩
 self:=fun _ _ _ _ _ st h=>wpAny_pyIter_rangeiter st h
section
variable{X:Cx}{tg:Expr}
theorem RT{a:Expr}{ta:TA}{p pos:Pos}(hg:Gl X "range")(hm:X.mg "range" = none)(ha:PA X [a] ta)(hs:aF [a] X.env=[(false,bT a X.env)]:=by rfl):PI X tg (.Call (.Name "range" p) [a] [] pos) (iRng1 ta) HdP:=by
 intro aC s σ H R I h;refine Call_ (AT I hg hm boot_range (gM (thn (ha pos aC s σ H _ I h) fun us s1 zq=>?_) hs rfl));obtain⟨vs,H1,I1,r1,q1⟩:=zq;obtain⟨j,e,q1,q2,q⟩:=q1;subst e;cases r1 with
 | cons r rr =>
   cases rr;obtain⟨t,rfl⟩:=r;refine call_range_1 (wpAny_pyIter_range (IsRange.new ..) (small_one (by omega) (by omega) q1 q2) ?_);refine⟨_,[_],_,_,H1,rfl,(I1.kept fun b o e=>aL _ e:Inv X aC σ H1 { s1 with heap:=s1.heap.push _,toks:=_ }).kept (t':=_) fun b o e=>aL _ e,NG _ 0 j.toNat,?_,fun b hb=>?_,q⟩
   . have e1 : (0 : Int) + ((0 : Nat) : Int) * 1 = 0 := by simp
     have e2:((j.toNat:Nat):Int)-((0:Nat):Int)=Builtin.Range.rangeSize 0 j 1:=by rw[rangeSize_one];split<;>omega
     show uZ _ _ ((0:Int)+((0:Nat):Int)*1) (((j.toNat:Nat):Int)-((0:Nat):Int)) 1;rw[e1,e2];exact bC _ rfl
   . rw[aR.mp hb];exact(I1.kept (t':=s1.toks) fun b o e=>aL _ e).fpOk (aY _) (I1.hok.fresh (by rw[kP];exact TW _))
variable(X tg) in
noncomputable def PIh(iter:Expr)(fi:FA):Prop:=∃wi,PI X tg iter wi HdP/\∀H₀ H O σ ds hd items R,Ok X.K H₀ H O σ ds hd->fi ds=some items →
 (∀J p H',Same H H'->Rep X.K H' O p.1 p.2->Wlk X.K J p items->R J H')->wi σ H R
theorem RS{e:Expr}{p pos:Pos}{f:FE}(hm:X.mg "range" = none)(h:PV X e f)(hg:Gl X "range":=by rfl)(hs:aF [e] X.env=[(false,bT e X.env)]:=by rfl):PIh X tg (.Call (.Name "range" p) [e] [] pos) (rng1 f):=by
 obtain⟨t,ht,hf⟩:=h;refine⟨_,RT hg hm (qY ht jW hs) hs,fun H₀ H O σ ds hd items R o e q=>?_⟩;unfold rng1 at e;obtain⟨d,h1,e⟩:=bnd e;cases d with
 | int j =>
   simp only at e
   split at e
   . rename_i hj;cases e;refine hf H₀ H O σ ds hd _ _ o h1 fun v H' s r=>?_;cases r;exact⟨j,rfl,hj.1,hj.2,q _ (.non,.non) H' s .non IM⟩
   . cases e
 |_=>cases e
theorem WR{iter elt:Expr}{ifs:List Expr}{scope:Scope}{NY:List Str}{mp:List (Option Nat)}{pos:Pos}{fi:FA}{ga:D->List Sl->Option (List Sl)}{tt:FT}{fe:FE}(S:CompScope X scope NY mp)(hH:HdP X)(hi:PIh X tg iter fi)(hg:∀c,PGv (jD X scope NY c) tg ga)(ht:∀c,PFv (jD X scope NY c) ifs tt)(he:∀c,PV (jD X scope NY c) elt fe)(hs:∀x,eL iter X.env x=pure x:=by intro _;rfl):PVf X (.ListComp elt [⟨tg,iter,ifs,0⟩] scope pos) (compG fi mp ga tt fe):=by
 obtain⟨wi,pi,hi⟩:=hi;refine⟨_,OI S (fun aC σ H s I c e=>?_) pi (fun c=>(Classical.choose_spec (hg c)).1) (fun c=>(Classical.choose_spec (ht c)).1) (fun c=>(Classical.choose_spec (he c)).1) hs,?_⟩
 . have := SK I hH;rw[<- e] at this;exact this
 . exact GS hi (fun c=>(Classical.choose_spec (hg c)).2) (fun c=>(Classical.choose_spec (ht c)).2) (fun c=>(Classical.choose_spec (he c)).2)
end
section
variable{K:Frag}{H H' H₀ : Hp}{O O':aA->Prop}
theorem ok_lend{σ : L2.St}{ds:List Sl}{p:Nat}{a:aA}{T:OT}{fs:List aA}{B:aA->Prop}(rt:RepO K H (orL fs B) (.ref a) T fs)(nd:fs.Nodup)(hB:∀b,B b->b∉fs/\∃u:MutHO,H b=some u.1)(hl : σ.length=ds.length)(hp:ds[p]?=some (.ob (some p) T))(ha : σ[p]?=some (some (.ref a)))(ho:∀(j:Nat) (s:Sl),j≠p->ds[j]?=some s->s=.no\/∃d v,s=.v d/\σ[j]?=some (some v)/\Rep K H (orL fs B) v d) :
  Ok K (cutH fs H) H (orL fs B) σ ds [.root p a,.base B]:=by
 have no:∀{j:Nat},¬IsOwn ds j:=fun {j} ⟨l,e⟩=>by
  by_cases hj:j=p
  . subst hj;rw[hp] at e;cases e
  . rcases ho j _ hj e with h | ⟨d,v,h,_⟩<;>cases h
 have nob:∀{j:Nat} {r:Option Nat} {t:OT},ds[j]?=some (.ob r t)->j=p:=fun {j r t} e=>by
  by_cases hj:j=p
  . exact hj
  . rcases ho j _ hj e with h | ⟨d,v,h,_⟩<;>cases h
 refine⟨fun b u e=>?_,fun i l' a' e _=>(no ⟨l',e⟩).elim,fun b hb=>hb.elim (fun z=>(rt.owns b z).2) fun z=>(hB b z).2,hl,fun i s e=>?_,fun i j a _ hi _ _ _=>(no hi).elim,fun q hq=>?_,?_⟩
 . by_cases z : b ∈ fs
   . rw[DT z] at e;cases e
   . rwa [yX z] at e
 . by_cases hi : i = p
   . subst hi;rw[hp] at e;cases e;exact yG
   . rcases ho i s hi e with rfl | ⟨d, v, rfl, e2, r⟩
     . exact jA
     . rw[e2];exact jZ r
 . rcases aE.mp hq with rfl | hq
   . exact True.intro
   . cases aR.mp hq;refine fun b hb=>⟨.inr hb,fun z=>?_⟩
     obtain⟨n,u,e⟩:=hB b hb;rw[yX n,e] at z;cases z
 . refine ⟨fun _ => fs, fun i r' t' e => ?_⟩;cases nob e;rw [hp] at e;cases e;refine ⟨.ref a,ha,rt,fun k a' ek h=>?_,nd,fun b hb=>⟨DT hb,fun j r2 t2 hj e2=>(hj (nob e2)).elim,fun j oj=>(no oj).elim⟩⟩;cases ek;rcases aE.mp h with h | h
   . cases h;rfl
   . cases aR.mp h
theorem Ok.lendEnd{σ : L2.St}{ds:List Sl}{hd:Hold}{p:Nat}{a:aA}{T:OT}{fs:List aA}{B:aA->Prop}(o:Ok K (cutH fs H) H' O' σ ds hd)(e:ds[p]?=some (.ob (some p) T))(h1:HI.root p a∈hd)(h2:HI.base B∈hd) :
  ∃fs',(∀b u,b∉fs->H b=some u->H' b=some u)/\RepO K H' (orL fs' B) (.ref a) T fs'/\fs'.Nodup/\(∀b∈fs',b∈fs\/H b=none)/\∀b,orL fs' B b->O' b:=by
 obtain⟨F',hF⟩:=o.obs;obtain⟨v,y1,y2,y3,y4,y5⟩:=hF p _ _ e;cases y3 p a rfl h1;have hb:=o.hold (.base B) h2;have sub:∀b,orL (F' p) B b->O' b:=fun b z=>z.elim (fun z=>(y2.owns b z).1) fun z=>(hb b z).1;exact⟨F' p,fun b u nb eb=>o.same b u (by rw[yX nb];exact eb),y2.less sub fun b z=>.inl z,y4,fun b z=>KG (y5 b z).1,sub⟩
theorem aFl{fs fs':List aA}{B:aA->Prop}(h1:∀b,O b->b∈fs\/B b)(h2:∀b∈fs,O b)(h3:∀b,B b->O b)(k1:∀b u,b∉fs->H b=some u->H' b=some u)(k4:∀b∈fs',b∈fs\/H b=none):Chg H H' O (orL fs' B) fs fs' :=
 ⟨fun b u nb eb=>k1 b u (fun z=>nb (h2 b z)) eb,fun b u _ nb eb=>k1 b u nb eb,fun b z nb=>.inr ((h1 b z).resolve_left nb),fun b z=>z.elim (fun z=>(k4 b z).elim (fun y=>.inl (h2 b y)) fun y=>.inr ⟨z,y⟩) fun z=>.inl (h3 b z),k4⟩
theorem Ok.lendAt{σ : L2.St}{ds:List Sl}{hd:Hold}{i:Nat}{r:Option Nat}{T:OT}(o:Ok K H₀ H O σ ds hd)(e:ds[i]?=some (.ob r T))(hT:refO T=true) :
  ∃(a:aA) (fs:List aA),σ[i]?=some (some (.ref a))/\RepO K H O (.ref a) T fs/\fs.Nodup/\(∀b∈fs,O b) ∧
   ∀{H':Hp} {T':OT} {fs':List aA},(∀b u,b∉fs->H b=some u->H' b=some u)->RepO K H' (orL fs' (fun b=>O b/\b∉fs)) (.ref a) T' fs'->fs'.Nodup->(∀b∈fs',b∈fs\/H b=none) →
    Ok K H₀ H' (orL fs' (fun b=>O b/\b∉fs)) σ (ds.set i (.ob r T')) hd:=by
 obtain⟨v,w,f,y1,y2,y3,y4,y5,y6⟩:=o.modAt (p:=[]) e rfl;cases y2;have ow:∀b∈f,O b:=fun b z=>(y3.owns b z).1
 have hv:∃a,v=.ref a:=by
  cases y3 with
  |val _=>cases hT
  |lst _ _ _=>exact⟨_,rfl⟩
  |tup _ _ _=>exact⟨_,rfl⟩
  |dct _ _ _ _=>exact⟨_,rfl⟩
  |ins _ _ _ _ _=>exact⟨_,rfl⟩
 obtain⟨a,rfl⟩:=hv;refine⟨a,f,y1,y3,y4,ow,fun {H' T' fs'} k1 k2 k3 k4=>?_⟩;have:=y6 (aFl (B:=fun b=>O b/\b∉f) (fun b z=>(Classical.em (b∈f)).imp id fun y=>⟨z,y⟩) ow (fun b z=>z.1) k1 k4) (fun b z y=>y.elim (fun y=>(k2.owns b y).2) fun y=>(y.2 z).elim) k2 k3;exact this
end
noncomputable def spR(K:Frag)(n p:Nat)(F:OT->List D->Option (D×OT)):Sp:=fun vs H Q _=>vs.length=n/\∃(a:aA) (T T':OT) (d:D) (fs:List aA) (B:aA->Prop) (l:List D),vs[p]?=some (.ref a)/\l.length=n/\RepO K H (orL fs B) (.ref a) T fs/\fs.Nodup ∧
 (∀b,B b->b∉fs/\∃u:MutHO,H b=some u.1)/\(∀(j:Nat) (d:D),j≠p->l[j]?=some d->∃v,vs[j]?=some v/\Rep K H (orL fs B) v d)/\F T l=some (d,T') ∧
 ∀v H' fs',(∀b u,b∉fs->H b=some u->H' b=some u)->RepO K H' (orL fs' B) (.ref a) T' fs'->fs'.Nodup->(∀b∈fs',b∈fs\/H b=none)->Rep K H' (orL fs' B) v d->Q v H'
section
variable{X:Cx}
variable(X) in
noncomputable def PRv(ss:List Stmt)(f:FX):Prop:=∃t,PSs X ss t/\∀H₀ H O σ ds hd d ds' (E:Ends),Ok X.K H₀ H O σ ds hd->f ds=some (d,ds')->(∀v σ' H' O',Ok X.K H₀ H' O' σ' ds' hd->Rep X.K H' O' v d->E.rt v H')->t E σ H
theorem aBs{e:Expr}{f:FE}(h:PV X e f):PVx X e (vR f):=by
 obtain⟨t,ht,hf⟩:=h;refine⟨t,ht,fun H₀ H O σ ds hd d ds' Q o e q=>?_⟩;unfold vR at e;obtain⟨d,h1,e⟩:=mpd e;cases e;exact hf H₀ H O σ ds hd _ _ o h1 fun v H' s r=>q v H' O (o.mono s) r
theorem LR{e:Expr}{pos:Pos}{f:FX}(h:PVx X e f):PRv X [.Return (some e) pos] f:=by
 obtain⟨t,ht,hf⟩:=h;refine⟨_,LO (AO ht),fun H₀ H O σ ds hd d ds' E o e q=>?_⟩;exact hf H₀ H O σ ds hd d ds' _ o e fun v H' O' o' r=>q v σ H' O' o' r
theorem wP{st:Stmt}{rest:List Stmt}{g:FS}{f:FX}(h1:PSv X st g)(h2:PRv X rest f):PRv X (st::rest) (seqR g f):=by
 obtain⟨t,ht,hg⟩:=h1;obtain⟨u,hu,hf⟩:=h2;refine⟨_,wT ht hu,fun H₀ H O σ ds hd d ds' E o e q=>?_⟩;unfold seqR at e;obtain⟨out,h1,e⟩:=bnd e;cases out with
 | nx ds2 =>
   simp only at e;refine hg H₀ H O σ ds hd _ _ o h1 fun σ' H' O' o'=>?_;exact hf H₀ H' O' σ' ds2 hd d ds' E o' e q
 |_=>cases e
theorem prv_if{c:Expr}{a rest:List Stmt}{pos:Pos}{fc:FT}{f g:FX}(hc:PTv X c fc)(ha:PRv X a f)(hb:PRv X rest g):PRv X (.If c a [] pos::rest) (ifR fc f g):=by
 obtain⟨tc,pc,hc⟩:=hc;obtain⟨t,ht,hf⟩:=ha;obtain⟨u,hu,hg⟩:=hb;refine⟨_,wT (UO pc ht UN) hu,fun H₀ H O σ ds hd d ds' E o e q=>?_⟩;unfold ifR at e;obtain⟨k,h1,e⟩:=bnd e;refine hc H₀ H O σ ds hd k _ o h1 fun H' s=>?_;cases k with
 |true=>exact iteT (hf H₀ H' O σ ds hd d ds' _ (o.mono s) (by simpa using e) q)
 |false=>exact iteF (hg H₀ H' O σ ds hd d ds' E (o.mono s) (by simpa using e) q)
theorem prv_rel(i:Nat){ss:List Stmt}{f:FX}(h:PRv X ss f):PRv X ss (relR i f):=by
 obtain⟨t,ht,hf⟩:=h;refine⟨t,ht,fun H₀ H O σ ds hd d ds' E o e q=>?_⟩;have e:f (relS i ds)=some (d,ds'):=e
 by_cases hs:∃l,ds[i]?=some (.own l)
 . obtain ⟨l, hl⟩ := hs;have e':relS i ds=ds.set i (.v (.lst l)):=by unfold relS; rw [hl]
   rw[e'] at e;obtain⟨O',o'⟩:=o.release hl;exact hf H₀ H O' σ _ hd d ds' E o' e q
 . have e':relS i ds=ds:=by
    unfold relS
    split
    . rename_i l hl;exact(hs ⟨l,hl⟩).elim
    . rfl
   rw[e'] at e;exact hf H₀ H O σ _ hd d ds' E o e q
end
theorem VI{P:aW}{w:bR}{K:Frag}{mg:Str->Option Value}{base:Heap}{x qual:Str}{st:Stmt}{f:aA}{fd:aJ}{N ps:List Str}{k p:Nat}{F:OT->List D->Option (D×OT)}(Fn:Fun K x qual st f fd)(S:FnScope N ps (zE st)){g:FX}(hbody:∀(cdv:Value) (A:bL) (outer:List Env) (s:aD) (H:Hp) (E:XK),Room k (A.deeper (fY qual (zE st) s.heap.objs.size f cdv))->PRv (7:).nox (qL st) g)(hg:∀T l q,l.length=ps.length->F T l=some q->lentR g N.length p T l=some q)(hp:p<ps.length:=by decide)(hN:ps.length<=N.length:=by decide):FnOk P w K mg base CX0 (k+1) f fd ps (spR K ps.length p F):=by
 refine Fn.ok S (fun vs H Q E h=>h.1) (fun cdv A outer s H vs Q E hr h=>?_);obtain⟨hl,a,T,T',d,fs,B,l,ha,ll,rt,nd,hB,ra,e,q⟩:=h;obtain⟨t,ht,hf⟩:=hbody cdv A outer s H E hr;refine⟨t,ht,?_⟩;have hlen:(args N.length l).length=N.length:=by simp[args];omega
 have o:Ok K (cutH fs H) H (orL fs B) (L2.start N vs) ((args N.length l).set p (.ob (some p) T)) [.root p a,.base B]:=by
  refine ok_lend rt nd hB ?_ ?_ ?_ fun j s' hj es=>?_
  . rw[List.length_set,hlen];simp only[L2.start,cE,bO,rG];omega
  . rw[aK (by rw[hlen];omega)]
  . simp only[L2.start];rw[bN (by simp;omega),bA,ha];rfl
  . rw [aB (Ne.symm hj)] at es;unfold args at es
    by_cases hjl:j<l.length
    . rw[bN (by simpa using hjl), bA, cC hjl] at es;cases es;obtain⟨v,h1,h2⟩:=ra j _ hj (cC hjl);refine .inr ⟨_,v,rfl,?_,h2⟩;simp only[L2.start];rw[bN (by simp;omega),bA,h1];rfl
    . rw [cW (by simpa using hjl), cV] at es
      split at es
      . cases es;exact .inl rfl
      . cases es
 have e:=hg T l _ ll e;unfold lentR at e;cases h1:g ((args N.length l).set p (.ob (some p) T)) with
 |none=>rw[h1] at e;cases e
 | some z =>
   obtain⟨d2,ds2⟩:=z;rw[h1] at e;simp only[aQ] at e;cases h2:ds2[p]? with
   |none=>rw[h2] at e;cases e
   | some s0 =>
     rw[h2] at e;cases s0 with
     | ob r T2 =>
       cases r with
       |none=>cases e
       | some i =>
         simp only[obAt] at e
         split at e
         . rename_i hi;subst hi;cases e;refine hf _ H _ _ _ _ _ _ _ o h1 fun v σ' H' O' o' r=>?_;obtain⟨fs',k1,k2,k3,k4,k5⟩:=o'.lendEnd h2 (.head _) (.tail _ (.head _));exact q v H' fs' k1 k2 k3 k4 (r.less k5)
         . cases e
     |_=>cases e
structure CalR(P:aW)(w:bR)(K:Frag)(mg:Str->Option Value)(base:Heap)(x:Str)(k n p:Nat)(F:OT->List D->Option (D×OT)):Prop where
 ex:∃(f:aA) (fd:aJ) (ps:List Str),FnOk P w K mg base CX0 k f fd ps (spR K n p F)/\Binds K fd ps []/\bG K (.ref f)=true/\mg x=some (.ref f)
section
variable{X:Cx}
variable(X) in
noncomputable def PAx(i p:Nat)(es:List Expr)(g:FA):Prop:=∃t,PA X es t/\∀H₀ H O σ ds hd l r T v0 Q,Ok X.K H₀ H O σ ds hd->g ds=some l->ds[i]?=some (.ob r T)->σ[i]?=some (some v0) →
 (∀vs H',Same H H'->vs.length=l.length->vs[p]?=some v0->(∀(j:Nat) (d:D),j≠p->l[j]?=some d->∃v,vs[j]?=some v/\Rep X.K H' O v d)->Q vs H')->t σ H Q
theorem OJ{i:Nat}{x:Str}{px:Pos}{es:List Expr}{g:FA}(hr:PAs X es g)(hN:X.N[i]?=some x:=by rfl)(hv:Vis X.env.scope x:=by first | exact Or.inl rfl | exact Or.inr (Or.inl rfl) | exact Or.inr (Or.inr rfl))(hd:(6:)=false:=by decide)(hcd:(x==("__classdict__" : Str))=false:=by decide)(hs:aF (.Name x px::es) X.env=(false,bT (.Name x px) X.env)::aF es X.env:=by rfl):PAx X i 0 (.Name x px::es) (hereA g):=by
 obtain⟨t,ht,hg⟩:=hr;refine⟨_,qY (yL hN hv hd hcd) ht hs,fun H₀ H O σ ds hd l r T v0 Q o e e1 e2 q=>?_⟩;unfold hereA at e;obtain⟨l1,h1,rfl⟩:=mpd e;refine⟨v0,e2,hg H₀ H O σ ds hd l1 _ o h1 fun vs H' s rs=>?_⟩;refine q (v0::vs) H' s (by simp[rs.length]) rfl fun j d hj ej=>?_;cases j with
 |zero=>exact(hj rfl).elim
 |succ j=>exact rs.get ej
theorem JB{k j n i p:Nat}{F:OT->List D->Option (D×OT)}{x:Str}{pp pos:Pos}{e:Expr}{es:List Expr}{g:FA}(C:CalR X.prog X.w X.K X.mg X.base x k n p F)(hr:Room j X.A)(ha:PAx X i p (e::es) g)(hj:k<=j:=by decide)(hg:Gl X x:=by rfl)(hdb:(6:)=false:=by decide)(he:aF (e::es) X.env=(false,bT e X.env)::aF es X.env:=by rfl)(hpl:(cP pos (aF es X.env)).any (·.1)=false:=by rfl) :
  PVx X (.Call (.Name x pp) (e::es) [] pos) (callR n i F g):=by
 obtain⟨t,ht,hf⟩:=ha;obtain⟨f,fd,ps,Fn,hb,hk,hm⟩:=C.ex;refine⟨_,DI (CX:=CX0) (E:=E0) Fn (hr.mono hj) hg hm hk hb .nil pass0 ht hdb he hpl,fun H₀ H O σ ds hd d ds' Q o e q=>?_⟩;unfold callR at e;obtain⟨l,h,e⟩:=bnd e;cases hs:ds[i]? with
 |none=>rw[hs] at e;cases e
 | some s =>
   rw[hs] at e;cases s with
   | ob r T =>
     simp only at e
     split at e
     . rename_i hc;obtain ⟨z,h2,e⟩:=mpd e;cases e;obtain ⟨a0,_,ea,_⟩:=o.lendAt hs hc.1;refine hf H₀ H O σ ds hd l r T _ _ o h hs ea fun vs H1 s1 hl hp rs=>?_;have o1:=o.mono s1;obtain ⟨a,fs,ea',rt,nd,ow,back⟩:=o1.lendAt hs hc.1;rw [ea] at ea';cases ea';have toO:∀ b,orL fs (fun b=>O b/\b ∉ fs) b->O b:=fun b z=>z.elim (ow b) fun z=>z.1;refine ⟨by simp only [eI]; rw [hl]; exact hc.2,a0,T,z.2,z.1,fs,fun b=>O b/\b ∉ fs,l,by simpa using hp,hc.2,rt.less toO (fun b z=>.inl z),nd,fun b z=>⟨z.2,o1.dom b z.1⟩,fun j d hj ej=>?_,h2,fun v H' fs' k1 k2 k3 k4 k5=>?_⟩
       . obtain⟨v, e1, e2⟩ := rs j d hj ej;exact⟨v,by simpa using e1,e2.less toO⟩
       . exact q v H' _ (back k1 k2 k3 k4) k5
     . cases e
   |_=>cases e
theorem aCk{i:Nat}{x:Str}{e:Expr}{pos pos':Pos}{f:FX}(hN:X.N.Nodup)(he:PVx X e f)(hi:X.N[i]?=some x:=by rfl)(hx:Loc X.env.scope x:=by first | exact Or.inl rfl | exact Or.inr rfl)(hs:dF e (some (.Name x pos')) pos.line X.env=pure false:=by rfl)(hf:X.fn x=true\/X.env.scope.names.lookup x=some .local:=by first | exact .inl rfl | exact .inr rfl):PSv X (.Assign [.Name x pos'] e pos) (setR i f):=by
 obtain⟨t,ht,hg⟩:=he;refine⟨_,LP hN hi hx ht hs hf,(3:)⟩;unfold setR at e;obtain⟨q,h1,rfl⟩:=mpd e;exact hg H₀ H O σ ds hd q.1 q.2 _ o h1 fun v H' O' o' r=>h _ _ _ (o'.set r)
section
variable{scope:Scope}{NY:List Str}{mp:List (Option Nat)}{tg iter elt:Expr}{pos:Pos}{fi:FA}{ga:D->List Sl->Option (List Sl)}{fe:FX}{i p:Nat}
end
end
section
variable{P:aW}{w:bR}{K:Frag}{mg:Str->Option Value}{base:Heap}
theorem calR_mk{k n p:Nat}{x:Str}{f:aA}{fd:aJ}{ps:List Str}{F:OT->List D->Option (D×OT)}(G:FnOk P w K mg base CX0 k f fd ps (spR K n p F))(b:Binds K fd ps [])(h:bG K (.ref f)=true)(m:mg x=some (.ref f)):CalR P w K mg base x k n p F:=⟨f,_,_,G,b,h,m⟩
theorem DefM.calR{k n p:Nat}{x:Str}{st:Stmt}{f:aA}{ps:List Str}{F:OT->List D->Option (D×OT)}(d:DefM K x st f)(X:SysAt P w base K mg)(hf:∀{fd},Fun K x x st f fd->FnOk P w K mg base CX0 k f fd ps (spR K n p F))(hb:∀(kV doc pm:Value) (an:Option aA) (cdv ct:Value) (us:List Value),us.length=ps.length->uY (dH x x (jR st) (qL st) (zE st) .none kV doc pm an cdv ct) ⟨us,[]⟩=pure (ps.zip us):=by
    intro _ _ _ _ _ _;first | exact len0 rfl | exact len1 fun _=>rfl | exact len2 fun _ _=>rfl | exact len3 fun _ _ _=>rfl | exact len4 fun _ _ _ _=>rfl | exact len5 fun _ _ _ _ _=>rfl):CalR P w K mg base x k n p F :=
 by obtain⟨_,F1,a,c⟩:=d.get;obtain⟨_,X,G⟩:=X.ex;exact calR_mk (hf F1) (F1.binds hb) c (bD X G a)
end
open PySem.W (hideAll hideAll_get of_hideAll hideAll_none)
section
variable{M:QV}{A:bL}{E:Value->aD->Prop}{s:aD}{B:Heap}{l outer:List Env}{env:Env}{e L:aA}{cls a0 fl:Value}{Q:Unit->aD->Prop}
end
section
variable{X:Cx}{E:XK}{C:aA}
end
section
variable{X:Cx}{E:XK}{C:aA}{scope:Scope}{NY:List Str}{mp:List (Option Nat)}{tg iter elt:Expr}{pos:Pos}{fi:FA}{ga:D->List Sl->Option (List Sl)}{fe:FE}{x:List Sl->Bool}
end
section
variable{X:Cx}
end
end FL
namespace FL
open PySem PySem.Spec PyProof.Rows L2
structure MCalX(P:aW)(w:bR)(K:Frag)(mg:Str->Option Value)(base:Heap)(m:Str)(t k n:Nat)(R:List D->Bool)(C:aA):Prop where
 no:m∉cQ t
 ex:∃(B f:aA) (fd:aJ) (ps:List Str),aI K aH (dD t)=some (some (.ref B))/\Cls K B/\Meth K B m f/\FnOk P w K mg base (CXM P w) k f fd ps (spX K (n+1) R C)/\Binds K fd ps []
section
variable{X:Cx}{E:XK}{C:aA}{m:Str}{t k j n:Nat}{R:List D->Bool}{o e:Expr}{es:List Expr}{apos pos:Pos}{fo:FE}{g:FA}
theorem jM(st:List Stmt):MY X st:=⟨fun _ _ _=>False,fun _ _ _ _ _ _ h=>h.elim⟩
theorem yV(i:Nat){e:Expr}{f:FO}(h:PVo X e f):PVo X e (relGO i f):=by
 obtain⟨t,ht,hf⟩:=h;refine⟨t,ht,fun H₀ H O σ ds hd T Q ok ex q=>?_⟩;obtain⟨O',o'⟩:=ok.look i;unfold relGO at ex;obtain⟨T',h1,ex⟩:=bnd ex
 split at ex
 . rename_i hfl;cases ex;refine hf H₀ H O' σ _ hd _ Q o' h1 fun v H' fs s r nd nw=>q v H' fs s ?_ nd nw;refine RepO.flatten (fun a z=>?_) hfl r fun b hb=>.inl hb;rcases z with z | z
   . obtain⟨_, u, e⟩ := r.owns a z;exact⟨u.1,e,u.2⟩
   . obtain⟨u, e⟩ := (ok.mono s).dom a z;exact⟨_,e,u.2⟩
 . cases ex
theorem tF{e:Expr}{f:FO}(h:PVo X e f):PV X e (ofO f):=by
 obtain⟨t,ht,hf⟩:=h;refine⟨t,ht,fun H₀ H O σ ds hd d Q ok ex q=>?_⟩;unfold ofO at ex;obtain⟨T,h1,rfl⟩:=mpd ex;refine hf H₀ H O σ ds hd T Q ok h1 fun v H' fs s r nd nw=>q v H' s (r.val' fun a z=>⟨.inr z,fun hb=>?_⟩);obtain⟨u,e⟩:=ok.dom a z;rw[nw a hb] at e;cases e
theorem EO{f:aA}{fd:aJ}{ps:List Str}{N:Nat}(Fn:FnOk X.prog X.w X.K X.mg X.base (CXM X.prog X.w) k f fd ps (spX X.K N R C))(hr:Room k X.A)(hb:Binds X.K fd ps []){aC:List (aA×Obj)}{s1:aD}{σ : L2.St}{H H1:Hp}{us:List Value}{vs:List V}{l:List D}{Q:Value->aD->Prop}(I1:Inv X aC σ H1 s1)(r:Vals vs us)(q1:Same H H1)(q2:Reps X.K H1 jB vs l)(hl:l.length=N)(hR:R l=true)(W:∀ea a0 B H1 H' s1 s',Inv X aC σ H1 s1->Same H H1->Same H1 H'->Thrown X.prog X.w X.stack H1 s1 (.ref C) ea a0 B H' s'.heap->s'.os=s1.os->iQ s'.gens->X.xe (.ref ea) s') :
  bF (8:) X.A (call (.ref f) us) Q X.xe s1:=by
 have sp:spX X.K N R C vs H1 (fun _ _=>False) (fun cl _ H'=>cl=.ref C/\Same H1 H'):=⟨by rw[q2.length];exact hl,l,q2,hR,fun H' s'=>⟨rfl,s'⟩⟩
 have hl2:us.length=ps.length:=by rw[<- r.length];exact Fn.len _ _ _ _ sp
 have bd:=hb s1 us I1.kIn (by rw[eI];exact hl2);rw[eI] at bd;refine QQ (oM (Fn.run X.A X.stack s1 H1 ⟨us,[]⟩ us vs (fun _ _=>False) (fun cl _ H'=>cl=.ref C/\Same H1 H') hr I1.env0 bd r sp) fun r s' hq=>?_);cases r with
 | error e' =>
   obtain⟨ea,cls,a0,B,H',rfl,os,bare,T,rfl,sm⟩:=hq;exact W ea a0 B H1 H' s1 s' I1 q1 sm T os bare
 | ok fl =>
   cases fl with
   |ret u=>obtain⟨v,H',_,_,_,_,_,z⟩:=hq;exact z.elim
   |next=>exact False.elim hq
   |brk=>exact False.elim hq
   |cont=>exact False.elim hq
theorem BY{ds:List Sl}(ex:methX t n R fo g ds=true):∃es' l,fo ds=some (.ins t es')/\g ds=some l/\l.length=n/\R (.ins t es'::l)=true:=by
 unfold methX at ex;cases hd1:fo ds with
 |none=>rw[hd1] at ex;cases ex
 | some d =>
   rw[hd1] at ex;cases hl:g ds with
   |none=>rw[hl] at ex;cases ex
   | some l =>
     rw[hl] at ex;simp only[bU,decide_eq_true_eq] at ex;obtain⟨e1,e2,e3⟩:=ex;cases d with
     | ins c es' =>
       simp only[isT,decide_eq_true_eq] at e1;subst e1;exact⟨es',l,rfl,rfl,e2,e3⟩
     |_=>simp[isT] at e1
theorem OW{pl:Sem Bool}(M:MCalX X.prog X.w X.K X.mg X.base m t k n R C)(hr:Room j X.A)(ho:PV X o fo)(ha:PAn X (e::es) g)(hj:k<=j)(hst:aF (e::es) X.env=(false,bT e X.env)::aF es X.env)(hpl:(cP pos (aF es X.env)).any (·.1)=false)(ht:bT (.Call (.Attribute o m apos) (e::es) [] pos) X.env=(do
    let ov <- bT o X.env
    fO apos.atName
    let (f,first) <- eC [ov] (fH ov m pl)
    hW pos f first (cP pos (aF (e::es) X.env)) (fN pos (dJ [] X.env)))){aC:List (aA×Obj)}{s:aD}{σ : L2.St}{H H₀ : Hp}{O:aA->Prop}{ds:List Sl}{hd:Hold}{Q:Value->aD->Prop}(I:Inv X aC σ H s)(ok:Ok X.K H₀ H O σ ds hd)(ex:methX t n R fo g ds=true)(W:∀ea a0 B H1 H' s1 s',Inv X aC σ H1 s1->Same H H1->Same H1 H'->Thrown X.prog X.w X.stack H1 s1 (.ref C) ea a0 B H' s'.heap->s'.os=s1.os->iQ s'.gens->X.xe (.ref ea) s') :
  bF (8:) X.A (bT (.Call (.Attribute o m apos) (e::es) [] pos) X.env) Q X.xe s:=by
 obtain⟨B,f,fd,ps,hn,cl,hm,Fn,hb⟩:=M.ex;obtain⟨ta,pa,hfo⟩:=ho;obtain⟨tt,pt,hfg⟩:=ha;obtain⟨es',l,hd1,hl,e2,e3⟩:=BY ex;refine gR (pl:=pl) (thn (pa aC s σ H (fun x H1=>Same H H1/\Rep X.K H1 O x (.ins t es')) I (hfo H₀ H O σ ds hd _ _ ok hd1 fun v H1 s1 r1=>⟨s1,r1⟩)) fun u s1 zq=>?_) ht;obtain⟨x,H1,I1,rx,q1,r1⟩:=zq;cases r1 with
 | @ins a C' dx _ kvs _ cc nn ha ek rr =>
   have z:=cc.symm.trans hn;cases z;obtain rfl:u=Value.ref a:=rx;refine xR I1 ha cl hm (jG (by rw[ek];exact M.no)) ?_;refine gL (first:=[.ref a]) (h₀:=X.base) I.ok.mod.kin hm.kp (thn (pt pos aC s1 σ H1 (fun vs H2=>Same H1 H2/\Reps X.K H2 jB vs l) I1 (hfg H₀ H1 O σ ds hd l _ (ok.mono q1) hl fun vs H2 s2 r=>⟨s2,r⟩)) fun us s2 ⟨vs,H2,I2,r,p1,p2⟩=>⟨I2.kIn,?_⟩) hst hpl;have r1':Rep X.K H2 jB (.ref a) (.ins t es'):=(Rep.ins cc (fun z=>z.elim) (p1 _ _ ha) ek ((rr.mono p1).less fun _ z=>z.elim))
   exact EO (us:=.ref a::us) (vs:=.ref a::vs) Fn (hr.mono hj) hb I2 (.cons rfl r) (q1.trans p1) (.cons r1' p2) (by simp;omega) e3 W
theorem MA{pl:Sem Bool}(M:MCalX X.prog X.w X.K X.mg X.base m t k 0 R C)(hr:Room j X.A)(ho:PV X o fo)(hj:k<=j)(ht:bT (.Call (.Attribute o m apos) [] [] pos) X.env=(do
    let ov <- bT o X.env
    fO apos.atName
    let (f,first) <- eC [ov] (fH ov m pl)
    hW pos f first (cP pos (aF [] X.env)) (fN pos (dJ [] X.env)))){aC:List (aA×Obj)}{s:aD}{σ : L2.St}{H H₀ : Hp}{O:aA->Prop}{ds:List Sl}{hd:Hold}{Q:Value->aD->Prop}(I:Inv X aC σ H s)(ok:Ok X.K H₀ H O σ ds hd)(ex:methX t 0 R fo zM ds=true)(W:∀ea a0 B H1 H' s1 s',Inv X aC σ H1 s1->Same H H1->Same H1 H'->Thrown X.prog X.w X.stack H1 s1 (.ref C) ea a0 B H' s'.heap->s'.os=s1.os->iQ s'.gens->X.xe (.ref ea) s') :
  bF (8:) X.A (bT (.Call (.Attribute o m apos) [] [] pos) X.env) Q X.xe s:=by
 obtain⟨B,f,fd,ps,hn,cl,hm,Fn,hb⟩:=M.ex;obtain⟨ta,pa,hfo⟩:=ho;obtain⟨es',l,hd1,hl,e2,e3⟩:=BY ex;cases hl;refine gR (pl:=pl) (thn (pa aC s σ H (fun x H1=>Same H H1/\Rep X.K H1 O x (.ins t es')) I (hfo H₀ H O σ ds hd _ _ ok hd1 fun v H1 s1 r1=>⟨s1,r1⟩)) fun u s1 zq=>?_) ht;obtain⟨x,H1,I1,rx,q1,r1⟩:=zq;cases r1 with
 | @ins a C' dx _ kvs _ cc nn ha ek rr =>
   have z:=cc.symm.trans hn;cases z;obtain rfl:u=Value.ref a:=rx;refine xR I1 ha cl hm (jG (by rw[ek];exact M.no)) ?_;have r1':Rep X.K H1 jB (.ref a) (.ins t es'):=(Rep.ins cc (fun z=>z.elim) ha ek (rr.less fun _ z=>z.elim))
   exact sC (first:=[.ref a]) I1.kIn hm.kp (EO (us:=[.ref a]) (vs:=[.ref a]) Fn (hr.mono hj) hb I1 (.cons rfl .nil) q1 (.cons r1' .nil) rfl e3 W)
theorem NI{pos':Pos}{pl:Sem Bool}(M:MCalX X.prog X.w X.K X.mg X.base m t k n R C)(hr:Room j X.A)(ho:PV X o fo)(ha:PAn X (e::es) g)(hj:k<=j:=by decide)(hst:aF (e::es) X.env=(false,bT e X.env)::aF es X.env:=by rfl)(hpl:(cP pos (aF es X.env)).any (·.1)=false:=by rfl)(ht:bT (.Call (.Attribute o m apos) (e::es) [] pos) X.env=(do
    let ov <- bT o X.env
    fO apos.atName
    let (f,first) <- eC [ov] (fH ov m pl)
    hW pos f first (cP pos (aF (e::es) X.env)) (fN pos (dJ [] X.env))):=by rfl)(hs:dF (.Call (.Attribute o m apos) (e::es) [] pos) none pos'.line X.env=pure false:=by rfl) :
  pI X C (.Expr (.Call (.Attribute o m apos) (e::es) [] pos) pos') (methX t n R fo g):=by
 intro aC s σ H H₀ O ds hd I ok ex W;exact QR (OW (pl:=pl) M hr ho ha hj hst hpl ht I ok ex W) I.quiet hs
theorem IS{pos':Pos}{pl:Sem Bool}(M:MCalX X.prog X.w X.K X.mg X.base m t k 0 R C)(hr:Room j X.A)(ho:PV X o fo)(hj:k<=j:=by decide)(ht:bT (.Call (.Attribute o m apos) [] [] pos) X.env=(do
    let ov <- bT o X.env
    fO apos.atName
    let (f,first) <- eC [ov] (fH ov m pl)
    hW pos f first (cP pos (aF [] X.env)) (fN pos (dJ [] X.env))):=by rfl)(hs:dF (.Call (.Attribute o m apos) [] [] pos) none pos'.line X.env=pure false:=by rfl) :
  pI X C (.Expr (.Call (.Attribute o m apos) [] [] pos) pos') (methX t 0 R fo zM):=by
 intro aC s σ H H₀ O ds hd I ok ex W;exact QR (MA (pl:=pl) M hr ho hj ht I ok ex W) I.quiet hs
theorem aCm{st:Stmt}: PSv X st (fun _=>none):=⟨fun _ _ _=>False,fun _ _ _ _ _ _ h=>h.elim,fun _ _ _ _ _ _ _ _ _ e _=>by cases e⟩
theorem aCn{c:Expr}{a b:List Stmt}{p2 pos':Pos}{gx:FX}{fa fb:FS}(hc:PVx X c gx)(ha:PSsv X a fa)(hb:PSsv X b fb)(hx:∀whole,CW c X.env whole=(do let v <- whole;fO c.pos;eC [v] (ZO v)):=by intro _;rfl):PSv X (.If (.UnaryOp .Not c p2) a b pos') (ifNR gx fa fb):=by
 obtain⟨t,ht,hf⟩:=hc;obtain⟨ta,pa,hfa⟩:=ha;obtain⟨tb,pb,hfb⟩:=hb;refine⟨_,UO (aCh (aCe ht hx)) pa pb,fun H₀ H O σ ds hd out E ok ex h=>?_⟩;unfold ifNR at ex;obtain⟨q,h1,ex⟩:=bnd ex;refine hf H₀ H O σ ds hd q.1 q.2 _ ok h1 fun v H' O' o' r=>?_;obtain⟨d,ds'⟩:=q;cases d with
 | bl k =>
   cases r;cases k with
   |true=>exact⟨true,rfl,iteF (hfb H₀ H' O' σ ds' hd out E o' ex h)⟩
   |false=>exact⟨false,rfl,iteT (hfa H₀ H' O' σ ds' hd out E o' ex h)⟩
 |_=>cases ex
end
noncomputable def oi:Option Int->D
 |none=>.non
 |some i=>.int i
@[simp] theorem UT:oi none=.non:=rfl
@[simp] theorem LW(i:Int):oi (some i)=.int i:=rfl
noncomputable def andK(r:Option D):D->Option D:=fun d=>match d with | .bl true=>r | .bl false=>some (.bl false) | _=>none
noncomputable def orK(r:Option D):D->Option D:=fun d=>match d with | .bl true=>some (.bl true) | .bl false=>r | _=>none
@[simp] theorem andK_bl(r:Option D)(b:Bool):andK r (.bl b)=if b=true then r else some (.bl false):=by cases b<;>rfl
@[simp] theorem orK_bl(r:Option D)(b:Bool):orK r (.bl b)=if b=true then some (.bl true) else r:=by cases b<;>rfl
@[simp] theorem ite_andD(b c:Bool):(if b=true then some (D.bl c) else some (D.bl false))=some (.bl (b&&c)):=by cases b<;>rfl
@[simp] theorem ite_orD(b c:Bool):(if b=true then some (D.bl true) else some (D.bl c))=some (.bl (b||c)):=by cases b<;>rfl
@[simp] theorem ite_andB(b c:Bool):(if b=true then some c else some false)=some (b&&c):=by cases b<;>rfl
@[simp] theorem ite_orB(b c:Bool):(if b=true then some true else some c)=some (b||c):=by cases b<;>rfl
@[simp] theorem ite_andD'(p:Prop)[Decidable p](c:Bool):(if p then some (D.bl c) else some (D.bl false))=some (.bl (decide p&&c)):=by by_cases h:p<;>simp[h]
@[simp] theorem ite_andB'(p:Prop)[Decidable p](c:Bool):(if p then some c else some false)=some (decide p&&c):=by by_cases h:p<;>simp[h]
@[simp] theorem ite_orB'(p:Prop)[Decidable p](c:Bool):(if p then some true else some c)=some (decide p||c):=by by_cases h:p<;>simp[h]
@[simp] theorem szl:sizeLine=16777216:=uW
section
variable(ds:List Sl)
@[simp] theorem getV_eq(i:Nat):zW i ds=match ds[i]? with | some (.v d)=>some d | _=>none:=rfl
@[simp] theorem getW_eq(i:Nat):zI i ds=match ds[i]? with | some (.v d)=>some d | some (.own l)=>some (.lst l) | _=>none:=rfl
@[simp] theorem konst_eq(d:D):zB d ds=some d:=rfl
@[simp] theorem bin2_eq(op:D->D->Option D)(fa fb:FE):zJ op fa fb ds=(fa ds).bind fun x=>(fb ds).bind fun y=>op x y:=rfl
@[simp] theorem un1_eq(op:D->Option D)(f:FE):un1 op f ds=(f ds).bind op:=rfl
@[simp] theorem QK(F:List D->Option D)(g:FA):callB F g ds=(g ds).bind F:=rfl
@[simp] theorem callV_eq(n:Nat)(F:List D->Option Ret)(g:FA):qC n F g ds=(g ds).bind fun l=>if l.length=n then (F l).bind retV else none:=rfl
@[simp] theorem callF_eq(n:Nat)(F:List D->Option Ret)(g:FA):jT n F g ds=(g ds).bind fun l=>if l.length=n then (F l).bind retF else none:=rfl
@[simp] theorem retV_val(d:D):retV (.val d)=some d:=rfl
@[simp] theorem retV_fresh(l:List D):retV (.fresh l)=some (.lst l):=rfl
@[simp] theorem retF_val(d:D):retF (.val d)=none:=rfl
@[simp] theorem retF_fresh(l:List D):retF (.fresh l)=some l:=rfl
@[simp] theorem QG(f:FE)(g:FA):zA f g ds=(f ds).bind fun x=>(g ds).map fun r=>x::r:=rfl
@[simp] theorem UV:zM ds=some []:=rfl
@[simp] theorem sized_eq(f:FA):zU f ds=(f ds).bind fun l=>if l.length<=sizeLine then some l else none:=rfl
@[simp] theorem aDs(f:FA):mkL f ds=(f ds).map D.lst:=rfl
@[simp] theorem mkT_eq(f:FA):mkT f ds=(f ds).map D.tup:=rfl
@[simp] theorem testB_eq(f:FE):zT f ds=(f ds).bind isB:=rfl
@[simp] theorem testT_eq(f:FE):testT f ds=(f ds).bind truD:=rfl
@[simp] theorem isB_bl(b:Bool):isB (.bl b)=some b:=rfl
@[simp] theorem andT_eq(c d:FT):andT c d ds=(c ds).bind fun b=>if b=true then d ds else some false:=rfl
@[simp] theorem orT_eq(c d:FT):orT c d ds=(c ds).bind fun b=>if b=true then some true else d ds:=rfl
@[simp] theorem notT_eq(c:FT):notT c ds=(c ds).map not:=rfl
@[simp] theorem andV_eq(f g:FE):andV f g ds=(f ds).bind (andK (g ds)):=rfl
@[simp] theorem orV_eq(f g:FE):orV f g ds=(f ds).bind (orK (g ds)):=rfl
@[simp] theorem notV_eq(f:FE):notV f ds=(f ds).bind fun d=>match d with | .bl b=>some (.bl (!b)) | _=>none:=rfl
@[simp] theorem ifV_eq(c:FT)(f g:FE):ifV c f g ds=(c ds).bind fun b=>if b=true then f ds else g ds:=rfl
@[simp] theorem seqG_eq(f g:FS):qF f g ds=(f ds).bind fun o=>match o with | .nx ds'=>g ds' | o=>some o:=rfl
@[simp] theorem ifG_eq(c:FT)(f g:FS):ifG c f g ds=(c ds).bind fun b=>if b=true then f ds else g ds:=rfl
@[simp] theorem setG_eq(i:Nat)(f:FE):jY i f ds=(f ds).map fun d=>.nx (ds.set i (.v d)):=rfl
@[simp] theorem setOG_eq(i:Nat)(f:FA):setOG i f ds=(f ds).map fun l=>.nx (ds.set i (.own l)):=rfl
@[simp] theorem UE(f:FE):retG f ds=(f ds).bind flatR:=rfl
@[simp] theorem aBm(f:FA):retOG f ds=(f ds).bind flatF:=rfl
@[simp] theorem retXG_eq(i:Nat):retXG i ds=match ds[i]? with | some (.own l)=>flatF l | _=>none:=rfl
@[simp] theorem nextG_eq:qN ds=some (.nx ds):=rfl
@[simp] theorem appG_eq(i:Nat)(fe:FE):appG i fe ds=match ds[i]? with
 |some (.own l)=>(fe ds).bind fun d=>if l.length<sizeLine then some (.nx (ds.set i (.own (l++[d])))) else none
 |_=>none:=rfl
@[simp] theorem extG_eq(i:Nat)(fe:FA):extG i fe ds=match ds[i]? with
 |some (.own l)=>(fe ds).bind fun d=>if l.length+d.length<=sizeLine then some (.nx (ds.set i (.own (l++d)))) else none
 |_=>none:=rfl
@[simp] theorem putG_eq(i:Nat)(fk fe:FE):putG i fk fe ds=match ds[i]? with
 | some (.own l) => (fe ds).bind fun d => (fk ds).bind fun k => match k with
   | .int n=>(ixN l.length n).map fun j=>.nx (ds.set i (.own (l.set j d)))
   |_=>none
 |_=>none:=rfl
@[simp] theorem clrG_eq(i:Nat):clrG i ds=match ds[i]? with
 |some (.own l)=>some (.nx (ds.set i (.own [])))
 |_=>none:=rfl
@[simp] theorem asgG_eq(ga:D->List Sl->Option (List Sl))(f:FE):asgG ga f ds=(f ds).bind fun d=>(ga d ds).map .nx:=rfl
@[simp] theorem relS_eq(i:Nat):relS i ds=match ds[i]? with | some (.own l)=>ds.set i (.v (.lst l)) | _=>ds:=rfl
@[simp] theorem viaA_eq(f:FE)(k:D->Option (List D)):viaA f k ds=(f ds).bind k:=rfl
@[simp] theorem asLT_lst(l:List D):asLT (.lst l)=some l:=rfl
@[simp] theorem asLT_tup(l:List D):asLT (.tup l)=some l:=rfl
@[simp] theorem catA_eq(fa fb:FE):catA fa fb ds=(fa ds).bind fun x=>(fb ds).bind fun y=>match x,y with
 | .lst a,.lst b=>if a.length+b.length<=sizeLine then some (a++b) else none
 |_,_=>none:=rfl
@[simp] theorem sliA_eq(f:FE)(lo hi:List Sl->Option (Option Int)):sliA f lo hi ds=(f ds).bind fun d=>(lo ds).bind fun a=>(hi ds).bind fun b=>match d with
 | .lst l=>some (cutD l a b)
 |_=>none:=rfl
@[simp] theorem lisA_eq(f:FE):lisA f ds=(f ds).bind asLT:=rfl
@[simp] theorem noP_eq:noP ds=some none:=rfl
@[simp] theorem soP_eq(f:FE):soP f ds=(f ds).bind fun d=>match d with | .int i=>some (some i) | _=>none:=rfl
@[simp] theorem forG_eq(fi:FA)(ga:D->List Sl->Option (List Sl))(body:FS):forG fi ga body ds=(fi ds).bind fun items=>jI ga body items ds:=rfl
@[simp] theorem wO(i:Nat)(d:D):zZ i d ds=some (ds.set i (.v d)):=rfl
@[simp] theorem tupG_eq(n:Nat)(h:List D->List Sl->Option (List Sl))(l:List D):tupG n h (.tup l) ds=if l.length=n then h l ds else none:=rfl
@[simp] theorem tgCons_eq(g:D->List Sl->Option (List Sl))(h:List D->List Sl->Option (List Sl))(d:D)(r:List D):qH g h (d::r) ds=(g d ds).bind fun ds'=>h r ds':=rfl
@[simp] theorem tgNil_eq:tgNil [] ds=some ds:=rfl
@[simp] theorem isiG_eq(T:String)(f:FE):isiG T f ds=(f ds).bind (isiD T):=rfl
@[simp] theorem chain_eq(op op':D->D->Option D)(fa fb fc:FE):chain op op' fa fb fc ds=(fa ds).bind fun x=>(fb ds).bind fun y=>(op x y).bind fun z=>match z with
 | .bl true=>(fc ds).bind fun w=>op' y w
 | .bl false=>some (.bl false)
 |_=>none:=rfl
end
@[simp] theorem addD_int(i j:Int):yP (.int i) (.int j)=some (.int (i+j)):=rfl
@[simp] theorem subD_int(i j:Int):subD (.int i) (.int j)=some (.int (i-j)):=rfl
@[simp] theorem negD_int(i:Int):negD (.int i)=some (.int (-i)):=rfl
@[simp] theorem ltD_int(i j:Int):ltD (.int i) (.int j)=some (.bl (decide (i<j))):=rfl
@[simp] theorem leD_int(i j:Int):leD (.int i) (.int j)=some (.bl (decide (i<=j))):=rfl
@[simp] theorem gtD_int(i j:Int):gtD (.int i) (.int j)=some (.bl (decide (j<i))):=rfl
@[simp] theorem geD_int(i j:Int):geD (.int i) (.int j)=some (.bl (decide (j<=i))):=rfl
@[simp] theorem yN{j:Int}(i:Int)(h:0<j):jK (.int i) (.int j)=some (.int (i%j)):=if_pos h
theorem QD{j:Int}(h:0<j)(h2:j<1000000000):divOk j:=⟨h,by
 have h3:j.natAbs<2 ^ 30:=by
  have:(2:Nat) ^ 30=1073741824:=by decide
  omega
 have h4:j.natAbs≠0:=by omega
 have:=(Nat.log2_lt h4).mpr h3
 omega⟩
@[simp] theorem wF{j:Int}(i:Int)(h:0<j)(h2:j<1000000000):qX (.int i) (.int j)=some (.int (i/j)):=if_pos (QD h h2)
theorem DL{i j:Int}(h:QX i j):mulD (.int i) (.int j)=some (.int (i*j)):=if_pos h
theorem powD_ok{i j:Int}(h:CPowB i j):powD (.int i) (.int j)=some (.int (i ^ j.toNat)):=if_pos h
theorem cpow_of{i j:Int}{n m:Nat}(h:i.natAbs<2 ^ n)(h0:0<=j)(h1:j<=m)(h2:n*m<=134217728):CPowB i j:=by
 refine⟨h0,?_⟩;have hb:Builtin.Int.intBits i<=n:=intBits_le_iff.mpr h;have h3:(Builtin.Int.intBits i:Int)*j<=(n:Int)*(m:Int):=Int.mul_le_mul (by omega) h1 h0 (by omega);have h4:((n*m:Nat):Int)<=134217728:=by omega
 have e:((n*m:Nat):Int)=(n:Int)*(m:Int):=Int.natCast_mul n m;have e2:(2:Int) ^ 27=134217728:=by decide
 rw[e2];omega
@[simp] theorem pow10{j:Int}(h0:0<=j)(h1:j<=1000):powD (.int 10) (.int j)=some (.int (10 ^ j.toNat)):=powD_ok (cpow_of (n:=4) (m:=1000) (by decide) h0 h1 (by decide))
@[simp] theorem mxD_int(i j:Int):mxD [.int i,.int j]=some (.int (max i j)):=by
 show some (D.int (if j>i then j else i))=_;congr 2
 split<;>omega
@[simp] theorem mnD_int(i j:Int):mnD [.int i,.int j]=some (.int (min i j)):=by
 show some (D.int (if j<i then j else i))=_;congr 2
 split<;>omega
@[simp] theorem lenD_lst(l:List D):lenD [.lst l]=some (.int l.length):=rfl
@[simp] theorem lenD_tup(l:List D):lenD [.tup l]=some (.int l.length):=rfl
@[simp] theorem isD_non:isD .non .non=some (.bl true):=rfl
@[simp] theorem isD_int(i:Int):isD (.int i) .non=some (.bl false):=rfl
@[simp] theorem isD_bl(i:Bool):isD (.bl i) .non=some (.bl false):=rfl
@[simp] theorem isD_tup(i:List D):isD (.tup i) .non=some (.bl false):=rfl
@[simp] theorem isD_lst(i:List D):isD (.lst i) .non=some (.bl false):=rfl
@[simp] theorem isD_oi(o:Option Int):isD (oi o) .non=some (.bl o.isNone):=by cases o<;>rfl
@[simp] theorem notD_non:notD .non .non=some (.bl false):=rfl
@[simp] theorem notD_int(i:Int):notD (.int i) .non=some (.bl true):=rfl
@[simp] theorem notD_bl(i:Bool):notD (.bl i) .non=some (.bl true):=rfl
@[simp] theorem notD_tup(i:List D):notD (.tup i) .non=some (.bl true):=rfl
@[simp] theorem notD_lst(i:List D):notD (.lst i) .non=some (.bl true):=rfl
@[simp] theorem notD_oi(o:Option Int):notD (oi o) .non=some (.bl o.isSome):=by cases o<;>rfl
@[simp] theorem truD_bl(b:Bool):truD (.bl b)=some b:=rfl
@[simp] theorem truD_non:truD .non=some false:=rfl
@[simp] theorem truD_lst(l:List D):truD (.lst l)=some (!l.isEmpty):=rfl
@[simp] theorem truD_tup(l:List D):truD (.tup l)=some (!l.isEmpty):=rfl
theorem DP{n:Nat}{i:Int}(h:0<=i)(h2:i<n):ixN n i=some i.toNat:=by
 unfold ixN;rw[if_pos h,if_pos h2]
theorem xA(l:List D){i:Int}(h:0<=i)(h2:i<l.length):ixD (.lst l) (.int i)=l[i.toNat]?:=by
 show atI l i=_;unfold atI;rw[DP h h2];rfl
theorem ME(l:List D){i:Int}(h:0<=i)(h2:i<l.length):ixD (.tup l) (.int i)=l[i.toNat]?:=by
 show atI l i=_;unfold atI;rw[DP h h2];rfl
@[simp] theorem ixT0(a:D)(l:List D):ixD (.tup (a::l)) (.int 0)=some a:=by
 rw[ME _ (by decide) (by rw[aM];omega)];rfl
@[simp] theorem ixT1(a b:D)(l:List D):ixD (.tup (a::b::l)) (.int 1)=some b:=by
 rw[ME _ (by decide) (by rw[aM,aM];omega)];rfl
@[simp] theorem ixT2(a b c:D)(l:List D):ixD (.tup (a::b::c::l)) (.int 2)=some c:=by
 rw[ME _ (by decide) (by rw[aM,aM,aM];omega)];rfl
@[simp] theorem ixL0(a:D)(l:List D):ixD (.lst (a::l)) (.int 0)=some a:=by
 rw[xA _ (by decide) (by rw[aM];omega)];rfl
@[simp] theorem ixL1(a b:D)(l:List D):ixD (.lst (a::b::l)) (.int 1)=some b:=by
 rw[xA _ (by decide) (by rw[aM,aM];omega)];rfl
theorem aEe(l:List D)(a:D):ixD (.lst (l++[a])) (.int (-1))=some a:=by
 show atI (l++[a]) (-1)=_;unfold atI ixN;rw[if_neg (by decide),if_pos (by rw[cE,rF];omega),cE,rF];have e:(-1+((l.length+1:Nat):Int)).toNat=l.length:=by omega
 rw[e];simp
@[simp] theorem flat_non:flat .non=true:=by simp[flat]
@[simp] theorem flat_bl(b:Bool):flat (.bl b)=true:=by simp[flat]
@[simp] theorem flat_int(i:Int):flat (.int i)=true:=by simp[flat]
@[simp] theorem flat_str(i:Str):flat (.str i)=true:=by simp[flat]
@[simp] theorem flat_tup(l:List D):flat (.tup l)=flats l:=by simp[flat]
@[simp] theorem flats_nil:flats []=true:=by simp[flats]
@[simp] theorem flats_cons(d:D)(l:List D):flats (d::l)=(flat d&&flats l):=by simp[flats]
@[simp] theorem flat_oi(o:Option Int):flat (oi o)=true:=by cases o<;>simp
theorem xV{d:D}(h:flat d=true):flatR d=some (.rt (.val d)):=if_pos h
@[simp] theorem flatR_non:flatR .non=some (.rt (.val .non)):=xV (by simp)
@[simp] theorem flatR_bl(b:Bool):flatR (.bl b)=some (.rt (.val (.bl b))):=xV (by simp)
@[simp] theorem flatR_int(i:Int):flatR (.int i)=some (.rt (.val (.int i))):=xV (by simp)
@[simp] theorem flatR_str(i:Str):flatR (.str i)=some (.rt (.val (.str i))):=xV (by simp)
@[simp] theorem flatR_oi(o:Option Int):flatR (oi o)=some (.rt (.val (oi o))):=xV (by simp)
@[simp] theorem flatR_tup(l:List D)(h:flats l=true):flatR (.tup l)=some (.rt (.val (.tup l))):=xV (by simpa using h)
@[simp] theorem aEp(l:List D)(h:flats l=true):flatF l=some (.rt (.fresh l)):=if_pos h
@[simp] theorem shal_int(n:Nat)(i:Int):shal n (.int i)=true:=by simp[shal]
@[simp] theorem shal_non(n:Nat):shal n .non=true:=by simp[shal]
@[simp] theorem shal_oi(n:Nat)(o:Option Int):shal n (oi o)=true:=by cases o<;>simp
@[simp] theorem shal_tup(n:Nat)(l:List D):shal n (.tup l)=shals n l:=by simp[shal]
@[simp] theorem shal_lst(n:Nat)(l:List D):shal n (.lst l)=shals n l:=by simp[shal]
@[simp] theorem shals_nil(n:Nat):shals n []=true:=by cases n<;>simp[shals]
@[simp] theorem RL(n:Nat)(d:D)(l:List D):shals (n+1) (d::l)=(shal n d&&shals (n+1) l):=by simp[shals]
theorem kH{n:Nat}{l:List D}(h:∀d∈l,shal n d=true):shals (n+1) l=true:=by
 induction l with
 |nil=>simp
 | cons d r ih =>
   rw[RL,h d aV,ih fun x hx=>h x (aP _ hx)];rfl
theorem GR{x y:D}(h:shal 40 x=true)(h2:shal 40 y=true):eqD x y=some (.bl (eqvD x y)):=if_pos ⟨h,h2⟩
theorem FD{x y:D}(h:shal 40 x=true)(h2:shal 40 y=true):neD x y=some (.bl (!eqvD x y)):=if_pos ⟨h,h2⟩
@[simp] theorem eqvD_int(i j:Int):eqvD (.int i) (.int j)=decide (i=j):=by
 show(i==j)=_;rw[pZ];simp
@[simp] theorem eqvD_non:eqvD .non .non=true:=rfl
@[simp] theorem eqvD_non_int(j:Int):eqvD .non (.int j)=false:=rfl
@[simp] theorem eqvD_int_non(j:Int):eqvD (.int j) .non=false:=rfl
@[simp] theorem eqvD_oi(o p:Option Int):eqvD (oi o) (oi p)=decide (o=p):=by cases o<;>cases p<;>simp
@[simp] theorem eqvD_tup(a b:List D):eqvD (.tup a) (.tup b)=eqvs a b:=by simp[eqvD,eqvs,toPy,PyData.eqv]
@[simp] theorem wK(a b:List D):eqvD (.lst a) (.lst b)=eqvs a b:=by simp[eqvD,eqvs,toPy,PyData.eqv]
@[simp] theorem eqvs_nil:eqvs [] []=true:=by simp[eqvs,toPys,PyData.eqvAll]
@[simp] theorem BE(x y:D)(a b:List D):eqvs (x::a) (y::b)=(eqvD x y&&eqvs a b):=by simp[eqvs,eqvD,toPys,PyData.eqvAll]
@[simp] theorem eqvs_nil_cons(y:D)(b:List D):eqvs [] (y::b)=false:=by simp[eqvs,toPys,PyData.eqvAll]
@[simp] theorem eqvs_cons_nil(y:D)(b:List D):eqvs (y::b) []=false:=by simp[eqvs,toPys,PyData.eqvAll]
@[simp] theorem eqD_int(i j:Int):eqD (.int i) (.int j)=some (.bl (decide (i=j))):=by rw[GR (by simp) (by simp)];simp
@[simp] theorem eqD_oi(i j:Option Int):eqD (oi i) (oi j)=some (.bl (decide (i=j))):=by rw[GR (by simp) (by simp)];simp
theorem SX(l:List D):eqvs l []=l.isEmpty:=by cases l<;>simp
theorem neD_nil{l:List D}(h:shals 40 l=true):neD (.lst l) (.lst [])=some (.bl (!l.isEmpty)):=by rw[FD (by simpa using h) (by simp),wK,SX]
theorem RK(n:Nat)(l:List Int):shals (n+1) (l.map D.int)=true:=kH fun d hd=>by obtain⟨i,_,rfl⟩:=cM.mp hd;simp
theorem ZD(l:List D)(k:Nat):cutD l (some (k:Int)) none=l.drop k:=by
 unfold cutD HT.sIx;simp only[show ¬((k:Int)<0) by omega,if_false,Int.toNat_natCast];rw[kO (by rw[aAp];omega)]
 by_cases h:k<=l.length
 . rw[Nat.min_eq_left h]
 . rw[Nat.min_eq_right (by omega),pF,pS (by omega)]
@[simp] theorem bind_ite{α β : Type}{c:Prop}[Decidable c](a b:Option α)(f : α->Option β):(if c then a else b).bind f=if c then a.bind f else b.bind f:=by split<;>rfl
@[simp] theorem map_ite{α β : Type}{c:Prop}[Decidable c](a b:Option α)(f : α->β):(if c then a else b).map f=if c then a.map f else b.map f:=by split<;>rfl
theorem yM{fi:FA}{mp:List (Option Nat)}{ga:D->List Sl->Option (List Sl)}{tt:FT}{fe:FE}{ds:List Sl}{items l:List D}(h:fi ds=some items)(hl:items.length<=sizeLine)(hc:compL ga tt fe (jO mp ds) items=some l):compG fi mp ga tt fe ds=some l:=by
 unfold compG;rw[h];show(if items.length<=sizeLine then compL ga tt fe (jO mp ds) items else none)=_;rw[if_pos hl];exact hc
theorem QM:∀bs:List Bool,blsD (bs.map D.bl)=some bs
 |[]=>rfl
 |b::r=>by simp[blsD,QM r]
@[simp] theorem QO(bs:List Bool):allD [.lst (bs.map D.bl)]=some (.bl (bs.all id)):=by simp[allD,QM]
@[simp] theorem ixL2(a b c:D)(l:List D):ixD (.lst (a::b::c::l)) (.int 2)=some c:=by
 rw[xA _ (by decide) (by rw[aM,aM,aM];omega)];rfl
@[simp] theorem ixL3(a b c d:D)(l:List D):ixD (.lst (a::b::c::d::l)) (.int 3)=some d:=by
 rw[xA _ (by decide) (by rw[aM,aM,aM,aM];omega)];rfl
@[simp] theorem rng3_eq(fa fb fc:FE)(ds:List Sl):rng3 fa fb fc ds=(fa ds).bind fun x=>(fb ds).bind fun y=>(fc ds).bind fun z=>match x,y,z with
 | .int i,.int j,.int c=>if okR3 i j c then some (UF i c (aBe i j c)) else none
 |_,_,_=>none:=rfl
@[simp] theorem rng2_eq(fa fb:FE)(ds:List Sl):rng2 fa fb ds=(fa ds).bind fun x=>(fb ds).bind fun y=>match x,y with
 | .int i,.int j=>if okR i/\okR j then some (iC i (j-i).toNat) else none
 |_,_=>none:=rfl
@[simp] theorem rng1_eq(f:FE)(ds:List Sl):rng1 f ds=(f ds).bind fun d=>match d with | .int j=>if okR j then some (iC 0 j.toNat) else none | _=>none:=rfl
theorem wZ{j:Int}(h : -1000000000<=j)(h2:j<=1000000000):okR j:=⟨QY (by decide) h,Int.lt_of_le_of_lt h2 (by decide)⟩
@[simp] theorem absD_int(i:Int):absD [.int i]=some (.int (if i<0 then -i else i)):=rfl
@[simp] theorem int1D_int(i:Int):int1D [.int i]=some (.int i):=rfl
@[simp] theorem int1D_bl(b:Bool):int1D [.bl b]=some (.int (if b then 1 else 0)):=rfl
@[simp] theorem augA_eq(i:Nat)(f:FE)(ds:List Sl):augA i f ds=(zW i ds).bind fun x=>(f ds).bind fun y=>match x,y with
 | .int a,.int b=>some (.nx (ds.set i (.v (.int (a+b)))))
 |_,_=>none:=rfl
@[simp] theorem parG_eq(i j:Nat)(f:FA)(ds:List Sl):parG i j f ds=(f ds).bind fun l=>match l with
 |[a,b]=>some (.nx ((ds.set i (.v a)).set j (.v b)))
 |_=>none:=rfl
@[simp] theorem revA_eq(f:FE)(ds:List Sl):revA f ds=(f ds).bind fun d=>match d with
 | .lst l=>some l.reverse
 |_=>none:=rfl
theorem qE{f g:FS}{ds ds':List Sl}(h:f ds=some (.nx ds')):qF f g ds=g ds':=by simp[h]
theorem RN{f g:FS}{ds:List Sl}{r:Ret}(h:f ds=some (.rt r)):qF f g ds=some (.rt r):=by simp[h]
theorem xW{g:FS}{n:Nat}{ds:List D}{r:Ret}(h:g (args n ds)=some (.rt r)):runG g n ds=some r:=by unfold runG;rw[h]
end FL
section
open PySem PyProof.Rows L2 FL
noncomputable def lP:FS:=(retG (andV (zJ notD (zI 0) (zB .non)) (andV (zJ notD (zI 1) (zB .non)) (zJ leD (zI 0) (zI 1)))))
noncomputable def gP:List D->Option Ret:=runG lP 2
noncomputable def DX:FS:=(retG (andV (orV (zJ isD (zJ ixD (zI 0) (zB (.int 0))) (zB .non)) (zJ leD (zJ ixD (zI 0) (zB (.int 0))) (zI 1))) (orV (zJ isD (zJ ixD (zI 0) (zB (.int 1))) (zB .non)) (zJ ltD (zI 1) (zJ ixD (zI 0) (zB (.int 1)))))))
noncomputable def rD:List D->Option Ret:=runG DX 2
noncomputable def BL:FS:=(qF (ifG (orT (zT (zJ isD (zJ ixD (zI 0) (zB (.int 0))) (zB .non))) (zT (zJ isD (zJ ixD (zI 0) (zB (.int 1))) (zB .non)))) (retG (zB .non)) qN)
 (retG (zJ subD (zJ ixD (zI 0) (zB (.int 1))) (zJ ixD (zI 0) (zB (.int 0))))))
noncomputable def BM:List D->Option Ret:=runG BL 1
noncomputable def mS:FS:=(qF (ifG (zT (zJ isD (zI 0) (zB .non))) (retG (zI 1)) qN)
 (qF (ifG (zT (zJ isD (zI 1) (zB .non))) (retG (zI 0)) qN)
 (retG (callB mxD (zA (zI 0) (zA (zI 1) zM))))))
noncomputable def hJ:List D->Option Ret:=runG mS 2
noncomputable def iA:FS:=(qF (ifG (zT (zJ isD (zI 0) (zB .non))) (retG (zI 1)) qN)
 (qF (ifG (zT (zJ isD (zI 1) (zB .non))) (retG (zI 0)) qN)
 (retG (callB mnD (zA (zI 0) (zA (zI 1) zM))))))
noncomputable def eW:List D->Option Ret:=runG iA 2
noncomputable def AC:FS:=(qF (jY 2 (qC 2 hJ (zA (zJ ixD (zI 0) (zB (.int 0))) (zA (zJ ixD (zI 1) (zB (.int 0))) zM))))
 (qF (jY 3 (qC 2 eW (zA (zJ ixD (zI 0) (zB (.int 1))) (zA (zJ ixD (zI 1) (zB (.int 1))) zM))))
 (qF (ifG (testT (qC 2 gP (zA (zI 3) (zA (zI 2) zM)))) (retG (zB .non)) qN)
 (retG (mkT (zU (zA (zW 2) (zA (zW 3) zM))))))))
noncomputable def mM:List D->Option Ret:=runG AC 4
noncomputable def eZ:FS:=(qF (ifG (notT (testT (isiG "str" (zI 0)))) (retG (zB (.bl false))) qN)
 (qF (ifG (orT (zT (zJ ltD (callB lenD (zA (zI 0) zM)) (zB (.int 1)))) (zT (zJ gtD (callB lenD (zA (zI 0) zM)) (zB (.int 8))))) (retG (zB (.bl false))) qN)
 (retG (callB allD (zA (mkL (compG (viaA (zW 0) asS) [none] (zZ 0) (fun _=>some true) (zJ inS (zI 0) (zB (.str "abcdefghijklmnopqrstuvwxyz"))))) zM)))))
noncomputable def bJ:List D->Option Ret:=runG eZ 1
noncomputable def mT:FS:=(qF (ifG (zT (zJ isD (zI 4) (zB .non))) (fun ds=>some (.ct ds)) qN)
 (ifG (andT (testT (zI 1)) (andT (zT (zJ eqD (zJ ixD (zJ ixD (zI 1) (un1 negD (zB (.int 1)))) (zB (.int 1))) (zI 2))) (zT (zJ eqD (zJ ixD (zJ ixD (zI 1) (un1 negD (zB (.int 1)))) (zB (.int 2))) (zI 4))))) (putG 1 (un1 negD (zB (.int 1))) (mkT (zU (zA (zJ ixD (zJ ixD (zI 1) (un1 negD (zB (.int 1)))) (zB (.int 0))) (zA (zW 3) (zA (zW 4) zM)))))) (appG 1 (mkT (zU (zA (zW 2) (zA (zW 3) (zA (zW 4) zM))))))))
noncomputable def AD:FS:=(qF (setOG 1 (zU zM))
 (qF (forG (viaA (zW 0) asLT) (tupG 3 (qH (zZ 2) (qH (zZ 3) (qH (zZ 4) tgNil)))) mT)
 (retXG 1)))
noncomputable def fR:List D->Option Ret:=runG AD 5
noncomputable def gE:FS:=(qF (jY 6 (qC 2 mM (zA (mkT (zU (zA (zW 3) (zA (zW 4) zM)))) (zA (zI 1) zM))))
 (ifG (zT (zJ notD (zI 6) (zB .non))) (appG 2 (mkT (zU (zA (zJ ixD (zI 6) (zB (.int 0))) (zA (zJ ixD (zI 6) (zB (.int 1))) (zA (zW 5) zM)))))) qN))
noncomputable def nZ:FS:=(qF (setOG 2 (zU zM))
 (qF (forG (viaA (zW 0) asLT) (tupG 3 (qH (zZ 3) (qH (zZ 4) (qH (zZ 5) tgNil)))) gE)
 (retXG 2)))
noncomputable def cX:List D->Option Ret:=runG nZ 7
noncomputable def mR:FS:=(qF (setOG 3 (zU zM))
 (qF (ifG (zT (zJ notD (zJ ixD (zI 1) (zB (.int 0))) (zB .non))) (extG 3 (jT 2 cX (zA (zI 0) (zA (mkT (zU (zA (zB .non) (zA (zJ ixD (zI 1) (zB (.int 0))) zM)))) zM)))) qN)
 (qF (appG 3 (mkT (zU (zA (zJ ixD (zI 1) (zB (.int 0))) (zA (zJ ixD (zI 1) (zB (.int 1))) (zA (zW 2) zM))))))
 (qF (ifG (zT (zJ notD (zJ ixD (zI 1) (zB (.int 1))) (zB .non))) (extG 3 (jT 2 cX (zA (zI 0) (zA (mkT (zU (zA (zJ ixD (zI 1) (zB (.int 1))) (zA (zB .non) zM)))) zM)))) qN)
 (retXG 3)))))
noncomputable def gD:List D->Option Ret:=runG mR 4
noncomputable def DW:FS:=(retOG (jT 1 fR (zA (qC 3 gD (zA (zI 0) (zA (zI 1) (zA (zI 2) zM)))) zM)))
noncomputable def rB:List D->Option Ret:=runG DW 3
noncomputable def iL:FN:=(fldN (zB .non))
noncomputable def bX:List D->Option (List D):=runN iL 1
noncomputable def iX:FN:=(seqN (fldN (mkT (zU (zA (zJ ixD (zI 1) (zB (.int 0))) (zA (zJ ixD (zI 1) (zB (.int 1))) zM)))))
 (fldN (zW 2)))
noncomputable def eS:List D->Option (List D):=runN iX 3
noncomputable def oG:FS:=(retG (ifV (testT (qC 2 rD (zA (fldG [(0,0)] (zW 0)) (zA (zI 1) zM)))) (zB .non) (zW 1)))
noncomputable def oH:List D->Option Ret:=runG oG 2
noncomputable def oB:FS:=(retG (zI 1))
noncomputable def oC:List D->Option Ret:=runG oB 2
noncomputable def lQ:FS:=(ifG (zT (zJ ltD (zI 0) (zB (.int 0)))) (fun _=>none) qN)
noncomputable def fS:List D->Option Ret:=runG lQ 1
noncomputable def gC:FN:=(seqN (dropN (qC 1 fS (zA (zI 2) zM)))
 (seqN (supN bX)
 (seqN (fldN (zW 1))
 (fldN (zW 2)))))
noncomputable def cN:List D->Option (List D):=runN gC 3
noncomputable def mQ:FS:=(qF (ifG (zT (zJ ltD (zI 0) (zI 1))) (retG (zI 0)) qN)
 (retG (ifV (zT (zJ ltD (zI 0) (zJ yP (zI 1) (zI 2)))) (zB .non) (zJ subD (zI 0) (zI 2)))))
noncomputable def fM:List D->Option Ret:=runG mQ 3
noncomputable def lW:FS:=(retG (qC 3 fM (zA (zI 1) (zA (fldG [(1,1),(2,1)] (zW 0)) (zA (fldG [(1,2),(2,2)] (zW 0)) zM)))))
noncomputable def lX:List D->Option Ret:=runG lW 2
noncomputable def rC:FS:=(retG (ifV (zT (zJ ltD (zI 0) (zI 1))) (zW 0) (zJ yP (zI 0) (zI 2))))
noncomputable def gZ:List D->Option Ret:=runG rC 3
noncomputable def lR:FS:=(retG (qC 3 gZ (zA (zI 1) (zA (fldG [(1,1),(2,1)] (zW 0)) (zA (fldG [(1,2),(2,2)] (zW 0)) zM)))))
noncomputable def lT:List D->Option Ret:=runG lR 2
noncomputable def kY:FS:=(retG (qC 3 gZ (zA (zI 1) (zA (fldG [(1,1),(2,1)] (zW 0)) (zA (fldG [(1,2),(2,2)] (zW 0)) zM)))))
noncomputable def kZ:List D->Option Ret:=runG kY 2
noncomputable def kT:FS:=(retG (qC 3 fM (zA (zI 1) (zA (fldG [(1,1),(2,1)] (zW 0)) (zA (fldG [(1,2),(2,2)] (zW 0)) zM)))))
noncomputable def kU:List D->Option Ret:=runG kT 2
noncomputable def iJ:FN:=(seqN (supN bX)
 (fldN (zW 1)))
noncomputable def eM:List D->Option (List D):=runN iJ 2
noncomputable def mY:FS:=(retG (zJ subD (zI 1) (fldG [(3,1)] (zW 0))))
noncomputable def mZ:List D->Option Ret:=runG mY 2
noncomputable def mU:FS:=(retG (zJ yP (zI 1) (fldG [(3,1)] (zW 0))))
noncomputable def mV:List D->Option Ret:=runG mU 2
noncomputable def kS:FS:=(ifG (orT (zT (zJ ltD (zI 0) (zB (.int 1)))) (zT (zJ gtD (zI 0) (zB (.int 1000))))) (fun _=>none) qN)
noncomputable def fF:List D->Option Ret:=runG kS 1
noncomputable def gS:FN:=(seqN (dropN (qC 1 fF (zA (zI 1) zM)))
 (seqN (dropN (qC 1 fF (zA (zI 2) zM)))
 (seqN (supN bX)
 (seqN (fldN (zW 1))
 (fldN (zW 2))))))
noncomputable def dR:List D->Option (List D):=runN gS 3
noncomputable def iW:FS:=(retG (zJ qX (zJ mulD (zI 1) (fldG [(4,2)] (zW 0))) (fldG [(4,1)] (zW 0))))
noncomputable def gT:List D->Option Ret:=runG iW 2
noncomputable def eR:FS:=(retG (ifV (zT (zJ isD (zI 1) (zB .non))) (zB .non) (un1 negD (zJ qX (zJ mulD (un1 negD (zW 1)) (fldG [(4,1)] (zW 0))) (fldG [(4,2)] (zW 0))))))
noncomputable def dI:List D->Option Ret:=runG eR 2
noncomputable def lE:FS:=(retG (un1 negD (zW 1)))
noncomputable def lF:List D->Option Ret:=runG lE 2
noncomputable def bW:Nat->List D->Option Ret
 |4=>dI
 |_=>fun _=>none
noncomputable def dE:Nat->List D->Option Ret
 |0=>oH
 |1=>lX
 |2=>kZ
 |3=>mZ
 |4=>gT
 |5=>lF
 |_=>fun _=>none
noncomputable def iS:FS:=(qF (jY 2 (methV 1 [4] bW (zW 0) (zA (zI 1) zM)))
 (retG (ifV (zT (zJ eqD (methV 1 [0,1,2,3,4,5] dE (zW 0) (zA (zI 2) zM)) (zI 1))) (zW 2) (zB .non))))
noncomputable def iT:List D->Option Ret:=runG iS 3
noncomputable def lA:FS:=(retG (un1 negD (zW 1)))
noncomputable def lB:List D->Option Ret:=runG lA 2
noncomputable def cT:Nat->List D->Option Ret
 |0=>oC
 |1=>lT
 |2=>kU
 |3=>mV
 |4=>iT
 |5=>lB
 |_=>fun _=>none
noncomputable def oE:FS:=(retOG (jT 3 rB (zA (zI 1) (zA (fldG [(0,0)] (zW 0)) (zA (fldG [(0,1),(1,0),(2,0),(3,0),(4,0),(5,0),(6,0)] (zW 0)) zM)))))
noncomputable def oF:List D->Option Ret:=runG oE 2
noncomputable def pB:FS:=(retG (ifV (zT (zJ isD (zI 0) (zB .non))) (zB .non) (zJ yP (zI 0) (zI 1))))
noncomputable def fV:List D->Option Ret:=runG pB 2
noncomputable def pA:FS:=(retOG (compG (viaA (zW 0) asLT) [none,none,none,some 1] (tupG 3 (qH (zZ 0) (qH (zZ 1) (qH (zZ 2) tgNil)))) (fun _=>some true) (mkT (zU (zA (qC 2 fV (zA (zI 0) (zA (zI 3) zM))) (zA (qC 2 fV (zA (zI 1) (zA (zI 3) zM))) (zA (zW 2) zM)))))))
noncomputable def eY:List D->Option Ret:=runG pA 2
noncomputable def lU:FS:=(qF (jY 2 (qC 2 cX (zA (zI 1) (zA (mkT (zU (zA (zB .non) (zA (fldG [(1,1),(2,1)] (zW 0)) zM)))) zM))))
 (qF (jY 3 (qC 2 cX (zA (zI 1) (zA (mkT (zU (zA (fldG [(1,1),(2,1)] (zW 0)) (zA (zB .non) zM)))) zM))))
 (retOG (jT 1 fR (zA (mkL (catA (zI 2) (qC 2 eY (zA (zI 3) (zA (fldG [(1,2),(2,2)] (zW 0)) zM))))) zM)))))
noncomputable def lV:List D->Option Ret:=runG lU 4
noncomputable def kW:FS:=(qF (jY 2 (qC 2 cX (zA (zI 1) (zA (mkT (zU (zA (zB .non) (zA (fldG [(1,1),(2,1)] (zW 0)) zM)))) zM))))
 (qF (jY 3 (qC 2 cX (zA (zI 1) (zA (mkT (zU (zA (zJ yP (fldG [(1,1),(2,1)] (zW 0)) (fldG [(1,2),(2,2)] (zW 0))) (zA (zB .non) zM)))) zM))))
 (retOG (jT 1 fR (zA (mkL (catA (zI 2) (qC 2 eY (zA (zI 3) (zA (un1 negD (fldG [(1,2),(2,2)] (zW 0))) zM))))) zM)))))
noncomputable def kX:List D->Option Ret:=runG kW 4
noncomputable def mW:FS:=(retOG (jT 2 eY (zA (zI 1) (zA (fldG [(3,1)] (zW 0)) zM))))
noncomputable def mX:List D->Option Ret:=runG mW 2
noncomputable def iU:FS:=(qF (jY 2 (mkL (compG (viaA (zW 1) asLT) [none,none,none,some 0] (tupG 3 (qH (zZ 0) (qH (zZ 1) (qH (zZ 2) tgNil)))) (fun _=>some true) (mkT (zU (zA (methV 1 [4] bW (zW 3) (zA (zI 0) zM)) (zA (methV 1 [4] bW (zW 3) (zA (zI 1) zM)) (zA (zW 2) zM))))))))
 (retOG (jT 1 fR (zA (mkL (compG (viaA (zW 2) asLT) [none] (zZ 0) (orT (zT (zJ isD (zJ ixD (zI 0) (zB (.int 0))) (zB .non))) (zT (zJ neD (zJ ixD (zI 0) (zB (.int 0))) (zJ ixD (zI 0) (zB (.int 1)))))) (zW 0))) zM))))
noncomputable def iV:List D->Option Ret:=runG iU 3
noncomputable def oA:FS:=(retG (ifV (zT (zJ isD (zI 0) (zB .non))) (zB .non) (zJ subD (zB (.int 1)) (zI 0))))
noncomputable def fE:List D->Option Ret:=runG oA 1
noncomputable def lC:FS:=(retOG (compG (revA (zW 1)) [none,none,none] (tupG 3 (qH (zZ 0) (qH (zZ 1) (qH (zZ 2) tgNil)))) (fun _=>some true) (mkT (zU (zA (qC 1 fE (zA (zI 1) zM)) (zA (qC 1 fE (zA (zI 0) zM)) (zA (zW 2) zM)))))))
noncomputable def lD:List D->Option Ret:=runG lC 2
noncomputable def cH:Nat->List D->Option Ret
 |0=>oF
 |1=>lV
 |2=>kX
 |3=>mX
 |4=>iV
 |5=>lD
 |_=>fun _=>none
noncomputable def iK:FS:=(qF (setNw 20 21 (varP 0) (vO (ifV (zT (zJ isD (zI 1) (zB .non))) (mkL (zU zM)) (mkL (lisA (zI 1))))))
 (qF (setNw 21 22 (varP 0) (vO (zB (.dcf [] []))))
 (qF (setNw 22 23 (varP 0) (sO nilO))
 (setNw 23 11 (varP 0) (sO nilO)))))
noncomputable def dU:OT->List D->Option OT:=lentF iK 2
noncomputable def nC:FS:=(qF (appP (atP [(11,2)] (varP 0)) (mkT (zU (zA (valP (atP [(11,0)] (varP 0))) (zA (valP (atP [(11,1)] (varP 0))) zM)))))
 (qF (setAt [(11,3)] (varP 0) (sO nilO))
 (qF (setAt [(11,0)] (varP 0) (vO (zW 1)))
 (setAt [(11,1)] (varP 0) (vO (zW 2))))))
noncomputable def cU:OT->List D->Option OT:=lentF nC 3
noncomputable def fZ:FS:=(dputG (varP 2) (zW 3) (ifV (zT (zJ isD (zI 4) (zB .non))) (zB .non) (methV 1 [0,1,2,3,4,5] cT (zW 1) (zA (zI 4) zM))))
noncomputable def mH:FS:=(qF (setB 2 dO0)
 (qF (forG (tH (valP (atP [(11,1)] (varP 0)))) (tupG 2 (qH (zZ 3) (qH (zZ 4) tgNil))) fZ)
 (frzDG 2 (lentG 2 [11] (fun _=>cU) (varP 0) (zA (methV 1 [0,1,2,3,4,5] cH (zW 1) (zA (valP (atP [(11,0)] (varP 0))) zM)) (zA (zW 2) zM))))))
noncomputable def fW:OT->List D->Option OT:=lentF mH 5
noncomputable def nA:FS:=(retOG (lisA (fldG [(11,0)] (zW 0))))
noncomputable def nB:List D->Option Ret:=runG nA 1
noncomputable def fG:Nat->List D->Option Ret
 |11=>nB
 |_=>fun _=>none
noncomputable def iY:FS:=(qF (ifG (notT (testT (qC 1 bJ (zA (zI 1) zM)))) (fun _=>none) qN)
 (qF (setB 3 (MN (valP (atP [(11,1)] (varP 0)))))
 (qF (dputG (varP 3) (zW 1) (zW 2))
 (frzDG 3 (lentG 2 [11] (fun _=>cU) (varP 0) (zA (valP (atP [(11,0)] (varP 0))) (zA (zW 3) zM)))))))
noncomputable def dC:OT->List D->Option OT:=lentF iY 4
noncomputable def lY:FS:=(qF (ifG (orT (notT (testT (qC 1 bJ (zA (zI 1) zM)))) (dnotG (zI 1) (fldG [(11,1)] (zW 0)))) (fun _=>none) qN)
 (retG (dgetG (fldG [(11,1)] (zW 0)) (zW 1))))
noncomputable def lZ:List D->Option Ret:=runG lY 2
noncomputable def mB:FS:=(retOG (srtDA (fldG [(11,1)] (zW 0))))
noncomputable def mC:List D->Option Ret:=runG mB 1
noncomputable def bQ:Nat->List D->Option Ret
 |11=>mC
 |_=>fun _=>none
noncomputable def bV:Nat->List D->Option Ret
 |11=>lZ
 |_=>fun _=>none
noncomputable def lG:FS:=(qF (setAt [(11,0)] (varP 0) (vO (zJ ixD (zI 1) (zB (.int 0)))))
 (setAt [(11,1)] (varP 0) (vO (zJ ixD (zI 1) (zB (.int 1))))))
noncomputable def cD:OT->List D->Option OT:=lentF lG 2
noncomputable def iZ:FS:=(qF (ifG (notT (testT (seeP (atP [(11,2)] (varP 0))))) (fun _=>none) qN)
 (qF (appP (atP [(11,3)] (varP 0)) (mkT (zU (zA (valP (atP [(11,0)] (varP 0))) (zA (valP (atP [(11,1)] (varP 0))) zM)))))
 (lentX [11] (fun _=>cD) 0 (popX (atP [(11,2)] (varP 0))))))
noncomputable def dM:OT->List D->Option OT:=lentF iZ 1
noncomputable def iH:FS:=(qF (ifG (notT (testT (seeP (atP [(11,3)] (varP 0))))) (fun _=>none) qN)
 (qF (appP (atP [(11,2)] (varP 0)) (mkT (zU (zA (valP (atP [(11,0)] (varP 0))) (zA (valP (atP [(11,1)] (varP 0))) zM)))))
 (lentX [11] (fun _=>cD) 0 (popX (atP [(11,3)] (varP 0))))))
noncomputable def dS:OT->List D->Option OT:=lentF iH 1
noncomputable def pD:FS:=(qF (ifG (zT (zJ ltD (zI 1) (callB lenD (zA (zI 0) zM)))) (retG (zJ ixD (zI 0) (zI 1))) qN)
 (retG (zB (.int 0))))
noncomputable def cY:List D->Option Ret:=runG pD 2
noncomputable def rE:FS:=(qF (jY 2 (zJ qX (zI 0) (zB (.int 3))))
 (qF (ifG (zT (zJ eqD (zJ jK (zI 0) (zB (.int 3))) (zB (.int 1)))) (retG (zJ subD (zJ jK (zI 2) (zJ yP (zJ mulD (zB (.int 2)) (zJ powD (zB (.int 10)) (zB (.int 60)))) (zB (.int 1)))) (zJ powD (zB (.int 10)) (zB (.int 60))))) qN)
 (qF (ifG (andT (zT (zJ eqD (zJ jK (zI 0) (zB (.int 3))) (zB (.int 2)))) (zT (zJ neD (zI 1) (mkL (zU zM))))) (retG (zJ subD (zJ yP (zJ ixD (zI 1) (zJ jK (zI 2) (callB lenD (zA (zI 1) zM)))) (zJ jK (zJ qX (zI 2) (callB lenD (zA (zI 1) zM))) (zB (.int 3)))) (zB (.int 1)))) qN)
 (retG (zJ subD (zJ jK (zI 2) (zB (.int 41))) (zB (.int 20)))))))
noncomputable def gJ:List D->Option Ret:=runG rE 3
noncomputable def AE:FS:=(retG (zJ ixD (mkL (zU (zA (zJ jK (zJ qX (zI 0) (zB (.int 3))) (zB (.int 9))) (zA (zJ jK (zJ qX (zI 0) (zB (.int 3))) (zJ powD (zB (.int 10)) (zB (.int 60)))) (zA (zJ jK (zJ qX (zI 0) (zB (.int 3))) (zB (.int 61))) zM))))) (zJ jK (zI 0) (zB (.int 3)))))
noncomputable def gQ:List D->Option Ret:=runG AE 1
noncomputable def sZ:FS:=(retG (zJ yP (zB (.int 1)) (zJ jK (zJ qX (zI 0) (zB (.int 2))) (zJ ixD (mkL (zU (zA (zB (.int 4)) (zA (zB (.int 1000)) zM)))) (zJ jK (zI 0) (zB (.int 2)))))))
noncomputable def hO:List D->Option Ret:=runG sZ 1
noncomputable def sY:FS:=(qF (jY 2 (zJ yP (zB (.int 1)) (qC 1 gQ (zA (zJ qX (zI 1) (zB (.int 12))) zM))))
 (qF (ifG (zT (zJ gtD (zJ jK (zI 1) (zB (.int 12))) (zB (.int 8)))) (retG (zJ ixD (mkL (zU (zA (mkT (zU (zA (zW 0) (zA (zB .non) zM)))) (zA (mkT (zU (zA (zB .non) (zA (zW 0) zM)))) (zA (mkT (zU (zA (zB .non) (zA (zB .non) zM)))) zM))))) (zJ subD (zJ jK (zI 1) (zB (.int 12))) (zB (.int 9))))) qN)
 (retG (mkT (zU (zA (zW 0) (zA (zJ yP (zI 0) (zI 2)) zM)))))))
noncomputable def lH:List D->Option Ret:=runG sY 3
noncomputable def IH:FS:=(qF (jY 4 (qC 2 gJ (zA (zI 1) (zA (zI 3) zM))))
 (qF (ifG (zT (zJ eqD (zJ jK (zI 0) (zB (.int 8))) (zB (.int 3)))) (retG (mkT (zU (zA (zB (.str "widen")) (zA (zW 4) (zA (qC 1 gQ (zA (zI 2) zM)) zM)))))) qN)
 (qF (ifG (zT (zJ eqD (zJ jK (zI 0) (zB (.int 8))) (zB (.int 4)))) (retG (mkT (zU (zA (zB (.str "narrow")) (zA (zW 4) (zA (qC 1 gQ (zA (zI 2) zM)) zM)))))) qN)
 (qF (ifG (zT (zJ eqD (zJ jK (zI 0) (zB (.int 8))) (zB (.int 5)))) (retG (mkT (zU (zA (zB (.str "move")) (zA (zW 4) (zA (zB (.int 0)) zM)))))) qN)
 (qF (ifG (zT (zJ eqD (zJ jK (zI 0) (zB (.int 8))) (zB (.int 6)))) (retG (mkT (zU (zA (zB (.str "stretch")) (zA (qC 1 hO (zA (zI 1) zM)) (zA (qC 1 hO (zA (zI 2) zM)) zM)))))) qN)
 (qF (ifG (zT (zJ eqD (zJ jK (zI 0) (zB (.int 8))) (zB (.int 7)))) (retG (mkT (zU (zA (zB (.str "mirror")) (zA (zB (.int 0)) (zA (zB (.int 0)) zM)))))) qN)
 (qF (jY 5 (zJ ixD (mkL (zU (zA (zB .non) (zA (zB (.int 0)) (zA (zB (.int 1)) (zA (zJ subD (zJ jK (zJ qX (zI 0) (zB (.int 40))) (zJ yP (zJ mulD (zB (.int 2)) (zJ powD (zB (.int 10)) (zB (.int 60)))) (zB (.int 1)))) (zJ powD (zB (.int 10)) (zB (.int 60)))) (zA (zB (.int 1)) zM))))))) (zJ jK (zJ qX (zI 0) (zB (.int 8))) (zB (.int 5)))))
 (retG (mkT (zU (zA (zB (.str "put")) (zA (qC 2 lH (zA (zI 4) (zA (zI 2) zM))) (zA (zW 5) zM)))))))))))))
noncomputable def rZ:List D->Option Ret:=runG IH 6
noncomputable def tD:FS:=(qF (asgG (tupG 3 (qH (zZ 1) (qH (zZ 2) (qH (zZ 3) tgNil)))) (zW 0))
 (qF (ifG (zT (zJ eqD (zI 1) (zB (.str "put")))) (retDG (makeG 0 2 eS (zA (zI 2) (zA (zI 3) zM)))) qN)
 (qF (ifG (zT (zJ eqD (zI 1) (zB (.str "widen")))) (retDG (makeG 1 2 cN (zA (zI 2) (zA (zI 3) zM)))) qN)
 (qF (ifG (zT (zJ eqD (zI 1) (zB (.str "narrow")))) (retDG (makeG 2 2 cN (zA (zI 2) (zA (zI 3) zM)))) qN)
 (qF (ifG (zT (zJ eqD (zI 1) (zB (.str "move")))) (retDG (makeG 3 1 eM (zA (zI 2) zM))) qN)
 (qF (ifG (zT (zJ eqD (zI 1) (zB (.str "stretch")))) (retDG (makeG 4 2 dR (zA (zI 2) (zA (zI 3) zM)))) qN)
 (retDG (makeG 5 0 bX zM))))))))
noncomputable def nD:List D->Option Ret:=runG tD 4
noncomputable def pC:FS:=(qF (jY 2 (zJ yP (zI 2) (zJ ixD (zB (.str "abcdefghijklmnopqrstuvwxyz")) (zJ jK (zI 0) (zB (.int 26))))))
 (jY 0 (zJ yP (zJ qX (zI 0) (zB (.int 26))) (zB (.int 5)))))
noncomputable def rY:FS:=(qF (jY 2 (zB (.str "")))
 (qF (forG (rng1 (zW 1)) (zZ 3) pC)
 (retG (zI 2))))
noncomputable def eN:List D->Option Ret:=runG rY 4
noncomputable def hX:FS:=(qF (jY 2 (zJ yP (zB (.int 1)) (zJ jK (zI 0) (zB (.int 8)))))
 (qF (jY 3 (qC 2 eN (zA (zJ qX (zI 0) (zB (.int 8))) (zA (zI 2) zM))))
 (qF (jY 4 (zJ jK (zJ qX (zI 1) (zB (.int 5))) (zI 2)))
 (qF (jY 5 (qC 2 eN (zA (zJ qX (zI 1) (zB (.int 40))) (zA (zB (.int 1)) zM))))
 (qF (ifG (zT (zJ eqD (zJ jK (zI 1) (zB (.int 5))) (zB (.int 1)))) (retG (zJ yP (zJ yP (slsS (zI 3) noP (soP (zI 4))) (zI 5)) (slsS (zI 3) (soP (zJ yP (zI 4) (zB (.int 1)))) noP))) qN)
 (qF (ifG (zT (zJ eqD (zJ jK (zI 1) (zB (.int 5))) (zB (.int 2)))) (retG (slsS (zI 3) noP (soP (zJ yP (zI 4) (zB (.int 1)))))) qN)
 (qF (ifG (zT (zJ eqD (zJ jK (zI 1) (zB (.int 5))) (zB (.int 3)))) (retG (slsS (zJ yP (zI 3) (zI 5)) noP (soP (zB (.int 8))))) qN)
 (qF (ifG (zT (zJ eqD (zJ jK (zI 1) (zB (.int 5))) (zB (.int 4)))) (retG (qC 2 eN (zA (zJ qX (zI 1) (zB (.int 40))) (zA (zJ yP (zB (.int 1)) (zJ jK (zJ qX (zI 1) (zB (.int 5))) (zB (.int 8)))) zM)))) qN)
 (retG (zI 3))))))))))
noncomputable def oP:List D->Option Ret:=runG hX 6
noncomputable def IF:FS:=(qF (jY 4 (qC 2 gJ (zA (zI 1) (zA (zI 3) zM))))
 (qF (ifG (zT (zJ eqD (zJ jK (zI 0) (zB (.int 8))) (zB (.int 3)))) (retG (mkT (zU (zA (zB (.str "widen")) (zA (zW 4) (zA (qC 1 gQ (zA (zI 2) zM)) zM)))))) qN)
 (qF (ifG (zT (zJ eqD (zJ jK (zI 0) (zB (.int 8))) (zB (.int 4)))) (retG (mkT (zU (zA (zB (.str "narrow")) (zA (zW 4) (zA (qC 1 gQ (zA (zI 2) zM)) zM)))))) qN)
 (qF (ifG (zT (zJ eqD (zJ jK (zI 0) (zB (.int 8))) (zB (.int 5)))) (retG (mkT (zU (zA (zB (.str "move")) (zA (zW 4) (zA (zB (.int 0)) zM)))))) qN)
 (qF (ifG (zT (zJ eqD (zJ jK (zI 0) (zB (.int 8))) (zB (.int 6)))) (retG (mkT (zU (zA (zB (.str "stretch")) (zA (qC 1 hO (zA (zI 1) zM)) (zA (qC 1 hO (zA (zI 2) zM)) zM)))))) qN)
 (qF (ifG (zT (zJ eqD (zJ jK (zI 0) (zB (.int 8))) (zB (.int 7)))) (retG (mkT (zU (zA (zB (.str "mirror")) (zA (zB (.int 0)) (zA (zB (.int 0)) zM)))))) qN)
 (qF (jY 5 (zJ ixD (mkL (zU (zA (zB .non) (zA (zB (.int 0)) (zA (zB (.int 1)) (zA (zJ subD (zJ jK (zJ qX (zI 0) (zB (.int 40))) (zJ yP (zJ mulD (zB (.int 2)) (zJ powD (zB (.int 10)) (zB (.int 60)))) (zB (.int 1)))) (zJ powD (zB (.int 10)) (zB (.int 60)))) (zA (zB (.int 1)) zM))))))) (zJ jK (zJ qX (zI 0) (zB (.int 8))) (zB (.int 5)))))
 (retG (mkT (zU (zA (zB (.str "put")) (zA (qC 2 lH (zA (zI 4) (zA (zI 2) zM))) (zA (zW 5) zM)))))))))))))
noncomputable def IG:List D->Option Ret:=runG IF 6
end
namespace FL
open PySem PySem.Spec PyProof.Rows L2
abbrev Spn:=Option Int×Option Int
noncomputable def spD(s:Spn):D:=.tup [oi s.1,oi s.2]
noncomputable def oS:Option Spn->D
 |none=>.non
 |some s=>spD s
noncomputable def hasS(s:Spn)(p:Int):Bool:=(match s.1 with | none=>true | some a=>decide (a<=p))&&(match s.2 with | none=>true | some b=>decide (p<b))
noncomputable def okS(s:Spn):Prop:=∀a b,s.1=some a->s.2=some b->a<b
@[simp] theorem spD_0(s:Spn):ixD (spD s) (.int 0)=some (oi s.1):=ixT0 _ _
@[simp] theorem spD_1(s:Spn):ixD (spD s) (.int 1)=some (oi s.2):=ixT1 _ _ _
@[simp] theorem spD_flat(s:Spn):flat (spD s)=true:=by simp[spD]
@[simp] theorem spD_isD(s:Spn):isD (spD s) .non=some (.bl false):=rfl
@[simp] theorem spD_notD(s:Spn):notD (spD s) .non=some (.bl true):=rfl
@[simp] theorem spD_asLT(s:Spn):asLT (spD s)=some [oi s.1,oi s.2]:=rfl
@[simp] theorem oS_isD(o:Option Spn):isD (oS o) .non=some (.bl o.isNone):=by cases o<;>rfl
@[simp] theorem oS_notD(o:Option Spn):notD (oS o) .non=some (.bl o.isSome):=by cases o<;>rfl
theorem has_eq(s:Spn)(p:Int):rD [spD s,.int p]=some (.val (.bl (hasS s p))):=by
 obtain⟨a,b⟩:=s;unfold rD runG DX;cases a<;>cases b<;>simp[args,hasS]
theorem length_eq(s:Spn):BM [spD s]=some (.val (oi (match s.1,s.2 with | some a,some b=>some (b-a) | _,_=>none))):=by
 obtain⟨a,b⟩:=s;unfold BM runG BL;cases a<;>cases b<;>simp[args]
noncomputable def lateL:Option Int->Option Int->Option Int
 |none,b=>b
 |a,none=>a
 |some a,some b=>some (max a b)
noncomputable def vD:Option Int->Option Int->Option Int
 |none,b=>b
 |a,none=>a
 |some a,some b=>some (min a b)
noncomputable def rX:Option Int->Option Int->Bool
 |some b,some l=>decide (b<=l)
 |_,_=>false
theorem aEb(a b:Option Int):hJ [oi a,oi b]=some (.val (oi (lateL a b))):=by
 unfold hJ runG mS;cases a<;>cases b<;>simp[args,lateL]
theorem aFb(a b:Option Int):eW [oi a,oi b]=some (.val (oi (vD a b))):=by
 unfold eW runG iA;cases a<;>cases b<;>simp[args,vD]
theorem ZN(a b:Option Int):gP [oi a,oi b]=some (.val (.bl (rX a b))):=by
 unfold gP runG lP;cases a<;>cases b<;>simp[args,rX]
noncomputable def meetS(s t:Spn):Option Spn:=if rX (vD s.2 t.2) (lateL s.1 t.1)=true then none else some (lateL s.1 t.1,vD s.2 t.2)
theorem meet_eq(s t:Spn):mM [spD s,spD t]=some (.val (oS (meetS s t))):=by
 unfold mM runG AC;cases h:rX (vD s.2 t.2) (lateL s.1 t.1)<;>simp[args,aEb,aFb,ZN,h,meetS,oS,spD]
noncomputable def HasS(s:Spn)(p:Int):Prop:=(∀a,s.1=some a->a<=p)/\(∀b,s.2=some b->p<b)
theorem vT(s:Spn)(p:Int):hasS s p=true↔HasS s p:=by
 obtain⟨a,b⟩:=s;cases a<;>cases b<;>simp[hasS,HasS]
theorem PK{a c:Option Int}{p:Int}:(∀x,lateL a c=some x->x<=p)↔(∀x,a=some x->x<=p)/\(∀x,c=some x->x<=p):=by
 cases a<;>cases c<;>simp[lateL]
 omega
theorem QC{a c:Option Int}{p:Int}:(∀x,vD a c=some x->p<x)↔(∀x,a=some x->p<x)/\(∀x,c=some x->p<x):=by
 cases a<;>cases c<;>simp[vD]
 omega
theorem ZM{b l:Option Int}{p:Int}(h:rX b l=true)(h1:∀x,l=some x->x<=p)(h2:∀x,b=some x->p<x):False:=by
 cases b<;>cases l<;>simp[rX] at h
 have:=h1 _ rfl;have:=h2 _ rfl;omega
noncomputable def hasO(o:Option Spn)(p:Int):Bool:=match o with
 |none=>false
 |some u=>hasS u p
theorem YR(s t:Spn)(p:Int):hasO (meetS s t) p=(hasS s p&&hasS t p):=by
 rw[pZ,bU,vT,vT];unfold meetS
 by_cases h:rX (vD s.2 t.2) (lateL s.1 t.1)=true
 . rw[if_pos h];refine⟨fun z=>by simp[hasO] at z,fun z=>(ZM h (PK.mpr ⟨z.1.1,z.2.1⟩) (QC.mpr ⟨z.1.2,z.2.2⟩)).elim⟩
 . rw[if_neg h];show hasS _ p=true↔_;rw[vT];show(∀x,lateL s.1 t.1=some x->x<=p)/\(∀x,vD s.2 t.2=some x->p<x)↔_;rw[PK,QC];exact⟨fun⟨⟨a,b⟩,c,d⟩=>⟨⟨a,c⟩,b,d⟩,fun⟨⟨a,c⟩,b,d⟩=>⟨⟨a,b⟩,c,d⟩⟩
theorem aDt{s t u:Spn}(h:meetS s t=some u):okS u:=by
 unfold meetS at h
 split at h
 . cases h
 . rename_i hn;cases h;intro a b h1 h2;simp only at h1 h2;rw[h1,h2] at hn;simp[rX] at hn;omega
open Builtin.Int (intBits)
noncomputable def cel(ns:List Int)(k:Nat):Int:=ns.getD k 0
theorem aFm(ns:List Int){k:Int}(h:0<=k):cY [.lst (ns.map D.int),.int k]=some (.val (.int (ns.getD k.toNat 0))):=by
 unfold cY runG pD
 by_cases hk:k<(ns.length:Int)
 . have hl : k < ((ns.map D.int).length : Int) := by simpa using hk
   have e:(ns.map D.int)[k.toNat]?=some (.int (ns.getD k.toNat 0)):=by
    have:k.toNat<ns.length:=by omega
    simp[this,List.getD]
   simp[args,hk,xA _ h hl,e]
 . have:ns.getD k.toNat 0=0:=by
    have:ns.length<=k.toNat:=by omega
    simp[List.getD,bK this]
   rw[this];simp[args,hk]
theorem MQ(ns:List Int)(k:Nat):cY [.lst (ns.map D.int),.int (k:Int)]=some (.val (.int (cel ns k))):=aFm ns (k:=(k:Int)) (by omega)
theorem vV{a:Int}{m:Nat}(h:a.natAbs<2 ^ m):intBits a<=m:=intBits_le_iff.mpr h
inductive Dd where
 |put (s:Spn) (v:Option Int) | widen (a m:Int) | narrow (a m:Int) | move (f:Int) | stretch (t b:Int) | mirror
noncomputable def insD:Dd->D
 | .put s v=>.ins 0 [spD s,oi v]
 | .widen a m=>.ins 1 [.non,.int a,.int m]
 | .narrow a m=>.ins 2 [.non,.int a,.int m]
 | .move f=>.ins 3 [.non,.int f]
 | .stretch t b=>.ins 4 [.non,.int t,.int b]
 | .mirror=>.ins 5 [.non]
noncomputable def okD:Dd->Prop
 | .put s _=>okS s
 | .widen _ m=>0<=m
 | .narrow _ m=>0<=m
 | .stretch t b=>(1<=t/\t<=1000)/\1<=b/\b<=1000
 |_=>True
noncomputable def cameF:Dd->Int->Option Int
 | .put s _,p=>if hasS s p=true then none else some p
 | .widen a m,p=>if p<a then some p else if p<a+m then none else some (p-m)
 | .narrow a m,p=>some (if p<a then p else p+m)
 | .move f,p=>some (p-f)
 | .stretch t b,p=>some (p*b/t)
 | .mirror,p=>some (-p)
noncomputable def hV(t b p:Int):Int:=-(-p*t/b)
noncomputable def wentF:Dd->Int->Option Int
 | .put _ _,p=>some p
 | .widen a m,p=>some (if p<a then p else p+m)
 | .narrow a m,p=>if p<a then some p else if p<a+m then none else some (p-m)
 | .move f,p=>some (p+f)
 | .stretch t b,p=>if hV t b p*b/t=p then some (hV t b p) else none
 | .mirror,p=>some (-p)
@[simp] theorem eqS_put_put:eqD (.str "put") (.str "put")=some (.bl true):=by kernel_rfl
@[simp] theorem neS_put_put:neD (.str "put") (.str "put")=some (.bl false):=by kernel_rfl
@[simp] theorem eqS_put_widen:eqD (.str "put") (.str "widen")=some (.bl false):=by kernel_rfl
@[simp] theorem neS_put_widen:neD (.str "put") (.str "widen")=some (.bl true):=by kernel_rfl
@[simp] theorem aEu:eqD (.str "put") (.str "narrow")=some (.bl false):=by kernel_rfl
@[simp] theorem aDn:neD (.str "put") (.str "narrow")=some (.bl true):=by kernel_rfl
@[simp] theorem eqS_put_move:eqD (.str "put") (.str "move")=some (.bl false):=by kernel_rfl
@[simp] theorem neS_put_move:neD (.str "put") (.str "move")=some (.bl true):=by kernel_rfl
@[simp] theorem aAh:eqD (.str "put") (.str "stretch")=some (.bl false):=by kernel_rfl
@[simp] theorem aAa:neD (.str "put") (.str "stretch")=some (.bl true):=by kernel_rfl
@[simp] theorem aEv:eqD (.str "put") (.str "mirror")=some (.bl false):=by kernel_rfl
@[simp] theorem aDo:neD (.str "put") (.str "mirror")=some (.bl true):=by kernel_rfl
@[simp] theorem eqS_widen_put:eqD (.str "widen") (.str "put")=some (.bl false):=by kernel_rfl
@[simp] theorem neS_widen_put:neD (.str "widen") (.str "put")=some (.bl true):=by kernel_rfl
@[simp] theorem aAf:eqD (.str "widen") (.str "widen")=some (.bl true):=by kernel_rfl
@[simp] theorem ZY:neD (.str "widen") (.str "widen")=some (.bl false):=by kernel_rfl
@[simp] theorem YT:eqD (.str "widen") (.str "narrow")=some (.bl false):=by kernel_rfl
@[simp] theorem XO:neD (.str "widen") (.str "narrow")=some (.bl true):=by kernel_rfl
@[simp] theorem aEt:eqD (.str "widen") (.str "move")=some (.bl false):=by kernel_rfl
@[simp] theorem aDm:neD (.str "widen") (.str "move")=some (.bl true):=by kernel_rfl
@[simp] theorem VL:eqD (.str "widen") (.str "stretch")=some (.bl false):=by kernel_rfl
@[simp] theorem UX:neD (.str "widen") (.str "stretch")=some (.bl true):=by kernel_rfl
@[simp] theorem YU:eqD (.str "widen") (.str "mirror")=some (.bl false):=by kernel_rfl
@[simp] theorem XQ:neD (.str "widen") (.str "mirror")=some (.bl true):=by kernel_rfl
@[simp] theorem aEw:eqD (.str "narrow") (.str "put")=some (.bl false):=by kernel_rfl
@[simp] theorem aDp:neD (.str "narrow") (.str "put")=some (.bl true):=by kernel_rfl
@[simp] theorem YW:eqD (.str "narrow") (.str "widen")=some (.bl false):=by kernel_rfl
@[simp] theorem XU:neD (.str "narrow") (.str "widen")=some (.bl true):=by kernel_rfl
@[simp] theorem VN:eqD (.str "narrow") (.str "narrow")=some (.bl true):=by kernel_rfl
@[simp] theorem UZ:neD (.str "narrow") (.str "narrow")=some (.bl false):=by kernel_rfl
@[simp] theorem aAi:eqD (.str "narrow") (.str "move")=some (.bl false):=by kernel_rfl
@[simp] theorem aAb:neD (.str "narrow") (.str "move")=some (.bl true):=by kernel_rfl
@[simp] theorem TC:eqD (.str "narrow") (.str "stretch")=some (.bl false):=by kernel_rfl
@[simp] theorem RY:neD (.str "narrow") (.str "stretch")=some (.bl true):=by kernel_rfl
@[simp] theorem VO:eqD (.str "narrow") (.str "mirror")=some (.bl false):=by kernel_rfl
@[simp] theorem VA:neD (.str "narrow") (.str "mirror")=some (.bl true):=by kernel_rfl
@[simp] theorem eqS_move_put:eqD (.str "move") (.str "put")=some (.bl false):=by kernel_rfl
@[simp] theorem neS_move_put:neD (.str "move") (.str "put")=some (.bl true):=by kernel_rfl
@[simp] theorem aEx:eqD (.str "move") (.str "widen")=some (.bl false):=by kernel_rfl
@[simp] theorem aDq:neD (.str "move") (.str "widen")=some (.bl true):=by kernel_rfl
@[simp] theorem aAj:eqD (.str "move") (.str "narrow")=some (.bl false):=by kernel_rfl
@[simp] theorem aAc:neD (.str "move") (.str "narrow")=some (.bl true):=by kernel_rfl
@[simp] theorem eqS_move_move:eqD (.str "move") (.str "move")=some (.bl true):=by kernel_rfl
@[simp] theorem neS_move_move:neD (.str "move") (.str "move")=some (.bl false):=by kernel_rfl
@[simp] theorem YX:eqD (.str "move") (.str "stretch")=some (.bl false):=by kernel_rfl
@[simp] theorem XV:neD (.str "move") (.str "stretch")=some (.bl true):=by kernel_rfl
@[simp] theorem aAk:eqD (.str "move") (.str "mirror")=some (.bl false):=by kernel_rfl
@[simp] theorem aAd:neD (.str "move") (.str "mirror")=some (.bl true):=by kernel_rfl
@[simp] theorem aAg:eqD (.str "stretch") (.str "put")=some (.bl false):=by kernel_rfl
@[simp] theorem ZZ:neD (.str "stretch") (.str "put")=some (.bl true):=by kernel_rfl
@[simp] theorem VM:eqD (.str "stretch") (.str "widen")=some (.bl false):=by kernel_rfl
@[simp] theorem UY:neD (.str "stretch") (.str "widen")=some (.bl true):=by kernel_rfl
@[simp] theorem SY:eqD (.str "stretch") (.str "narrow")=some (.bl false):=by kernel_rfl
@[simp] theorem RW:neD (.str "stretch") (.str "narrow")=some (.bl true):=by kernel_rfl
@[simp] theorem YV:eqD (.str "stretch") (.str "move")=some (.bl false):=by kernel_rfl
@[simp] theorem XS:neD (.str "stretch") (.str "move")=some (.bl true):=by kernel_rfl
@[simp] theorem RA:eqD (.str "stretch") (.str "stretch")=some (.bl true):=by kernel_rfl
@[simp] theorem QZ:neD (.str "stretch") (.str "stretch")=some (.bl false):=by kernel_rfl
@[simp] theorem TB:eqD (.str "stretch") (.str "mirror")=some (.bl false):=by kernel_rfl
@[simp] theorem RX:neD (.str "stretch") (.str "mirror")=some (.bl true):=by kernel_rfl
@[simp] theorem aEy:eqD (.str "mirror") (.str "put")=some (.bl false):=by kernel_rfl
@[simp] theorem aDr:neD (.str "mirror") (.str "put")=some (.bl true):=by kernel_rfl
@[simp] theorem YY:eqD (.str "mirror") (.str "widen")=some (.bl false):=by kernel_rfl
@[simp] theorem XW:neD (.str "mirror") (.str "widen")=some (.bl true):=by kernel_rfl
@[simp] theorem VP:eqD (.str "mirror") (.str "narrow")=some (.bl false):=by kernel_rfl
@[simp] theorem VB:neD (.str "mirror") (.str "narrow")=some (.bl true):=by kernel_rfl
@[simp] theorem aAl:eqD (.str "mirror") (.str "move")=some (.bl false):=by kernel_rfl
@[simp] theorem aAe:neD (.str "mirror") (.str "move")=some (.bl true):=by kernel_rfl
@[simp] theorem TF:eqD (.str "mirror") (.str "stretch")=some (.bl false):=by kernel_rfl
@[simp] theorem RZ:neD (.str "mirror") (.str "stretch")=some (.bl true):=by kernel_rfl
@[simp] theorem VQ:eqD (.str "mirror") (.str "mirror")=some (.bl true):=by kernel_rfl
@[simp] theorem VC:neD (.str "mirror") (.str "mirror")=some (.bl false):=by kernel_rfl
@[simp] theorem fldG_eq(ix:List (Nat×Nat))(f:FE)(ds:List Sl):fldG ix f ds=(f ds).bind (fldD ix):=rfl
@[simp] theorem fldD_ins(ix:List (Nat×Nat))(t:Nat)(es:List D):fldD ix (.ins t es)=(ix.lookup t).bind fun i=>es[i]?:=rfl
@[simp] theorem methV_eq(n:Nat)(cs:List Nat)(F:Nat->List D->Option Ret)(fo:FE)(g:FA)(ds:List Sl):methV n cs F fo g ds=(fo ds).bind fun o=>(g ds).bind fun l=>(methR n cs F o l).bind retV:=rfl
@[simp] theorem methF_eq(n:Nat)(cs:List Nat)(F:Nat->List D->Option Ret)(fo:FE)(g:FA)(ds:List Sl):methF n cs F fo g ds=(fo ds).bind fun o=>(g ds).bind fun l=>(methR n cs F o l).bind retF:=rfl
@[simp] theorem makeG_eq(t n:Nat)(G:List D->Option (List D))(g:FA)(ds:List Sl):makeG t n G g ds=(g ds).bind fun l=>if l.length=n/\flats l=true then (G l).map (D.ins t) else none:=rfl
@[simp] theorem retDG_eq(f:FE)(ds:List Sl):retDG f ds=(f ds).map fun d=>.rt (.val d):=rfl
theorem aDz{β : Type}(a:Nat)(b : β)(l:List (Nat×β)):((a,b)::l).lookup a=some b:=by simp[List.lookup]
theorem aFk{m:Int}(h:0<=m):fS [.int m]=some (.val .non):=by
 unfold fS runG lQ;have : ¬m<0:=by omega
 simp[args,this]
theorem KH{m:Int}(h:1<=m)(h2:m<=1000):fF [.int m]=some (.val .non):=by
 unfold fF runG kS;have h1 : ¬m<1:=by omega
 have h3 : ¬1000<m:=by omega
 simp[args,h1,h3]
theorem aEi(s:Spn)(v:Option Int):eS [spD s,oi v]=some [spD s,oi v]:=by
 obtain⟨a,b⟩:=s;unfold eS runN iX;simp[argsN,seqN,fldN,spD]
theorem wJ:bX []=some [.non]:=by
 unfold bX runN iL;simp[argsN,seqN,fldN]
theorem FU{a m:Int}(h:0<=m):cN [.int a,.int m]=some [.non,.int a,.int m]:=by
 unfold cN runN gC;simp[argsN,seqN,fldN,dropN,supN,aFk h,wJ]
theorem YO{a:Int}: eM [.int a]=some [.non,.int a]:=by
 unfold eM runN iJ;simp[argsN,seqN,fldN,dropN,supN,wJ]
theorem MG{a m:Int}(h:1<=a/\a<=1000)(h2:1<=m/\m<=1000):dR [.int a,.int m]=some [.non,.int a,.int m]:=by
 unfold dR runN gS;simp[argsN,seqN,fldN,dropN,supN,KH h.1 h.2,KH h2.1 h2.2,wJ]
end FL
namespace FL
open PySem PySem.Spec PyProof.Rows L2
abbrev Rw:=Option Int×Option Int×Option Int
noncomputable def rwD(r:Rw):D:=.tup [oi r.1,oi r.2.1,oi r.2.2]
noncomputable def has3(r:Rw)(p:Int):Bool:=hasS (r.1,r.2.1) p
noncomputable def ok3(r:Rw):Prop:=okS (r.1,r.2.1)
@[simp] theorem rwD_0(r:Rw):ixD (rwD r) (.int 0)=some (oi r.1):=ixT0 _ _
@[simp] theorem rwD_1(r:Rw):ixD (rwD r) (.int 1)=some (oi r.2.1):=ixT1 _ _ _
@[simp] theorem rwD_2(r:Rw):ixD (rwD r) (.int 2)=some (oi r.2.2):=ixT2 _ _ _ _
@[simp] theorem rwD_flat(r:Rw):flat (rwD r)=true:=by simp[rwD]
@[simp] theorem rwD_shal(r:Rw)(n:Nat):shal (n+1) (rwD r)=true:=by simp[rwD]
@[simp] theorem rwD_tupG(h:List D->List Sl->Option (List Sl))(r:Rw)(ds:List Sl):tupG 3 h (rwD r) ds=h [oi r.1,oi r.2.1,oi r.2.2] ds:=by simp[rwD]
@[simp] theorem rwD_eqv(r t:Rw):eqvD (rwD r) (rwD t)=decide (r=t):=by
 obtain⟨a,b,c⟩:=r;obtain⟨x,y,z⟩:=t;rw[pZ];simp[rwD]
theorem yD(l:List Rw):flats (l.map rwD)=true:=by
 induction l with
 |nil=>simp
 |cons a r ih=>simp[ih]
theorem aBg(n:Nat)(l:List Rw):shals (n+2) (l.map rwD)=true:=kH fun d hd=>by obtain⟨r,_,rfl⟩:=cM.mp hd;simp
theorem VJ:∀a b:List Rw,eqvs (a.map rwD) (b.map rwD)=decide (a=b)
 |[],[]=>by simp
 |[],y::b=>by simp
 |x::a,[]=>by simp
 | x :: a, y :: b => by
   simp only[bI,BE,rwD_eqv,VJ a b];rw[pZ];simp
theorem aEd{n:Nat}(h:0<n):ixN n (-1)=some (n-1):=by
 unfold ixN;rw[if_neg (by decide),if_pos (by omega)];congr 1;omega
noncomputable def ahead(a b:Rw):Prop:=∃x y,a.2.1=some x/\b.1=some y/\x<=y
structure Ord(rows:List Rw):Prop where
 ok:∀r∈rows,ok3 r
 pw:rows.Pairwise ahead
noncomputable def Tel(rows:List Rw)(p v:Int):Prop:=∃r∈rows,has3 r p=true/\r.2.2=some v
noncomputable def knit1(acc:List Rw)(r:Rw):List Rw:=match r.2.2 with
 |none=>acc
 | some v => match acc with
   |[]=>[r]
   |q::t=>if q.2.1=r.1/\q.2.2=some v then (q.1,r.2.1,some v)::t else r::q::t
noncomputable def knitF(rows:List Rw):List Rw:=(rows.foldl knit1 []).reverse
theorem YH(acc:List Rw)(r:Rw)(R a b c:Sl)(hl:acc.length<16777216) :
  mT [R,.own (acc.map rwD).reverse,.v (oi r.1),.v (oi r.2.1),.v (oi r.2.2)]=some (.nx [R,.own ((knit1 acc r).map rwD).reverse,.v (oi r.1),.v (oi r.2.1),.v (oi r.2.2)]) ∨
  mT [R,.own (acc.map rwD).reverse,.v (oi r.1),.v (oi r.2.1),.v (oi r.2.2)]=some (.ct [R,.own ((knit1 acc r).map rwD).reverse,.v (oi r.1),.v (oi r.2.1),.v (oi r.2.2)]):=by
 obtain⟨lo,bh,v⟩:=r;unfold mT;cases v with
 |none=>right;simp[knit1]
 | some v =>
   left;cases acc with
   | nil =>
     have e:D.tup [oi lo,oi bh,.int v]=rwD (lo,bh,some v):=rfl;simp[knit1,e]
   | cons q t =>
     have last:ixD (.lst ((t.map rwD).reverse++[rwD q])) (.int (-1))=some (rwD q):=aEe _ _;have le:ixN (t.length+1) (-1)=some t.length:=by rw[aEd (by omega)];rfl
     have hl':t.length+1<16777216:=by simpa using hl
     have e2:∀x:Option Int,eqD (oi x) (D.int v)=some (.bl (decide (x=some v))):=fun x=>eqD_oi x (some v)
     by_cases h1:q.2.1=lo
     . by_cases h2 : q.2.2 = some v
       . have e : D.tup [oi q.1, oi bh, .int v]=rwD (q.1, bh, some v):= rfl;simp[knit1,h1,h2,last,le,e2,e]
       . have e : D.tup [oi lo, oi bh, .int v]=rwD (lo, bh, some v):= rfl;simp[knit1,h1,h2,last,le,e2,hl',e]
     . have e : D.tup [oi lo, oi bh, .int v]=rwD (lo, bh, some v):= rfl;simp[knit1,h1,last,le,hl',e]
theorem JT(acc:List Rw)(r:Rw):(knit1 acc r).length<=acc.length+1:=by
 unfold knit1
 split
 . omega
 . split
   . simp
   . split<;>simp
theorem JR(R:Sl):∀(rows acc:List Rw) (a b c:Sl),acc.length+rows.length<16777216 →
  ∃a' b' c',jI (tupG 3 (qH (zZ 2) (qH (zZ 3) (qH (zZ 4) tgNil)))) mT (rows.map rwD) [R,.own (acc.map rwD).reverse,a,b,c]=some (.nx [R,.own ((rows.foldl knit1 acc).map rwD).reverse,a',b',c'])
 |[],acc,a,b,c,_=>⟨a,b,c,rfl⟩
 | r :: rows, acc, a, b, c, h => by
   simp only[aM] at h;have hl:=JT acc r;obtain⟨a',b',c',ih⟩:=JR R rows (knit1 acc r) (.v (oi r.1)) (.v (oi r.2.1)) (.v (oi r.2.2)) (by omega);refine⟨a',b',c',?_⟩;rcases YH acc r R a b c (by omega) with e | e<;>simp[jI,e,ih]
theorem DN(rows:List Rw)(h:rows.length<16777216):fR [.lst (rows.map rwD)]=some (.fresh ((knitF rows).map rwD)):=by
 obtain⟨a,b,c,e⟩:=JR (.v (.lst (rows.map rwD))) rows [] .no .no .no (by simpa using h);simp only[List.reverse_nil,nF] at e;unfold fR runG AD;have fl:=yD (knitF rows);unfold knitF at fl ⊢;rw[List.map_reverse] at fl ⊢;simp[args,e,fl]
theorem wV(rows:List Rw):(knitF rows).length<=rows.length:=by
 unfold knitF;rw[eE]
 have:∀(rows acc:List Rw),(rows.foldl knit1 acc).length<=acc.length+rows.length:=by
  intro rows
  induction rows with
  |nil=>intro acc;simp
  | cons r t ih =>
    intro acc;have:=ih (knit1 acc r);have:=JT acc r;simp only[mI,aM];omega
 have:=this rows [];simpa using this
noncomputable def adjOk:List Rw->Prop
 |b::a::t=>¬(a.2.1=b.1/\a.2.2=b.2.2)/\adjOk (a::t)
 |_=>True
structure KI(acc:List Rw):Prop where
 ok:∀r∈acc,ok3 r
 pw:acc.Pairwise fun b a=>ahead a b
 val:∀r∈acc,r.2.2≠none
 adj:adjOk acc
theorem KI.nil:KI []:=⟨(fun _ h=>nomatch h),List.Pairwise.nil,(fun _ h=>nomatch h),trivial⟩
theorem FV(r:Rw)(p:Int):has3 r p=true↔(∀a,r.1=some a->a<=p)/\(∀b,r.2.1=some b->p<b):=vT _ _
theorem SF{acc:List Rw}{r:Rw}(k:KI acc)(ho:ok3 r)(ha:∀a∈acc,ahead a r) :
  KI (knit1 acc r)/\(∀r',ahead r r'->(∀a∈acc,ahead a r')->∀a∈knit1 acc r,ahead a r')/\∀p v,Tel (knit1 acc r) p v↔Tel acc p v\/(has3 r p=true/\r.2.2=some v):=by
 obtain⟨lo,bh,w⟩:=r;cases w with
 | none =>
   refine⟨k,fun r' _ h=>h,fun p v=>⟨.inl,fun h=>h.elim id fun z=>by simp at z⟩⟩
 | some w =>
   cases acc with
   | nil =>
     refine⟨⟨?_,?_,?_,trivial⟩,?_,?_⟩
     . intro x hx;simp[knit1] at hx;subst hx;exact ho
     . simp[knit1]
     . intro x hx;simp[knit1] at hx;subst hx;simp
     . intro r' h1 _ a h;simp[knit1] at h;subst h;exact h1
     . intro p v;simp[knit1,Tel]
   | cons q t =>
     obtain⟨x,y,hx,hy,hxy⟩:=ha q aV;simp only at hy;have pw:=cB.mp k.pw
     by_cases hm:q.2.1=lo/\q.2.2=some w
     . have e : knit1 (q :: t) (lo, bh, some w) = (q.1, bh, some w) :: t := by simp [knit1, hm.1, hm.2]
       rw[e]
       have exy:x=y:=by
        have:=hm.1;rw[hx,hy] at this;exact Option.some.inj this
       have hn:∀p,has3 (q.1,bh,some w) p=true↔has3 q p=true\/has3 (lo,bh,some w) p=true:=by
        intro p;rw[FV,FV,FV];simp only;constructor
        . rintro ⟨h1, h2⟩
          by_cases hp:p<x
          . exact .inl ⟨h1,fun b hb=>by rw[hx] at hb;cases hb;exact hp⟩
          . exact .inr ⟨fun a h=>by rw[hy] at h;cases h;omega,h2⟩
        . rintro (⟨h1, h2⟩ | ⟨h1, h2⟩)
          . refine⟨h1, fun b hb => ?_⟩;have:=h2 x hx;have:=ho y b hy hb;omega
          . refine⟨fun a h => ?_, h2⟩;have:=k.ok q aV a x h hx;have:=h1 y hy;omega
       refine⟨⟨?_,?_,?_,?_⟩,?_,?_⟩
       . intro z hz;rcases aE.mp hz with rfl | hz
         . intro a b h1 h2;have:=k.ok q aV a x h1 hx;have:=ho y b hy h2;omega
         . exact k.ok z (aP _ hz)
       . refine cB.mpr ⟨fun a h => ?_, pw.2⟩;exact pw.1 a h
       . intro z hz;rcases aE.mp hz with rfl | hz
         . simp
         . exact k.val z (aP _ hz)
       . have ka := k.adj;cases t with
         |nil=>trivial
         | cons a t =>
           refine⟨fun h=>ka.1 ⟨h.1,?_⟩,ka.2⟩;rw[hm.2];exact h.2
       . intro r' h1 h2 a h;rcases aE.mp h with rfl | h
         . exact h1
         . exact h2 a (aP _ h)
       . intro p v;constructor
         . rintro ⟨z, hz, h1, h2⟩;rcases aE.mp hz with rfl | hz
           . rcases (hn p).mp h1 with h3 | h3
             . exact .inl ⟨q,aV,h3,hm.2.trans h2⟩
             . exact .inr ⟨h3,h2⟩
           . exact .inl ⟨z,aP _ hz,h1,h2⟩
         . rintro (⟨z, hz, h1, h2⟩ | ⟨h1, h2⟩)
           . rcases aE.mp hz with rfl | hz
             . exact⟨_,aV,(hn p).mpr (.inl h1),by rw[hm.2] at h2;exact h2⟩
             . exact⟨z,aP _ hz,h1,h2⟩
           . exact⟨_,aV,(hn p).mpr (.inr h1),h2⟩
     . have e : knit1 (q :: t) (lo, bh, some w) = (lo, bh, some w) :: q :: t := by simp only [knit1]; rw [if_neg hm]
       rw[e];refine⟨⟨?_,cB.mpr ⟨ha,k.pw⟩,?_,hm,k.adj⟩,?_,?_⟩
       . intro z hz;rcases aE.mp hz with rfl | hz
         . exact ho
         . exact k.ok z hz
       . intro z hz;rcases aE.mp hz with rfl | hz
         . simp
         . exact k.val z hz
       . intro r' h1 h2 a h;rcases aE.mp h with rfl | h
         . exact h1
         . exact h2 a h
       . intro p v;constructor
         . rintro ⟨z, hz, h1, h2⟩;rcases aE.mp hz with rfl | hz
           . exact .inr ⟨h1,h2⟩
           . exact .inl ⟨z,hz,h1,h2⟩
         . rintro (⟨z, hz, h1, h2⟩ | ⟨h1, h2⟩)
           . exact⟨z,aP _ hz,h1,h2⟩
           . exact⟨_,aV,h1,h2⟩
theorem JS:∀(rows acc:List Rw),KI acc->Ord rows->(∀a∈acc,∀r∈rows,ahead a r)->KI (rows.foldl knit1 acc)/\∀p v,Tel (rows.foldl knit1 acc) p v↔Tel acc p v\/Tel rows p v
 |[],acc,k,_,_=>⟨k,fun p v=>⟨.inl,fun h=>h.elim id fun⟨r,hr,_⟩=>nomatch hr⟩⟩
 | r :: rows, acc, k, o, h => by
   have pw:=cB.mp o.pw;obtain⟨k1,h1,t1⟩:=SF k (o.ok r aV) fun a ha=>h a ha r aV;obtain⟨k2,t2⟩:=JS rows (knit1 acc r) k1 ⟨fun z hz=>o.ok z (aP _ hz),pw.2⟩ fun a ha r' hr'=>h1 r' (pw.1 r' hr') (fun b hb=>h b hb r' (aP _ hr')) a ha;refine⟨k2,fun p v=>?_⟩;show Tel (rows.foldl knit1 (knit1 acc r)) p v↔_;rw[t2,t1];constructor
   . rintro ((h | ⟨h, e⟩) | ⟨z, hz, h⟩)
     . exact .inl h
     . exact .inr ⟨r,aV,h,e⟩
     . exact .inr ⟨z,aP _ hz,h⟩
   . rintro (h' | ⟨z, hz, h'⟩)
     . exact .inl (.inl h')
     . rcases aE.mp hz with rfl | hz
       . exact .inl (.inr h')
       . exact .inr ⟨z,hz,h'⟩
structure MapF(ps:List Rw):Prop where
 ord:Ord ps
 val:∀r∈ps,r.2.2≠none
 adj:∀(i:Nat) (a b:Rw),ps[i]?=some a->ps[i+1]?=some b->¬(a.2.1=b.1/\a.2.2=b.2.2)
theorem KR:∀{l:List Rw},adjOk l->∀(i:Nat) (b a:Rw),l[i]?=some b->l[i+1]?=some a->¬(a.2.1=b.1/\a.2.2=b.2.2)
 |[],_,i,b,a,e,_=>by simp at e
 |[x],_,i,b,a,e,e2=>by simp at e2
 | x :: y :: t, h, 0, b, a, e, e2 => by
   simp at e e2;subst e e2;exact h.1
 |x::y::t,h,i+1,b,a,e,e2=>KR h.2 i b a (by simpa using e) (by simpa using e2)
theorem KI.map{acc:List Rw}(k:KI acc):MapF acc.reverse:=by
 refine⟨⟨fun r hr=>k.ok r (lN.mp hr),QW.mpr k.pw⟩,fun r hr=>k.val r (lN.mp hr),fun i a b h1 h2=>?_⟩;have l2:=(aT.mp h2).1;rw[eE] at l2;rw[rJ (by omega)] at h1 h2;refine KR k.adj (acc.length-1-(i+1)) b a h2 ?_;rw[<- h1];congr 1;omega
theorem wS{rows:List Rw}(o:Ord rows):MapF (knitF rows):=(JS rows [] KI.nil o (fun _ h=>nomatch h)).1.map
open Builtin.Int (intBits)
structure Drawn(rows:List Rw)(s:Int):Prop where
 ord:Ord rows
 fin:∀r∈rows,∃lo bh,r.1=some lo/\r.2.1=some bh/\bh<=s
theorem ints_at(ns:List Int){k:Int}(h0:0<=k)(h1:k<ns.length):ixD (.lst (ns.map D.int)) (.int k)=some (.int (cel ns k.toNat)):=by
 have h3:k.toNat<ns.length:=by omega
 rw[xA _ h0 (by simpa using h1)];simp[h3,cel,List.getD]
theorem JM{i j:Int}(h:0<=j)(h2:j<=1000):mulD (.int i) (.int j)=some (.int (i*j)):=DL (.of_right (vV (dX (show j.natAbs<=1000 by omega) (by decide))))
@[simp] theorem XZ(n:Nat)(cs:List Nat)(F:Nat->List D->Option Ret)(t:Nat)(es l:List D):methR n cs F (.ins t es) l=if t∈cs/\l.length=n then F t (.ins t es::l) else none:=rfl
theorem NL(p a m:Int):fM [.int p,.int a,.int m]=some (.val (oi (if p<a then some p else if p<a+m then none else some (p-m)))):=by
 unfold fM runG mQ
 by_cases h:p<a
 . simp[args,h]
 . by_cases h2:p<a+m<;>simp[args,h,h2]
theorem JK(p a m:Int):gZ [.int p,.int a,.int m]=some (.val (.int (if p<a then p else p+m))):=by
 unfold gZ runG rC
 by_cases h:p<a<;>simp[args,h]
theorem FI(t b p:Int)(ht:1<=t/\t<=1000)(hb:1<=b/\b<=1000):dI [.ins 4 [.non,.int t,.int b],.int p]=some (.val (.int (hV t b p))):=by
 unfold dI runG eR;have h1:=JM (i:=-p) (j:=t) (by omega) ht.2;have h2:=wF (j:=b) (-p*t) (by omega) (by omega);simp[args,aDz,h1,h2,hV]
theorem KZ(t b p:Int)(ht:1<=t/\t<=1000)(hb:1<=b/\b<=1000):gT [.ins 4 [.non,.int t,.int b],.int p]=some (.val (.int (p*b/t))):=by
 unfold gT runG iW;have h1:=JM (i:=p) (j:=b) (by omega) hb.2;have h2:=wF (j:=t) (p*b) (by omega) (by omega);simp[args,List.lookup,h1,h2]
theorem came_eq(d:Dd)(h:okD d)(p:Int):methR 1 [0,1,2,3,4,5] dE (insD d) [.int p]=some (.val (oi (cameF d p))):=by
 cases d with
 | put s v =>
   simp only[insD,XZ,aE,true_or,aM,eG,and_self,if_true,dE];unfold oH runG oG;cases hs:hasS s p<;>simp[args,aDz,has_eq,cameF,hs]
 | widen a m =>
   simp[insD,dE];unfold lX runG lW;simp[args,List.lookup,NL,cameF]
 | narrow a m =>
   simp[insD,dE];unfold kZ runG kY;simp[args,List.lookup,JK,cameF]
 | move f =>
   simp[insD,dE];unfold mZ runG mY;simp[args,List.lookup,cameF]
 | stretch t b =>
   simp[insD,dE,KZ t b p h.1 h.2,cameF]
 | mirror =>
   simp[insD,dE];unfold lF runG lE;simp[args,cameF]
theorem went_eq(d:Dd)(h:okD d)(p:Int):methR 1 [0,1,2,3,4,5] cT (insD d) [.int p]=some (.val (oi (wentF d p))):=by
 cases d with
 | put s v =>
   simp[insD,cT];unfold oC runG oB;simp[args,wentF]
 | widen a m =>
   simp[insD,cT];unfold lT runG lR;simp[args,List.lookup,JK,wentF]
 | narrow a m =>
   simp[insD,cT];unfold kU runG kT;simp[args,List.lookup,NL,wentF]
 | move f =>
   simp[insD,cT];unfold mV runG mU;simp[args,List.lookup,wentF]
 | stretch t b =>
   simp[insD,cT];unfold iT runG iS;have e1:=came_eq (.stretch t b) h (hV t b p);simp only[insD,cameF] at e1
   by_cases hc:hV t b p*b/t=p
   . simp[args,bW,FI t b p h.1 h.2,e1,wentF,hc]
   . simp[args,bW,FI t b p h.1 h.2,e1,wentF,hc]
 | mirror =>
   simp[insD,cT];unfold lB runG lA;simp[args,wentF]
theorem aEa{t b p:Int}(hb:0<b):p*t<=hV t b p*b/\(hV t b p-1)*b<p*t:=by
 have h1:=Int.ediv_mul_le (-p*t) (Int.ne_of_gt hb);have h2:=Int.lt_ediv_add_one_mul_self (-p*t) hb;unfold hV;have e1 : -(-p*t/b)*b=-((-p*t/b)*b):=by rw[TX]
 have e2:(-(-p*t/b)-1)*b=-(((-p*t/b)+1)*b):=by
  rw[<- TX];congr 1;omega
 have e3 : -p*t=-(p*t):=TX ..;rw[e1,e2];rw[e3] at h1 h2 ⊢;constructor<;>omega
end FL
namespace FL
open PySem PyProof.Rows L2 Builtin.Str
noncomputable def txS(cs:List Nat):Str:=⟨cs.toArray⟩
@[simp] theorem PB(cs:List Nat):(txS cs).cps.toList=cs:=rfl
@[simp] theorem xH(cs:List Nat):(txS cs).length=cs.length:=by simp[txS,Str.length]
theorem DE{a b:List Nat}: txS a=txS b↔a=b:=⟨fun h=>by have:=congrArg (fun x:Str=>x.cps.toList) h;simpa using this,fun h=>by rw[h]⟩
@[simp] theorem txS_app(a b:List Nat):txS a++txS b=txS (a++b):=Str.ext' (by rw[Str.cps_append];simp[txS])
theorem yE(x:Str)(l u:Option Int):Txt.slice x l u=StrLaws.sliceText x l u:=rfl
theorem IW(cs:List Nat){a b:Nat}(hab:a<=b)(hb:b<=cs.length):Txt.slice (txS cs) (some (a:Int)) (some (b:Int))=txS ((cs.drop a).take (b-a)):=by
 rw[yE,StrLaws.sliceText_nat _ hab (by simpa using hb)];rfl
theorem wG(cs:List Nat){b:Nat}(hb:b<=cs.length):Txt.slice (txS cs) none (some (b:Int))=txS (cs.take b):=by
 have e:Txt.slice (txS cs) none (some (b:Int))=Txt.slice (txS cs) (some ((0:Nat):Int)) (some (b:Int)):=by
  rw[yE,yE];unfold StrLaws.sliceText;rw[StrLaws.sliceIdx_none_lo];rfl
 rw[e,IW cs (eK _) hb];simp
theorem EI(cs:List Nat)(a:Nat):Txt.slice (txS cs) (some (a:Int)) none=txS (cs.drop a):=by
 have key:∀a:Nat,a<=cs.length->Txt.slice (txS cs) (some (a:Int)) none=txS (cs.drop a):=by
  intro a ha
  have e:Txt.slice (txS cs) (some (a:Int)) none=Txt.slice (txS cs) (some (a:Int)) (some (cs.length:Int)):=by
   rw[yE,yE];unfold StrLaws.sliceText;rw[StrLaws.sliceIdx_none_hi];simp
  rw[e,IW cs ha (aY _)];congr 1;exact kO (by simp)
 by_cases ha:a<=cs.length
 . exact key a ha
 . have e:Txt.slice (txS cs) (some (a:Int)) none=Txt.slice (txS cs) (some (cs.length:Int)) none:=by
    have:strSliceIndices (some (a:Int)) none 1 (txS cs).length=strSliceIndices (some (cs.length:Int)) none 1 (txS cs).length:=by
     have h1 : ¬((a:Int)<0):=by omega
     have h2 : ¬((cs.length:Int)<0):=by omega
     have e1:max (0:Int) (min (a:Int) (cs.length:Int))=cs.length:=by omega
     have e2:max (0:Int) (min (cs.length:Int) (cs.length:Int))=cs.length:=by omega
     simp only[strSliceIndices,xH,h1,h2,if_false,e1,e2,show((1:Int)>0)=True from by simp,if_true]
    rw[yE,yE];unfold StrLaws.sliceText;rw[this]
   rw[e,key _ (aY _),pS (by omega),pS (by omega)]
theorem aEj(cs:List Nat)(c:Nat):inS (.str (txS [c])) (.str (txS cs))=some (.bl (decide (c∈cs))):=by
 have e3:txS [c]=(⟨#[c]⟩:Str):=rfl;have e:=StrLaws.found_one (txS cs) c;rw[PB] at e;rw[e3];show some (D.bl _)=_;rw[e]
theorem MB(cs:List Nat)(h:cs.length<=16777216):lenD [.str (txS cs)]=some (.int cs.length):=by
 simp[lenD,h]
theorem BJ(a b:List Nat)(h:a.length+b.length<=16777216):yP (.str (txS a)) (.str (txS b))=some (.str (txS (a++b))):=by
 simp[yP,h]
noncomputable def Asc(cs:List Nat):Prop:=∀c∈cs,c<1000
theorem UA{cs:List Nat}(h:Asc cs)(n:Nat):shal n (.str (txS cs))=true:=by
 have:PyData.strOk (txS cs)=true:=by
  unfold PyData.strOk;rw[<- Array.all_toList,PB,iB];intro c hc;have:=h c hc;simp;omega
 simp[shal,this]
end FL
namespace FL
open PySem PySem.Spec PyProof.Rows L2
open Builtin.Int (intBits)
noncomputable def told3:Dd->D
 | .put s v=>.tup [.str "put",spD s,oi v]
 | .widen a m=>.tup [.str "widen",.int a,.int m]
 | .narrow a m=>.tup [.str "narrow",.int a,.int m]
 | .move f=>.tup [.str "move",.int f,.int 0]
 | .stretch t b=>.tup [.str "stretch",.int t,.int b]
 | .mirror=>.tup [.str "mirror",.int 0,.int 0]
theorem aDw(d:Dd)(h:okD d):nD [told3 d]=some (.val (insD d)):=by
 unfold nD runG tD;cases d with
 |put s v=>simp[args,told3,insD,aEi]
 |widen a m=>simp[args,told3,insD,FU h]
 |narrow a m=>simp[args,told3,insD,FU h]
 |move f=>simp[args,told3,insD,YO]
 |stretch t b=>simp[args,told3,insD,MG h.1 h.2]
 |mirror=>simp[args,told3,insD,wJ]
theorem ix3_2(x y z:D):ixD (.lst [x,y,z]) (.int 2)=some z:=by rw[xA _ (by decide) (by simp)];rfl
theorem VD(c:Int):∃m,0<=m/\gQ [.int c]=some (.val (.int m)):=by
 have p2:powD (.int 10) (.int 60)=some (.int (10 ^ 60)):=pow10 (by decide) (by decide);have mm:∀x,jK (.int x) (.int (10 ^ 60))=some (.int (x%10 ^ 60)):=fun x=>yN x (by decide);have q0:(0:Int)<=c/3%10 ^ 60:=dP _ (by decide);unfold gQ runG AE;rcases(by omega:c%3=0\/c%3=1\/c%3=2) with h | h | h
 . exact⟨c/3%9,by omega,by simp[-Int.reducePow,-Nat.reducePow,args,p2,mm,h]⟩
 . exact⟨c/3%10 ^ 60,q0,by simp[-Int.reducePow,-Nat.reducePow,args,p2,mm,h]⟩
 . exact⟨c/3%61,by omega,by simp[-Int.reducePow,-Nat.reducePow,args,p2,mm,h,ix3_2]⟩
theorem NN(c:Int):∃m,(1<=m/\m<=1000)/\hO [.int c]=some (.val (.int m)):=by
 unfold hO runG sZ;rcases(by omega:c%2=0\/c%2=1) with h | h
 . exact⟨1+c/2%4,by omega,by simp[args,h]⟩
 . exact⟨1+c/2%1000,by omega,by simp[args,h]⟩
theorem LY(l:List Int):neD (.lst (l.map D.int)) (.lst [])=some (.bl (!l.isEmpty)):=by rw[neD_nil (RK 39 l)];cases l<;>rfl
theorem JI(c:Int)(known:List Int)(hk:known.length<100000):∃v,gJ [.int c,.lst (known.map D.int)]=some (.val (.int v)):=by
 have p2:powD (.int 10) (.int 60)=some (.int (10 ^ 60)):=pow10 (by decide) (by decide);have m1:mulD (.int 2) (.int (10 ^ 60))=some (.int (2*10 ^ 60)):=DL (.of_left (vV (by decide)));have mm:∀x,jK (.int x) (.int (2*10 ^ 60+1))=some (.int (x%(2*10 ^ 60+1))):=fun x=>yN x (by decide);unfold gJ runG rE
 by_cases h1:c%3=1
 . exact⟨c/3%(2*10 ^ 60+1)-10 ^ 60,by simp[-Int.reducePow,-Nat.reducePow,args,h1,p2,m1,mm]⟩
 . by_cases h2 : c % 3 = 2
   . have e0 := LY known;cases hk0:known.isEmpty with
     | true =>
       rw[hk0] at e0;generalize known.map D.int=kd at *;exact⟨c/3%41-20,by simp[-Int.reducePow,-Nat.reducePow,args,h2,e0]⟩
     | false =>
       rw[hk0] at e0
       have hl:(0:Int)<(known.length:Int):=by
        cases known with
        |nil=>cases hk0
        |cons a r=>simp
       have hl2:(known.length:Int)<1000000000:=by omega
       have e1:=ints_at known (k:=c/3%(known.length:Int)) (dP _ (Int.ne_of_gt hl)) (dB _ hl);have e2:=yN (c/3) hl;have e3:=wF (c/3) hl hl2;exact⟨_,by simp[-Int.reducePow,-Nat.reducePow,args,h2,e0,e1,e2,e3];rfl⟩
   . exact⟨c/3%41-20,by simp[-Int.reducePow,-Nat.reducePow,args,h1,h2]⟩
theorem aBf(a c:Int):∃s:Spn,okS s/\lH [.int a,.int c]=some (.val (spD s)):=by
 obtain⟨m,hm,em⟩:=VD (c/12);unfold lH runG sY
 by_cases h:8<c%12
 . rcases (by omega : c % 12 = 9 \/ c % 12 = 10 \/ c % 12 = 11) with e | e | e
   . exact⟨(some a,none),(fun a b _ z=>by cases z),by simp[args,em,e,spD]⟩
   . exact⟨(none,some a),(fun a b z=>by cases z),by simp[args,em,e,spD]⟩
   . exact⟨(none,none),(fun a b z=>by cases z),by simp[args,em,e,spD,ix3_2]⟩
 . exact⟨(some a,some (a+(1+m))),(fun a b z w=>by cases z;cases w;omega),by simp[args,em,h,spD]⟩
theorem row3_ex(a b c:Int)(known:List Int)(hk:known.length<100000):∃d,okD d/\IG [.int a,.int b,.int c,.lst (known.map D.int)]=some (.val (told3 d)):=by
 obtain⟨at',ea⟩:=JI b known hk;obtain⟨m,hm,em⟩:=VD c;obtain⟨s1,h1,e1⟩:=NN b;obtain⟨s2,h2,e2⟩:=NN c;obtain⟨sp,hs,es⟩:=aBf at' c;have p2:powD (.int 10) (.int 60)=some (.int (10 ^ 60)):=pow10 (by decide) (by decide);have m1:mulD (.int 2) (.int (10 ^ 60))=some (.int (2*10 ^ 60)):=DL (.of_left (vV (by decide)));have mm:∀x,jK (.int x) (.int (2*10 ^ 60+1))=some (.int (x%(2*10 ^ 60+1))):=fun x=>yN x (by decide);unfold IG runG IF;generalize known.map D.int=kd at *
 by_cases q3:a%8=3
 . exact⟨.widen at' m,hm,by simp[-Int.reducePow,-Nat.reducePow,args,ea,em,q3,told3]⟩
 by_cases q4:a%8=4
 . exact⟨.narrow at' m,hm,by simp[-Int.reducePow,-Nat.reducePow,args,ea,em,q4,told3]⟩
 by_cases q5:a%8=5
 . exact⟨.move at',trivial,by simp[-Int.reducePow,-Nat.reducePow,args,ea,q5,told3]⟩
 by_cases q6:a%8=6
 . exact⟨.stretch s1 s2,⟨h1,h2⟩,by simp[-Int.reducePow,-Nat.reducePow,args,ea,e1,e2,q6,told3]⟩
 by_cases q7:a%8=7
 . exact⟨.mirror,trivial,by simp[-Int.reducePow,-Nat.reducePow,args,ea,q7,told3]⟩
 obtain⟨v,ev⟩:∃v:Option Int,ixD (.lst [.non,.int 0,.int 1,.int (a/40%(2*10 ^ 60+1)-10 ^ 60),.int 1]) (.int (a/8%5))=some (oi v):=by
  rcases(by omega:a/8%5=0\/a/8%5=1\/a/8%5=2\/a/8%5=3\/a/8%5=4) with e | e | e | e | e<;>rw[e,xA _ (by decide) (by simp)]
  . exact⟨none,rfl⟩
  . exact⟨some 0,rfl⟩
  . exact⟨some 1,rfl⟩
  . exact⟨some _,rfl⟩
  . exact⟨some 1,rfl⟩
 exact⟨.put sp v,hs,by simp[-Int.reducePow,-Nat.reducePow,args,ea,es,q3,q4,q5,q6,q7,p2,m1,mm,ev,told3]⟩
end FL
namespace FL
open PySem PySem.Spec PyProof.Rows L2
theorem yT{α : Type}{ga:D->List Sl->Option (List Sl)}{fe:FE}{s0:List Sl}(f h : α->D):∀(xs:List α),(∀x∈xs,∃ds1,ga (f x) s0=some ds1/\fe ds1=some (h x))->compL ga (fun _=>some true) fe s0 (xs.map f)=some (xs.map h)
 |[],_=>rfl
 | x :: xs, H => by
   obtain⟨ds1,e1,e2⟩:=H x aV;have ih:=yT (ga:=ga) (fe:=fe) (s0:=s0) f h xs fun y hy=>H y (aP _ hy);simp only[bI,compL,e1,e2,ih,aQ,if_true,cR]
noncomputable def part1(s:Spn)(r:Rw):Option Rw:=(meetS (r.1,r.2.1) s).map fun u=>(u.1,u.2,r.2.2)
noncomputable def zR(ps:List Rw)(s:Spn):List Rw:=ps.filterMap (part1 s)
theorem vE(R:Sl)(s:Spn):∀(ps acc:List Rw) (a b c d:Sl),acc.length+ps.length<16777216->∃a' b' c' d',jI (tupG 3 (qH (zZ 3) (qH (zZ 4) (qH (zZ 5) tgNil)))) gE (ps.map rwD) [R,.v (spD s),.own (acc.map rwD),a,b,c,d]=some (.nx [R,.v (spD s),.own ((acc++zR ps s).map rwD),a',b',c',d'])
 |[],acc,a,b,c,d,_=>⟨a,b,c,d,by simp[zR,jI]⟩
 | r :: ps, acc, a, b, c, d, h => by
   simp only[aM] at h;have me:mM [.tup [oi r.1,oi r.2.1],spD s]=some (.val (oS (meetS (r.1,r.2.1) s))):=meet_eq (r.1,r.2.1) s;cases hm:meetS (r.1,r.2.1) s with
   | none =>
     rw[hm] at me;obtain⟨a',b',c',d',ih⟩:=vE R s ps acc (.v (oi r.1)) (.v (oi r.2.1)) (.v (oi r.2.2)) (.v .non) (by omega);refine⟨a',b',c',d',?_⟩;have turn:gE [R,.v (spD s),.own (acc.map rwD),.v (oi r.1),.v (oi r.2.1),.v (oi r.2.2),d]=some (.nx [R,.v (spD s),.own (acc.map rwD),.v (oi r.1),.v (oi r.2.1),.v (oi r.2.2),.v .non]):=by simp[gE,me,oS]
     have e:zR (r::ps) s=zR ps s:=by simp[zR,part1,hm]
     rw[e];simp[jI,turn,ih]
   | some u =>
     rw[hm] at me;obtain⟨a',b',c',d',ih⟩:=vE R s ps (acc++[(u.1,u.2,r.2.2)]) (.v (oi r.1)) (.v (oi r.2.1)) (.v (oi r.2.2)) (.v (spD u)) (by simp;omega);refine⟨a',b',c',d',?_⟩;have z:acc.length<16777216:=by omega
     have e0:D.tup [oi u.1,oi u.2,oi r.2.2]=rwD (u.1,u.2,r.2.2):=rfl;have turn:gE [R,.v (spD s),.own (acc.map rwD),.v (oi r.1),.v (oi r.2.1),.v (oi r.2.2),d]=some (.nx [R,.v (spD s),.own (acc.map rwD++[rwD (u.1,u.2,r.2.2)]),.v (oi r.1),.v (oi r.2.1),.v (oi r.2.2),.v (spD u)]):=by simp[gE,me,oS,z,e0]
     have e:zR (r::ps) s=(u.1,u.2,r.2.2)::zR ps s:=by simp[zR,part1,hm]
     rw[e];simp only[List.map_append,bI,nF,eV,gI,DY] at ih ⊢;simp[jI,turn,ih]
theorem jC(ps:List Rw)(s:Spn):(zR ps s).length<=ps.length:=List.length_filterMap_le _ _
theorem xT(ps:List Rw)(s:Spn)(h:ps.length<16777216):cX [.lst (ps.map rwD),spD s]=some (.fresh ((zR ps s).map rwD)):=by
 obtain⟨a,b,c,d,e⟩:=vE (.v (.lst (ps.map rwD))) s ps [] .no .no .no .no (by simpa using h);simp only[nF,DY] at e;unfold cX runG nZ;simp[args,e,yD]
theorem qU{s:Spn}{r r':Rw}(h:part1 s r=some r'):ok3 r'/\r'.2.2=r.2.2/\(∀p,has3 r' p=(has3 r p&&hasS s p))/\(∀x,r.2.1=some x->∃x',r'.2.1=some x'/\x'<=x)/\(∀y,r.1=some y->∃y',r'.1=some y'/\y<=y')/\(∀x,s.2=some x->∃x',r'.2.1=some x'/\x'<=x)/\(∀y,s.1=some y->∃y',r'.1=some y'/\y<=y'):=by
 unfold part1 at h;cases hm:meetS (r.1,r.2.1) s with
 |none=>rw[hm] at h;cases h
 | some u =>
   rw[hm] at h;cases h;have hp:=fun p=>YR (r.1,r.2.1) s p;rw[hm] at hp;refine⟨aDt hm,rfl,fun p=>hp p,?_,?_,?_,?_⟩
   all_goals (unfold meetS at hm;split at hm;(· cases hm);cases hm)
   . intro x hx;show ∃ x',vD r.2.1 s.2=some x'/\x'<=x;rw [hx];cases s.2 <;> simp [vD]
     omega
   . intro y hy;show ∃ y',lateL r.1 s.1=some y'/\y<=y';rw [hy];cases s.1 <;> simp [lateL]
     omega
   . intro x hx;show ∃ x',vD r.2.1 s.2=some x'/\x'<=x;rw [hx];cases r.2.1 <;> simp [vD]
     omega
   . intro y hy;show ∃ y',lateL r.1 s.1=some y'/\y<=y';rw [hy];cases r.1 <;> simp [lateL]
     omega
theorem oV{ps:List Rw}{s:Spn}{r':Rw}: r'∈zR ps s↔∃r∈ps,part1 s r=some r':=nR
theorem wI{ps:List Rw}(o:Ord ps)(s:Spn):Ord (zR ps s):=by
 refine⟨fun r' h=>?_,?_⟩
 . obtain⟨r, _, h⟩ := oV.mp h;exact(qU h).1
 . unfold zR;rw[List.pairwise_filterMap];refine o.pw.imp fun {a b} hab a' ha b' hb=>?_;obtain⟨x,y,hx,hy,hxy⟩:=hab;obtain⟨x',e1,h1⟩:=(qU ha).2.2.2.1 x hx;obtain⟨y',e2,h2⟩:=(qU hb).2.2.2.2.1 y hy;exact⟨x',y',e1,e2,by omega⟩
noncomputable def loP(ps:List Rw):Option Int->List Rw
 |none=>[]
 |some a=>zR ps (none,some a)
noncomputable def hiP(ps:List Rw):Option Int->List Rw
 |none=>[]
 |some b=>zR ps (some b,none)
noncomputable def overF(ps:List Rw)(s:Spn)(v:Option Int):List Rw:=loP ps s.1++(s.1,s.2,v)::hiP ps s.2
theorem XE{ps:List Rw}(o:Ord ps){a b:Int}(h:a<b):(zR ps (none,some a)).length+(zR ps (some b,none)).length<=ps.length+1:=by
 induction ps with
 |nil=>simp[zR]
 | cons r t ih =>
   have pw:=cB.mp o.pw;have ot:Ord t:=⟨fun z hz=>o.ok z (aP _ hz),pw.2⟩
   have ih:=ih ot;cases h1:part1 (none,some a) r with
   | none =>
     have e1:zR (r::t) (none,some a)=zR t (none,some a):=by simp[zR,h1]
     rw[e1]
     have:(zR (r::t) (some b,none)).length<=(zR t (some b,none)).length+1:=by
      unfold zR;rw[gH]
      split<;>simp
     simp only[aM];omega
   | some r1 =>
     have e1:zR (r::t) (none,some a)=r1::zR t (none,some a):=by simp[zR,h1]
     rw[e1];cases h2:part1 (some b,none) r with
     | none =>
       have e2:zR (r::t) (some b,none)=zR t (some b,none):=by simp[zR,h2]
       rw[e2];simp only[aM];omega
     | some r2 =>
       have e2:zR (r::t) (some b,none)=r2::zR t (some b,none):=by simp[zR,h2]
       have e3:zR t (none,some a)=[]:=by
        unfold zR;rw[IL];intro z hz;cases hz':part1 (none,some a) z with
        |none=>rfl
        | some z' =>
          exfalso;obtain⟨x,y,hx,hy,hxy⟩:=pw.1 z hz;have k2:=qU h2;have kz:=qU hz';obtain⟨x2,ex2,hx2⟩:=k2.2.2.2.1 x hx;obtain⟨y2,ey2,hy2⟩:=k2.2.2.2.2.2.2 b rfl;have:=k2.1 y2 x2 ey2 ex2;obtain⟨y3,ey3,hy3⟩:=kz.2.2.2.2.1 y hy;obtain⟨x3,ex3,hx3⟩:=kz.2.2.2.2.2.1 a rfl;have:=kz.1 y3 x3 ey3 ex3;omega
       rw[e2,e3];have:=jC t (some b,none);simp only[aM,eG];omega
theorem OL{ps:List Rw}(o:Ord ps)(s:Spn)(hs:okS s)(v:Option Int):(overF ps s v).length<=ps.length+2:=by
 obtain⟨lo,bh⟩:=s;unfold overF loP hiP;cases lo with
 | none =>
   cases bh with
   |none=>simp
   | some b =>
     have:=jC ps (some b,none);simp;omega
 | some a =>
   cases bh with
   | none =>
     have:=jC ps (none,some a);simp;omega
   | some b =>
     have:=XE o (hs a b rfl rfl);simp;omega
theorem aDb{ps:List Rw}(o:Ord ps)(s:Spn)(hs:okS s)(v:Option Int):Ord (overF ps s v):=by
 obtain⟨lo,bh⟩:=s;unfold overF
 have l1:∀r∈(loP ps lo),ok3 r/\∃a x,lo=some a/\r.2.1=some x/\x<=a:=by
  cases lo with
  |none=>intro r h;cases h
  | some a =>
    intro r h;obtain⟨q,_,h⟩:=oV.mp h;obtain⟨x,e,hx⟩:=(qU h).2.2.2.2.2.1 a rfl;exact⟨(qU h).1,a,x,rfl,e,hx⟩
 have l2:∀r∈(hiP ps bh),ok3 r/\∃b y,bh=some b/\r.1=some y/\b<=y:=by
  cases bh with
  |none=>intro r h;cases h
  | some b =>
    intro r h;obtain⟨q,_,h⟩:=oV.mp h;obtain⟨y,e,hy⟩:=(qU h).2.2.2.2.2.2 b rfl;exact⟨(qU h).1,b,y,rfl,e,hy⟩
 have o1:Ord (loP ps lo):=by
  cases lo with
  |none=>exact⟨(fun _ h=>nomatch h),List.Pairwise.nil⟩
  |some a=>exact wI o _
 have o2:Ord (hiP ps bh):=by
  cases bh with
  |none=>exact⟨(fun _ h=>nomatch h),List.Pairwise.nil⟩
  |some b=>exact wI o _
 refine⟨fun r h=>?_,?_⟩
 . rcases cA.mp h with h | h
   . exact(l1 r h).1
   . rcases aE.mp h with rfl | h
     . exact hs
     . exact(l2 r h).1
 . refine RD.mpr ⟨o1.pw, cB.mpr ⟨fun r h => ?_, o2.pw⟩, fun a ha b hb => ?_⟩
   . obtain⟨_, b, y, e, e2, hy⟩ := l2 r h;exact⟨b,y,e,e2,hy⟩
   . obtain ⟨_, x, x', e, e2, hx⟩ := l1 a ha;rcases aE.mp hb with rfl | hb
     . exact⟨x',x,e2,e,hx⟩
     . obtain⟨_, y, y', e3, e4, hy⟩ := l2 b hb;have:=hs x y e e3;exact⟨x',y',e2,e4,by omega⟩
theorem over_eq{ps:List Rw}(s:Spn)(v:Option Int)(h:ps.length<=1000000):gD [.lst (ps.map rwD),spD s,oi v]=some (.fresh ((overF ps s v).map rwD)):=by
 obtain⟨lo,bh⟩:=s;have p1:∀a:Int,cX [.lst (ps.map rwD),.tup [.non,.int a]]=some (.fresh ((zR ps (none,some a)).map rwD)):=fun a=>xT ps (none,some a) (by omega);have p2:∀a:Int,cX [.lst (ps.map rwD),.tup [.int a,.non]]=some (.fresh ((zR ps (some a,none)).map rwD)):=fun a=>xT ps (some a,none) (by omega);have e0:D.tup [oi lo,oi bh,oi v]=rwD (lo,bh,v):=rfl;have fl:=yD (overF ps (lo,bh) v);unfold overF loP hiP at fl ⊢;unfold gD runG mR;cases lo with
 | none =>
   cases bh with
   |none=>simp at fl e0;simp[args,e0]
   | some b =>
     have z:=jC ps (some b,none);have z1:1+(zR ps (some b,none)).length<=16777216:=by omega
     simp at fl e0;simp[args,p2,e0,z1,fl]
 | some a =>
   have z:=jC ps (none,some a);have z0:(zR ps (none,some a)).length<=16777216:=by omega
   have z1:(zR ps (none,some a)).length<16777216:=by omega
   cases bh with
   | none =>
     simp at fl e0;simp[args,p1,e0,z0,z1,fl]
   | some b =>
     have z':=jC ps (some b,none);have z2:(zR ps (none,some a)).length+1+(zR ps (some b,none)).length<=16777216:=by omega
     simp at fl e0;simp[args,p1,p2,e0,z0,z1,z2,fl]
abbrev Rv:=Spn×Option Int
noncomputable def put1(ps:List Rw)(r:Rv):List Rw:=knitF (overF ps r.1 r.2)
theorem aCc{ps:List Rw}(m:MapF ps){r:Rv}(h:okS r.1):MapF (put1 ps r):=wS (aDb m.ord r.1 h r.2)
theorem aCd{ps:List Rw}(m:MapF ps){r:Rv}(h:okS r.1):(put1 ps r).length<=ps.length+2:=dA (wV _) (OL m.ord r.1 h r.2)
theorem put1_eq{ps:List Rw}(m:MapF ps)(hl:ps.length<=100000){s:Spn}{v:Option Int}(h:okS s):(gD [.lst (ps.map rwD),spD s,oi v]=some (.fresh ((overF ps s v).map rwD)))/\fR [.lst ((overF ps s v).map rwD)]=some (.fresh ((put1 ps (s,v)).map rwD)):=
 ⟨over_eq s v (by omega),DN _ (by have:=OL m.ord s h v;omega)⟩
theorem MapF.nil:MapF []:=⟨⟨(fun _ h=>nomatch h),List.Pairwise.nil⟩,(fun _ h=>nomatch h),(fun i a b h _=>by simp at h)⟩
theorem vL{α : Type}{ga:D->List Sl->Option (List Sl)}{tt:FT}{fe:FE}{s0:List Sl}(f : α->D)(p : α->Bool)(h : α->D):∀(xs:List α),(∀x∈xs,∃ds1,ga (f x) s0=some ds1/\tt ds1=some (p x)/\(p x=true->fe ds1=some (h x)))->compL ga tt fe s0 (xs.map f)=some ((xs.filter p).map h)
 |[],_=>rfl
 | x :: xs, H => by
   obtain⟨ds1,e1,e2,e3⟩:=H x aV;have ih:=vL (ga:=ga) (tt:=tt) (fe:=fe) (s0:=s0) f p h xs fun y hy=>H y (aP _ hy);cases hp:p x with
   |true=>simp[compL,e1,e2,e3 hp,ih,hp]
   |false=>simp[compL,e1,e2,ih,hp]
theorem later{r z:Rw}{t:List Rw}(o:Ord (r::t))(hz:z∈t){p:Int}(hp:has3 z p=true):∃x y,r.2.1=some x/\z.1=some y/\x<=y/\y<=p:=by
 obtain⟨x,y,h1,h2,h3⟩:=(cB.mp o.pw).1 z hz;refine⟨x,y,h1,h2,h3,?_⟩;unfold has3 hasS at hp;simp only[h2,bU,decide_eq_true_eq] at hp;exact hp.1
noncomputable def shR(f:Int)(r:Rw):Rw:=(r.1.map (·+f),r.2.1.map (·+f),r.2.2)
noncomputable def mirR(r:Rw):Rw:=(r.2.1.map (1 - ·),r.1.map (1 - ·),r.2.2)
noncomputable def strR(t b:Int)(r:Rw):Rw:=(r.1.map (hV t b),r.2.1.map (hV t b),r.2.2)
theorem PJ{t b x p:Int}(ht:0<t)(hb:0<b):hV t b x<=p↔x<=p*b/t:=by
 obtain⟨g1,g2⟩:=aEa (t:=t) (b:=b) (p:=x) hb;rw[Int.le_ediv_iff_mul_le ht];constructor
 . intro h;exact QY g1 (Int.mul_le_mul_of_nonneg_right h (BQ hb))
 . intro h;have:=Int.lt_of_mul_lt_mul_right (Int.lt_of_lt_of_le g2 h) (BQ hb);omega
theorem ord_map{T:Rw->Rw}{ps:List Rw}(o:Ord ps)(h1:∀r∈ps,ok3 r->ok3 (T r))(h2:∀a b,ahead a b->ahead (T a) (T b)):Ord (ps.map T):=
 ⟨fun r' hr=>by obtain⟨r,hm,rfl⟩:=cM.mp hr;exact h1 r hm (o.ok r hm),oO.mpr (o.pw.imp fun h=>h2 _ _ h)⟩
theorem ok_sh{f:Int}{r:Rw}(h:ok3 r):ok3 (shR f r):=by
 intro a b h1 h2;obtain⟨x,y,v⟩:=r;cases x<;>cases y<;>simp[shR] at h1 h2
 rename_i x y;have:x<y:=h x y rfl rfl;omega
theorem aFp{f:Int}{a b:Rw}(h:ahead a b):ahead (shR f a) (shR f b):=by
 obtain⟨x,y,h1,h2,h3⟩:=h;exact⟨x+f,y+f,by simp[shR,h1],by simp[shR,h2],by omega⟩
theorem aBh{ps:List Rw}(o:Ord ps)(f:Int):Ord (ps.map (shR f)):=ord_map o (fun r _ h=>ok_sh h) fun a b h=>aFp h
theorem sh_map{ps:List Rw}(m:MapF ps)(f:Int):MapF (ps.map (shR f)):=by
 refine⟨aBh m.ord f,fun r' hr=>?_,fun i a b h1 h2=>?_⟩
 . obtain⟨r, hm, rfl⟩ := cM.mp hr;exact m.val r hm
 . rw [bA] at h1 h2;obtain ⟨a',e1,rfl⟩:=fB.mp h1;obtain ⟨b',e2,rfl⟩:=fB.mp h2;rintro ⟨q1,q2⟩;refine m.adj i a' b' e1 e2 ⟨?_,q2⟩;obtain ⟨x,y,v⟩:=a';obtain ⟨x',y',v'⟩:=b';cases y <;> cases x' <;> simp [shR] at q1 ⊢
   omega
theorem mir_map{ps:List Rw}(m:MapF ps):MapF (ps.reverse.map mirR):=by
 refine⟨⟨fun r' hr=>?_,?_⟩,fun r' hr=>?_,fun i a b h1 h2=>?_⟩
 . obtain ⟨r, hm, rfl⟩ := cM.mp hr;have h:=m.ord.ok r (lN.mp hm);clear hr hm;intro a b h1 h2;obtain ⟨x,y,v⟩:=r;cases x <;> cases y <;> simp [mirR] at h1 h2
   rename_i x y;have:x<y:=h x y rfl rfl;omega
 . rw[oO, QW];refine m.ord.pw.imp fun {a b} ⟨x,y,h1,h2,h3⟩=>⟨1-y,1-x,by simp[mirR,h2],by simp[mirR,h1],by omega⟩
 . obtain⟨r, hm, rfl⟩ := cM.mp hr;exact m.val r (lN.mp hm)
 . have l2 := (aT.mp h2).1;rw [bO,eE] at l2;rw [bA,rJ (by omega)] at h1 h2;obtain ⟨a',e1,rfl⟩:=fB.mp h1;obtain ⟨b',e2,rfl⟩:=fB.mp h2;rintro ⟨q1,q2⟩;refine m.adj (ps.length - 1 - (i+1)) b' a' e2 (by rw [<- e1]; congr 1; omega) ⟨?_,q2.symm⟩;obtain ⟨x,y,v⟩:=a';obtain ⟨x',y',v'⟩:=b';cases x <;> cases y' <;> simp [mirR] at q1 ⊢
   omega
noncomputable def keepR(r:Rw):Bool:=r.1.isNone||decide (r.1≠r.2.1)
noncomputable def nG(t b:Int)(ps:List Rw):List Rw:=(ps.map (strR t b)).filter keepR
theorem FH{t b x y:Int}(ht:0<t)(hb:0<b)(h:x<=y):hV t b x<=hV t b y:=by
 rw[PJ ht hb];exact QY h ((PJ ht hb).mp (Int.le_refl _))
theorem str_ord{ps:List Rw}(o:Ord ps){t b:Int}(ht:0<t)(hb:0<b):Ord (nG t b ps):=by
 refine⟨fun r' hr=>?_,?_⟩
 . obtain ⟨h1, h2⟩ := eF.mp hr;obtain ⟨r,hm,rfl⟩:=cM.mp h1;intro x y e1 e2;have h:=o.ok r hm;clear hr hm h1;obtain ⟨a,c,v⟩:=r;cases a <;> cases c <;> simp [strR] at e1 e2
   rename_i a c;have hac:a<c:=h a c rfl rfl;have hm:=FH (t:=t) (b:=b) ht hb (BQ hac);simp[keepR,strR] at h2;omega
 . refine List.Pairwise.filter _ (oO.mpr (o.pw.imp fun {a c} ⟨x,y,h1,h2,h3⟩=>⟨hV t b x,hV t b y,by simp[strR,h1],by simp[strR,h2],FH ht hb h3⟩))
noncomputable def iO(ps:List Rw)(a c f:Int):List Rw:=zR ps (none,some a)++(zR ps (some c,none)).map (shR f)
theorem IV{ps:List Rw}(o:Ord ps){a c f:Int}(h:a<=c+f):Ord (iO ps a c f):=by
 have o1:=wI o (none,some a);have o2:=aBh (wI o (some c,none)) f;refine⟨fun r hr=>(cA.mp hr).elim (o1.ok r) (o2.ok r),RD.mpr ⟨o1.pw,o2.pw,fun x hx y hy=>?_⟩⟩;obtain⟨r,_,hr⟩:=oV.mp hx;obtain⟨y',hy',rfl⟩:=cM.mp hy;obtain⟨q,_,hq⟩:=oV.mp hy';obtain⟨x',e1,h1⟩:=(qU hr).2.2.2.2.2.1 a rfl;obtain⟨z',e2,h2⟩:=(qU hq).2.2.2.2.2.2 c rfl;exact⟨x',z'+f,e1,by simp[shR,e2],by omega⟩
theorem split_len(ps:List Rw)(a c f:Int):(iO ps a c f).length<=2*ps.length:=by
 have h1:=jC ps (none,some a);have h2:=jC ps (some c,none);simp only[iO,cE,bO];omega
noncomputable def doneF:Dd->List Rw->List Rw
 | .put s v,ps=>put1 ps (s,v)
 | .widen a m,ps=>knitF (iO ps a a m)
 | .narrow a m,ps=>knitF (iO ps a (a+m) (-m))
 | .move f,ps=>ps.map (shR f)
 | .stretch t b,ps=>knitF (nG t b ps)
 | .mirror,ps=>ps.reverse.map mirR
theorem aFc{d:Dd}(h:okD d){ps:List Rw}(m:MapF ps):MapF (doneF d ps):=by
 cases d with
 |put s v=>exact aCc m h
 |widen a k=>exact wS (IV m.ord (by have:(0:Int)<=k:=h;omega))
 |narrow a k=>exact wS (IV m.ord (by omega))
 |move f=>exact sh_map m f
 |stretch t b=>exact wS (str_ord m.ord (by have:=h.1.1;omega) (by have:=h.2.1;omega))
 |mirror=>exact mir_map m
theorem SV(o:Option Int)(f:Int):fV [oi o,.int f]=some (.val (oi (o.map (·+f)))):=by
 unfold fV runG pB;cases o<;>simp[args]
theorem OV(o:Option Int):fE [oi o]=some (.val (oi (o.map (1 - ·)))):=by
 unfold fE runG oA;cases o<;>simp[args]
theorem vH(ps:List Rw)(f:Int)(hl:ps.length<=1000000):eY [.lst (ps.map rwD),.int f]=some (.fresh ((ps.map (shR f)).map rwD)):=by
 unfold eY;refine xW ?_;unfold pA
 have cm:(compG (viaA (zW 0) asLT) [none,none,none,some 1] (tupG 3 (qH (zZ 0) (qH (zZ 1) (qH (zZ 2) tgNil)))) (fun _=>some true) (mkT (zU (zA (qC 2 fV (zA (zI 0) (zA (zI 3) zM))) (zA (qC 2 fV (zA (zI 1) (zA (zI 3) zM))) (zA (zW 2) zM)))))) [.v (.lst (ps.map rwD)),.v (.int f)]=some ((ps.map (shR f)).map rwD):=by
  refine yM (items:=ps.map rwD) (by simp) (by simp;omega) ?_;rw[yT rwD (fun r=>rwD (shR f r)),fI]
  . rfl
  . intro r _;obtain⟨a,b,c⟩:=r;exact⟨_,by simp[rwD,jO];rfl,by simp[SV];rfl⟩
 have fl:=yD (ps.map (shR f));show retOG _ [.v (.lst (ps.map rwD)),.v (.int f)]=_;rw[aBm,cm,aQ,aEp _ fl]
theorem XY(ps:List Rw)(hl:ps.length<=1000000)(S:Sl):(compG (revA (zW 1)) [none,none,none] (tupG 3 (qH (zZ 0) (qH (zZ 1) (qH (zZ 2) tgNil)))) (fun _=>some true) (mkT (zU (zA (qC 1 fE (zA (zI 1) zM)) (zA (qC 1 fE (zA (zI 0) zM)) (zA (zW 2) zM)))))) [S,.v (.lst (ps.map rwD))]=some ((ps.reverse.map mirR).map rwD):=by
 refine yM (items:=ps.reverse.map rwD) (by simp[revA]) (by simp;omega) ?_;rw[yT rwD (fun r=>rwD (mirR r)),fI]
 . rfl
 . intro r _;obtain⟨a,b,c⟩:=r;exact⟨_,by simp[rwD,jO];rfl,by simp[OV];rfl⟩
theorem YE(t b:Int)(o:Option Int)(ht:1<=t/\t<=1000)(hb:1<=b/\b<=1000):dI [.ins 4 [.non,.int t,.int b],oi o]=some (.val (oi (o.map (hV t b)))):=by
 cases o with
 |none=>unfold dI runG eR;simp[args]
 |some p=>simpa using FI t b p ht hb
theorem aBd(t b:Int)(ht:1<=t/\t<=1000)(hb:1<=b/\b<=1000)(ps:List Rw)(hl:ps.length<=1000000)(S:Sl) :
  (compG (viaA (zW 1) asLT) [none,none,none,some 0] (tupG 3 (qH (zZ 0) (qH (zZ 1) (qH (zZ 2) tgNil)))) (fun _=>some true) (mkT (zU (zA (methV 1 [4] bW (zW 3) (zA (zI 0) zM)) (zA (methV 1 [4] bW (zW 3) (zA (zI 1) zM)) (zA (zW 2) zM)))))) [.v (.ins 4 [.non,.int t,.int b]),.v (.lst (ps.map rwD)),S]=some ((ps.map (strR t b)).map rwD):=by
 refine yM (items:=ps.map rwD) (by simp) (by simp;omega) ?_;rw[yT rwD (fun r=>rwD (strR t b r)),fI]
 . rfl
 . intro r _;obtain⟨x,y,c⟩:=r;exact⟨_,by simp[rwD,jO];rfl,by simp[bW,YE t b _ ht hb];rfl⟩
theorem aBc(qs:List Rw)(hl:qs.length<=1000000)(A B:Sl) :
  (compG (viaA (zW 2) asLT) [none] (zZ 0) (orT (zT (zJ isD (zJ ixD (zI 0) (zB (.int 0))) (zB .non))) (zT (zJ neD (zJ ixD (zI 0) (zB (.int 0))) (zJ ixD (zI 0) (zB (.int 1)))))) (zW 0)) [A,B,.v (.lst (qs.map rwD))]=some ((qs.filter keepR).map rwD):=by
 refine yM (items:=qs.map rwD) (by simp) (by simp;omega) ?_;refine vL rwD keepR rwD qs fun r _=>⟨_,rfl,?_,fun _=>by simp[jO]⟩
 obtain⟨x,y,c⟩:=r;cases x<;>cases y<;>simp[rwD,jO,keepR,FD]
theorem put_eq{ps:List Rw}(m:MapF ps)(hl:ps.length<=100000){s:Spn}{v:Option Int}(h:okS s):rB [.lst (ps.map rwD),spD s,oi v]=some (.fresh ((put1 ps (s,v)).map rwD)):=by
 obtain⟨e1,e2⟩:=put1_eq m hl (v:=v) h;have fl:=yD (put1 ps (s,v));unfold rB runG DW;generalize (overF ps s v).map rwD=A at *;generalize (put1 ps (s,v)).map rwD=B at *;simp[args,e1,e2,fl]
theorem done_eq{d:Dd}(h:okD d){ps:List Rw}(m:MapF ps)(hl:ps.length<=50000):methR 1 [0,1,2,3,4,5] cH (insD d) [.lst (ps.map rwD)]=some (.fresh ((doneF d ps).map rwD)):=by
 have fl:=yD (doneF d ps);cases d with
 | put s v =>
   have e:=put_eq m (by omega) (v:=v) h;simp only[doneF] at *;generalize (put1 ps (s,v)).map rwD=B at *;simp[insD,cH];unfold oF runG oE;simp[args,List.lookup,e,fl]
 | widen a k =>
   have e1:=xT ps (none,some a) (by omega);have e2:=xT ps (some a,none) (by omega);have l1:=jC ps (none,some a);have l2:=jC ps (some a,none);have e3:=vH (zR ps (some a,none)) k (by omega);have e4:=DN (iO ps a a k) (by have:=split_len ps a a k;omega);simp only[doneF] at *;rw[show(iO ps a a k).map rwD=(zR ps (none,some a)).map rwD++((zR ps (some a,none)).map (shR k)).map rwD by simp[iO]] at e4;have n1:((zR ps (none,some a)).map rwD).length+(((zR ps (some a,none)).map (shR k)).map rwD).length<=16777216:=by simp only[bO];omega
   simp only[spD,LW,UT] at e1 e2;generalize (knitF (iO ps a a k)).map rwD=B at *;generalize ((zR ps (some a,none)).map (shR k)).map rwD=C at *;generalize (zR ps (some a,none)).map rwD=E at *;generalize (zR ps (none,some a)).map rwD=F at *;simp[insD,cH];unfold lV runG lU;simp[args,List.lookup,e1,e2,e3,e4,n1,fl]
 | narrow a k =>
   have e1:=xT ps (none,some a) (by omega);have e2:=xT ps (some (a+k),none) (by omega);have l1:=jC ps (none,some a);have l2:=jC ps (some (a+k),none);have e3:=vH (zR ps (some (a+k),none)) (-k) (by omega);have e4:=DN (iO ps a (a+k) (-k)) (by have:=split_len ps a (a+k) (-k);omega);simp only[doneF] at *;rw[show(iO ps a (a+k) (-k)).map rwD=(zR ps (none,some a)).map rwD++((zR ps (some (a+k),none)).map (shR (-k))).map rwD by simp[iO]] at e4;have n1:((zR ps (none,some a)).map rwD).length+(((zR ps (some (a+k),none)).map (shR (-k))).map rwD).length<=16777216:=by simp only[bO];omega
   simp only[spD,LW,UT] at e1 e2;generalize (knitF (iO ps a (a+k) (-k))).map rwD=B at *;generalize ((zR ps (some (a+k),none)).map (shR (-k))).map rwD=C at *;generalize (zR ps (some (a+k),none)).map rwD=E at *;generalize (zR ps (none,some a)).map rwD=F at *;simp[insD,cH];unfold kX runG kW;simp[args,List.lookup,e1,e2,e3,e4,n1,fl]
 | move f =>
   have e:=vH ps f (by omega);simp only[doneF] at *;generalize (ps.map (shR f)).map rwD=B at *;simp[insD,cH];unfold mX runG mW;simp[args,List.lookup,e,fl]
 | stretch t b =>
   have e1:=fun S=>aBd t b h.1 h.2 ps (by omega) S;have e2:=fun A B=>aBc (ps.map (strR t b)) (by simp;omega) A B
   have e4:=DN (nG t b ps) (by
    have:(nG t b ps).length<=(ps.map (strR t b)).length:=rH _ _
    rw[bO] at this;omega)
   simp only[doneF] at *;rw[show(ps.map (strR t b)).filter keepR=nG t b ps from rfl] at e2;generalize (knitF (nG t b ps)).map rwD=B at *;generalize (nG t b ps).map rwD=C at *;generalize (ps.map (strR t b)).map rwD=E at *;simp[insD,cH];unfold iV runG iU;simp[args,e1,e2,e4,fl]
 | mirror =>
   have e:=fun S=>XY ps (by omega) S;simp only[doneF] at *;generalize (ps.reverse.map mirR).map rwD=B at *;simp[insD,cH];unfold lD runG lC;simp[args,e,fl]
open Builtin.Int (intBits)
structure DrawM(rows:List Rw)(s:Int):Prop where
 map:MapF rows
 fin:∀r∈rows,∃lo bh,r.1=some lo/\r.2.1=some bh/\bh<=s
 last:∀r,rows.getLast?=some r->r.2.1=some s
theorem DrawM.nil(s:Int):DrawM [] s:=⟨MapF.nil,(fun _ h=>nomatch h),fun r h=>by simp at h⟩
@[simp] theorem notD_rw(r:Rw):notD (rwD r) .non=some (.bl true):=rfl
end FL
namespace FL
open PySem PySem.Spec PyProof.Rows L2
theorem if_not{t:FT}{f g:FS}{ds:List Sl}(h:t ds=some false):ifG t f g ds=g ds:=by simp[h]
end FL
namespace FL
open PySem PyProof.Rows L2 NumText
theorem kitS:kitF "str" "str" = some true/\kitF "int" "str" = some false/\kitF "NoneType" "str" = some false/\kitF "tuple" "str" = some false/\kitF "list" "str" = some false/\kitF "str" "tuple" = some false/\kitF "str" "bool" = some false:=by
 refine⟨?_,?_,?_,?_,?_,?_,?_⟩<;>decide +kernel
@[simp] theorem isi_str_str(x:Str):isiD "str" (.str x)=some (.bl true):=by simp[isiD,tyD,kitS.1]
@[simp] theorem isi_str_int(i:Int):isiD "str" (.int i)=some (.bl false):=by simp[isiD,tyD,kitS.2.1]
@[simp] theorem isi_str_non:isiD "str" .non=some (.bl false):=by simp[isiD,tyD,kitS.2.2.1]
@[simp] theorem isi_str_tup(l:List D):isiD "str" (.tup l)=some (.bl false):=by simp[isiD,tyD,kitS.2.2.2.1]
theorem TY:Str.ofString "" = txS []:=by decide
end FL
namespace FL
open PySem PySem.Spec PyProof.Rows L2
noncomputable def Ltr(cs:List Nat):Prop:=∀c∈cs,97<=c/\c<=122
noncomputable def Nm(cs:List Nat):Prop:=1<=cs.length/\cs.length<=8/\Ltr cs
noncomputable def abcL:List Nat:=[97,98,99,100,101,102,103,104,105,106,107,108,109,110,111,112,113,114,115,116,117,118,119,120,121,122]
theorem aAz:Str.ofString "abcdefghijklmnopqrstuvwxyz" = txS abcL:=by decide
theorem mem_abc{c:Nat}(h:97<=c/\c<=122):c∈abcL:=by
 have:abcL=List.range' 97 26:=by decide
 rw[this,List.mem_range'_1];omega
theorem Ltr.asc{cs:List Nat}(h:Ltr cs):Asc cs:=fun c hc=>by have:=h c hc;omega
theorem Ltr.app{a b:List Nat}(h:Ltr a)(g:Ltr b):Ltr (a++b):=fun c hc=>(cA.mp hc).elim (h c) (g c)
theorem Ltr.take{a:List Nat}(h:Ltr a)(n:Nat):Ltr (a.take n):=fun c hc=>h c (sG hc)
theorem Ltr.drop{a:List Nat}(h:Ltr a)(n:Nat):Ltr (a.drop n):=fun c hc=>h c (RE hc)
theorem vJ{cs:List Nat}(h:Nm cs):bJ [.str (txS cs)]=some (.val (.bl true)):=by
 obtain⟨h1,h8,hL⟩:=h;have lf:=MB cs (by omega)
 have comp:compG (viaA (zW 0) asS) [none] (zZ 0) (fun _=>some true) (zJ inS (zI 0) (zB (.str (Str.ofString "abcdefghijklmnopqrstuvwxyz")))) [.v (.str (txS cs))]=some (cs.map fun _=>D.bl true):=by
  rw[aAz];refine yM (items:=cs.map fun c=>D.str (txS [c])) (by simp;rfl) (by simp;omega) ?_;rw[yT (fun c=>D.str (txS [c])) (fun c=>D.bl true) cs];intro c hc;have:=aEj abcL c;rw[decide_eq_true (mem_abc (hL c hc))] at this;exact⟨_,rfl,by simp[jO,this]⟩
 have al:allD [.lst (cs.map fun _=>D.bl true)]=some (.bl true):=by
  have e:(cs.map fun _=>D.bl true)=(cs.map fun _=>true).map D.bl:=by simp
  rw[e,QO];simp
 refine xW ?_;unfold eZ;have ar:args 1 [.str (txS cs)]=[.v (.str (txS cs))]:=by simp[args]
 have k1 : ¬((cs.length:Int)<1):=by omega
 have k2 : ¬((8:Int)<(cs.length:Int)):=by omega
 rw[ar,qE (ds':=[.v (.str (txS cs))]) (by simp),qE (ds':=[.v (.str (txS cs))]) (by simp[lf,k1,k2])];simp only[UE,QK,QG,UV,aDs,comp,cR,aQ,al,flatR];simp
theorem abc_ix(n:Int):∃c,(97<=c/\c<=122)/\ixD (.str (Str.ofString "abcdefghijklmnopqrstuvwxyz")) (.int (n%26))=some (.str (txS [c])):=by
 have h0:=dP n (show(26:Int)≠0 by decide);have h1:=dB n (show(0:Int)<26 by decide);generalize n%26=i at *
 have e:ixD (.str (txS abcL)) (.int i)=(abcL[i.toNat]?).map fun c=>D.str (txS [c]):=by
  show(if (txS abcL).length<=sizeLine then (atI abcL i).map fun c=>D.str ⟨#[c]⟩ else none)=_;rw[xH,if_pos (by decide)];unfold atI;rw[DP h0 (by show i<26;exact h1)];rfl
 rw[aAz,e];have hl:i.toNat<abcL.length:=by show i.toNat<26;omega
 rw[cC hl];refine⟨abcL[i.toNat],?_,rfl⟩;have:∀c∈abcL,97<=c/\c<=122:=by decide
 exact this _ (CJ hl)
theorem WJ(n:Int)(S x3:Sl)(cs:List Nat)(h:cs.length<1000):∃c,(97<=c/\c<=122)/\pC [.v (.int n),S,.v (.str (txS cs)),x3]=some (.nx [.v (.int (n/26+5)),S,.v (.str (txS (cs++[c]))),x3]):=by
 obtain⟨c,hc,e⟩:=abc_ix n;have ad:=BJ cs [c] (by simp;omega);refine⟨c,hc,?_⟩;unfold pC;simp[e,ad]
theorem kC(S:Sl):∀(items:List D) (n:Int) (cs:List Nat) (x3:Sl),cs.length+items.length<=1000->Ltr cs->∃(n':Int) (cs':List Nat) (y3:Sl),cs'.length=cs.length+items.length/\Ltr cs' ∧
  jI (zZ 3) pC items [.v (.int n),S,.v (.str (txS cs)),x3]=some (.nx [.v (.int n'),S,.v (.str (txS cs')),y3])
 |[],n,cs,x3,_,hL=>⟨n,cs,x3,rfl,hL,rfl⟩
 | d :: r, n, cs, x3, hl, hL => by
   simp only[aM] at hl;obtain⟨c,hc,turn⟩:=WJ n S (.v d) cs (by omega);obtain⟨n',cs',y3,l,hL',e⟩:=kC S r (n/26+5) (cs++[c]) (.v d) (by simp;omega) (hL.app fun x hx=>by rw[aR.mp hx];exact hc);refine⟨n',cs',y3,by simp at l ⊢;omega,hL',?_⟩;simp only[jI,zZ,aQ,nQ,nP,turn];exact e
theorem tT(n k:Int)(h1:1<=k)(h8:k<=8):∃cs:List Nat,(cs.length:Int)=k/\Ltr cs/\eN [.int n,.int k]=some (.val (.str (txS cs))):=by
 have hr:(iC 0 k.toNat).length=k.toNat:=by simp[iC]
 obtain⟨n',cs,y3,l,hL,e⟩:=kC (.v (.int k)) (iC 0 k.toNat) n [] .no (by rw[hr];simp;omega) (fun _ h=>nomatch h);have ok:okR k:=wZ (by omega) (by omega);refine⟨cs,by rw[hr] at l;simp at l;omega,hL,xW ?_⟩;unfold rY;rw[qE (ds':=[.v (.int n),.v (.int k),.v (.str (txS [])),.no]) (by simp[args,<- TY]),qE (ds':=[.v (.int n'),.v (.int k),.v (.str (txS cs)),y3]) (by simp[ok,e])];simp
theorem name_ex(s c:Int):∃cs,Nm cs/\oP [.int s,.int c]=some (.val (.str (txS cs))):=by
 obtain⟨w,lw,hw,ew⟩:=tT (s/8) (1+s%8) (by omega) (by omega);obtain⟨g,lg,hg,eg⟩:=tT (c/40) 1 (by omega) (by omega);obtain⟨z,lz,hz,ez⟩:=tT (c/40) (1+c/5%8) (by omega) (by omega);have sz:(0:Int)<1+s%8:=by omega
 have m0:=dP (c/5) (show(1+s%8:Int)≠0 by omega);have m1:=dB (c/5) sz;have r1:=yN (c/5) sz;generalize hk:1+s%8=k at *;generalize c/5%k=a at *;obtain⟨n,rfl⟩:∃n:Nat,a=(n:Int):=⟨a.toNat,by omega⟩
 have lw':w.length<=16777216:=by omega
 have lgw:(w++g).length<=16777216:=by simp;omega
 unfold oP;have ar:args 6 [.int s,.int c]=[.v (.int s),.v (.int c),.no,.no,.no,.no]:=by simp[args]
 have pre:∀q:FS,(qF (jY 2 (zJ yP (zB (.int 1)) (zJ jK (zI 0) (zB (.int 8))))) (qF (jY 3 (qC 2 eN (zA (zJ qX (zI 0) (zB (.int 8))) (zA (zI 2) zM)))) (qF (jY 4 (zJ jK (zJ qX (zI 1) (zB (.int 5))) (zI 2))) (qF (jY 5 (qC 2 eN (zA (zJ qX (zI 1) (zB (.int 40))) (zA (zB (.int 1)) zM)))) q)))) (args 6 [.int s,.int c])=q [.v (.int s),.v (.int c),.v (.int k),.v (.str (txS w)),.v (.int (n:Int)),.v (.str (txS g))]:=by
  intro q;rw[ar,qE (ds':=[.v (.int s),.v (.int c),.v (.int k),.no,.no,.no]) (by simp[hk]),qE (ds':=[.v (.int s),.v (.int c),.v (.int k),.v (.str (txS w)),.no,.no]) (by simp[ew]),qE (ds':=[.v (.int s),.v (.int c),.v (.int k),.v (.str (txS w)),.v (.int (n:Int)),.no]) (by simp[r1]),qE (ds':=[.v (.int s),.v (.int c),.v (.int k),.v (.str (txS w)),.v (.int (n:Int)),.v (.str (txS g))]) (by simp[eg])]
 have hrun:∀cs,hX (args 6 [.int s,.int c])=some (.rt (.val (.str (txS cs))))->runG hX 6 [.int s,.int c]=some (.val (.str (txS cs))):=fun cs h=>xW h;have s1:=wG w (b:=n) (by omega);have hnn:((n+1:Nat):Int)=(n:Int)+1:=by omega
 have s2:=EI w (n+1);have s3:=wG w (b:=n+1) (by omega);rw[hnn] at s2 s3;have a1:=BJ (w.take n) g (by simp;omega);have a2:=BJ (w.take n++g) (w.drop (n+1)) (by simp;omega);have a3:=BJ w g (by omega);rcases(by omega:c%5=1\/c%5=2\/c%5=3\/c%5=4\/c%5=0) with h | h | h | h | h
 . refine⟨w.take n ++ g ++ w.drop (n + 1), ⟨by simp;omega, by simp;omega, ((hw.take n).app hg).app (hw.drop _)⟩, hrun _ ?_⟩;unfold hX;rw[pre];simp[h,slsS,soP,noP,xH,lw',s1,s2,a1,a2]
 . refine⟨w.take (n + 1), ⟨by simp;omega, by simp;omega, hw.take _⟩, hrun _ ?_⟩;unfold hX;rw[pre];simp[h,slsS,soP,noP,xH,lw',s3]
 . have lmin : (w ++ g).length <= 9 := by simp; omega
   refine⟨(w++g).take 8,⟨by simp;omega,by simp;omega,(hw.app hg).take _⟩,hrun _ ?_⟩
   have s4:Txt.slice (txS (w++g)) none (some 8)=txS ((w++g).take 8):=by
    by_cases hl:8<=(w++g).length
    . exact wG (w++g) (b:=8) hl
    . rw [kO (by omega)]
      have hc:Txt.slice (txS (w++g)) none (some 8)=Txt.slice (txS (w++g)) none (some ((w++g).length:Int)):=by
       rw[yE,yE];unfold StrLaws.sliceText
       have:Builtin.Str.strSliceIndices none (some 8) 1 (txS (w++g)).length=Builtin.Str.strSliceIndices none (some ((w++g).length:Int)) 1 (txS (w++g)).length:=by
        rw[xH];generalize (w++g).length=m at *;have h1 : ¬((8:Int)<0):=by omega
        have h2 : ¬((m:Int)<0):=by omega
        have e1:max (0:Int) (min 8 (m:Int))=m:=by omega
        have e2:max (0:Int) (min (m:Int) (m:Int))=m:=by omega
        simp only[Builtin.Str.strSliceIndices,h1,h2,if_false,e1,e2,show((1:Int)>0)=True from by simp,if_true]
       rw[this]
      rw[hc,wG (w++g) (aY _),CF]
   unfold hX;rw[pre];generalize hwg:w++g=wg at *;simp[h,slsS,soP,noP,a3,xH,lgw,s4]
 . refine⟨z, ⟨by omega, by omega, hz⟩, hrun _ ?_⟩;unfold hX;rw[pre];simp[h,ez]
 . refine⟨w, ⟨by omega, by omega, hw⟩, hrun _ ?_⟩;unfold hX;rw[pre];simp[h]
end FL
section
open PySem PyProof.Rows L2 FL
end
namespace FL
open PySem PySem.Spec PyProof.Rows L2
open Builtin.Int (intBits)
end FL
namespace FL
open PySem PySem.Spec PyProof.Rows L2
noncomputable def lnT(P M:D)(es ls:List OT):OT:=.ins 11 [.val P,.val M,.lst es,.lst ls]
theorem UB{f g:FS}{ds ds':List Sl}(h:f ds=some (.nx ds')):qF f g ds=g ds':=by simp[qF,h]
theorem TZ{P M P' M':D}{es ls:List OT}(h:es.length<sizeLine):cU (lnT P M es ls) [P',M']=some (lnT P' M' (es++[.val (.tup [P,M])]) []):=by
 have h':es.length<16777216:=h;have hz:(2:Nat)<=sizeLine:=by decide
 have hz0:(0:Nat)<=sizeLine:=eK _;simp[cU,lentF,argsL,args,nC,lnT,qF,appP,atP,varP,valP,mkT,zU,zA,zM,List.lookup,h,hz,putP,putO,setAt,sO,nilO,vO,zW,ob0,List.modify,hz0,h']
theorem YN:dU (.ins 20 []) [.non]=some (lnT (.lst []) (.dcf [] []) [] []):=by
 have hz0:(0:Nat)<=sizeLine:=eK _;simp[dU,lentF,argsL,args,iK,lnT,qF,setNw,varP,valP,mkL,zU,zM,ifV,zT,isB,zJ,isD,zI,zB,vO,sO,nilO,putP,putO,ob0,hz0]
noncomputable def putDs(k:Key)(d:D):List Key->List D->List D
 |k'::ks,x::xs=>(if k'=k then d else x)::putDs k d ks xs
 |_,xs=>xs
noncomputable def putKD(k:Key)(d:D)(ks:List Key)(l:List D):List Key×List D:=if hasK k ks=true then (ks,putDs k d ks l) else (ks++[k],l++[d])
theorem JD(k:Key)(d:D):∀(ks:List Key) (l:List D),putTs k (.val d) ks (l.map OT.val)=(putDs k d ks l).map OT.val
 |[],l=>by cases l<;>simp[putTs,putDs]
 |_::_,[]=>by simp[putTs,putDs]
 | k' :: ks, x :: l => by
   simp only[bI,putTs,putDs,JD k d ks l]
   split<;>rfl
theorem JF(k:Key)(d:D)(ks:List Key)(l:List D):putKT k (.val d) ks (l.map OT.val)=.dct (putKD k d ks l).1 ((putKD k d ks l).2.map OT.val):=by
 unfold putKT putKD
 split
 . rw[JD]
 . simp
theorem kJ:∀l:List D,valsO (l.map OT.val)=some l
 |[]=>rfl
 |d::l=>by simp[valsO,kJ l]
theorem mark_eq{nm:Str}{pl P:D}{ks:List Key}{l:List D}{es ls:List OT}(hF:bJ [.str nm]=some (.val (.bl true)))(h:es.length<sizeLine)(hk:ks.length<sizeLine) :
  dC (lnT P (.dcf ks l) es ls) [.str nm,pl]=some (lnT P (.dcf (putKD (.inr nm) pl ks l).1 (putKD (.inr nm) pl ks l).2) (es++[.val (.tup [P,.dcf ks l])]) []):=by
 have hk':ks.length<16777216:=hk;have st:=TZ (P:=P) (M:=.dcf ks l) (P':=P) (M':=.dcf (putKD (.inr nm) pl ks l).1 (putKD (.inr nm) pl ks l).2) (ls:=ls) h;have pk:=JF (.inr nm) pl ks l;have vv:=kJ (putKD (.inr nm) pl ks l).2;generalize hS:cU=S at *;generalize putKD (.inr nm) pl ks l=p at *;obtain⟨ks',l'⟩:=p;simp only[lnT] at st ⊢;have e0:∀T l,dC T l=match iY (argsL 4 T l) with | some (.nx ds)=>ob0 ds[0]? | _=>none:=fun _ _=>rfl
 rw[e0];simp[argsL,args,iY,qF,ifG,notT,testT,qC,zA,zM,zI,hF,retV,truD,qN,setB,MN,valP,atP,varP,List.lookup,kdD,dputG,zW,keyD,hk',pk,putP,putO,frzDG,vv,lentG,hS,st,ob0]
abbrev cs6:List Nat:=[0,1,2,3,4,5]
noncomputable def TH:D->List Sl->Option (List Sl):=tupG 2 (qH (zZ 3) (qH (zZ 4) tgNil))
noncomputable def Goes(dd pl q:D):Prop:=(pl=.non/\q=.non)\/∃i,pl=.int i/\(methR 1 cs6 cT dd [pl]).bind retV=some q
theorem do_turn{dd pl q:D}{nm:Str}{ks:List Key}{l:List D}{a0 y3 y4:Sl}(hg:Goes dd pl q)(hk:ks.length<16777216) :
  (TH (.tup [keyDD (.inr nm),pl]) [a0,.v dd,.ob none (.dct ks (l.map OT.val)),y3,y4]).bind fZ=some (.nx [a0,.v dd,.ob none (.dct (putKD (.inr nm) q ks l).1 ((putKD (.inr nm) q ks l).2.map OT.val)),.v (.str nm),.v pl]):=by
 have pk:=JF (.inr nm) q ks l;generalize putKD (.inr nm) q ks l=p at *;obtain⟨ks',l'⟩:=p;rcases hg with⟨rfl,rfl⟩ | ⟨i,rfl,h⟩
 . simp[TH,fZ,tupG,qH,tgNil,zZ,keyDD,dputG,ifV,zT,isB,zJ,isD,zI,zB,varP,zW,keyD,hk,pk,putP,putO]
 . simp[TH,fZ,tupG,qH,tgNil,zZ,keyDD,dputG,ifV,zT,isB,zJ,isD,zI,zB,varP,zW,keyD,hk,pk,putP,putO,methV,zA,zM,h]
theorem DR{k:Key}:∀{ks:List Key},k∉ks->hasK k ks=false
 |[],_=>rfl
 | k' :: ks, h => by
   have h1:k'≠k:=fun z=>h (by rw[z];exact .head _);have:=DR (k:=k) (ks:=ks) fun z=>h (.tail _ z);unfold hasK at this ⊢;simp[h1,this]
theorem PN{k:Key}{ks:List Key}(h:k∈ks):hasK k ks=true:=by
 unfold hasK;rw[aAr];exact⟨k,h,by simp⟩
theorem VS{dd:D}{a0:Sl}:∀(nms:List Str) (pls qs:List D) (ks:List Key) (l:List D) (y3 y4:Sl),pls.length=nms.length->qs.length=nms.length->(∀(j:Nat) (pl q:D),pls[j]?=some pl->qs[j]?=some q->Goes dd pl q) →
  (ks++nms.map Sum.inr).Nodup->ks.length+nms.length<=16777216->∃z3 z4,jI TH fZ (nJ (nms.map Sum.inr) pls) [a0,.v dd,.ob none (.dct ks (l.map OT.val)),y3,y4]=some (.nx [a0,.v dd,.ob none (.dct (ks++nms.map Sum.inr) ((l++qs).map OT.val)),z3,z4])
 |[],[],[],ks,l,y3,y4,_,_,_,_,_=>⟨y3,y4,by simp[nJ,jI]⟩
 | nm :: nms, pl :: pls, q :: qs, ks, l, y3, y4, h1, h2, hg, nd, hz => by
   have hz':ks.length+(nms.length+1)<=16777216:=hz;have tr:=do_turn (y3:=y3) (y4:=y4) (a0:=a0) (nm:=nm) (l:=l) (hg 0 pl q rfl rfl) (ks:=ks) (by omega)
   have nk:(Sum.inr nm:Key)∉ks:=fun z=>by
    rw[eD] at nd;exact nd.2.2 _ z (Sum.inr nm) (by simp) rfl
   have ep:putKD (.inr nm) q ks l=(ks++[.inr nm],l++[q]):=by unfold putKD;rw[DR nk];rfl
   rw[ep] at tr;obtain⟨z3,z4,ih⟩:=VS (a0:=a0) nms pls qs (ks++[.inr nm]) (l++[q]) (.v (.str nm)) (.v pl) (by simpa using h1) (by simpa using h2) (fun j p' q' e1 e2=>hg (j+1) p' q' (by simpa using e1) (by simpa using e2)) (by simpa[eV] using nd) (by simp;omega);refine⟨z3,z4,?_⟩;have e0:nJ ((nm::nms).map Sum.inr) (pl::pls)=.tup [keyDD (.inr nm),pl]::nJ (nms.map Sum.inr) pls:=by simp[nJ]
   rw[e0,jI];cases ht:TH (.tup [keyDD (.inr nm),pl]) [a0,.v dd,.ob none (.dct ks (l.map OT.val)),y3,y4] with
   |none=>rw[ht] at tr;cases tr
   | some ds1 =>
     rw[ht] at tr;simp only[aQ] at tr ⊢;rw[tr];simp only[aQ];rw[ih];simp[eV]
 |[],_::_,_,_,_,_,_,h,_,_,_,_=>by simp at h
 |[],[],_::_,_,_,_,_,_,h,_,_,_=>by simp at h
 |_::_,[],_,_,_,_,_,h,_,_,_,_=>by simp at h
 |_::_,_::_,[],_,_,_,_,_,h,_,_,_=>by simp at h
theorem do_eq{dd P P':D}{nms:List Str}{pls qs:List D}{es ls:List OT}(hd:(methR 1 cs6 cH dd [P]).bind retV=some P')(h1:pls.length=nms.length)(h2:qs.length=nms.length)(hg:∀(j:Nat) (pl q:D),pls[j]?=some pl->qs[j]?=some q->Goes dd pl q)(nd:(nms.map (Sum.inr:Str->Key)).Nodup)(hz:nms.length<=16777216)(h:es.length<sizeLine) :
  fW (lnT P (.dcf (nms.map Sum.inr) pls) es ls) [dd]=some (lnT P' (.dcf (nms.map Sum.inr) qs) (es++[.val (.tup [P,.dcf (nms.map Sum.inr) pls])]) []):=by
 have st:=TZ (P:=P) (M:=.dcf (nms.map Sum.inr) pls) (P':=P') (M':=.dcf (nms.map Sum.inr) qs) (ls:=ls) h;obtain⟨z3,z4,lp⟩:=VS (dd:=dd) (a0:=.ob (some 0) (lnT P (.dcf (nms.map Sum.inr) pls) es ls)) nms pls qs [] [] .no .no h1 h2 hg (by simpa using nd) (by simpa using hz);have vv:=kJ qs;have e0:∀T l,fW T l=match mH (argsL 5 T l) with | some (.nx ds)=>ob0 ds[0]? | _=>none:=fun _ _=>rfl
 rw[e0];have eg:mH=qF (setB 2 dO0) (qF (forG (tH (valP (atP [(11,1)] (varP 0)))) TH fZ) (frzDG 2 (lentG 2 [11] (fun _=>cU) (varP 0) (zA (methV 1 cs6 cH (zW 1) (zA (valP (atP [(11,0)] (varP 0))) zM)) (zA (zW 2) zM))))):=rfl;rw[eg];generalize hS:cU=S at *;have s1:setB 2 dO0 (argsL 5 (lnT P (.dcf (nms.map Sum.inr) pls) es ls) [dd])=some (.nx [.ob (some 0) (lnT P (.dcf (nms.map Sum.inr) pls) es ls),.v dd,.ob none (.dct [] []),.no,.no]):=by simp[setB,dO0,argsL,args]
 rw[UB s1]
 have s2:forG (tH (valP (atP [(11,1)] (varP 0)))) TH fZ [.ob (some 0) (lnT P (.dcf (nms.map Sum.inr) pls) es ls),.v dd,.ob none (.dct [] []),.no,.no]=some (.nx [.ob (some 0) (lnT P (.dcf (nms.map Sum.inr) pls) es ls),.v dd,.ob none (.dct (nms.map Sum.inr) (qs.map OT.val)),z3,z4]):=by
  unfold forG;have:tH (valP (atP [(11,1)] (varP 0))) [.ob (some 0) (lnT P (.dcf (nms.map Sum.inr) pls) es ls),.v dd,.ob none (.dct [] []),.no,.no]=some (nJ (nms.map Sum.inr) pls):=by simp[tH,valP,atP,varP,lnT,List.lookup]
  rw[this];simpa using lp
 rw[UB s2];simp only[lnT] at st ⊢;simp[frzDG,vv,lentG,varP,zA,mkL,methV,zW,valP,atP,List.lookup,zM,hd,st,putP,putO,ob0]
open Builtin.Int (intBits)
theorem EZ{ps:List Rw}(o:Ord ps){a b:Int}(h:a<=b):(zR ps (none,some a)).length+(zR ps (some b,none)).length<=ps.length+1:=by
 induction ps with
 |nil=>simp[zR]
 | cons r t ih =>
   have pw:=cB.mp o.pw;have ot:Ord t:=⟨fun z hz=>o.ok z (aP _ hz),pw.2⟩
   have ih:=ih ot;cases h1:part1 (none,some a) r with
   | none =>
     have e1:zR (r::t) (none,some a)=zR t (none,some a):=by simp[zR,h1]
     rw[e1]
     have:(zR (r::t) (some b,none)).length<=(zR t (some b,none)).length+1:=by
      unfold zR;rw[gH]
      split<;>simp
     simp only[aM];omega
   | some r1 =>
     have e1:zR (r::t) (none,some a)=r1::zR t (none,some a):=by simp[zR,h1]
     rw[e1];cases h2:part1 (some b,none) r with
     | none =>
       have e2:zR (r::t) (some b,none)=zR t (some b,none):=by simp[zR,h2]
       rw[e2];simp only[aM];omega
     | some r2 =>
       have e2:zR (r::t) (some b,none)=r2::zR t (some b,none):=by simp[zR,h2]
       have e3:zR t (none,some a)=[]:=by
        unfold zR;rw[IL];intro z hz;cases hz':part1 (none,some a) z with
        |none=>rfl
        | some z' =>
          exfalso;obtain⟨x,y,hx,hy,hxy⟩:=pw.1 z hz;have k2:=qU h2;have kz:=qU hz';obtain⟨x2,ex2,hx2⟩:=k2.2.2.2.1 x hx;obtain⟨y2,ey2,hy2⟩:=k2.2.2.2.2.2.2 b rfl;have:=k2.1 y2 x2 ey2 ex2;obtain⟨y3,ey3,hy3⟩:=kz.2.2.2.2.1 y hy;obtain⟨x3,ex3,hx3⟩:=kz.2.2.2.2.2.1 a rfl;have:=kz.1 y3 x3 ey3 ex3;omega
       rw[e2,e3];have:=jC t (some b,none);simp only[aM,eG];omega
theorem YZ{d:Dd}(h:okD d){ps:List Rw}(m:MapF ps):(doneF d ps).length<=ps.length+2:=by
 cases d with
 |put s v=>exact aCd m (r:=(s,v)) h
 | widen a k =>
   have h1:=EZ m.ord (Int.le_refl a);refine dA (wV _) ?_;simp only[iO,cE,bO];omega
 | narrow a k =>
   have h1:=EZ m.ord (show a<=a+k by have:(0:Int)<=k:=h;omega);refine dA (wV _) ?_;simp only[iO,cE,bO];omega
 |move f=>simp only[doneF,bO];omega
 | stretch t b =>
   refine dA (wV _) (dA (rH _ _) ?_);rw[bO];omega
 |mirror=>simp only[doneF,bO,eE];omega
noncomputable def thrR:List Dd->List Rw->List Rw
 |[],ps=>ps
 |d::r,ps=>doneF d (thrR r ps)
theorem EE:∀(es:List Dd) {ps:List Rw},(∀d∈es,okD d)->MapF ps->MapF (thrR es ps)
 |[],ps,_,m=>m
 |d::r,ps,h,m=>aFc (h d aV) (EE r (fun x hx=>h x (aP _ hx)) m)
theorem NJ:∀(es:List Dd) {ps:List Rw},(∀d∈es,okD d)->MapF ps->(thrR es ps).length<=ps.length+2*es.length
 |[],ps,_,m=>by simp[thrR]
 | d :: r, ps, h, m => by
   have h1:=NJ r (fun x hx=>h x (aP _ hx)) m;have h2:=YZ (h d aV) (EE r (fun x hx=>h x (aP _ hx)) m);simp only[thrR,aM];omega
end FL
namespace FL
open PySem PySem.Spec PyProof.Rows L2
abbrev Mks:=List (List Nat×Option Int)
noncomputable def mkN(mk:Mks):List Str:=mk.map fun p=>txS p.1
noncomputable def mkV(mk:Mks):List D:=mk.map fun p=>oi p.2
noncomputable def mkD(mk:Mks):D:=.dcf ((mkN mk).map Sum.inr) (mkV mk)
noncomputable def lnM(ps:List Rw)(mk:Mks)(es ls:List OT):OT:=lnT (.lst (ps.map rwD)) (mkD mk) es ls
noncomputable def stM(ps:List Rw)(mk:Mks):OT:=.val (.tup [.lst (ps.map rwD),mkD mk])
noncomputable def putM(n:List Nat)(v:Option Int)(mk:Mks):Mks:=if n∈mk.map (·.1) then mk.map fun p=>if p.1=n then (p.1,v) else p else mk++[(n,v)]
noncomputable def goM(d:Dd)(mk:Mks):Mks:=mk.map fun p=>(p.1,p.2.bind (wentF d))
structure MkOk(mk:Mks):Prop where
 nd:(mk.map (·.1)).Nodup
 nm:∀p∈mk,Nm p.1
theorem MkOk.nil:MkOk []:=⟨List.nodup_nil,fun _ h=>nomatch h⟩
theorem JX(d:Dd)(mk:Mks):(goM d mk).map (·.1)=mk.map (·.1):=by simp[goM]
theorem MkOk.go{mk:Mks}(h:MkOk mk)(d:Dd):MkOk (goM d mk):=⟨by rw[JX];exact h.nd,fun p hp=>by
 have:p.1∈(goM d mk).map (·.1):=fD hp;rw[JX] at this;obtain⟨q,hq,e⟩:=cM.mp this;rw[<- e]
 exact h.nm q hq⟩
theorem MkOk.put{mk:Mks}(h:MkOk mk){n:List Nat}(hn:Nm n)(v:Option Int):MkOk (putM n v mk):=by
 unfold putM
 split
 . have e:(mk.map fun p=>if p.1=n then (p.1,v) else p).map (·.1)=mk.map (·.1):=by
    rw[fI];refine iF fun p _=>?_;simp only[Function.comp]
    split<;>rfl
   refine⟨by rw[e];exact h.nd,fun p hp=>?_⟩;have:p.1∈(mk.map fun p=>if p.1=n then (p.1,v) else p).map (·.1):=fD hp;rw[e] at this;obtain⟨q,hq,e⟩:=cM.mp this;rw[<- e];exact h.nm q hq
 . rename_i hne;refine ⟨?_,fun p hp=>?_⟩
   . rw [List.map_append, eD];refine ⟨h.nd,by simp,fun a ha b hb=>?_⟩;have:b=n:=by simpa using hb
     subst this;exact fun z=>hne (z▸ha)
   . rcases cA.mp hp with hp | hp
     . exact h.nm p hp
     . rw[aR.mp hp];exact hn
theorem aCa(n:List Nat)(v:Option Int)(mk:Mks):(putM n v mk).length<=mk.length+1:=by
 unfold putM
 split<;>simp
theorem goM_len(d:Dd)(mk:Mks):(goM d mk).length=mk.length:=by simp[goM]
theorem keys_nd{mk:Mks}(h:(mk.map (·.1)).Nodup):((mkN mk).map (Sum.inr:Str->Key)).Nodup:=by
 unfold mkN;rw[fI];have e:(mk.map ((Sum.inr:Str->Key) ∘ fun p=>txS p.1))=(mk.map (·.1)).map fun n=>(Sum.inr (txS n):Key):=by rw[fI];rfl
 rw[e];refine oO.mpr (List.Pairwise.imp (fun {a b} hne hab=>?_) h);have:txS a=txS b:=by simpa using hab
 exact hne (DE.mp this)
theorem DM(n:List Nat)(mk:Mks):(Sum.inr (txS n):Key)∈(mkN mk).map (Sum.inr:Str->Key)↔n∈mk.map (·.1):=by
 unfold mkN;constructor
 . intro h;obtain ⟨x,hx,e⟩:=cM.mp h;obtain ⟨p,hp,e2⟩:=cM.mp hx;have:txS p.1=txS n:=by rw [e2]; simpa using e
   rw[<- DE.mp this];exact fD hp
 . intro h;obtain⟨p,hp,e⟩:=cM.mp h;rw[<- e];exact fD (fD (f:=fun p:List Nat×Option Int=>txS p.1) hp)
theorem NZ(n:List Nat)(v:Option Int):∀mk:Mks,putDs (.inr (txS n)) (oi v) ((mkN mk).map Sum.inr) (mkV mk)=mkV (mk.map fun p=>if p.1=n then (p.1,v) else p)
 |[]=>by simp[mkN,mkV,putDs]
 | p :: r => by
   have ih:=NZ n v r;simp only[mkN,mkV,bI] at ih ⊢;simp only[putDs];rw[ih]
   have e:((Sum.inr (txS p.1):Key)=Sum.inr (txS n))=(p.1=n):=by
    rw[Sum.inr.injEq];exact propext DE
   simp only[e]
   by_cases h:p.1=n
   . simp[h]
   . simp[h]
theorem aCb(n:List Nat)(v:Option Int)(mk:Mks):putKD (.inr (txS n)) (oi v) ((mkN mk).map Sum.inr) (mkV mk)=((mkN (putM n v mk)).map Sum.inr,mkV (putM n v mk)):=by
 unfold putKD putM
 by_cases h:n∈mk.map (·.1)
 . rw [PN ((DM n mk).mpr h), if_pos rfl, if_pos h, NZ];congr 1;simp only [mkN,fI];refine iF fun p _=>?_;simp only [Function.comp]
   split<;>rfl
 . rw[DR (fun z => h ((DM n mk).mp z)), if_neg cL, if_neg h];simp[mkN,mkV]
theorem markM{n:List Nat}(hn:Nm n){ps:List Rw}{mk:Mks}{es ls:List OT}(v:Option Int)(h:es.length<sizeLine)(hk:mk.length<sizeLine) :
  dC (lnM ps mk es ls) [.str (txS n),oi v]=some (lnM ps (putM n v mk) (es++[stM ps mk]) []):=by
 have:=mark_eq (nm:=txS n) (pl:=oi v) (P:=.lst (ps.map rwD)) (ks:=(mkN mk).map Sum.inr) (l:=mkV mk) (es:=es) (ls:=ls) (vJ hn) h (by simpa[mkN] using hk);rw[aCb] at this;exact this
theorem doM{d:Dd}(hd:okD d){ps:List Rw}(m:MapF ps)(hl:ps.length<=50000){mk:Mks}(hm:MkOk mk){es ls:List OT}(h:es.length<sizeLine)(hk:mk.length<=sizeLine) :
  fW (lnM ps mk es ls) [insD d]=some (lnM (doneF d ps) (goM d mk) (es++[stM ps mk]) []):=by
 have hdn:(methR 1 cs6 cH (insD d) [.lst (ps.map rwD)]).bind retV=some (.lst ((doneF d ps).map rwD)):=by
  rw[done_eq hd m hl];rfl
 have e1:mkN (goM d mk)=mkN mk:=by simp[mkN,goM]
 have:=do_eq (dd:=insD d) (nms:=mkN mk) (pls:=mkV mk) (qs:=mkV (goM d mk)) (es:=es) (ls:=ls) hdn (by simp[mkN,mkV]) (by simp[mkN,mkV,goM]) (fun j pl q h1 h2=>by
  simp only[mkV,goM,fI,bA] at h1 h2;cases hj:mk[j]? with
  |none=>rw[hj] at h1;cases h1
  | some p =>
    rw[hj] at h1 h2;simp only[cR,Option.some.injEq,Function.comp] at h1 h2;subst h1 h2;cases hp:p.2 with
    |none=>exact .inl ⟨rfl,rfl⟩
    | some i =>
      refine .inr ⟨i,rfl,?_⟩;rw[LW,went_eq d hd i]
      rfl) (keys_nd hm.nd) (by simpa[mkN] using hk) h
 unfold lnM mkD stM mkD;rw[e1];exact this
theorem ON(P M:D)(es ls:List OT):otD (lnT P M es ls)=.ins 11 [P,M,.lst (otDs es),.lst (otDs ls)]:=by simp[lnT,otD,otDs]
theorem toldM(ps:List Rw)(mk:Mks)(es ls:List OT):methR 0 [11] fG (otD (lnM ps mk es ls)) []=some (.fresh (ps.map rwD)):=by
 have fl:=yD ps;unfold lnM;rw[ON];generalize ps.map rwD=L at *;simp[fG,nB,runG,nA,args,retOG,lisA,fldG,fldD,List.lookup,flatF,fl]
theorem PQ{n:List Nat}{v:Option Int}:∀{mk:Mks},(mk.map (·.1)).Nodup->(n,v)∈mk->getKD (.inr (txS n)) ((mkN mk).map Sum.inr) (mkV mk)=some (oi v)
 |[],_,h=>nomatch h
 | p :: r, nd, h => by
   simp only[mkN,mkV,bI,getKD] at *;rw[bZ] at nd
   have e:((Sum.inr (txS p.1):Key)=Sum.inr (txS n))↔(p.1=n):=by
    rw[Sum.inr.injEq];exact DE
   rcases aE.mp h with rfl | h
   . simp
   . have hne : p.1 ≠ n := fun z => nd.1 (z▸fD (f := fun q : List Nat×Option Int => q.1) h);rw[if_neg (fun z=>hne (e.mp z))];exact PQ (mk:=r) nd.2 h
theorem aAw{mk:Mks}(hm:MkOk mk){n:List Nat}{v:Option Int}(h:(n,v)∈mk)(ps:List Rw)(es ls:List OT):methR 1 [11] bV (otD (lnM ps mk es ls)) [.str (txS n)]=some (.val (oi v)):=by
 have hn:=vJ (hm.nm _ h);have hk:=PN ((DM n mk).mpr (fD (f:=fun q:List Nat×Option Int=>q.1) h));have hg:=PQ hm.nd h;unfold lnM mkD;rw[ON];generalize (mkN mk).map (Sum.inr:Str->Key)=ks at *;generalize mkV mk=vs at *;have fv:flat (oi v)=true:=by cases v<;>simp[flat]
 generalize oi v=ov at *;simp[bV,lZ,runG,lY,args,hn,dnotG,dinG,keyD,kdD,hk,dgetG,hg,fldG,fldD,List.lookup,flatR,fv]
theorem aDu{mk:Mks}(hl:mk.length<64)(ps:List Rw)(es ls:List OT):methR 0 [11] bQ (otD (lnM ps mk es ls)) []=some (.fresh ((srtT (mkN mk)).map D.str)):=by
 unfold lnM mkD;rw[ON];have hl':(mkN mk).length<64:=by simpa[mkN] using hl
 have e:keysT ((mkN mk).map Sum.inr)=some (mkN mk):=by
  generalize mkN mk=l
  induction l with
  |nil=>rfl
  |cons a r ih=>simp[keysT,ih]
 have fl:flats ((srtT (mkN mk)).map D.str)=true:=by
  generalize srtT (mkN mk)=l
  induction l with
  |nil=>simp[flats]
  |cons a r ih=>simp[flats,flat,ih]
 generalize (mkN mk).map (Sum.inr:Str->Key)=ks at *;simp[bQ,mC,runG,mB,args,srtDA,kdD,e,fldG,fldD,List.lookup];simp[flatF,fl,hl']
theorem NM(mk:Mks):∃sp:Mks,(∀p∈sp,p∈mk)/\sp.length=mk.length/\srtT (mkN mk)=mkN sp:=by
 have hp:=srtT_perm (mkN mk)
 have key:∀L:List Str,(∀x∈L,∃p∈mk,x=txS p.1)->∃sp:Mks,(∀p∈sp,p∈mk)/\L=mkN sp:=by
  intro L
  induction L with
  |nil=>intro _;exact⟨[],(fun _ h=>nomatch h),rfl⟩
  | cons a r ih =>
    intro h;obtain⟨p,hp,e⟩:=h a (.head _);obtain⟨sp,h1,h2⟩:=ih fun x hx=>h x (.tail _ hx);exact⟨p::sp,fun q hq=>(aE.mp hq).elim (fun z=>z▸hp) (h1 q),by rw[h2,e];rfl⟩
 obtain⟨sp,h1,h2⟩:=key (srtT (mkN mk)) fun x hx=>by
  obtain⟨p,hp,e⟩:=cM.mp (hp.mem_iff.mp hx);exact⟨p,hp,e.symm⟩
 refine⟨sp,h1,?_,h2⟩;have:=hp.length_eq;rw[h2] at this;simpa[mkN] using this
open Builtin.Int (intBits)
@[simp] theorem sltW_eq(f:FE)(lo hi:List Sl->Option (Option Int))(ds:List Sl):sltW f lo hi ds=(f ds).bind fun d=>(lo ds).bind fun a=>(hi ds).bind fun b=>match d with
 | .tup l=>some (.tup (cutD l a b))
 |_=>none:=rfl
end FL
namespace FL
open PySem PySem.Spec PyProof.Rows L2
theorem row2_ex(a b c:Int)(known:List Int)(hk:known.length<100000):∃d,okD d/\rZ [.int a,.int b,.int c,.lst (known.map D.int)]=some (.val (told3 d)):=row3_ex a b c known hk
theorem WM{l:List Str}(h:∀x∈l,PyData.strOk x=true):shals 40 (l.map D.str)=true:=by
 induction l with
 |nil=>simp[shals]
 | cons a r ih =>
   simp only[bI,shals,bU];exact⟨by simp[shal,h a (.head _)],ih fun x hx=>h x (.tail _ hx)⟩
theorem aBb(l:List Str):eqvD (.lst (l.map D.str)) (.lst (l.map D.str))=true:=by
 rw[wK]
 induction l with
 |nil=>rfl
 | cons a r ih =>
   have:eqvD (.str a) (.str a)=true:=by simp[eqvD,toPy,PyData.eqv]
   rw[bI,BE,this,ih];rfl
theorem aEz{l:List Str}(h:∀x∈l,PyData.strOk x=true):eqD (.lst (l.map D.str)) (.lst (l.map D.str))=some (.bl true):=by
 have hs:shal 40 (.lst (l.map D.str))=true:=by simpa using WM h
 rw[GR hs hs,aBb]
inductive R3 where
 |deed (d:Dd) | mark (n:List Nat) (p:Int)
noncomputable def okR3':R3->Prop
 | .deed d=>okD d
 | .mark n _=>Nm n
noncomputable def pH:List R3->List Dd
 |[]=>[]
 | .deed d::r=>d::pH r
 | .mark _ _::r=>pH r
noncomputable def psR(rs:List R3)(ps:List Rw):List Rw:=rs.foldl (fun q r=>match r with | .deed d=>doneF d q | .mark _ _=>q) ps
noncomputable def mkR(rs:List R3)(mk:Mks):Mks:=rs.foldl (fun m r=>match r with | .deed d=>goM d m | .mark n p=>putM n (some p) m) mk
theorem NK:∀(a b:List Dd) (ps:List Rw),thrR (a++b) ps=thrR a (thrR b ps)
 |[],b,ps=>rfl
 |d::a,b,ps=>by simp[thrR,NK a b ps]
theorem LQ:∀(rs:List R3) (ps:List Rw),psR rs ps=thrR (pH rs).reverse ps
 |[],ps=>rfl
 | .deed d :: r, ps => by
   have:=LQ r (doneF d ps);rw[pH,oN,NK];simpa[psR,thrR] using this
 | .mark _ _ :: r, ps => by
   have:=LQ r ps;simpa[psR,pH] using this
theorem ZA{rs:List R3}(h:∀r∈rs,okR3' r):∀d∈pH rs,okD d:=by
 induction rs with
 |nil=>intro d hd;cases hd
 | cons r rs ih =>
   intro d hd;have ih:=ih fun x hx=>h x (.tail _ hx);cases r with
   | deed e =>
     rcases aE.mp hd with rfl | hd
     . exact h _ (.head _)
     . exact ih d hd
   |mark n p=>exact ih d hd
theorem LZ:∀(rs:List R3) {mk:Mks},(∀r∈rs,okR3' r)->MkOk mk->MkOk (mkR rs mk)
 |[],mk,_,h=>h
 | .deed d::r,mk,hr,h=>LZ r (fun x hx=>hr x (.tail _ hx)) (h.go d)
 | .mark n p::r,mk,hr,h=>LZ r (fun x hx=>hr x (.tail _ hx)) (h.put (hr (.mark n p) (.head _)) (some p))
theorem kF:∀(rs:List R3) (mk:Mks),(mkR rs mk).length<=mk.length+rs.length
 |[],mk=>aY _
 | .deed d :: r, mk => by
   have:=kF r (goM d mk);rw[goM_len] at this;simp only[mkR,mI,aM] at this ⊢;omega
 | .mark n p :: r, mk => by
   have:=kF r (putM n (some p) mk);have h2:=aCa n (some p) mk;simp only[mkR,mI,aM] at this ⊢;omega
theorem OE(rs:List R3)(r:R3)(ps:List Rw):psR (rs++[r]) ps=match r with | .deed d=>doneF d (psR rs ps) | .mark _ _=>psR rs ps:=by
 simp[psR,ZT]
theorem OQ(rs:List R3)(r:R3)(mk:Mks):mkR (rs++[r]) mk=match r with | .deed d=>goM d (mkR rs mk) | .mark n p=>putM n (some p) (mkR rs mk):=by
 simp[mkR,ZT]
theorem KP{P M P' M':D}{es ls:List OT}: cD (lnT P M es ls) [.tup [P',M']]=some (lnT P' M' es ls):=by
 simp[cD,lentF,argsL,args,lG,lnT,qF,setAt,varP,vO,zJ,ixD,zI,zB,atI,ixN,List.lookup,putP,putO,ob0]
theorem OM(l:List OT)(d:D):otDs (l++[.val d])=otDs l++[d]:=by
 induction l with
 |nil=>simp[otDs,otD]
 |cons a r ih=>simp[otDs,ih]
theorem back_eq{P M P' M':D}{es ls:List OT}(h:ls.length<sizeLine):dM (lnT P M (es++[.val (.tup [P',M'])]) ls) []=some (lnT P' M' es (ls++[.val (.tup [P,M])])):=by
 have h':ls.length<16777216:=h;have bc:=KP (P:=P) (M:=M) (P':=P') (M':=M') (es:=es) (ls:=ls++[.val (.tup [P,M])]);have e0:∀T l,dM T l=match iZ (argsL 1 T l) with | some (.nx ds)=>ob0 ds[0]? | _=>none:=fun _ _=>rfl
 generalize hS:cD=S at *;rw[e0];have ne:∀l:List D,(l++[D.tup [P',M']]).isEmpty=false:=fun l=>by cases l<;>rfl
 simp only[lnT] at bc ⊢;simp[argsL,args,iZ,qF,ifG,notT,testT,seeP,atP,varP,List.lookup,otD,OM,truD,ne,qN,appP,valP,mkT,zU,zA,zM,h',putP,putO,List.modify,lentX,popX,hS,bc,ob0]
theorem aFq{P M P' M':D}{es ls:List OT}(h:es.length<sizeLine):dS (lnT P M es (ls++[.val (.tup [P',M'])])) []=some (lnT P' M' (es++[.val (.tup [P,M])]) ls):=by
 have h':es.length<16777216:=h;have bc:=KP (P:=P) (M:=M) (P':=P') (M':=M') (es:=es++[.val (.tup [P,M])]) (ls:=ls);have e0:∀T l,dS T l=match iH (argsL 1 T l) with | some (.nx ds)=>ob0 ds[0]? | _=>none:=fun _ _=>rfl
 generalize hS:cD=S at *;rw[e0];have ne:∀l:List D,(l++[D.tup [P',M']]).isEmpty=false:=fun l=>by cases l<;>rfl
 simp only[lnT] at bc ⊢;simp[argsL,args,iH,qF,ifG,notT,testT,seeP,atP,varP,List.lookup,otD,OM,truD,ne,qN,appP,valP,mkT,zU,zA,zM,h',putP,putO,List.modify,lentX,popX,hS,bc,ob0]
noncomputable def erl(rs:List R3)(ps:List Rw)(k:Nat):List OT:=(List.range k).map fun i=>stM (psR (rs.take i) ps) (mkR (rs.take i) [])
noncomputable def ltr(rs:List R3)(ps:List Rw)(k:Nat):List OT:=((List.range (rs.length-k)).map fun i=>stM (psR (rs.take (k+1+i)) ps) (mkR (rs.take (k+1+i)) [])).reverse
noncomputable def lnR(rs:List R3)(ps:List Rw)(k:Nat):OT:=lnM (psR (rs.take k) ps) (mkR (rs.take k) []) (erl rs ps k) (ltr rs ps k)
theorem GO(rs:List R3)(ps:List Rw)(k:Nat):erl rs ps (k+1)=erl rs ps k++[stM (psR (rs.take k) ps) (mkR (rs.take k) [])]:=by simp[erl,List.range_succ]
theorem OZ(rs:List R3)(ps:List Rw){k:Nat}(h:k<rs.length):ltr rs ps k=ltr rs ps (k+1)++[stM (psR (rs.take (k+1)) ps) (mkR (rs.take (k+1)) [])]:=by
 unfold ltr;obtain⟨n,hn⟩:∃n,rs.length-k=n+1:=⟨rs.length-k-1,by omega⟩
 have hn2:rs.length-(k+1)=n:=by omega
 rw[hn,hn2,List.range_succ_eq_map,bI,oN,fI];congr 2;refine iF fun i _=>?_;simp only[Function.comp,Nat.succ_eq_add_one];rw[show k+1+(i+1)=k+1+1+i by omega]
theorem backR(rs:List R3)(ps:List Rw){k:Nat}(h:k<rs.length)(hl:rs.length<1000):dM (lnR rs ps (k+1)) []=some (lnR rs ps k):=by
 unfold lnR;rw[GO,OZ rs ps h];exact back_eq (by unfold ltr;simp only[eE,bO,ZS];exact dX (show _<=1000 by omega) (by decide))
theorem againR(rs:List R3)(ps:List Rw){k:Nat}(h:k<rs.length)(hl:rs.length<1000):dS (lnR rs ps k) []=some (lnR rs ps (k+1)):=by
 unfold lnR;rw[GO,OZ rs ps h];exact aFq (by unfold erl;simp only[bO,ZS];exact dX (show _<=1000 by omega) (by decide))
open Builtin.Int (intBits)
theorem ZE(ns:List Int)(hb:∀c∈ns,intBits c<=1048576)(a b:Nat):∃cs:List Int,cs.length<=ns.length/\cs.length<=b-a/\(∀c∈cs,intBits c<=1048576)/\cutD (ns.map D.int) (some (a:Int)) (some (b:Int))=cs.map D.int:=by
 refine⟨(ns.drop (min a ns.length)).take (min b ns.length-min a ns.length),by simp;omega,by simp;omega,fun c hc=>hb c (RE (sG hc)),?_⟩;have e1:HT.sIx (ns.map D.int).length 0 (some (a:Int))=min a ns.length:=by simp[HT.sIx];omega
 have e2:HT.sIx (ns.map D.int).length (ns.map D.int).length (some (b:Int))=min b ns.length:=by simp[HT.sIx];omega
 unfold cutD;rw[e1,e2,List.map_take,List.map_drop]
end FL
section
open PySem PyProof.Rows L2 FL
noncomputable def gA:List Sl->Bool:=(ifX (notT (testT (qC 1 bJ (zA (zI 1) zM)))) lM kL)
noncomputable def eA:List D->Bool:=runX gA 4
noncomputable def gB:List Sl->Bool:=(ifX (notT (testT (fldG [(11,2)] (zW 0)))) lM kL)
noncomputable def eB:List D->Bool:=runX gB 1
noncomputable def fT:List Sl->Bool:=(ifX (notT (testT (fldG [(11,3)] (zW 0)))) lM kL)
noncomputable def dW:List D->Bool:=runX fT 1
noncomputable def eP:List Sl->Bool:=(ifX (orT (notT (testT (qC 1 bJ (zA (zI 1) zM)))) (dnotG (zI 1) (fldG [(11,1)] (zW 0)))) lM kL)
noncomputable def bY:List D->Bool:=runX eP 2
noncomputable def eQ:FS:=(qF (jY 1 (mkL (zU (zA (isxG 0 [(6,true),(7,false),(8,false)]) (zA (isxG 0 [(6,false),(7,true),(8,false)]) (zA (isxG 0 [(6,false),(7,false),(8,true)]) (zA (isxG 0 [(6,false),(7,false),(8,false)]) zM)))))))
 (qF (jY 1 (mkL (catA (zI 1) (mkL (zU (zA (isxG 0 [(6,false),(7,false),(8,false)]) (zA (isxG 0 [(6,false),(7,false),(8,false)]) (zA (isxG 0 [(6,false),(7,false),(8,false)]) (zA (isxG 0 [(6,false),(7,false),(8,false)]) zM)))))))))
 (qF (jY 1 (mkL (catA (zI 1) (mkL (zU (zA (isxG 0 [(6,false),(7,false),(8,false)]) (zA (isxG 0 [(6,false),(7,false),(8,false)]) (zA (isxG 0 [(6,false),(7,false),(8,false)]) (zA (isxG 0 [(6,false),(7,false),(8,false)]) zM)))))))))
 (retOG (catA (mkL (compG (rng1 (zB (.int 12))) [none,some 1] (zZ 0) (testT (zJ ixD (zI 1) (zI 0))) (zW 0))) (mkL (repF (zU (zA (zB (.int 12)) zM)) (callB int1D (zA (isxG 0 [(6,true),(7,true),(8,true)]) zM)))))))))
noncomputable def cG:Nat->Option Ret:=runH eQ 2
noncomputable def fQ:FS:=(qF (setOG 3 (zU zM))
 (qF (tryG3 4 6 7 8 (fun _=>none) (ifX (zT (zJ eqD (zI 1) (zB (.int 0)))) (methX 11 2 eA (zW 0) (zA (zI 2) (zA (zB (.int 3)) zM))) kL) (ifX (zT (zJ eqD (zI 1) (zB (.int 0)))) kL (ifX (zT (zJ eqD (zI 1) (zB (.int 1)))) (methX 11 1 bY (zW 0) (zA (zI 2) zM)) kL)) (ifX (zT (zJ eqD (zI 1) (zB (.int 0)))) kL (ifX (zT (zJ eqD (zI 1) (zB (.int 1)))) kL (ifX (zT (zJ eqD (zI 1) (zB (.int 2)))) (methX 11 0 eB (zW 0) zM) (methX 11 0 dW (zW 0) zM))))
 (setOG 3 (tM 4 cG)))
 (retXG 3)))
noncomputable def aX:List D->Option Ret:=runG fQ 5
noncomputable def iG:FS:=(qF (jY 1 (zJ ixD (mkL (zU (zA (zB (.int 0)) (zA (zJ yP (zB (.int 9)) (zJ jK (zJ qX (zI 0) (zB (.int 3))) (zB (.int 32)))) zM)))) (zJ jK (zJ qX (zI 0) (zB (.int 96))) (zB (.int 2)))))
 (qF (ifG (zT (zJ eqD (zJ jK (zI 0) (zB (.int 3))) (zB (.int 0)))) (retG (qC 2 eN (zA (zJ qX (zI 0) (zB (.int 192))) (zA (zI 1) zM)))) qN)
 (qF (jY 1 (zJ yP (zB (.int 1)) (zJ jK (zJ qX (zI 0) (zB (.int 3))) (zB (.int 8)))))
 (qF (jY 2 (zJ jK (zJ qX (zI 0) (zB (.int 24))) (zI 1)))
 (qF (jY 3 (qC 2 eN (zA (zJ qX (zI 0) (zB (.int 192))) (zA (zI 1) zM))))
 (qF (jY 4 (zB (.str " !\"#$&'()*+,-./0123456789:;<=>?@ABCDEFGHIJKLMNOPQRSTUVWXYZ[\\]^_`{|}~")))
 (retG (zJ yP (zJ yP (slsS (zI 3) noP (soP (zI 2))) (zJ ixD (zI 4) (zJ jK (zJ qX (zI 0) (zB (.int 192))) (callB lenD (zA (zI 4) zM))))) (slsS (zI 3) (soP (zJ yP (zI 2) (zB (.int 1)))) noP)))))))))
noncomputable def gO:List D->Option Ret:=runG iG 5
noncomputable def oZ:FS:=(retBG (tO (consO (lO (methF 0 [11] fG (zW 0) zM)) (consO (lO (compG (viaA (methV 0 [11] bQ (zW 0) zM) asLT) [none,some 0] (zZ 0) (fun _=>some true) (mkT (zU (zA (zW 0) (zA (methV 1 [11] bV (zW 1) (zA (zI 0) zM)) zM)))))) nilO))))
noncomputable def bP:List D->Option Ret:=runG oZ 1
noncomputable def dZ:FS:=(qF (jY 5 (qC 2 cY (zA (zI 1) (zA (zJ yP (zB (.int 1)) (zJ mulD (zB (.int 3)) (zI 4))) zM))))
 (qF (jY 6 (qC 2 cY (zA (zI 1) (zA (zJ yP (zB (.int 2)) (zJ mulD (zB (.int 3)) (zI 4))) zM))))
 (qF (jY 7 (qC 2 cY (zA (zI 1) (zA (zJ yP (zB (.int 3)) (zJ mulD (zB (.int 3)) (zI 4))) zM))))
 (qF (ifG (zT (zJ eqD (zJ jK (zI 5) (zB (.int 2))) (zJ jK (zJ qX (zI 4) (zB (.int 2))) (zB (.int 2))))) (lentG 2 [11] (fun _=>dC) (varP 0) (zA (qC 2 oP (zA (zI 2) (zA (zI 6) zM))) (zA (qC 2 gJ (zA (zI 7) (zA (mkL (zU zM)) zM))) zM))) (lentG 1 [11] (fun _=>fW) (varP 0) (zA (qC 1 nD (zA (qC 4 rZ (zA (zJ qX (zI 5) (zB (.int 2))) (zA (zI 6) (zA (zI 7) (zA (mkL (zU zM)) zM))))) zM)) zM)))
 (appG 3 (ofO (relGO 0 (callO 1 bP (zA (zI 0) zM)))))))))
noncomputable def nY:FX:=(seqR (jY 2 (qC 2 cY (zA (zI 1) (zA (zB (.int 0)) zM))))
 (seqR (setOG 3 (zU (zA (ofO (relGO 0 (callO 1 bP (zA (zI 0) zM)))) zM)))
 (seqR (forG (rng1 (zB (.int 4))) (zZ 4) dZ)
 (relR 3 (vR (zW 3))))))
noncomputable def iE:OT->List D->Option (D×OT):=lentR nY 8 0
noncomputable def fL:FS:=(qF (lentG 0 [11] (fun _=>dS) (varP 0) zM)
 (ifG (zT (zJ neD (ofO (relGO 0 (callO 1 bP (zA (zI 0) zM)))) (zI 3))) (retG (zB (.bl false))) qN))
noncomputable def gN:FS:=(lentG 0 [11] (fun _=>dM) (varP 0) zM)
noncomputable def iR:FX:=(seqR (forG (viaA (mkL (sliA (zI 1) (soP (zJ yP (zI 2) (zB (.int 1)))) noP)) asLT) (zZ 3) fL)
 (ifR (orT (zT (zJ neD (mkL (relFO 0 (jT 3 aX (zA (zI 0) (zA (zB (.int 3)) (zA (zB (.str "")) zM)))))) (mkL (zU (zA (zB (.int 2)) (zA (zB (.int 12)) zM)))))) (zT (zJ neD (ofO (relGO 0 (callO 1 bP (zA (zI 0) zM)))) (zJ ixD (zI 1) (un1 negD (zB (.int 1))))))) (vR (zB (.bl false)))
 (seqR (forG (viaA (mkL (sliA (zI 1) (soP (zB (.int 1))) noP)) asLT) (zZ 3) gN)
 (vR (andV (zJ eqD (mkL (relFO 0 (jT 3 aX (zA (zI 0) (zA (zB (.int 2)) (zA (zB (.str "")) zM)))))) (mkL (zU (zA (zB (.int 2)) (zA (zB (.int 12)) zM))))) (zJ eqD (ofO (relGO 0 (callO 1 bP (zA (zI 0) zM)))) (zJ ixD (zI 1) (zB (.int 0)))))))))
noncomputable def fU:OT->List D->Option (D×OT):=lentR iR 4 0
noncomputable def sX:FS:=(lentG 0 [11] (fun _=>dM) (varP 1) zM)
noncomputable def oY:FS:=(qF (jY 8 (qC 2 eN (zA (zJ qX (zI 7) (zB (.int 16))) (zA (zJ yP (zB (.int 1)) (zJ jK (zJ qX (zI 7) (zB (.int 2))) (zB (.int 8)))) zM))))
 (qF (ifG (andT (zT (zJ eqD (zJ jK (zJ qX (zI 7) (zB (.int 2))) (zB (.int 4))) (zB (.int 3)))) (zT (zJ neD (zI 6) (mkL (zU zM))))) (jY 8 (zJ ixD (zJ ixD (zI 6) (zJ jK (zJ qX (zI 7) (zB (.int 8))) (callB lenD (zA (zI 6) zM)))) (zB (.int 0)))) qN)
 (qF (ifG (andT (zT (zJ eqD (zJ jK (zI 7) (zB (.int 2))) (zB (.int 1)))) (zT (zJ (inD true) (zI 8) (mkL (relFO 1 (methF 0 [11] bQ (zW 1) zM)))))) (jY 5 (zW 8)) (qF (jY 8 (qC 1 gO (zA (zJ qX (zI 7) (zB (.int 2))) zM)))
 (ifG (zT (zJ neD (mkL (relFO 1 (jT 3 aX (zA (zI 1) (zA (zB (.int 0)) (zA (zI 8) zM)))))) (mkL (zU (zA (zB (.int 0)) (zA (zB (.int 12)) zM)))))) (retG (zB (.bl false))) qN)))
 (ifG (orT (zT (zJ neD (mkL (relFO 1 (jT 3 aX (zA (zI 1) (zA (zB (.int 1)) (zA (zI 8) zM)))))) (mkL (zU (zA (zB (.int 1)) (zA (zB (.int 12)) zM)))))) (zT (zJ neD (ofO (relGO 1 (callO 1 bP (zA (zI 1) zM)))) (zJ ixD (zI 2) (zI 3))))) (retG (zB (.bl false))) qN))))
noncomputable def oX:FS:=(ifG (orT (zT (zJ neD (mkL (relFO 1 (jT 3 aX (zA (zI 1) (zA (zB (.int 0)) (zA (zI 9) zM)))))) (mkL (zU (zA (zB (.int 0)) (zA (zB (.int 12)) zM)))))) (zT (zJ neD (ofO (relGO 1 (callO 1 bP (zA (zI 1) zM)))) (zJ ixD (zI 2) (zI 3))))) (retG (zB (.bl false))) qN)
noncomputable def AA:FS:=(qF (setB 1 (makeO 20 1 1 dU zM))
 (qF (setR 2 (callR 2 1 iE (hereA (zA (zW 0) zM))))
 (qF (jY 3 (zJ jK (qC 2 cY (zA (zI 0) (zA (zB (.int 13)) zM))) (zB (.int 5))))
 (qF (forG (viaA (mkL (sliA (zI 2) (soP (zJ yP (zI 3) (zB (.int 1)))) noP)) asLT) (zZ 4) sX)
 (qF (jY 5 (zB (.str "a")))
 (qF (jY 6 (mkL (compG (viaA (zJ ixD (zJ ixD (zI 2) (zB (.int 4))) (zB (.int 1))) asLT) [none,some 2,some 3] (zZ 0) (zT (zJ (inE true) (zI 0) (zJ ixD (zJ ixD (zI 1) (zI 2)) (zB (.int 1))))) (zW 0))))
 (qF (forG (viaA (mkL (sliA (zI 0) (soP (zB (.int 14))) (soP (zB (.int 44))))) asLT) (zZ 7) oY)
 (qF (forG (viaA (mkL (zU (zA (zB .non) (zA (zB (.int 7)) (zA (zB (.bl true)) (zA (mkT (zU (zA (zB (.str "a")) zM))) zM)))))) asLT) (zZ 9) oX)
 (qF (ifNR (callR 3 1 fU (hereA (zA (zW 2) (zA (zW 3) zM)))) (retG (zB (.bl false))) qN)
 (qF (lentG 2 [11] (fun _=>dC) (varP 1) (zA (zW 5) (zA (zW 3) zM)))
 (retG (andV (zJ eqD (relVO 1 (methV 1 [11] bV (zW 1) (zA (zI 5) zM))) (zI 3)) (andV (zJ eqD (mkL (relFO 1 (methF 0 [11] bQ (zW 1) zM))) (mkL (zU (zA (zW 5) zM)))) (zJ eqD (mkL (relFO 1 (jT 3 aX (zA (zI 1) (zA (zB (.int 3)) (zA (zB (.str "")) zM)))))) (mkL (zU (zA (zB (.int 2)) (zA (zB (.int 12)) zM))))))))))))))))))
noncomputable def AB:List D->Option Ret:=runG AA 10
end
namespace K54
open PySem PyProof.Rows L2 FL
noncomputable def top(i:Nat):Stmt:=PySem.Challenge.pw_spanmap_k54_refused_line.main.body.getD i (.Pass ⟨0,0,0,0⟩)
structure Glb(K:Frag)(mg:Str->Option Value):Prop where
 b_ValueError:mg "ValueError" = none
 b_all:mg "all" = none
 b_dict:mg "dict" = none
 b_int:mg "int" = none
 b_isinstance:mg "isinstance" = none
 b_len:mg "len" = none
 b_list:mg "list" = none
 b_max:mg "max" = none
 b_min:mg "min" = none
 b_range:mg "range" = none
 b_reversed:mg "reversed" = none
 b_sorted:mg "sorted" = none
 b_str:mg "str" = none
 c_LETTERS:∃t,mg "LETTERS" = some (.str "abcdefghijklmnopqrstuvwxyz" t)
 c_MOST_LETTERS:∃t,mg "MOST_LETTERS" = some (.int 8 t)
 c_MOST_SHARE:∃t,mg "MOST_SHARE" = some (.int 1000 t)
 fl_at:FldOk K "at" [(1,1),(2,1)]
 fl_bottom:FldOk K "bottom" [(4,2)]
 fl_earlier:FldOk K "earlier" [(11,2)]
 fl_far:FldOk K "far" [(3,1)]
 fl_fill:FldOk K "fill" [(0,1),(1,0),(2,0),(3,0),(4,0),(5,0),(6,0)]
 fl_later:FldOk K "later" [(11,3)]
 fl_many:FldOk K "many" [(1,2),(2,2)]
 fl_pieces:FldOk K "pieces" [(11,0)]
 fl_places:FldOk K "places" [(11,1)]
 fl_span:FldOk K "span" [(0,0)]
 fl_top:FldOk K "top" [(4,1)]
 nw_earlier:∀C,aI K aH (dD 22)=some (some (.ref C))->Cls K C/\NoAttr K C "earlier"
 nw_later:∀C,aI K aH (dD 23)=some (some (.ref C))->Cls K C/\NoAttr K C "later"
 nw_pieces:∀C,aI K aH (dD 20)=some (some (.ref C))->Cls K C/\NoAttr K C "pieces"
 nw_places:∀C,aI K aH (dD 21)=some (some (.ref C))->Cls K C/\NoAttr K C "places"
 isx_Empty_6_7_8:∃D,mg "Empty" = some (.ref D)/\IsxOk K (.ref D) [(6,false),(7,false),(8,false)]
 isx_NoEnd_6_7_8:∃D,mg "NoEnd" = some (.ref D)/\IsxOk K (.ref D) [(6,false),(7,false),(8,false)]
 isx_Clash_6_7_8:∃D,mg "Clash" = some (.ref D)/\IsxOk K (.ref D) [(6,false),(7,false),(8,false)]
 isx_NoCount_6_7_8:∃D,mg "NoCount" = some (.ref D)/\IsxOk K (.ref D) [(6,false),(7,false),(8,false)]
 isx_NoShare_6_7_8:∃D,mg "NoShare" = some (.ref D)/\IsxOk K (.ref D) [(6,false),(7,false),(8,false)]
 isx_NoRule_6_7_8:∃D,mg "NoRule" = some (.ref D)/\IsxOk K (.ref D) [(6,false),(7,false),(8,false)]
 isx_TooMuch_6_7_8:∃D,mg "TooMuch" = some (.ref D)/\IsxOk K (.ref D) [(6,false),(7,false),(8,false)]
 isx_NoText_6_7_8:∃D,mg "NoText" = some (.ref D)/\IsxOk K (.ref D) [(6,false),(7,false),(8,false)]
 isx_NoRow_6_7_8:∃D,mg "NoRow" = some (.ref D)/\IsxOk K (.ref D) [(6,false),(7,false),(8,false)]
 isx_NoDeed_6_7_8:∃D,mg "NoDeed" = some (.ref D)/\IsxOk K (.ref D) [(6,false),(7,false),(8,true)]
 isx_NoMark_6_7_8:∃D,mg "NoMark" = some (.ref D)/\IsxOk K (.ref D) [(6,false),(7,true),(8,false)]
 isx_NoName_6_7_8:∃D,mg "NoName" = some (.ref D)/\IsxOk K (.ref D) [(6,true),(7,false),(8,false)]
 isxB_ValueError_6_7_8:IsxOk K (.type "ValueError") [(6,true),(7,true),(8,true)]
theorem pwI{X:Cx}{i:Int}{k:Nat}{p:Pos}: PVw X (.Constant (.int i) k p) (zB (.int i)):=PV.w qR
theorem pnI{X:Cx}{i:Int}{k:Nat}{p:Pos}: PVn X (.Constant (.int i) k p) (zB (.int i)):=PV.n qR
theorem pnV{X:Cx}(i:Nat){x:Str}{pos:Pos}(hN:X.N[i]?=some x:=by rfl)(hv:Vis X.env.scope x:=by first | exact Or.inl rfl | exact Or.inr (Or.inl rfl) | exact Or.inr (Or.inr rfl))(hd:(6:)=false:=by decide)(hcd:(x==("__classdict__" : Str))=false:=by decide):PVn X (.Name x pos) (zI i):=(zH i hN hv hd hcd).n
section
variable{P:aW}{w:bR}{K:Frag}{mg:Str->Option Value}{base:Heap}
theorem EL:FnScope ["thing"] ["thing"] (zE (top 17)):={}
theorem PX{f:aA}{fd:aJ}(Fn:Fun K "is_name" "is_name" (top 17) f fd)(T:Glb K mg): FnOk P w K mg base CX0 1 f fd ["thing"] (spF K 1 bJ):=by
 have nd:=EL.nd;have nI0:(["sign"]:List Str).Nodup:=by decide +kernel
 refine zY (k:=0) (g:=eZ) Fn EL (1:) (4:)
 exact(zF (qD (yY (PVn.t (PV.n (pv_isi T.b_isinstance T.b_str (by decide +kernel) (zH 0))))) (zG (zQ (PV.w uL))) zS)
  (zF (qD (PWv.t (vQ (ES (PV.w (kI T.b_len (jJ (zH 0) yJ))) pwI) (xL (aCi (PV.w (kI T.b_len (jJ (zH 0) yJ))) (PV.w (NW T.c_MOST_LETTERS)))))) (zG (zQ (PV.w uL))) zS)
  (zG (zQ (PV.w (pv_all rfl T.b_all (jJ (PV.w (PVf.s (wN (NY:=["sign"]) (mp:=[none]) (jP (by kernel_rfl)) rfl (piv_str (zL 0)) (fun c=>(zX (i:=0) nI0)) (fun c=>uM) (fun c=>(RP XG os_inS (zH 0) (PV.w (aBx T.c_LETTERS)) rfl))))) yJ)))))))
theorem oR:FnScope ["self","pieces"] ["self","pieces"] (zE (aO (top 19) 0)):={}
theorem uR{f:aA}{fd:aJ}(Fn:FunD K "__init__" "Line.__init__" (aO (top 19) 0) f fd #[.none])(T:Glb K mg): FnOk P w K mg base CX0 1 f fd ["self","pieces"] (spL K 1 dU):=by
 have nd:=oR.nd;refine aEl (k:=0) (n:=1) (g:=iK) Fn oR (1:) (fun _ _ _ _ e=>e)
 exact(zF (xQ T.nw_pieces (qB 0) (JC (uK (rV (pnV 1) (PV.n qM)) (PVf.s (qO zN)) (PVf.s (NU T.b_list (zH 1))))))
  (zF (xQ T.nw_places (qB 0) (JC aBy))
  (zF (xQ T.nw_earlier (qB 0) (aBt DJ))
  (zG (xQ T.nw_later (qB 0) (aBt DJ))))))
theorem uH:FnScope ["self","pieces","places"] ["self","pieces","places"] (zE (aO (top 19) 3)):={}
theorem IA{f:aA}{fd:aJ}(Fn:Fun K "step" "Line.step" (aO (top 19) 3) f fd)(T:Glb K mg): FnOk P w K mg base CX0 1 f fd ["self","pieces","places"] (spL K 2 cU):=by
 have nd:=uH.nd;refine vC (k:=0) (n:=2) (g:=nC) Fn uH (1:) (fun _ _ _ _ e=>e)
 exact(zF (EV (yB T.fl_earlier (qB 0)) (qW (zD (yO (yB T.fl_pieces (qB 0))) (zD (yO (yB T.fl_places (qB 0))) zN))))
  (zF (xI T.fl_later (qB 0) (aBt DJ))
  (zF (xI T.fl_pieces (qB 0) (JC (zL 1)))
  (zG (xI T.fl_places (qB 0) (JC (zL 2)))))))
theorem UD:FnScope ["rows","pieces","low","behind","value"] ["rows"] (zE (top 27)):={}
theorem aEn{f:aA}{fd:aJ}(Fn:Fun K "knit" "knit" (top 27) f fd)(T:Glb K mg): FnOk P w K mg base CX0 1 f fd ["rows"] (spF K 1 fR):=by
 have nd:=UD.nd;refine zY (k:=0) (g:=AD) Fn UD (1:) (4:)
 exact(zF (xS (i:=1) nd (qO zN))
  (zF (yU PassesOwn.never rfl (yC (zL 0)) (wD (n:=3) rfl (qK (zX (i:=2) nd) (qK (zX (i:=3) nd) (qK (zX (i:=4) nd) yZ)))) (zF (qD (rV (pnV 4) (PV.n qM)) (zG LN) zS)
  (zG (qD (PWv.t (uI (PVn.t (pnV 1)) (uI (jQ hr (PV.n (qQ (PV.w (qQ (zH 1) (PV.w (xX qR)))) pwI)) (pnV 2)) (vX (jQ hr (PV.n (qQ (PV.w (qQ (zH 1) (PV.w (xX qR)))) pwI)) (pnV 4)))))) (zG (psv_put (i:=1) (qW (zD (qQ (PV.w (qQ (zH 1) (PV.w (xX qR)))) pwI) (zD (zL 3) (zD (zL 4) zN)))) (xX qR))) (zG (DG (i:=1) (qW (zD (zL 2) (zD (zL 3) (zD (zL 4) zN))))))))))
  (zG (vU 1))))
theorem tW:FnScope ["one","other"] ["one","other"] (zE (top 24)):={}
theorem HN{f:aA}{fd:aJ}(Fn:Fun K "later_low" "later_low" (top 24) f fd)(T:Glb K mg): FnOk P w K mg base CX0 1 f fd ["one","other"] (spF K 2 hJ):=by
 have nd:=tW.nd;refine zY (k:=0) (g:=mS) Fn tW (1:) (4:)
 exact(zF (qD (rV (pnV 0) (PV.n qM)) (zG (zQ (zH 1))) zS)
  (zF (qD (rV (pnV 1) (PV.n qM)) (zG (zQ (zH 0))) zS)
  (zG (zQ (PV.w (pv_max2 rfl T.b_max (jJ (zH 0) (jJ (zH 1) yJ))))))))
theorem nV:FnScope ["one","other"] ["one","other"] (zE (top 25)):={}
theorem tJ{f:aA}{fd:aJ}(Fn:Fun K "earlier_behind" "earlier_behind" (top 25) f fd)(T:Glb K mg): FnOk P w K mg base CX0 1 f fd ["one","other"] (spF K 2 eW):=by
 have nd:=nV.nd;refine zY (k:=0) (g:=iA) Fn nV (1:) (4:)
 exact(zF (qD (rV (pnV 0) (PV.n qM)) (zG (zQ (zH 1))) zS)
  (zF (qD (rV (pnV 1) (PV.n qM)) (zG (zQ (zH 0))) zS)
  (zG (zQ (PV.w (pv_min2 rfl T.b_min (jJ (zH 0) (jJ (zH 1) yJ))))))))
theorem sK:FnScope ["behind","low"] ["behind","low"] (zE (top 23)):={}
theorem FY{f:aA}{fd:aJ}(Fn:Fun K "ends_ahead" "ends_ahead" (top 23) f fd)(T:Glb K mg): FnOk P w K mg base CX0 1 f fd ["behind","low"] (spF K 2 gP):=by
 have nd:=sK.nd;refine zY (k:=0) (g:=lP) Fn sK (1:) (4:);exact(zG (zQ (PV.w (AN (NV (pnV 0) (PV.n qM)) (AN (NV (pnV 1) (PV.n qM)) (AL (pv_le (zH 0) (zH 1))))))))
theorem UC:FnScope ["one","other","low","behind"] ["one","other"] (zE (top 22)):={}
theorem aEm{f:aA}{fd:aJ}(Fn:Fun K "meet" "meet" (top 22) f fd)(T:Glb K mg)(C_later_low:Cal P w K mg base "later_low" 1 2 hJ)(C_earlier_behind:Cal P w K mg base "earlier_behind" 1 2 eW)(C_ends_ahead:Cal P w K mg base "ends_ahead" 1 2 gP):FnOk P w K mg base CX0 2 f fd ["one","other"] (spF K 2 mM):=by
 have nd:=UC.nd;refine zY (k:=1) (g:=AC) Fn UC (1:) (4:)
 exact(zF (qA (i:=2) nd (zP C_later_low hr (zC (PV.n (qQ (zH 0) pwI)) (zC (PV.n (qQ (zH 1) pwI)) zK))))
  (zF (qA (i:=3) nd (zP C_earlier_behind hr (zC (PV.n (qQ (zH 0) pwI)) (zC (PV.n (qQ (zH 1) pwI)) zK))))
  (zF (qD (PVn.t (PV.n (zP C_ends_ahead hr (zC (pnV 3) (zC (pnV 2) zK))))) (zG (zQ (PV.w qM))) zS)
  (zG (zQ (PV.w (qW (zD (zL 2) (zD (zL 3) zN)))))))))
theorem BR:FnScope ["pieces","within","parts","low","behind","value","common"] ["pieces","within"] (zE (top 28)):={}
theorem MH{f:aA}{fd:aJ}(Fn:Fun K "parts_in" "parts_in" (top 28) f fd)(T:Glb K mg)(C_meet:Cal P w K mg base "meet" 2 2 mM):FnOk P w K mg base CX0 3 f fd ["pieces","within"] (spF K 2 cX):=by
 have nd:=BR.nd;refine zY (k:=2) (g:=nZ) Fn BR (1:) (4:)
 exact(zF (xS (i:=2) nd (qO zN))
  (zF (yU PassesOwn.never rfl (yC (zL 0)) (wD (n:=3) rfl (qK (zX (i:=3) nd) (qK (zX (i:=4) nd) (qK (zX (i:=5) nd) yZ)))) (zF (qA (i:=6) nd (zP C_meet hr (zC (PV.n (qW (zD (zL 3) (zD (zL 4) zN)))) (zC (pnV 1) zK))))
  (zG (qD (ET (pnV 6) (PV.n qM)) (zG (DG (i:=2) (qW (zD (qQ (zH 6) pwI) (zD (qQ (zH 6) pwI) (zD (zL 5) zN)))))) zS))))
  (zG (vU 2))))
theorem tV:FnScope ["pieces","over","value","rows"] ["pieces","over","value"] (zE (top 29)):={}
theorem HM{f:aA}{fd:aJ}(Fn:Fun K "rows_over" "rows_over" (top 29) f fd)(T:Glb K mg)(C_parts_in:Cal P w K mg base "parts_in" 3 2 cX):FnOk P w K mg base CX0 4 f fd ["pieces","over","value"] (spF K 3 gD):=by
 have nd:=tV.nd;refine zY (k:=3) (g:=mR) Fn tV (1:) (4:)
 exact(zF (xS (i:=3) nd (qO zN))
  (zF (qD (ET (PV.n (qQ (zH 1) pwI)) (PV.n qM)) (zG (UM (i:=3) (qZ C_parts_in hr (zC (pnV 0) (zC (PV.n (qW (zD qM (zD (qQ (zH 1) pwI) zN)))) zK))))) zS)
  (zF (DG (i:=3) (qW (zD (qQ (zH 1) pwI) (zD (qQ (zH 1) pwI) (zD (zL 2) zN)))))
  (zF (qD (ET (PV.n (qQ (zH 1) pwI)) (PV.n qM)) (zG (UM (i:=3) (qZ C_parts_in hr (zC (pnV 0) (zC (PV.n (qW (zD (qQ (zH 1) pwI) (zD qM zN)))) zK))))) zS)
  (zG (vU 3))))))
theorem aBj:FnScope ["pieces","span","value"] ["pieces","span","value"] (zE (top 31)):={}
theorem fok_put{f:aA}{fd:aJ}(Fn:Fun K "put" "put" (top 31) f fd)(T:Glb K mg)(C_knit:Cal P w K mg base "knit" 1 1 fR)(C_rows_over:Cal P w K mg base "rows_over" 4 3 gD):FnOk P w K mg base CX0 5 f fd ["pieces","span","value"] (spF K 3 rB):=by
 have nd:=aBj.nd;refine zY (k:=4) (g:=DW) Fn aBj (1:) (4:);exact(zG (jS (qZ C_knit hr (zC (PV.n (zP C_rows_over hr (zC (pnV 0) (zC (pnV 1) (zC (pnV 2) zK))))) zK))))
theorem BW:FnScope ["self","pieces"] ["self","pieces"] (zE (aO (top 35) 3)):={}
theorem ML{f:aA}{fd:aJ}(Fn:Fun K "done" "Put.done" (aO (top 35) 3) f fd)(T:Glb K mg)(C_put:Cal P w K mg base "put" 5 3 rB):FnOk P w K mg base CX0 6 f fd ["self","pieces"] (spF K 2 oF):=by
 have nd:=BW.nd;refine zY (k:=5) (g:=oE) Fn BW (1:) (4:);exact(zG (jS (qZ C_put hr (zC (pnV 1) (zC (PV.n (qS T.fl_span (zL 0))) (zC (PV.n (qS T.fl_fill (zL 0))) zK))))))
theorem EM:FnScope ["side","far"] ["side","far"] (zE (top 46)):={}
theorem PY{f:aA}{fd:aJ}(Fn:Fun K "farther" "farther" (top 46) f fd)(T:Glb K mg): FnOk P w K mg base CX0 1 f fd ["side","far"] (spF K 2 fV):=by
 have nd:=EM.nd;refine zY (k:=0) (g:=pB) Fn EM (1:) (4:);exact(zG (zQ (PV.w (uK (rV (pnV 0) (PV.n qM)) qM (qJ (zH 0) (zH 1))))))
theorem EK:FnScope ["pieces","far"] ["pieces","far"] (zE (top 45)):={}
theorem PU{f:aA}{fd:aJ}(Fn:Fun K "shifted" "shifted" (top 45) f fd)(T:Glb K mg)(C_farther:Cal P w K mg base "farther" 1 2 fV):FnOk P w K mg base CX0 2 f fd ["pieces","far"] (spF K 2 eY):=by
 have nd:=EK.nd;have nI0:(["low","behind","value","far"]:List Str).Nodup:=by decide +kernel
 refine zY (k:=1) (g:=pA) Fn EK (1:) (4:);exact(zG (jS (wN (NY:=["low","behind","value","far"]) (mp:=[none,none,none,some 1]) (jP (by kernel_rfl)) rfl (yC (zL 0)) (fun c=>(wD (n:=3) rfl (qK (zX (i:=0) nI0) (qK (zX (i:=1) nI0) (qK (zX (i:=2) nI0) yZ))))) (fun c=>uM) (fun c=>(qW (zD (zP C_farther hr (zC (pnV 0) (zC (pnV 3) zK))) (zD (zP C_farther hr (zC (pnV 1) (zC (pnV 3) zK))) (zD (zL 2) zN))))))))
theorem sR:FnScope ["self","pieces","stay","go"] ["self","pieces"] (zE (aO (top 36) 3)):={}
theorem GF{f:aA}{fd:aJ}(Fn:Fun K "done" "Widen.done" (aO (top 36) 3) f fd)(T:Glb K mg)(C_parts_in:Cal P w K mg base "parts_in" 3 2 cX)(C_knit:Cal P w K mg base "knit" 1 1 fR)(C_shifted:Cal P w K mg base "shifted" 2 2 eY):FnOk P w K mg base CX0 4 f fd ["self","pieces"] (spF K 2 lV):=by
 have nd:=sR.nd;refine zY (k:=3) (g:=lU) Fn sR (1:) (4:)
 exact(zF (qA (i:=2) nd (zP C_parts_in hr (zC (pnV 1) (zC (PV.n (qW (zD qM (zD (qS T.fl_at (zL 0)) zN)))) zK))))
  (zF (qA (i:=3) nd (zP C_parts_in hr (zC (pnV 1) (zC (PV.n (qW (zD (qS T.fl_at (zL 0)) (zD qM zN)))) zK))))
  (zG (jS (qZ C_knit hr (zC (PV.n (PVf.s (kG (zH 2) (PV.w (zP C_shifted hr (zC (pnV 3) (zC (PV.n (qS T.fl_many (zL 0))) zK))))))) zK))))))
theorem rM:FnScope ["self","pieces","stay","come"] ["self","pieces"] (zE (aO (top 37) 3)):={}
theorem CO{f:aA}{fd:aJ}(Fn:Fun K "done" "Narrow.done" (aO (top 37) 3) f fd)(T:Glb K mg)(C_parts_in:Cal P w K mg base "parts_in" 3 2 cX)(C_knit:Cal P w K mg base "knit" 1 1 fR)(C_shifted:Cal P w K mg base "shifted" 2 2 eY):FnOk P w K mg base CX0 4 f fd ["self","pieces"] (spF K 2 kX):=by
 have nd:=rM.nd;refine zY (k:=3) (g:=kW) Fn rM (1:) (4:)
 exact(zF (qA (i:=2) nd (zP C_parts_in hr (zC (pnV 1) (zC (PV.n (qW (zD qM (zD (qS T.fl_at (zL 0)) zN)))) zK))))
  (zF (qA (i:=3) nd (zP C_parts_in hr (zC (pnV 1) (zC (PV.n (qW (zD (qJ (PV.w (qS T.fl_at (zL 0))) (PV.w (qS T.fl_many (zL 0)))) (zD qM zN)))) zK))))
  (zG (jS (qZ C_knit hr (zC (PV.n (PVf.s (kG (zH 2) (PV.w (zP C_shifted hr (zC (pnV 3) (zC (PV.n (xX (qS T.fl_many (zL 0)))) zK))))))) zK))))))
theorem uE:FnScope ["self","pieces"] ["self","pieces"] (zE (aO (top 38) 3)):={}
theorem HX{f:aA}{fd:aJ}(Fn:Fun K "done" "Move.done" (aO (top 38) 3) f fd)(T:Glb K mg)(C_shifted:Cal P w K mg base "shifted" 2 2 eY):FnOk P w K mg base CX0 3 f fd ["self","pieces"] (spF K 2 mX):=by
 have nd:=uE.nd;refine zY (k:=2) (g:=mW) Fn uE (1:) (4:);exact(zG (jS (qZ C_shifted hr (zC (pnV 1) (zC (PV.n (qS T.fl_far (zL 0))) zK)))))
theorem kR:FnScope ["self","place"] ["self","place"] (zE (aO (top 39) 4)):={}
theorem pG{f:aA}{fd:aJ}(Fn:Fun K "least_from" "Stretch.least_from" (aO (top 39) 4) f fd)(T:Glb K mg): FnOk P w K mg base CX0 1 f fd ["self","place"] (spF K 2 dI):=by
 have nd:=kR.nd;refine zY (k:=0) (g:=eR) Fn kR (1:) (4:);exact(zG (zQ (PV.w (uK (rV (pnV 1) (PV.n qM)) qM (xX (qI (PV.w (wA (PV.w (xX (zL 1))) (PV.w (qS T.fl_top (zL 0))))) (PV.w (qS T.fl_bottom (zL 0)))))))))
theorem pO:FnScope ["self","pieces","rows"] ["self","pieces"] (zE (aO (top 39) 3)):={}
theorem BB{f:aA}{fd:aJ}(Fn:Fun K "done" "Stretch.done" (aO (top 39) 3) f fd)(T:Glb K mg)(C_knit:Cal P w K mg base "knit" 1 1 fR)(M_least_from:MCal P w K mg base "least_from" 1 1 [4] bW):FnOk P w K mg base CX0 2 f fd ["self","pieces"] (spF K 2 iV):=by
 have nd:=pO.nd;have nI0:(["low","behind","value","self"]:List Str).Nodup:=by decide +kernel
 have nI1:(["row"]:List Str).Nodup:=by decide +kernel
 refine zY (k:=1) (g:=iU) Fn pO (1:) (4:)
 exact(zF (JH (i:=2) nd (NY:=["low","behind","value","self"]) (mp:=[none,none,none,some 0]) (jP (by kernel_rfl)) rfl (yC (zL 1)) (fun c=>(wD (n:=3) rfl (qK (zX (i:=0) nI0) (qK (zX (i:=1) nI0) (qK (zX (i:=2) nI0) yZ))))) (fun c=>uM) (fun c=>(qW (zD (xK M_least_from hr (zL 3) (zC (pnV 0) zK)) (zD (xK M_least_from hr (zL 3) (zC (pnV 1) zK)) (zD (zL 2) zN))))))
  (zG (jS (qZ C_knit hr (zC (PV.n (PVf.s (wN (NY:=["row"]) (mp:=[none]) (jP (by kernel_rfl)) rfl (yC (zL 2)) (fun c=>(zX (i:=0) nI1)) (fun c=>(LU (PWv.t (vQ (rV (PV.n (qQ (zH 0) pwI)) (PV.n qM)) (xL (rS hr (PV.n (qQ (zH 0) pwI)) (PV.n (qQ (zH 0) pwI)))))))) (fun c=>(zL 0))))) zK)))))
theorem BS:FnScope ["side"] ["side"] (zE (top 47)):={}
theorem MI{f:aA}{fd:aJ}(Fn:Fun K "mirrored" "mirrored" (top 47) f fd)(T:Glb K mg): FnOk P w K mg base CX0 1 f fd ["side"] (spF K 1 fE):=by
 have nd:=BS.nd;refine zY (k:=0) (g:=oA) Fn BS (1:) (4:);exact(zG (zQ (PV.w (uK (rV (pnV 0) (PV.n qM)) qM (xE pwI (zH 0))))))
theorem rP:FnScope ["self","pieces"] ["self","pieces"] (zE (aO (top 40) 2)):={}
theorem CS{f:aA}{fd:aJ}(Fn:Fun K "done" "Mirror.done" (aO (top 40) 2) f fd)(T:Glb K mg)(C_mirrored:Cal P w K mg base "mirrored" 1 1 fE):FnOk P w K mg base CX0 2 f fd ["self","pieces"] (spF K 2 lD):=by
 have nd:=rP.nd;have nI0:(["low","behind","value"]:List Str).Nodup:=by decide +kernel
 refine zY (k:=1) (g:=lC) Fn rP (1:) (4:);exact(zG (jS (wN (NY:=["low","behind","value"]) (mp:=[none,none,none]) (jP (by kernel_rfl)) rfl (piv_rev trivial T.b_reversed (zL 1)) (fun c=>(wD (n:=3) rfl (qK (zX (i:=0) nI0) (qK (zX (i:=1) nI0) (qK (zX (i:=2) nI0) yZ))))) (fun c=>uM) (fun c=>(qW (zD (zP C_mirrored hr (zC (pnV 1) zK)) (zD (zP C_mirrored hr (zC (pnV 0) zK)) (zD (zL 2) zN))))))))
theorem BV:FnScope ["self","place"] ["self","place"] (zE (aO (top 35) 2)):={}
theorem MK{f:aA}{fd:aJ}(Fn:Fun K "went" "Put.went" (aO (top 35) 2) f fd)(T:Glb K mg): FnOk P w K mg base CX0 1 f fd ["self","place"] (spF K 2 oC):=by
 have nd:=BV.nd;refine zY (k:=0) (g:=oB) Fn BV (1:) (4:);exact(zG (zQ (zH 1)))
theorem IX:FnScope ["place","at","many"] ["place","at","many"] (zE (top 43)):={}
theorem SO{f:aA}{fd:aJ}(Fn:Fun K "opened" "opened" (top 43) f fd)(T:Glb K mg): FnOk P w K mg base CX0 1 f fd ["place","at","many"] (spF K 3 gZ):=by
 have nd:=IX.nd;refine zY (k:=0) (g:=rC) Fn IX (1:) (4:);exact(zG (zQ (PV.w (uK (ES (zH 0) (zH 1)) (zL 0) (qJ (zH 0) (zH 2))))))
theorem sQ:FnScope ["self","place"] ["self","place"] (zE (aO (top 36) 2)):={}
theorem GD{f:aA}{fd:aJ}(Fn:Fun K "went" "Widen.went" (aO (top 36) 2) f fd)(T:Glb K mg)(C_opened:Cal P w K mg base "opened" 1 3 gZ):FnOk P w K mg base CX0 2 f fd ["self","place"] (spF K 2 lT):=by
 have nd:=sQ.nd;refine zY (k:=1) (g:=lR) Fn sQ (1:) (4:);exact(zG (zQ (PV.w (zP C_opened hr (zC (pnV 1) (zC (PV.n (qS T.fl_at (zL 0))) (zC (PV.n (qS T.fl_many (zL 0))) zK)))))))
theorem tU:FnScope ["place","at","many"] ["place","at","many"] (zE (top 44)):={}
theorem HL{f:aA}{fd:aJ}(Fn:Fun K "taken_out" "taken_out" (top 44) f fd)(T:Glb K mg): FnOk P w K mg base CX0 1 f fd ["place","at","many"] (spF K 3 fM):=by
 have nd:=tU.nd;refine zY (k:=0) (g:=mQ) Fn tU (1:) (4:)
 exact(zF (qD (ES (zH 0) (zH 1)) (zG (zQ (zH 0))) zS)
  (zG (zQ (PV.w (uK (ES (zH 0) (PV.w (qJ (zH 1) (zH 2)))) qM (xE (zH 0) (zH 2)))))))
theorem rL:FnScope ["self","place"] ["self","place"] (zE (aO (top 37) 2)):={}
theorem CM{f:aA}{fd:aJ}(Fn:Fun K "went" "Narrow.went" (aO (top 37) 2) f fd)(T:Glb K mg)(C_taken_out:Cal P w K mg base "taken_out" 1 3 fM):FnOk P w K mg base CX0 2 f fd ["self","place"] (spF K 2 kU):=by
 have nd:=rL.nd;refine zY (k:=1) (g:=kT) Fn rL (1:) (4:);exact(zG (zQ (PV.w (zP C_taken_out hr (zC (pnV 1) (zC (PV.n (qS T.fl_at (zL 0))) (zC (PV.n (qS T.fl_many (zL 0))) zK)))))))
theorem uD:FnScope ["self","place"] ["self","place"] (zE (aO (top 38) 2)):={}
theorem HW{f:aA}{fd:aJ}(Fn:Fun K "went" "Move.went" (aO (top 38) 2) f fd)(T:Glb K mg): FnOk P w K mg base CX0 1 f fd ["self","place"] (spF K 2 mV):=by
 have nd:=uD.nd;refine zY (k:=0) (g:=mU) Fn uD (1:) (4:);exact(zG (zQ (PV.w (qJ (zH 1) (PV.w (qS T.fl_far (zL 0)))))))
theorem aBl:FnScope ["one","place"] ["one","place"] (zE (top 21)):={}
theorem fok_has{f:aA}{fd:aJ}(Fn:Fun K "has" "has" (top 21) f fd)(T:Glb K mg): FnOk P w K mg base CX0 1 f fd ["one","place"] (spF K 2 rD):=by
 have nd:=aBl.nd;refine zY (k:=0) (g:=DX) Fn aBl (1:) (4:);exact(zG (zQ (PV.w (AN (pv_or (pv_is (PV.n (qQ (zH 0) pwI)) (PV.n qM)) (AL (pv_le (PV.w (qQ (zH 0) pwI)) (zH 1)))) (AL (pv_or (pv_is (PV.n (qQ (zH 0) pwI)) (PV.n qM)) (AL (pv_lt (zH 1) (PV.w (qQ (zH 0) pwI))))))))))
theorem BX:FnScope ["self","place"] ["self","place"] (zE (aO (top 35) 1)):={}
theorem MM{f:aA}{fd:aJ}(Fn:Fun K "came" "Put.came" (aO (top 35) 1) f fd)(T:Glb K mg)(C_has:Cal P w K mg base "has" 1 2 rD):FnOk P w K mg base CX0 2 f fd ["self","place"] (spF K 2 oH):=by
 have nd:=BX.nd;refine zY (k:=1) (g:=oG) Fn BX (1:) (4:);exact(zG (zQ (PV.w (uK (PVn.t (PV.n (zP C_has hr (zC (PV.n (qS T.fl_span (zL 0))) (zC (pnV 1) zK))))) qM (zL 1)))))
theorem sT:FnScope ["self","place"] ["self","place"] (zE (aO (top 36) 1)):={}
theorem GG{f:aA}{fd:aJ}(Fn:Fun K "came" "Widen.came" (aO (top 36) 1) f fd)(T:Glb K mg)(C_taken_out:Cal P w K mg base "taken_out" 1 3 fM):FnOk P w K mg base CX0 2 f fd ["self","place"] (spF K 2 lX):=by
 have nd:=sT.nd;refine zY (k:=1) (g:=lW) Fn sT (1:) (4:);exact(zG (zQ (PV.w (zP C_taken_out hr (zC (pnV 1) (zC (PV.n (qS T.fl_at (zL 0))) (zC (PV.n (qS T.fl_many (zL 0))) zK)))))))
theorem rN:FnScope ["self","place"] ["self","place"] (zE (aO (top 37) 1)):={}
theorem CP{f:aA}{fd:aJ}(Fn:Fun K "came" "Narrow.came" (aO (top 37) 1) f fd)(T:Glb K mg)(C_opened:Cal P w K mg base "opened" 1 3 gZ):FnOk P w K mg base CX0 2 f fd ["self","place"] (spF K 2 kZ):=by
 have nd:=rN.nd;refine zY (k:=1) (g:=kY) Fn rN (1:) (4:);exact(zG (zQ (PV.w (zP C_opened hr (zC (pnV 1) (zC (PV.n (qS T.fl_at (zL 0))) (zC (PV.n (qS T.fl_many (zL 0))) zK)))))))
theorem uF:FnScope ["self","place"] ["self","place"] (zE (aO (top 38) 1)):={}
theorem HY{f:aA}{fd:aJ}(Fn:Fun K "came" "Move.came" (aO (top 38) 1) f fd)(T:Glb K mg): FnOk P w K mg base CX0 1 f fd ["self","place"] (spF K 2 mZ):=by
 have nd:=uF.nd;refine zY (k:=0) (g:=mY) Fn uF (1:) (4:);exact(zG (zQ (PV.w (xE (zH 1) (PV.w (qS T.fl_far (zL 0)))))))
theorem pP:FnScope ["self","place"] ["self","place"] (zE (aO (top 39) 1)):={}
theorem BC{f:aA}{fd:aJ}(Fn:Fun K "came" "Stretch.came" (aO (top 39) 1) f fd)(T:Glb K mg): FnOk P w K mg base CX0 1 f fd ["self","place"] (spF K 2 gT):=by
 have nd:=pP.nd;refine zY (k:=0) (g:=iW) Fn pP (1:) (4:);exact(zG (zQ (PV.w (qI (PV.w (wA (zH 1) (PV.w (qS T.fl_bottom (zL 0))))) (PV.w (qS T.fl_top (zL 0)))))))
theorem rQ:FnScope ["self","place"] ["self","place"] (zE (aO (top 40) 0)):={}
theorem CT{f:aA}{fd:aJ}(Fn:Fun K "came" "Mirror.came" (aO (top 40) 0) f fd)(T:Glb K mg): FnOk P w K mg base CX0 1 f fd ["self","place"] (spF K 2 lF):=by
 have nd:=rQ.nd;refine zY (k:=0) (g:=lE) Fn rQ (1:) (4:);exact(zG (zQ (PV.w (xX (zL 1)))))
theorem pN:FnScope ["self","place","least"] ["self","place"] (zE (aO (top 39) 2)):={}
theorem BA{f:aA}{fd:aJ}(Fn:Fun K "went" "Stretch.went" (aO (top 39) 2) f fd)(T:Glb K mg)(M_least_from:MCal P w K mg base "least_from" 1 1 [4] bW)(M_came:MCal P w K mg base "came" 2 1 [0,1,2,3,4,5] dE):FnOk P w K mg base CX0 3 f fd ["self","place"] (spF K 2 iT):=by
 have nd:=pN.nd;refine zY (k:=2) (g:=iS) Fn pN (1:) (4:)
 exact(zF (qA (i:=2) nd (xK M_least_from hr (zL 0) (zC (pnV 1) zK)))
  (zG (zQ (PV.w (uK (jQ hr (PV.n (xK M_came hr (zL 0) (zC (pnV 2) zK))) (pnV 1)) (zL 2) qM)))))
theorem rO:FnScope ["self","place"] ["self","place"] (zE (aO (top 40) 1)):={}
theorem CQ{f:aA}{fd:aJ}(Fn:Fun K "went" "Mirror.went" (aO (top 40) 1) f fd)(T:Glb K mg): FnOk P w K mg base CX0 1 f fd ["self","place"] (spF K 2 lB):=by
 have nd:=rO.nd;refine zY (k:=0) (g:=lA) Fn rO (1:) (4:);exact(zG (zQ (PV.w (xX (zL 1)))))
theorem EN:FnScope ["self","deed","places","name","place"] ["self","deed"] (zE (aO (top 19) 1)):={}
theorem PZ{f:aA}{fd:aJ}(Fn:Fun K "do" "Line.do" (aO (top 19) 1) f fd)(T:Glb K mg)(M_step:LCal P w K mg base "step" 1 2 [11] (fun _=>cU))(M_done:MCal P w K mg base "done" 6 1 [0,1,2,3,4,5] cH)(M_went:MCal P w K mg base "went" 3 1 [0,1,2,3,4,5] cT):FnOk P w K mg base CX0 7 f fd ["self","deed"] (spL K 1 fW):=by
 have nd:=EN.nd;refine vC (k:=6) (n:=1) (g:=mH) Fn EN (1:) (fun _ _ _ _ e=>e)
 exact(zF (EU (i:=2) nd aBu)
  (zF (aCo PassesOwn.never rfl (WZ (yO (yB T.fl_places (qB 0)))) (wD (n:=2) rfl (qK (zX (i:=3) nd) (qK (zX (i:=4) nd) yZ))) (zG (OC hr (qB 2) (zL 3) (uK (rV (pnV 4) (PV.n qM)) qM (xK M_went hr (zL 1) (zC (pnV 4) zK))))))
  (zG (OB (i:=2) (wQ M_step hr (qB 0) (zD (xK M_done hr (zL 1) (zC (PV.n (yO (yB T.fl_pieces (qB 0)))) zK)) (zD (zL 2) zN)))))))
theorem mK:FnScope ["self","name","place","places"] ["self","name","place"] (zE (aO (top 19) 2)):={}
theorem IB{f:aA}{fd:aJ}(Fn:Fun K "mark" "Line.mark" (aO (top 19) 2) f fd)(T:Glb K mg)(C_is_name:Cal P w K mg base "is_name" 1 1 bJ)(M_step:LCal P w K mg base "step" 1 2 [11] (fun _=>cU)):FnOk P w K mg base CX0 2 f fd ["self","name","place"] (spL K 2 dC):=by
 have nd:=mK.nd;refine vC (k:=1) (n:=2) (g:=iY) Fn mK (1:) (fun _ _ _ _ e=>e)
 exact(zF (qD (yY (PVn.t (PV.n (zP C_is_name hr (zC (pnV 1) zK))))) (zG yQ) zS)
  (zF (EU (i:=3) nd (WQ T.b_dict (yO (yB T.fl_places (qB 0)))))
  (zF (OC hr (qB 3) (zL 1) (zL 2))
  (zG (OB (i:=3) (wQ M_step hr (qB 0) (zD (yO (yB T.fl_pieces (qB 0))) (zD (zL 3) zN))))))))
theorem BG{f XC:aA}(T:Glb K mg)(C_is_name:Cal P w K mg base "is_name" 1 1 bJ)(M_step:LCal P w K mg base "step" 1 2 [11] (fun _=>cU))(R:XR K mg 6 XC)(cdv:Value)(A:bL)(outer:List Env)(s:aD)(H:Hp)(E:XK)(hr:Room 1 (A.deeper (fY "Line.mark" (zE (aO (top 19) 2)) s.heap.objs.size f cdv))) :
  PSsy (cxOf (CXM P w) P w K mg base ["self","name","place","places"] "Line.mark" (zE (aO (top 19) 2)) f cdv A outer s H E) E XC (qL (aO (top 19) 2)) gA:=by
 have nd:(["self","name","place","places"]:List Str).Nodup:=mK.nd
 exact(yA (LM (yY (PVn.t (PV.n (zP C_is_name hr (zC (pnV 1) zK))))) (yA (PSx.y (wW R.cls R.gl))
  (jM _)) (xM (jM _)))
  (jM _))
theorem AV{f XC:aA}{fd:aJ}(Fn:Fun K "mark" "Line.mark" (aO (top 19) 2) f fd)(T:Glb K mg)(C_is_name:Cal P w K mg base "is_name" 1 1 bJ)(M_step:LCal P w K mg base "step" 1 2 [11] (fun _=>cU))(R:XR K mg 6 XC):FnOk P w K mg base (CXM P w) 2 f fd ["self","name","place"] (spX K 3 eA XC):=
 DS (k:=1) (g:=gA) Fn mK (fun cdv A outer s H E hr=>BG T C_is_name M_step R cdv A outer s H E hr) (fun ds hl e=>e)
theorem rR:FnScope ["self","state"] ["self","state"] (zE (aO (top 19) 6)):={}
theorem CU{f:aA}{fd:aJ}(Fn:Fun K "become" "Line.become" (aO (top 19) 6) f fd)(T:Glb K mg): FnOk P w K mg base CX0 1 f fd ["self","state"] (spL K 1 cD):=by
 have nd:=rR.nd;refine vC (k:=0) (n:=1) (g:=lG) Fn rR (1:) (fun _ _ _ _ e=>e)
 exact(zF (xI T.fl_pieces (qB 0) (JC (qQ (zH 1) pwI)))
  (zG (xI T.fl_places (qB 0) (JC (qQ (zH 1) pwI)))))
theorem mL:FnScope ["self"] ["self"] (zE (aO (top 19) 4)):={}
theorem IC{f:aA}{fd:aJ}(Fn:Fun K "back" "Line.back" (aO (top 19) 4) f fd)(T:Glb K mg)(M_become:LCal P w K mg base "become" 1 1 [11] (fun _=>cD)):FnOk P w K mg base CX0 2 f fd ["self"] (spL K 0 dM):=by
 have nd:=mL.nd;refine vC (k:=1) (n:=0) (g:=iZ) Fn mL (1:) (fun _ _ _ _ e=>e)
 exact(zF (qD (yY (PVn.t (NS (yB T.fl_earlier (qB 0))))) (zG yQ) zS)
  (zF (EV (yB T.fl_later (qB 0)) (qW (zD (yO (yB T.fl_pieces (qB 0))) (zD (yO (yB T.fl_places (qB 0))) zN))))
  (zG (JG (i:=0) M_become hr (UG (yB T.fl_earlier (qB 0)))))))
theorem BH{f XC:aA}(T:Glb K mg)(M_become:LCal P w K mg base "become" 1 1 [11] (fun _=>cD))(R:XR K mg 8 XC)(cdv:Value)(A:bL)(outer:List Env)(s:aD)(H:Hp)(E:XK)(hr:Room 1 (A.deeper (fY "Line.back" (zE (aO (top 19) 4)) s.heap.objs.size f cdv))) :
  PSsy (cxOf (CXM P w) P w K mg base ["self"] "Line.back" (zE (aO (top 19) 4)) f cdv A outer s H E) E XC (qL (aO (top 19) 4)) gB:=by
 have nd:(["self"]:List Str).Nodup:=mL.nd
 exact(yA (LM (yY (PVn.t (PV.n (qS T.fl_earlier (zL 0))))) (yA (PSx.y (wW R.cls R.gl))
  (jM _)) (xM (jM _)))
  (jM _))
theorem AW{f XC:aA}{fd:aJ}(Fn:Fun K "back" "Line.back" (aO (top 19) 4) f fd)(T:Glb K mg)(M_become:LCal P w K mg base "become" 1 1 [11] (fun _=>cD))(R:XR K mg 8 XC):FnOk P w K mg base (CXM P w) 2 f fd ["self"] (spX K 1 eB XC):=
 DS (k:=1) (g:=gB) Fn mL (fun cdv A outer s H E hr=>BH T M_become R cdv A outer s H E hr) (fun ds hl e=>e)
theorem lL:FnScope ["self"] ["self"] (zE (aO (top 19) 5)):={}
theorem GJ{f:aA}{fd:aJ}(Fn:Fun K "again" "Line.again" (aO (top 19) 5) f fd)(T:Glb K mg)(M_become:LCal P w K mg base "become" 1 1 [11] (fun _=>cD)):FnOk P w K mg base CX0 2 f fd ["self"] (spL K 0 dS):=by
 have nd:=lL.nd;refine vC (k:=1) (n:=0) (g:=iH) Fn lL (1:) (fun _ _ _ _ e=>e)
 exact(zF (qD (yY (PVn.t (NS (yB T.fl_later (qB 0))))) (zG yQ) zS)
  (zF (EV (yB T.fl_earlier (qB 0)) (qW (zD (yO (yB T.fl_pieces (qB 0))) (zD (yO (yB T.fl_places (qB 0))) zN))))
  (zG (JG (i:=0) M_become hr (UG (yB T.fl_later (qB 0)))))))
theorem uV{f XC:aA}(T:Glb K mg)(M_become:LCal P w K mg base "become" 1 1 [11] (fun _=>cD))(R:XR K mg 8 XC)(cdv:Value)(A:bL)(outer:List Env)(s:aD)(H:Hp)(E:XK)(hr:Room 1 (A.deeper (fY "Line.again" (zE (aO (top 19) 5)) s.heap.objs.size f cdv))) :
  PSsy (cxOf (CXM P w) P w K mg base ["self"] "Line.again" (zE (aO (top 19) 5)) f cdv A outer s H E) E XC (qL (aO (top 19) 5)) fT:=by
 have nd:(["self"]:List Str).Nodup:=lL.nd
 exact(yA (LM (yY (PVn.t (PV.n (qS T.fl_later (zL 0))))) (yA (PSx.y (wW R.cls R.gl))
  (jM _)) (xM (jM _)))
  (jM _))
theorem uO{f XC:aA}{fd:aJ}(Fn:Fun K "again" "Line.again" (aO (top 19) 5) f fd)(T:Glb K mg)(M_become:LCal P w K mg base "become" 1 1 [11] (fun _=>cD))(R:XR K mg 8 XC):FnOk P w K mg base (CXM P w) 2 f fd ["self"] (spX K 1 dW XC):=
 DS (k:=1) (g:=fT) Fn lL (fun cdv A outer s H E hr=>uV T M_become R cdv A outer s H E hr) (fun ds hl e=>e)
theorem uG:FnScope ["self"] ["self"] (zE (aO (top 19) 7)):={}
theorem HZ{f:aA}{fd:aJ}(Fn:Fun K "told" "Line.told" (aO (top 19) 7) f fd)(T:Glb K mg): FnOk P w K mg base CX0 1 f fd ["self"] (spF K 1 nB):=by
 have nd:=uG.nd;refine zY (k:=0) (g:=nA) Fn uG (1:) (4:);exact(zG (jS (NU T.b_list (PV.w (qS T.fl_pieces (zL 0))))))
theorem lK:FnScope ["self","name"] ["self","name"] (zE (aO (top 19) 8)):={}
theorem GH{f:aA}{fd:aJ}(Fn:Fun K "where" "Line.where" (aO (top 19) 8) f fd)(T:Glb K mg)(C_is_name:Cal P w K mg base "is_name" 1 1 bJ):FnOk P w K mg base CX0 2 f fd ["self","name"] (spF K 2 lZ):=by
 have nd:=lK.nd;refine zY (k:=1) (g:=lY) Fn lK (1:) (4:)
 exact(zF (qD (PWv.t (vQ (yY (PVn.t (PV.n (zP C_is_name hr (zC (pnV 1) zK))))) (xL (OA hr (pnV 1) (PV.n (qS T.fl_places (zL 0))))))) (zG yQ) zS)
  (zG (zQ (PV.w (pv_dget hr (qS T.fl_places (zL 0)) (zL 1))))))
theorem uU{f XC:aA}(T:Glb K mg)(C_is_name:Cal P w K mg base "is_name" 1 1 bJ)(R:XR K mg 7 XC)(cdv:Value)(A:bL)(outer:List Env)(s:aD)(H:Hp)(E:XK)(hr:Room 1 (A.deeper (fY "Line.where" (zE (aO (top 19) 8)) s.heap.objs.size f cdv))) :
  PSsy (cxOf (CXM P w) P w K mg base ["self","name"] "Line.where" (zE (aO (top 19) 8)) f cdv A outer s H E) E XC (qL (aO (top 19) 8)) eP:=by
 have nd:(["self","name"]:List Str).Nodup:=lK.nd
 exact(yA (LM (PWv.t (vQ (yY (PVn.t (PV.n (zP C_is_name hr (zC (pnV 1) zK))))) (xL (OA hr (pnV 1) (PV.n (qS T.fl_places (zL 0))))))) (yA (PSx.y (wW R.cls R.gl))
  (jM _)) (xM (jM _)))
  (jM _))
theorem uN{f XC:aA}{fd:aJ}(Fn:Fun K "where" "Line.where" (aO (top 19) 8) f fd)(T:Glb K mg)(C_is_name:Cal P w K mg base "is_name" 1 1 bJ)(R:XR K mg 7 XC):FnOk P w K mg base (CXM P w) 2 f fd ["self","name"] (spX K 2 bY XC):=
 DS (k:=1) (g:=eP) Fn lK (fun cdv A outer s H E hr=>uU T C_is_name R cdv A outer s H E hr) (fun ds hl e=>e)
theorem sU:FnScope ["self"] ["self"] (zE (aO (top 19) 9)):={}
theorem GI{f:aA}{fd:aJ}(Fn:Fun K "marks" "Line.marks" (aO (top 19) 9) f fd)(T:Glb K mg): FnOk P w K mg base CX0 1 f fd ["self"] (spF K 1 mC):=by
 have nd:=sU.nd;refine zY (k:=0) (g:=mB) Fn sU (1:) (4:);exact(zG (jS (NT rfl T.b_sorted (PV.n (qS T.fl_places (zL 0))))))
theorem oU:FnScope ["self"] ["self"] (zE (aO (top 34) 0)):={}
theorem uS{f:aA}{fd:aJ}(Fn:Fun K "__init__" "Deed.__init__" (aO (top 34) 0) f fd)(T:Glb K mg): FnOk P w K mg base CX0 1 f fd ["self"] (spN K 0 ["fill"] bX):=by
 have nd:=oU.nd;refine vG (k:=0) (n:=0) (m:=1) (g:=iL) Fn oU (1:) rfl (by decide) rfl;exact(vF (xZ qM))
theorem pQ:FnScope ["self","span","value"] ["self","span","value"] (zE (aO (top 35) 0)):={}
theorem BD{f:aA}{fd:aJ}(Fn:Fun K "__init__" "Put.__init__" (aO (top 35) 0) f fd)(T:Glb K mg): FnOk P w K mg base CX0 1 f fd ["self","span","value"] (spN K 2 ["span","fill"] eS):=by
 have nd:=pQ.nd;refine vG (k:=0) (n:=2) (m:=3) (g:=iX) Fn pQ (1:) rfl (by decide) rfl
 exact(jL (ns:=["span"]) (ms:=["fill"]) (xZ (qW (zD (qQ (zH 1) pwI) (zD (qQ (zH 1) pwI) zN))))
  (vF (xZ (zL 2))))
theorem sL:FnScope ["many"] ["many"] (zE (top 41)):={}
theorem FZ{f:aA}{fd:aJ}(Fn:Fun K "check_many" "check_many" (top 41) f fd)(T:Glb K mg): FnOk P w K mg base CX0 1 f fd ["many"] (spF K 1 fS):=by
 have nd:=sL.nd;refine zY (k:=0) (g:=lQ) Fn sL (1:) (4:);exact(zG (qD (ES (zH 0) pwI) (zG yQ) zS))
theorem nX:FnScope ["self","at","many"] ["self","at","many"] (zE (aO (top 36) 0)):={}
theorem tL{f:aA}{fd:aJ}(Fn:Fun K "__init__" "Widen.__init__" (aO (top 36) 0) f fd)(T:Glb K mg)(C_check_many:Cal P w K mg base "check_many" 1 1 fS)(S_Deed:SCal P w K mg base "Deed" 1 ["fill"] bX):FnOk P w K mg base CX0 2 f fd ["self","at","many"] (spN K 2 ["fill","at","many"] cN):=by
 have nd:=nX.nd;refine vG (k:=1) (n:=2) (m:=3) (g:=gC) Fn nX (1:) rfl (by decide) rfl
 exact(jL (ns:=[]) (ms:=["fill","at","many"]) (DH (zP C_check_many hr (zC (pnV 2) zK)))
  (jL (ns:=["fill"]) (ms:=["at","many"]) (LS S_Deed hr)
  (jL (ns:=["at"]) (ms:=["many"]) (xZ (zL 1))
  (vF (xZ (zL 2))))))
theorem nH:FnScope ["self","at","many"] ["self","at","many"] (zE (aO (top 37) 0)):={}
theorem sH{f:aA}{fd:aJ}(Fn:Fun K "__init__" "Narrow.__init__" (aO (top 37) 0) f fd)(T:Glb K mg)(C_check_many:Cal P w K mg base "check_many" 1 1 fS)(S_Deed:SCal P w K mg base "Deed" 1 ["fill"] bX):FnOk P w K mg base CX0 2 f fd ["self","at","many"] (spN K 2 ["fill","at","many"] cN):=by
 have nd:=nH.nd;refine vG (k:=1) (n:=2) (m:=3) (g:=gC) Fn nH (1:) rfl (by decide) rfl
 exact(jL (ns:=[]) (ms:=["fill","at","many"]) (DH (zP C_check_many hr (zC (pnV 2) zK)))
  (jL (ns:=["fill"]) (ms:=["at","many"]) (LS S_Deed hr)
  (jL (ns:=["at"]) (ms:=["many"]) (xZ (zL 1))
  (vF (xZ (zL 2))))))
theorem oQ:FnScope ["self","far"] ["self","far"] (zE (aO (top 38) 0)):={}
theorem uQ{f:aA}{fd:aJ}(Fn:Fun K "__init__" "Move.__init__" (aO (top 38) 0) f fd)(T:Glb K mg)(S_Deed:SCal P w K mg base "Deed" 1 ["fill"] bX):FnOk P w K mg base CX0 2 f fd ["self","far"] (spN K 1 ["fill","far"] eM):=by
 have nd:=oQ.nd;refine vG (k:=1) (n:=1) (m:=2) (g:=iJ) Fn oQ (1:) rfl (by decide) rfl
 exact(jL (ns:=["fill"]) (ms:=["far"]) (LS S_Deed hr)
  (vF (xZ (zL 1))))
theorem rK:FnScope ["number"] ["number"] (zE (top 42)):={}
theorem CL{f:aA}{fd:aJ}(Fn:Fun K "check_share" "check_share" (top 42) f fd)(T:Glb K mg): FnOk P w K mg base CX0 1 f fd ["number"] (spF K 1 fF):=by
 have nd:=rK.nd;refine zY (k:=0) (g:=kS) Fn rK (1:) (4:);exact(zG (qD (PWv.t (vQ (ES (zH 0) pwI) (xL (aCi (zH 0) (PV.w (NW T.c_MOST_SHARE)))))) (zG yQ) zS))
theorem mF:FnScope ["self","top","bottom"] ["self","top","bottom"] (zE (aO (top 39) 0)):={}
theorem rW{f:aA}{fd:aJ}(Fn:Fun K "__init__" "Stretch.__init__" (aO (top 39) 0) f fd)(T:Glb K mg)(C_check_share:Cal P w K mg base "check_share" 1 1 fF)(S_Deed:SCal P w K mg base "Deed" 1 ["fill"] bX):FnOk P w K mg base CX0 2 f fd ["self","top","bottom"] (spN K 2 ["fill","top","bottom"] dR):=by
 have nd:=mF.nd;refine vG (k:=1) (n:=2) (m:=3) (g:=gS) Fn mF (1:) rfl (by decide) rfl
 exact(jL (ns:=[]) (ms:=["fill","top","bottom"]) (DH (zP C_check_share hr (zC (pnV 1) zK)))
  (jL (ns:=[]) (ms:=["fill","top","bottom"]) (DH (zP C_check_share hr (zC (pnV 2) zK)))
  (jL (ns:=["fill"]) (ms:=["top","bottom"]) (LS S_Deed hr)
  (jL (ns:=["top"]) (ms:=["bottom"]) (xZ (zL 1))
  (vF (xZ (zL 2)))))))
theorem pM:FnScope ["_law_script","_law_k"] ["_law_script","_law_k"] (zE (top 49)):={}
theorem AZ{f:aA}{fd:aJ}(Fn:Fun K "_law_cell_at" "_law_cell_at" (top 49) f fd)(T:Glb K mg): FnOk P w K mg base CX0 1 f fd ["_law_script","_law_k"] (spF K 2 cY):=by
 have nd:=pM.nd;refine zY (k:=0) (g:=pD) Fn pM (1:) (4:)
 exact(zF (qD (ES (zH 1) (PV.w (kI T.b_len (jJ (zH 0) yJ)))) (zG (zQ (PV.w (qQ (zH 0) (zH 1))))) zS)
  (zG (zQ pwI)))
theorem tX:FnScope ["_law_number","_law_size","_law_word_here","_law_k"] ["_law_number","_law_size"] (zE (top 50)):={}
theorem HP{f:aA}{fd:aJ}(Fn:Fun K "_law_word" "_law_word" (top 50) f fd)(T:Glb K mg): FnOk P w K mg base CX0 1 f fd ["_law_number","_law_size"] (spF K 2 eN):=by
 have nd:=tX.nd;refine zY (k:=0) (g:=rY) Fn tX (1:) (4:)
 exact(zF (qA (i:=2) nd jU)
  (zF (yU PassesOwn.never rfl (EW T.b_range (zL 1)) (zX (i:=3) nd) (zF (qA (i:=2) nd (qJ (zH 2) (PV.w (qQ (PV.w jU) (PV.w (zV (zH 0) pwI))))))
  (zG (qA (i:=0) nd (qJ (PV.w (qI (zH 0) pwI)) pwI)))))
  (zG (zQ (zH 2)))))
theorem tZ:FnScope ["_law_seed","_law_cell","_law_size","_law_word_here","_law_at","_law_sign"] ["_law_seed","_law_cell"] (zE (top 51)):={}
theorem HR{f:aA}{fd:aJ}(Fn:Fun K "_law_name" "_law_name" (top 51) f fd)(T:Glb K mg)(C__law_word:Cal P w K mg base "_law_word" 1 2 eN):FnOk P w K mg base CX0 2 f fd ["_law_seed","_law_cell"] (spF K 2 oP):=by
 have nd:=tZ.nd;refine zY (k:=1) (g:=hX) Fn tZ (1:) (4:)
 exact(zF (qA (i:=2) nd (qJ pwI (PV.w (zV (zH 0) pwI))))
  (zF (qA (i:=3) nd (zP C__law_word hr (zC (PV.n (qI (zH 0) pwI)) (zC (pnV 2) zK))))
  (zF (qA (i:=4) nd (zV (PV.w (qI (zH 1) pwI)) (zH 2)))
  (zF (qA (i:=5) nd (zP C__law_word hr (zC (PV.n (qI (zH 1) pwI)) (zC pnI zK))))
  (zF (qD (jQ hr (PV.n (zV (zH 1) pwI)) pnI) (zG (zQ (PV.w (qJ (PV.w (qJ (PV.w (AK (zH 3) wU (xG (zH 4)))) (zH 5))) (PV.w (AK (zH 3) (xG (PV.w (qJ (zH 4) pwI))) wU)))))) zS)
  (zF (qD (jQ hr (PV.n (zV (zH 1) pwI)) pnI) (zG (zQ (PV.w (AK (zH 3) wU (xG (PV.w (qJ (zH 4) pwI))))))) zS)
  (zF (qD (jQ hr (PV.n (zV (zH 1) pwI)) pnI) (zG (zQ (PV.w (AK (PV.w (qJ (zH 3) (zH 5))) wU (xG pwI))))) zS)
  (zF (qD (jQ hr (PV.n (zV (zH 1) pwI)) pnI) (zG (zQ (PV.w (zP C__law_word hr (zC (PV.n (qI (zH 1) pwI)) (zC (PV.n (qJ pwI (PV.w (zV (PV.w (qI (zH 1) pwI)) pwI)))) zK)))))) zS)
  (zG (zQ (zH 3)))))))))))
theorem sN:FnScope ["_law_cell","_law_known","_law_rest"] ["_law_cell","_law_known"] (zE (top 52)):={}
theorem GB{f:aA}{fd:aJ}(Fn:Fun K "_law_place" "_law_place" (top 52) f fd)(T:Glb K mg): FnOk P w K mg base CX0 1 f fd ["_law_cell","_law_known"] (spF K 2 gJ):=by
 have nd:=sN.nd;refine zY (k:=0) (g:=rE) Fn sN (1:) (4:)
 exact(zF (qA (i:=2) nd (qI (zH 0) pwI))
  (zF (qD (jQ hr (PV.n (zV (zH 0) pwI)) pnI) (zG (zQ (PV.w (xE (PV.w (zV (zH 2) (PV.w (qJ (PV.w (wA pwI (PV.w (uJ pwI pwI)))) pwI)))) (PV.w (uJ pwI pwI)))))) zS)
  (zF (qD (PWv.t (uI (jQ hr (PV.n (zV (zH 0) pwI)) pnI) (vX (rS hr (pnV 1) (PV.n (PVf.s (qO zN))))))) (zG (zQ (PV.w (xE (PV.w (qJ (PV.w (qQ (zH 1) (PV.w (zV (zH 2) (PV.w (kI T.b_len (jJ (zH 1) yJ))))))) (PV.w (zV (PV.w (qI (zH 2) (PV.w (kI T.b_len (jJ (zH 1) yJ))))) pwI)))) pwI)))) zS)
  (zG (zQ (PV.w (xE (PV.w (zV (zH 2) pwI)) pwI)))))))
theorem uA:FnScope ["_law_cell"] ["_law_cell"] (zE (top 53)):={}
theorem HS{f:aA}{fd:aJ}(Fn:Fun K "_law_many" "_law_many" (top 53) f fd)(T:Glb K mg): FnOk P w K mg base CX0 1 f fd ["_law_cell"] (spF K 1 gQ):=by
 have nd:=uA.nd;refine zY (k:=0) (g:=AE) Fn uA (1:) (4:);exact(zG (zQ (PV.w (qQ (PV.w (PVf.s (qO (zD (zV (PV.w (qI (zH 0) pwI)) pwI) (zD (zV (PV.w (qI (zH 0) pwI)) (PV.w (uJ pwI pwI))) (zD (zV (PV.w (qI (zH 0) pwI)) pwI) zN)))))) (PV.w (zV (zH 0) pwI))))))
theorem sM:FnScope ["_law_cell"] ["_law_cell"] (zE (top 54)):={}
theorem GA{f:aA}{fd:aJ}(Fn:Fun K "_law_share" "_law_share" (top 54) f fd)(T:Glb K mg): FnOk P w K mg base CX0 1 f fd ["_law_cell"] (spF K 1 hO):=by
 have nd:=sM.nd;refine zY (k:=0) (g:=sZ) Fn sM (1:) (4:);exact(zG (zQ (PV.w (qJ pwI (PV.w (zV (PV.w (qI (zH 0) pwI)) (PV.w (qQ (PV.w (PVf.s (qO (zD qR (zD qR zN))))) (PV.w (zV (zH 0) pwI))))))))))
theorem tY:FnScope ["_law_at","_law_cell","_law_size"] ["_law_at","_law_cell"] (zE (top 55)):={}
theorem HQ{f:aA}{fd:aJ}(Fn:Fun K "_law_span" "_law_span" (top 55) f fd)(T:Glb K mg)(C__law_many:Cal P w K mg base "_law_many" 1 1 gQ):FnOk P w K mg base CX0 2 f fd ["_law_at","_law_cell"] (spF K 2 lH):=by
 have nd:=tY.nd;refine zY (k:=1) (g:=sY) Fn tY (1:) (4:)
 exact(zF (qA (i:=2) nd (qJ pwI (PV.w (zP C__law_many hr (zC (PV.n (qI (zH 1) pwI)) zK)))))
  (zF (qD (aCi (PV.w (zV (zH 1) pwI)) pwI) (zG (zQ (PV.w (qQ (PV.w (PVf.s (qO (zD (qW (zD (zL 0) (zD qM zN))) (zD (qW (zD qM (zD (zL 0) zN))) (zD (qW (zD qM (zD qM zN))) zN)))))) (PV.w (xE (PV.w (zV (zH 1) pwI)) pwI)))))) zS)
  (zG (zQ (PV.w (qW (zD (zL 0) (zD (qJ (zH 0) (zH 2)) zN))))))))
theorem BU:FnScope ["_law_a","_law_b","_law_c","_law_known","_law_at","_law_value"] ["_law_a","_law_b","_law_c","_law_known"] (zE (top 56)):={}
theorem MJ{f:aA}{fd:aJ}(Fn:Fun K "_law_row" "_law_row" (top 56) f fd)(T:Glb K mg)(C__law_place:Cal P w K mg base "_law_place" 1 2 gJ)(C__law_span:Cal P w K mg base "_law_span" 2 2 lH)(C__law_many:Cal P w K mg base "_law_many" 1 1 gQ)(C__law_share:Cal P w K mg base "_law_share" 1 1 hO):FnOk P w K mg base CX0 3 f fd ["_law_a","_law_b","_law_c","_law_known"] (spF K 4 rZ):=by
 have nd:=BU.nd;refine zY (k:=2) (g:=IH) Fn BU (1:) (4:)
 exact(zF (qA (i:=4) nd (zP C__law_place hr (zC (pnV 1) (zC (pnV 3) zK))))
  (zF (qD (jQ hr (PV.n (zV (zH 0) pwI)) pnI) (zG (zQ (PV.w (qW (zD jU (zD (zL 4) (zD (zP C__law_many hr (zC (pnV 2) zK)) zN))))))) zS)
  (zF (qD (jQ hr (PV.n (zV (zH 0) pwI)) pnI) (zG (zQ (PV.w (qW (zD jU (zD (zL 4) (zD (zP C__law_many hr (zC (pnV 2) zK)) zN))))))) zS)
  (zF (qD (jQ hr (PV.n (zV (zH 0) pwI)) pnI) (zG (zQ (PV.w (qW (zD jU (zD (zL 4) (zD qR zN))))))) zS)
  (zF (qD (jQ hr (PV.n (zV (zH 0) pwI)) pnI) (zG (zQ (PV.w (qW (zD jU (zD (zP C__law_share hr (zC (pnV 1) zK)) (zD (zP C__law_share hr (zC (pnV 2) zK)) zN))))))) zS)
  (zF (qD (jQ hr (PV.n (zV (zH 0) pwI)) pnI) (zG (zQ (PV.w (qW (zD jU (zD qR (zD qR zN))))))) zS)
  (zF (qA (i:=5) nd (qQ (PV.w (PVf.s (qO (zD qM (zD qR (zD qR (zD (xE (PV.w (zV (PV.w (qI (zH 0) pwI)) (PV.w (qJ (PV.w (wA pwI (PV.w (uJ pwI pwI)))) pwI)))) (PV.w (uJ pwI pwI))) (zD qR zN)))))))) (PV.w (zV (PV.w (qI (zH 0) pwI)) pwI))))
  (zG (zQ (PV.w (qW (zD jU (zD (zP C__law_span hr (zC (pnV 4) (zC (pnV 2) zK))) (zD (zL 5) zN))))))))))))))
theorem uB:FnScope ["_law_row_here","_law_kind","_law_one","_law_other"] ["_law_row_here"] (zE (top 57)):={}
theorem HU{f:aA}{fd:aJ}(Fn:Fun K "_law_made" "_law_made" (top 57) f fd)(T:Glb K mg)(Mk_Mirror:MkC P w K mg base 5 1 0 bX)(Mk_Put:MkC P w K mg base 0 1 2 eS)(Mk_Widen:MkC P w K mg base 1 2 2 cN)(Mk_Narrow:MkC P w K mg base 2 2 2 cN)(Mk_Move:MkC P w K mg base 3 2 1 eM)(Mk_Stretch:MkC P w K mg base 4 2 2 dR):FnOk P w K mg base CX0 4 f fd ["_law_row_here"] (spF K 1 nD):=by
 have nd:=uB.nd;refine zY (k:=3) (g:=tD) Fn uB (1:) (4:)
 exact(zF (psv_asg (zL 0) (wD (n:=3) rfl (qK (zX (i:=1) nd) (qK (zX (i:=2) nd) (qK (zX (i:=3) nd) yZ)))))
  (zF (qD (jQ hr (pnV 1) (PV.n jU)) (zG (xN (wR Mk_Put hr (zC (pnV 2) (zC (pnV 3) zK))))) zS)
  (zF (qD (jQ hr (pnV 1) (PV.n jU)) (zG (xN (wR Mk_Widen hr (zC (pnV 2) (zC (pnV 3) zK))))) zS)
  (zF (qD (jQ hr (pnV 1) (PV.n jU)) (zG (xN (wR Mk_Narrow hr (zC (pnV 2) (zC (pnV 3) zK))))) zS)
  (zF (qD (jQ hr (pnV 1) (PV.n jU)) (zG (xN (wR Mk_Move hr (zC (pnV 2) zK)))) zS)
  (zF (qD (jQ hr (pnV 1) (PV.n jU)) (zG (xN (wR Mk_Stretch hr (zC (pnV 2) (zC (pnV 3) zK))))) zS)
  (zG (xN (WU Mk_Mirror hr)))))))))
theorem pL:FnScope ["_law_e","_law_some"] ["_law_e"] (zE (top 58)):={}
theorem uP{f:aA}{fd:aJ}(Fn:Fun K "_law_classes" "_law_classes" (top 58) f fd)(T:Glb K mg):FnOkH P w K mg base 1 f fd ["_law_e"] (spH K cG):=by
 have nd:(["_law_e","_law_some"]:List Str).Nodup:=pL.nd;have nI0:(["_law_k","_law_some"]:List Str).Nodup:=by decide +kernel
 exact fun_okH (k:=0) (g:=eQ) Fn pL fun cdv A outer s H E hH=>(zF (qA (i:=1) nd (PVf.s (qO (zD (xB (i:=0) T.b_isinstance T.isx_NoName_6_7_8) (zD (xB (i:=0) T.b_isinstance T.isx_NoMark_6_7_8) (zD (xB (i:=0) T.b_isinstance T.isx_NoDeed_6_7_8) (zD (xB (i:=0) T.b_isinstance T.isx_NoCount_6_7_8) zN)))))))
  (zF (qA (i:=1) nd (PVf.s (kG (zH 1) (PV.w (PVf.s (qO (zD (xB (i:=0) T.b_isinstance T.isx_Empty_6_7_8) (zD (xB (i:=0) T.b_isinstance T.isx_NoEnd_6_7_8) (zD (xB (i:=0) T.b_isinstance T.isx_Clash_6_7_8) (zD (xB (i:=0) T.b_isinstance T.isx_NoShare_6_7_8) zN))))))))))
  (zF (qA (i:=1) nd (PVf.s (kG (zH 1) (PV.w (PVf.s (qO (zD (xB (i:=0) T.b_isinstance T.isx_NoRule_6_7_8) (zD (xB (i:=0) T.b_isinstance T.isx_TooMuch_6_7_8) (zD (xB (i:=0) T.b_isinstance T.isx_NoText_6_7_8) (zD (xB (i:=0) T.b_isinstance T.isx_NoRow_6_7_8) zN))))))))))
  (zG (jS (kG (PV.w (PVf.s (WR (NY:=["_law_k","_law_some"]) (mp:=[none,some 1]) (jP (by kernel_rfl)) hH (RS T.b_range qR) (fun c=>(zX (i:=0) nI0)) (fun c=>(LU (PVn.t (PV.n (qQ (zH 1) (zH 0)))))) (fun c=>(zL 0))))) (PV.w (PVf.s (aBv (qO (zD qR zN)) (PV.w (pv_int1 T.b_int (jJ (PV.w (pv_isxB (i:=0) T.b_isinstance T.b_ValueError T.isxB_ValueError_6_7_8)) yJ))))))))))))
theorem pJ:FnScope ["_law_line","_law_way","_law_name_here","_law_found","_law_e"] ["_law_line","_law_way","_law_name_here"] (zE (top 59)):={}
theorem AX{f:aA}{fd:aJ}(Fn:Fun K "_law_refused" "_law_refused" (top 59) f fd)(T:Glb K mg)(CH__law_classes:CalH P w K mg base "_law_classes" 1 cG)(M_mark:LCal P w K mg base "mark" 2 2 [11] (fun _=>dC))(M_where:MCal P w K mg base "where" 2 1 [11] bV)(M_back:LCal P w K mg base "back" 2 0 [11] (fun _=>dM))(M_again:LCal P w K mg base "again" 2 0 [11] (fun _=>dS)){XS0:aA}{XC6:aA}(XT_6:XT K mg 6 "SpanError" XC6 XS0){XC7:aA}(XT_7:XT K mg 7 "SpanError" XC7 XS0){XC8:aA}(XT_8:XT K mg 8 "SpanError" XC8 XS0)(MX_mark_6:MCalX P w K mg base "mark" 11 2 2 eA XC6)(MX_where_7:MCalX P w K mg base "where" 11 2 1 bY XC7)(MX_back_8:MCalX P w K mg base "back" 11 2 0 eB XC8)(MX_again_8:MCalX P w K mg base "again" 11 2 0 dW XC8):FnOk P w K mg base CX0 3 f fd ["_law_line","_law_way","_law_name_here"] (spF K 3 aX):=by
 have nd:=pJ.nd;refine zY (k:=2) (g:=fQ) Fn pJ (1:) (4:)
 exact(zF (xS (i:=3) nd (qO zN))
  (zF (aCj (i:=4) (t:=6) (u:=7) (v:=8) nd XT_6.gl XT_6.cat XT_7.cat XT_8.cat XT_6.nm XT_7.nm XT_8.nm (fun W=>aCm)
  (fun W=>(AI (jQ hr (pnV 1) pnI) (jN (NI MX_mark_6 hr (zL 0) (zC (pnV 2) (zC pnI zK)))) jV))
  (fun W=>(AI (jQ hr (pnV 1) pnI) jV (jN (AI (jQ hr (pnV 1) pnI) (jN (NI MX_where_7 hr (zL 0) (zC (pnV 2) zK))) jV))))
  (fun W=>(AI (jQ hr (pnV 1) pnI) jV (jN (AI (jQ hr (pnV 1) pnI) jV (jN (AI (jQ hr (pnV 1) pnI) (jN (IS MX_back_8 hr (zL 0))) (jN (IS MX_again_8 hr (zL 0)))))))))
  (fun ea oe xe hH=>(zG (xS (i:=3) nd (WT (i:=4) CH__law_classes (RoomH.of hr) hH)))))
  (zG (vU 3))))
theorem pK:FnScope ["_law_cell","_law_size","_law_at","_law_word_here","_law_some"] ["_law_cell"] (zE (top 60)):={}
theorem AY{f:aA}{fd:aJ}(Fn:Fun K "_law_no_name" "_law_no_name" (top 60) f fd)(T:Glb K mg)(C__law_word:Cal P w K mg base "_law_word" 1 2 eN):FnOk P w K mg base CX0 2 f fd ["_law_cell"] (spF K 1 gO):=by
 have nd:=pK.nd;refine zY (k:=1) (g:=iG) Fn pK (1:) (4:)
 exact(zF (qA (i:=1) nd (qQ (PV.w (PVf.s (qO (zD qR (zD (qJ pwI (PV.w (zV (PV.w (qI (zH 0) pwI)) pwI))) zN))))) (PV.w (zV (PV.w (qI (zH 0) pwI)) pwI))))
  (zF (qD (jQ hr (PV.n (zV (zH 0) pwI)) pnI) (zG (zQ (PV.w (zP C__law_word hr (zC (PV.n (qI (zH 0) pwI)) (zC (pnV 1) zK)))))) zS)
  (zF (qA (i:=1) nd (qJ pwI (PV.w (zV (PV.w (qI (zH 0) pwI)) pwI))))
  (zF (qA (i:=2) nd (zV (PV.w (qI (zH 0) pwI)) (zH 1)))
  (zF (qA (i:=3) nd (zP C__law_word hr (zC (PV.n (qI (zH 0) pwI)) (zC (pnV 1) zK))))
  (zF (qA (i:=4) nd jU)
  (zG (zQ (PV.w (qJ (PV.w (qJ (PV.w (AK (zH 3) wU (xG (zH 2)))) (PV.w (qQ (zH 4) (PV.w (zV (PV.w (qI (zH 0) pwI)) (PV.w (kI T.b_len (jJ (zH 4) yJ))))))))) (PV.w (AK (zH 3) (xG (PV.w (qJ (zH 2) pwI))) wU))))))))))))
theorem uC:FnScope ["_law_line"] ["_law_line"] (zE (top 61)):={}
theorem HV{f:aA}{fd:aJ}(Fn:Fun K "_law_look" "_law_look" (top 61) f fd)(T:Glb K mg)(M_told:MCal P w K mg base "told" 1 0 [11] fG)(M_where:MCal P w K mg base "where" 2 1 [11] bV)(M_marks:MCal P w K mg base "marks" 1 0 [11] bQ):FnOk P w K mg base CX0 3 f fd ["_law_line"] (spF K 1 bP):=by
 have nd:=uC.nd;have nI0:(["_law_name_here","_law_line"]:List Str).Nodup:=by decide +kernel
 refine zY (k:=2) (g:=oZ) Fn uC (1:) (4:);exact(zG (aCl (pvo_t (OK (pvo_l (vZ M_told hr (zL 0) )) (OK (pvo_l (wN (NY:=["_law_name_here","_law_line"]) (mp:=[none,some 0]) (jP (by kernel_rfl)) rfl (yC (aBw M_marks hr (zL 0) )) (fun c=>(zX (i:=0) nI0)) (fun c=>uM) (fun c=>(qW (zD (zL 0) (zD (xK M_where hr (zL 1) (zC (pnV 0) zK)) zN)))))) DJ)))))
theorem sP:FnScope ["_law_line","_law_script","_law_seed","_law_looks","_law_k","_law_a","_law_b","_law_c"] ["_law_line","_law_script"] (zE (top 62)):={}
theorem GC{f:aA}{fd:aJ}(Fn:Fun K "_law_begun" "_law_begun" (top 62) f fd)(T:Glb K mg)(C__law_cell_at:Cal P w K mg base "_law_cell_at" 1 2 cY)(C__law_look:Cal P w K mg base "_law_look" 3 1 bP)(C__law_name:Cal P w K mg base "_law_name" 2 2 oP)(C__law_place:Cal P w K mg base "_law_place" 1 2 gJ)(C__law_made:Cal P w K mg base "_law_made" 4 1 nD)(C__law_row:Cal P w K mg base "_law_row" 3 4 rZ)(M_mark:LCal P w K mg base "mark" 2 2 [11] (fun _=>dC))(M_do:LCal P w K mg base "do" 7 1 [11] (fun _=>fW)):FnOk P w K mg base CX0 8 f fd ["_law_line","_law_script"] (spR K 2 0 iE):=by
 have nd:=sP.nd;refine VI (k:=7) (p:=0) (g:=nY) Fn sP (1:) (fun _ _ _ _ e=>e)
 exact(wP (qA (i:=2) nd (zP C__law_cell_at hr (zC (pnV 1) (zC pnI zK))))
  (wP (xS (i:=3) nd (qO (zD (tF (yV 0 (yI C__law_look hr (zC (pnV 0) zK)))) zN)))
  (wP (yU PassesOwn.never rfl (EW T.b_range qR) (zX (i:=4) nd) (zF (qA (i:=5) nd (zP C__law_cell_at hr (zC (pnV 1) (zC (PV.n (qJ pwI (PV.w (wA pwI (zH 4))))) zK))))
  (zF (qA (i:=6) nd (zP C__law_cell_at hr (zC (pnV 1) (zC (PV.n (qJ pwI (PV.w (wA pwI (zH 4))))) zK))))
  (zF (qA (i:=7) nd (zP C__law_cell_at hr (zC (pnV 1) (zC (PV.n (qJ pwI (PV.w (wA pwI (zH 4))))) zK))))
  (zF (qD (jQ hr (PV.n (zV (zH 5) pwI)) (PV.n (zV (PV.w (qI (zH 4) pwI)) pwI))) (zG (wQ M_mark hr (qB 0) (zD (zP C__law_name hr (zC (pnV 2) (zC (pnV 6) zK))) (zD (zP C__law_place hr (zC (pnV 7) (zC (PV.n (PVf.s (qO zN))) zK))) zN)))) (zG (wQ M_do hr (qB 0) (zD (zP C__law_made hr (zC (PV.n (zP C__law_row hr (zC (PV.n (qI (zH 5) pwI)) (zC (pnV 6) (zC (pnV 7) (zC (PV.n (PVf.s (qO zN))) zK)))))) zK)) zN))))
  (zG (DG (i:=3) (tF (yV 0 (yI C__law_look hr (zC (pnV 0) zK)))))))))))
  (prv_rel 3 (LR (aBs (zL 3)))))))
theorem nW:FnScope ["_law_line","_law_looks","_law_now","_law_look_here"] ["_law_line","_law_looks","_law_now"] (zE (top 63)):={}
theorem tK{f:aA}{fd:aJ}(Fn:Fun K "_law_all_again" "_law_all_again" (top 63) f fd)(T:Glb K mg)(C__law_look:Cal P w K mg base "_law_look" 3 1 bP)(C__law_refused:Cal P w K mg base "_law_refused" 3 3 aX)(M_again:LCal P w K mg base "again" 2 0 [11] (fun _=>dS))(M_back:LCal P w K mg base "back" 2 0 [11] (fun _=>dM)):FnOk P w K mg base CX0 4 f fd ["_law_line","_law_looks","_law_now"] (spR K 3 0 fU):=by
 have nd:=nW.nd;refine VI (k:=3) (p:=0) (g:=iR) Fn nW (1:) (fun _ _ _ _ e=>e)
 exact(wP (yU PassesOwn.never rfl (yC (PVf.s (wX (zH 1) (xG (PV.w (qJ (zH 2) pwI))) wU))) (zX (i:=3) nd) (zF (kD M_again hr (qB 0))
  (zG (qD (rS hr (PV.n (tF (yV 0 (yI C__law_look hr (zC (pnV 0) zK))))) (pnV 3)) (zG (zQ (PV.w uL))) zS))))
  (prv_if (PWv.t (vQ (rS hr (PV.n (PVf.s (yK 0 (qZ C__law_refused hr (zC (pnV 0) (zC pnI (zC (PV.n jU) zK))))))) (PV.n (PVf.s (qO (zD qR (zD qR zN)))))) (xL (rS hr (PV.n (tF (yV 0 (yI C__law_look hr (zC (pnV 0) zK))))) (PV.n (qQ (zH 1) (PV.w (xX qR)))))))) (LR (aBs uL))
  (wP (yU PassesOwn.never rfl (yC (PVf.s (wX (zH 1) (xG pwI) wU))) (zX (i:=3) nd) (zG (kD M_back hr (qB 0))))
  (LR (aBs (AN (NX hr (PV.n (PVf.s (yK 0 (qZ C__law_refused hr (zC (pnV 0) (zC pnI (zC (PV.n jU) zK))))))) (PV.n (PVf.s (qO (zD qR (zD qR zN)))))) (AL (NX hr (PV.n (tF (yV 0 (yI C__law_look hr (zC (pnV 0) zK))))) (PV.n (qQ (zH 1) pwI))))))))))
theorem aBk:FnScope ["_law_script","_law_line","_law_looks","_law_now","_law_look_here","_law_last","_law_some","_law_cell","_law_name_here","_law_thing"] ["_law_script"] (zE (top 64)):={}
theorem fok_law{f:aA}{fd:aJ}(Fn:Fun K "law" "law" (top 64) f fd)(T:Glb K mg)(C__law_begun:CalR P w K mg base "_law_begun" 8 2 0 iE)(C__law_cell_at:Cal P w K mg base "_law_cell_at" 1 2 cY)(C__law_word:Cal P w K mg base "_law_word" 1 2 eN)(C__law_all_again:CalR P w K mg base "_law_all_again" 4 3 0 fU)(C__law_no_name:Cal P w K mg base "_law_no_name" 2 1 gO)(C__law_refused:Cal P w K mg base "_law_refused" 3 3 aX)(C__law_look:Cal P w K mg base "_law_look" 3 1 bP)(M_mark:LCal P w K mg base "mark" 2 2 [11] (fun _=>dC))(M_back:LCal P w K mg base "back" 2 0 [11] (fun _=>dM))(M_where:MCal P w K mg base "where" 2 1 [11] bV)(M_marks:MCal P w K mg base "marks" 1 0 [11] bQ)(Mk_Line_1:LMk P w K mg base 20 1 1 1 dU):FnOk P w K mg base CX0 9 f fd ["_law_script"] (spF K 1 AB):=by
 have nd:=aBk.nd;have nI0:(["_law_pair","_law_looks","_law_now"]:List Str).Nodup:=by decide +kernel
 refine zY (k:=8) (g:=AA) Fn aBk (1:) (4:)
 exact(zF (EU (i:=1) nd (WP Mk_Line_1 hr))
  (zF (aCk (i:=2) nd (JB C__law_begun hr (OJ (i:=1) (zD (zL 0) zN))))
  (zF (qA (i:=3) nd (zV (PV.w (zP C__law_cell_at hr (zC (pnV 0) (zC pnI zK)))) pwI))
  (zF (yU PassesOwn.never rfl (yC (PVf.s (wX (zH 2) (xG (PV.w (qJ (zH 3) pwI))) wU))) (zX (i:=4) nd) (zG (kD M_back hr (qB 1))))
  (zF (qA (i:=5) nd jU)
  (zF (JH (i:=6) nd (NY:=["_law_pair","_law_looks","_law_now"]) (mp:=[none,some 2,some 3]) (jP (by kernel_rfl)) rfl (yC (qQ (PV.w (qQ (zH 2) pwI)) pwI)) (fun c=>(zX (i:=0) nI0)) (fun c=>(LU (WX hr (pnV 0) (PV.n (qQ (PV.w (qQ (zH 1) (zH 2))) pwI))))) (fun c=>(zL 0)))
  (zF (yU PassesOwn.never rfl (yC (PVf.s (wX (zH 0) (xG pwI) (xG pwI)))) (zX (i:=7) nd) (zF (qA (i:=8) nd (zP C__law_word hr (zC (PV.n (qI (zH 7) pwI)) (zC (PV.n (qJ pwI (PV.w (zV (PV.w (qI (zH 7) pwI)) pwI)))) zK))))
  (zF (qD (PWv.t (uI (jQ hr (PV.n (zV (PV.w (qI (zH 7) pwI)) pwI)) pnI) (vX (rS hr (pnV 6) (PV.n (PVf.s (qO zN))))))) (zG (qA (i:=8) nd (qQ (PV.w (qQ (zH 6) (PV.w (zV (PV.w (qI (zH 7) pwI)) (PV.w (kI T.b_len (jJ (zH 6) yJ))))))) pwI))) zS)
  (zF (qD (PWv.t (uI (jQ hr (PV.n (zV (zH 7) pwI)) pnI) (vX (aCg (pnV 8) (PV.n (PVf.s (yK 1 (vZ M_marks hr (zL 1) )))))))) (zG (qA (i:=5) nd (zL 8))) (zF (qA (i:=8) nd (zP C__law_no_name hr (zC (PV.n (qI (zH 7) pwI)) zK)))
  (zG (qD (rS hr (PV.n (PVf.s (yK 1 (qZ C__law_refused hr (zC (pnV 1) (zC pnI (zC (pnV 8) zK))))))) (PV.n (PVf.s (qO (zD qR (zD qR zN)))))) (zG (zQ (PV.w uL))) zS))))
  (zG (qD (PWv.t (vQ (rS hr (PV.n (PVf.s (yK 1 (qZ C__law_refused hr (zC (pnV 1) (zC pnI (zC (pnV 8) zK))))))) (PV.n (PVf.s (qO (zD qR (zD qR zN)))))) (xL (rS hr (PV.n (tF (yV 1 (yI C__law_look hr (zC (pnV 1) zK))))) (PV.n (qQ (zH 2) (zH 3))))))) (zG (zQ (PV.w uL))) zS))))))
  (zF (yU PassesOwn.never rfl (yC (PVf.s (qO (zD qM (zD qR (zD uL (zD (qW (zD jU zN)) zN))))))) (zX (i:=9) nd) (zG (qD (PWv.t (vQ (rS hr (PV.n (PVf.s (yK 1 (qZ C__law_refused hr (zC (pnV 1) (zC pnI (zC (pnV 9) zK))))))) (PV.n (PVf.s (qO (zD qR (zD qR zN)))))) (xL (rS hr (PV.n (tF (yV 1 (yI C__law_look hr (zC (pnV 1) zK))))) (PV.n (qQ (zH 2) (zH 3))))))) (zG (zQ (PV.w uL))) zS)))
  (zF (aCn (JB C__law_all_again hr (OJ (i:=1) (zD (zL 2) (zD (zL 3) zN)))) (zG (zQ (PV.w uL))) zS)
  (zF (wQ M_mark hr (qB 1) (zD (zL 5) (zD (zL 3) zN)))
  (zG (zQ (PV.w (AN (NX hr (PV.n (pv_relO 1 (xK M_where hr (zL 1) (zC (pnV 5) zK)))) (pnV 3)) (AN (NX hr (PV.n (PVf.s (yK 1 (vZ M_marks hr (zL 1) )))) (PV.n (PVf.s (qO (zD (zL 5) zN))))) (AL (NX hr (PV.n (PVf.s (yK 1 (qZ C__law_refused hr (zC (pnV 1) (zC pnI (zC (PV.n jU) zK))))))) (PV.n (PVf.s (qO (zD qR (zD qR zN))))))))))))))))))))))
end
end K54
namespace K54
open PySem PyProof.Rows L2 FL
open Builtin.Int (intBits)
theorem rng12(ds:List Sl):rng1 (zB (.int 12)) ds=some ([0,1,2,3,4,5,6,7,8,9,10,11].map D.int):=by
 have ok:okR 12:=wZ (by omega) (by omega);simp[rng1,ok];rfl
noncomputable def bits6:List D:=[.bl true,.bl false,.bl false,.bl false,.bl false,.bl false,.bl false,.bl false,.bl false,.bl false,.bl false,.bl false]
noncomputable def bits7:List D:=[.bl false,.bl true,.bl false,.bl false,.bl false,.bl false,.bl false,.bl false,.bl false,.bl false,.bl false,.bl false]
noncomputable def bits8:List D:=[.bl false,.bl false,.bl true,.bl false,.bl false,.bl false,.bl false,.bl false,.bl false,.bl false,.bl false,.bl false]
theorem aFj:cG 6=some (.fresh [.int 0,.int 12]):=by
 have cm:∀X:Sl,compG (rng1 (zB (.int 12))) [none,some 1] (zZ 0) (testT (zJ ixD (zI 1) (zI 0))) (zW 0) [X,.v (.lst bits6)]=some [.int 0]:=fun X=>by
  unfold compG;rw[rng12];rfl
 unfold cG runH eQ;unfold bits6 at cm;simp[argsE,isxG,List.lookup,cm,repF]
theorem aFi:cG 7=some (.fresh [.int 1,.int 12]):=by
 have cm:∀X:Sl,compG (rng1 (zB (.int 12))) [none,some 1] (zZ 0) (testT (zJ ixD (zI 1) (zI 0))) (zW 0) [X,.v (.lst bits7)]=some [.int 1]:=fun X=>by
  unfold compG;rw[rng12];rfl
 unfold cG runH eQ;unfold bits7 at cm;simp[argsE,isxG,List.lookup,cm,repF]
theorem QH:cG 8=some (.fresh [.int 2,.int 12]):=by
 have cm:∀X:Sl,compG (rng1 (zB (.int 12))) [none,some 1] (zZ 0) (testT (zJ ixD (zI 1) (zI 0))) (zW 0) [X,.v (.lst bits8)]=some [.int 2]:=fun X=>by
  unfold compG;rw[rng12];rfl
 unfold cG runH eQ;unfold bits8 at cm;simp[argsE,isxG,List.lookup,cm,repF]
theorem aBp(U:List D)(d:D)(h:bJ [d]=some (.val (.bl false))):aX [.ins 11 U,.int 0,d]=some (.fresh [.int 0,.int 12]):=by
 have hx:eA [.ins 11 U,d,.int 3]=true:=by
  unfold eA runX gA ifX;simp[args,h,retV,lM]
 unfold aX runG fQ tryG3 ifX methX tM;simp[args,hx,isT,aFj,goneO]
theorem aBo(P M E L d:D)(h:bY [.ins 11 [P,M,E,L],d]=true):aX [.ins 11 [P,M,E,L],.int 1,d]=some (.fresh [.int 1,.int 12]):=by
 unfold aX runG fQ tryG3 ifX methX tM;simp[args,h,isT,aFi,goneO,kL]
theorem aBn(P M L d:D):aX [.ins 11 [P,M,.lst [],L],.int 2,d]=some (.fresh [.int 2,.int 12]):=by
 have hx:eB [.ins 11 [P,M,.lst [],L]]=true:=by
  unfold eB runX gB ifX;simp[args,lM]
 unfold aX runG fQ tryG3 ifX methX tM;simp[args,hx,isT,QH,goneO,kL]
theorem NQ(P M E d:D):aX [.ins 11 [P,M,E,.lst []],.int 3,d]=some (.fresh [.int 2,.int 12]):=by
 have hx:dW [.ins 11 [P,M,E,.lst []]]=true:=by
  unfold dW runX fT ifX;simp[args,lM]
 unfold aX runG fQ tryG3 ifX methX tM;simp[args,hx,isT,QH,goneO,kL]
noncomputable def pairD(p:List Nat×Option Int):D:=.tup [.str (txS p.1),oi p.2]
noncomputable def sps(mk:Mks):Mks:=Classical.choose (NM mk)
theorem EH(mk:Mks):(∀p∈sps mk,p∈mk)/\(sps mk).length=mk.length/\srtT (mkN mk)=mkN (sps mk):=Classical.choose_spec (NM mk)
noncomputable def lookT(ps:List Rw)(mk:Mks):OT:=.tup [.lst ((ps.map rwD).map OT.val),.lst (((sps mk).map pairD).map OT.val)]
noncomputable def lookD(ps:List Rw)(mk:Mks):D:=.tup [.lst (ps.map rwD),.lst ((sps mk).map pairD)]
theorem aDc(l:List D):otDs (l.map OT.val)=l:=by
 induction l with
 |nil=>rfl
 |cons a l ih=>simp[otDs,otD,ih]
theorem GN:∀l:List D,oK (l.map OT.val)=flats l
 |[]=>rfl
 |a::l=>by simp[oK,flatO,flats,GN l]
theorem SR(l:Mks):flats (l.map pairD)=true:=by
 induction l with
 |nil=>rfl
 | cons p l ih =>
   have:flat (pairD p)=true:=by unfold pairD;cases p.2<;>rfl
   simp[flats,this,ih]
theorem aDd(ps:List Rw)(mk:Mks):otD (lookT ps mk)=lookD ps mk:=by
 unfold lookT lookD;simp only[otD,otDs,aDc]
theorem KC(ps:List Rw)(mk:Mks):flatO (lookT ps mk)=true:=by
 unfold lookT;simp only[flatO,oK,GN,yD,SR,Bool.and_true]
theorem JP{mk:Mks}(hm:MkOk mk)(ps:List Rw)(es ls:List OT)(x:Sl):∀sp:Mks,(∀p∈sp,p∈mk) →
  compL (zZ 0) (fun _=>some true) (mkT (zU (zA (zW 0) (zA (methV 1 [11] bV (zW 1) (zA (zI 0) zM)) zM)))) [x,.v (otD (lnM ps mk es ls))] ((mkN sp).map D.str)=some (sp.map pairD)
 |[],_=>by simp[compL,mkN]
 | p :: sp, h => by
   have ih:=JP hm ps es ls x sp fun q hq=>h q (aP _ hq);have w:=aAw hm (h p aV) ps es ls;have fl:flat (oi p.2)=true:=by cases p.2<;>rfl
   generalize otD (lnM ps mk es ls)=L at *;have e0:(mkN (p::sp)).map D.str=.str (txS p.1)::(mkN sp).map D.str:=rfl;rw[e0,compL];have e1:zZ 0 (.str (txS p.1)) [x,.v L]=some [.v (.str (txS p.1)),.v L]:=by simp
   have e2:mkT (zU (zA (zW 0) (zA (methV 1 [11] bV (zW 1) (zA (zI 0) zM)) zM))) [.v (.str (txS p.1)),.v L]=some (pairD p):=by simp[methV,w,retV,pairD]
   rw[e1];simp only[aQ,if_true,e2,ih,cR,bI]
theorem look_eq{mk:Mks}(hm:MkOk mk)(hl:mk.length<64)(ps:List Rw)(es ls:List OT):bP [otD (lnM ps mk es ls)]=some (.obj (lookT ps mk)):=by
 obtain⟨h1,h2,h3⟩:=EH mk;have t:=toldM ps mk es ls;have m:=aDu hl ps es ls;rw[h3] at m;have c:=JP hm ps es ls .no (sps mk) h1;have fl:=KC ps mk;have fr:=yD ps
 have cg:compG (viaA (methV 0 [11] bQ (zW 0) zM) asLT) [none,some 0] (zZ 0) (fun _=>some true) (mkT (zU (zA (zW 0) (zA (methV 1 [11] bV (zW 1) (zA (zI 0) zM)) zM)))) [.v (otD (lnM ps mk es ls))]=some ((sps mk).map pairD):=by
  refine yM (items:=(mkN (sps mk)).map D.str) ?_ (by simp[mkN];omega) ?_
  . generalize otD (lnM ps mk es ls)=L at *;simp[viaA,methV,m,retV,asLT]
  . exact c
 unfold bP runG oZ;generalize otD (lnM ps mk es ls)=L at *
 have e:retBG (tO (consO (lO (methF 0 [11] fG (zW 0) zM)) (consO (lO (compG (viaA (methV 0 [11] bQ (zW 0) zM) asLT) [none,some 0] (zZ 0) (fun _=>some true) (mkT (zU (zA (zW 0) (zA (methV 1 [11] bV (zW 1) (zA (zI 0) zM)) zM)))))) nilO))) (args 1 [L])=some (.rt (.obj (lookT ps mk))):=by
  have a1:args 1 [L]=[.v L]:=rfl;rw[a1];unfold retBG tO consO lO nilO;simp[cg,methF,t,retF];rw[show(OT.tup [.lst (ps.map (OT.val ∘ rwD)),.lst ((sps mk).map (OT.val ∘ pairD))])=lookT ps mk by unfold lookT;simp only[fI]];exact⟨fl,rfl⟩
 rw[e]
theorem look_at{ds:List Sl}{i:Nat}{r:Option Nat}{ps:List Rw}{mk:Mks}{es ls:List OT}(h:ds[i]?=some (.ob r (lnM ps mk es ls)))(hm:MkOk mk)(hl:mk.length<64) :
  ofO (relGO i (callO 1 bP (zA (zI i) zM))) ds=some (lookD ps mk):=by
 have le:=look_eq hm hl ps es ls;have fl:=KC ps mk;have hi:i<ds.length:=(aT.mp h).1;have e1:relO i ds=ds.set i (.v (otD (lnM ps mk es ls))):=by unfold relO;rw[h]
 have e2:zI i (ds.set i (.v (otD (lnM ps mk es ls))))=some (otD (lnM ps mk es ls)):=by
  unfold zI;rw[aK hi]
 have e3:callO 1 bP (zA (zI i) zM) (ds.set i (.v (otD (lnM ps mk es ls))))=some (lookT ps mk):=by
  have ea:zA (zI i) zM (ds.set i (.v (otD (lnM ps mk es ls))))=some [otD (lnM ps mk es ls)]:=by
   unfold zA;rw[e2];rfl
  unfold callO;rw[ea];simp[le,retO]
 unfold ofO relGO;rw[e1,e3];simp[fl,aDd]
theorem aDx(rs:List R3)(r:R3):lnM (psR (rs++[r]) []) (mkR (rs++[r]) []) (erl rs [] rs.length++[stM (psR rs []) (mkR rs [])]) []=lnR (rs++[r]) [] (rs.length+1):=by
 have t1:(rs++[r]).take (rs.length+1)=rs++[r]:=kO (by simp);have ti:∀i,i<=rs.length->(rs++[r]).take i=rs.take i:=fun i hi=>DD hi
 have e1:erl (rs++[r]) [] rs.length=erl rs [] rs.length:=by
  unfold erl;refine iF fun i hi=>?_;rw[ti i (BO (HH.mp hi))]
 have e2:ltr (rs++[r]) [] (rs.length+1)=[]:=by
  unfold ltr;rw[show(rs++[r]).length-(rs.length+1)=0 by simp];rfl
 unfold lnR;rw[t1,GO,e1,e2,ti rs.length (aY _),CF]
theorem aDy(rs:List R3):lnR rs [] rs.length=lnM (psR rs []) (mkR rs []) (erl rs [] rs.length) []:=by
 unfold lnR ltr;rw[CF,Nat.sub_self];rfl
theorem ps_ok4{rs:List R3}(h:∀r∈rs,okR3' r)(hl:rs.length<=100):MapF (psR rs [])/\(psR rs []).length<=50000:=by
 have m:MapF ([]:List Rw):=MapF.nil;have dk:∀d∈(pH rs).reverse,okD d:=fun d hd=>ZA h d (lN.mp hd);rw[LQ];refine⟨EE _ dk m,?_⟩;have h1:=NJ _ dk m
 have h2:∀l:List R3,(pH l).length<=l.length:=fun l=>by
  induction l with
  |nil=>exact aY _
  |cons r l ih=>cases r<;>simp[pH]<;>omega
 have:=h2 rs;rw[eE] at h1;simp only[eG] at h1;omega
theorem QA(rs:List R3)(k:Nat):(erl rs [] k).length=k:=by simp[erl]
theorem YA{rs:List R3}(h:∀r∈rs,okR3' r)(hl:rs.length<=100){nm:List Nat}(hn:Nm nm)(pl:Int) :
  dC (lnR rs [] rs.length) [.str (txS nm),.int pl]=some (lnR (rs++[.mark nm pl]) [] (rs.length+1)):=by
 have ml:=kF rs [];simp only[eG] at ml;have es:(erl rs [] rs.length).length<sizeLine:=by rw[QA];exact dX hl (by decide)
 have mm:=markM hn (ps:=psR rs []) (mk:=mkR rs []) (es:=erl rs [] rs.length) (ls:=[]) (some pl) es (dX (show(mkR rs []).length<=1000 by omega) (by decide));have ln:=aDx rs (.mark nm pl);rw[OE,OQ] at ln;simp only at ln;rw[ln,<- aDy] at mm;exact mm
theorem do_step{rs:List R3}(h:∀r∈rs,okR3' r)(hl:rs.length<=100){d:Dd}(hd:okD d) :
  fW (lnR rs [] rs.length) [insD d]=some (lnR (rs++[.deed d]) [] (rs.length+1)):=by
 have ml:=kF rs [];simp only[eG] at ml;obtain⟨pm,pl2⟩:=ps_ok4 h hl;have mo:=LZ rs h MkOk.nil;have es:(erl rs [] rs.length).length<sizeLine:=by rw[QA];exact dX hl (by decide)
 have dm:=doM hd pm pl2 mo (es:=erl rs [] rs.length) (ls:=[]) es (dA (show(mkR rs []).length<=1000 by omega) (by decide));have ln:=aDx rs (.deed d);rw[OE,OQ] at ln;simp only at ln;rw[ln,<- aDy] at dm;exact dm
noncomputable def lk(rs:List R3)(i:Nat):D:=lookD (psR (rs.take i) []) (mkR (rs.take i) [])
theorem AS{rs:List R3}(h:∀r∈rs,okR3' r)(hl:rs.length<=50)(i:Nat):MkOk (mkR (rs.take i) [])/\(mkR (rs.take i) []).length<64:=by
 have ml:=kF (rs.take i) [];rw[CG] at ml;simp only[eG] at ml;exact⟨LZ _ (fun r hr=>h r (sG hr)) MkOk.nil,by omega⟩
theorem wE{rs:List R3}(h:∀r∈rs,okR3' r)(hl:rs.length<=50)(k:Nat){ds:List Sl}{i:Nat}{r:Option Nat}(hd:ds[i]?=some (.ob r (lnR rs [] k))) :
  ofO (relGO i (callO 1 bP (zA (zI i) zM))) ds=some (lk rs k):=by
 obtain⟨h1,h2⟩:=AS h hl k;exact look_at (es:=erl rs [] k) (ls:=ltr rs [] k) hd h1 h2
theorem lk_snoc(rs:List R3)(r:R3){i:Nat}(h:i<=rs.length):lk (rs++[r]) i=lk rs i:=by
 unfold lk;rw[DD h]
theorem xO{rs:List R3}(h:∀r∈rs,okR3' r)(hl:rs.length<=10)(ns:List Int)(sd:Int)(L:List D)(hL:L.length<=100)(x5 x6 x7:Sl) :
  ∃(r:R3) (y5 y6 y7:Sl),okR3' r/\dZ [.ob (some 0) (lnR rs [] rs.length),.v (.lst (ns.map D.int)),.v (.int sd),.own L,.v (.int (rs.length:Int)),x5,x6,x7] =
   some (.nx [.ob (some 0) (lnR (rs++[r]) [] (rs.length+1)),.v (.lst (ns.map D.int)),.v (.int sd),.own (L++[lk (rs++[r]) (rs.length+1)]),.v (.int (rs.length:Int)),y5,y6,y7]):=by
 have c1:∀j:Nat,cY [.lst (ns.map D.int),.int (j:Int)]=some (.val (.int (cel ns j))):=fun j=>MQ ns j;have ca:=c1 (1+3*rs.length);have cb:=c1 (2+3*rs.length);have cc:=c1 (3+3*rs.length);simp only[Int.natCast_add,Int.natCast_mul,ZV] at ca cb cc;have m3:mulD (.int 3) (.int (rs.length:Int))=some (.int (3*(rs.length:Int))):=DL (.of_left (vV (by decide)));generalize cel ns (1+3*rs.length)=a at *;generalize cel ns (2+3*rs.length)=b at *;generalize cel ns (3+3*rs.length)=c at *;obtain⟨d,hd,ed⟩:=row2_ex (a/2) b c [] (by simp);obtain⟨nm,hnm,enm⟩:=name_ex sd b;obtain⟨pl,epl⟩:=JI c [] (by simp);simp only[nF] at ed epl;have ma:=aDw d hd;have zl:L.length<16777216:=by omega
 obtain⟨U,hU⟩:∃U,lnR rs [] rs.length=.ins 11 U:=⟨_,rfl⟩
 have key:∀r:R3,okR3' r->∀ds:List Sl,ds[0]?=some (.ob (some 0) (lnR (rs++[r]) [] (rs.length+1)))->ofO (relGO 0 (callO 1 bP (zA (zI 0) zM))) ds=some (lk (rs++[r]) (rs.length+1)):=fun r hr ds hds =>
  wE (fun x hx=>(cA.mp hx).elim (h x) fun z=>by rw[aR.mp z];exact hr) (by simp;omega) _ hds
 by_cases hc:a%2=(rs.length:Int)/2%2
 . refine ⟨.mark nm pl, .v (.int a), .v (.int b), .v (.int c), hnm, ?_⟩;have ms:=YA h (by omega) hnm pl;have k:=key (.mark nm pl) hnm;rw [hU] at ms ⊢;generalize lnR (rs++[.mark nm pl]) [] (rs.length+1)=L' at *;generalize lk (rs++[.mark nm pl]) (rs.length+1)=LK at *;unfold dZ;generalize ns.map D.int=N at *
   rw[qE (ds':=[.ob (some 0) (.ins 11 U),.v (.lst N),.v (.int sd),.own L,.v (.int (rs.length:Int)),.v (.int a),x6,x7]) (by simp[m3,ca]),
    qE (ds':=[.ob (some 0) (.ins 11 U),.v (.lst N),.v (.int sd),.own L,.v (.int (rs.length:Int)),.v (.int a),.v (.int b),x7]) (by simp[m3,cb]),
    qE (ds':=[.ob (some 0) (.ins 11 U),.v (.lst N),.v (.int sd),.own L,.v (.int (rs.length:Int)),.v (.int a),.v (.int b),.v (.int c)]) (by simp[m3,cc]),
    qE (ds':=[.ob (some 0) L',.v (.lst N),.v (.int sd),.own L,.v (.int (rs.length:Int)),.v (.int a),.v (.int b),.v (.int c)]) (by simp[hc,lentG,varP,enm,epl,ms,putP,putO])]
   have kk:=k [.ob (some 0) L',.v (.lst N),.v (.int sd),.own L,.v (.int (rs.length:Int)),.v (.int a),.v (.int b),.v (.int c)] rfl;generalize ofO (relGO 0 (callO 1 bP (zA (zI 0) zM)))=G at *;simp[kk,zl]
 . refine ⟨.deed d, .v (.int a), .v (.int b), .v (.int c), hd, ?_⟩;have ms:=do_step h (by omega) hd;have k:=key (.deed d) hd;rw [hU] at ms ⊢;generalize lnR (rs++[.deed d]) [] (rs.length+1)=L' at *;generalize lk (rs++[.deed d]) (rs.length+1)=LK at *;unfold dZ;generalize ns.map D.int=N at *;generalize told3 d=TD at *;generalize insD d=ID at *
   rw[qE (ds':=[.ob (some 0) (.ins 11 U),.v (.lst N),.v (.int sd),.own L,.v (.int (rs.length:Int)),.v (.int a),x6,x7]) (by simp[m3,ca]),
    qE (ds':=[.ob (some 0) (.ins 11 U),.v (.lst N),.v (.int sd),.own L,.v (.int (rs.length:Int)),.v (.int a),.v (.int b),x7]) (by simp[m3,cb]),
    qE (ds':=[.ob (some 0) (.ins 11 U),.v (.lst N),.v (.int sd),.own L,.v (.int (rs.length:Int)),.v (.int a),.v (.int b),.v (.int c)]) (by simp[m3,cc]),
    qE (ds':=[.ob (some 0) L',.v (.lst N),.v (.int sd),.own L,.v (.int (rs.length:Int)),.v (.int a),.v (.int b),.v (.int c)]) (by simp[hc,lentG,varP,ed,ma,ms,putP,putO])]
   have kk:=k [.ob (some 0) L',.v (.lst N),.v (.int sd),.own L,.v (.int (rs.length:Int)),.v (.int a),.v (.int b),.v (.int c)] rfl;generalize ofO (relGO 0 (callO 1 bP (zA (zI 0) zM)))=G at *;simp[kk,zl]
theorem rng4(ds:List Sl):rng1 (zB (.int 4)) ds=some ([0,1,2,3].map D.int):=by
 have ok:okR 4:=wZ (by omega) (by omega);simp[rng1,ok];rfl
theorem aFo(ns:List Int):∃rs:List R3,(∀r∈rs,okR3' r)/\rs.length=4/\iE (lnR [] [] 0) [.non,.lst (ns.map D.int)]=some (.lst (2:),lnR rs [] 4):=by
 have c0:cY [.lst (ns.map D.int),.int 0]=some (.val (.int (cel ns 0))):=MQ ns 0;generalize cel ns 0=sd at *;obtain⟨r0,a5,a6,a7,h0,t0⟩:=xO (rs:=[]) (fun _ h=>nomatch h) (by simp) ns sd [lk [] 0] (by simp) .no .no .no;have k0:∀r∈[r0],okR3' r:=fun r hr=>by rw[aR.mp hr];exact h0
 obtain⟨r1,b5,b6,b7,h1,t1⟩:=xO (rs:=[r0]) k0 (by simp) ns sd ([lk [] 0]++[lk [r0] 1]) (by simp) a5 a6 a7
 have k1:∀r∈[r0,r1],okR3' r:=fun r hr=>by
  rcases aE.mp hr with rfl | hr
  . exact h0
  . rw[aR.mp hr];exact h1
 obtain⟨r2,c5,c6,c7,h2,t2⟩:=xO (rs:=[r0,r1]) k1 (by simp) ns sd ([lk [] 0]++[lk [r0] 1]++[lk [r0,r1] 2]) (by simp) b5 b6 b7
 have k2:∀r∈[r0,r1,r2],okR3' r:=fun r hr=>by
  rcases aE.mp hr with rfl | hr
  . exact h0
  . rcases aE.mp hr with rfl | hr
    . exact h1
    . rw[aR.mp hr];exact h2
 obtain⟨r3,d5,d6,d7,h3,t3⟩:=xO (rs:=[r0,r1,r2]) k2 (by simp) ns sd ([lk [] 0]++[lk [r0] 1]++[lk [r0,r1] 2]++[lk [r0,r1,r2] 3]) (by simp) c5 c6 c7
 have k3:∀r∈[r0,r1,r2,r3],okR3' r:=fun r hr=>by
  rcases aE.mp hr with rfl | hr
  . exact h0
  . exact(aE.mp hr).elim (fun e=>by rw[e];exact h1) fun hr=>(aE.mp hr).elim (fun e=>by rw[e];exact h2) fun hr=>by rw[aR.mp hr];exact h3
 refine⟨[r0,r1,r2,r3],k3,rfl,?_⟩;have e0:dZ [.ob (some 0) (lnR [] [] 0),.v (.lst (ns.map D.int)),.v (.int sd),.own [lk [] 0],.v (.int 0),.no,.no,.no]=some (.nx [.ob (some 0) (lnR [r0] [] 1),.v (.lst (ns.map D.int)),.v (.int sd),.own [lk [] 0,lk [r0] 1],.v (.int 0),a5,a6,a7]):=t0;have e1:dZ [.ob (some 0) (lnR [r0] [] 1),.v (.lst (ns.map D.int)),.v (.int sd),.own [lk [] 0,lk [r0] 1],.v (.int 1),a5,a6,a7]=some (.nx [.ob (some 0) (lnR [r0,r1] [] 2),.v (.lst (ns.map D.int)),.v (.int sd),.own [lk [] 0,lk [r0] 1,lk [r0,r1] 2],.v (.int 1),b5,b6,b7]):=t1;have e2:dZ [.ob (some 0) (lnR [r0,r1] [] 2),.v (.lst (ns.map D.int)),.v (.int sd),.own [lk [] 0,lk [r0] 1,lk [r0,r1] 2],.v (.int 2),b5,b6,b7]=some (.nx [.ob (some 0) (lnR [r0,r1,r2] [] 3),.v (.lst (ns.map D.int)),.v (.int sd),.own [lk [] 0,lk [r0] 1,lk [r0,r1] 2,lk [r0,r1,r2] 3],.v (.int 2),c5,c6,c7]):=t2;have e3:dZ [.ob (some 0) (lnR [r0,r1,r2] [] 3),.v (.lst (ns.map D.int)),.v (.int sd),.own [lk [] 0,lk [r0] 1,lk [r0,r1] 2,lk [r0,r1,r2] 3],.v (.int 3),c5,c6,c7]=some (.nx [.ob (some 0) (lnR [r0,r1,r2,r3] [] 4),.v (.lst (ns.map D.int)),.v (.int sd),.own [lk [] 0,lk [r0] 1,lk [r0,r1] 2,lk [r0,r1,r2] 3,lk [r0,r1,r2,r3] 4],.v (.int 3),d5,d6,d7]):=t3;have q0:lk [] 0=lk [r0,r1,r2,r3] 0:=rfl;have q1:lk [r0] 1=lk [r0,r1,r2,r3] 1:=rfl;have q2:lk [r0,r1] 2=lk [r0,r1,r2,r3] 2:=rfl;have q3:lk [r0,r1,r2] 3=lk [r0,r1,r2,r3] 3:=rfl;have lk0:=wE (rs:=[]) (fun _ h=>nomatch h) (by simp) 0 (ds:=[.ob (some 0) (lnR [] [] 0),.v (.lst (ns.map D.int)),.v (.int sd),.no,.no,.no,.no,.no]) (i:=0) (r:=some 0) rfl;rw[<- q0,<- q1,<- q2,<- q3];clear t0 t1 t2 t3 q0 q1 q2 q3;generalize lk [r0,r1,r2,r3] 4=K4 at *;generalize lk [r0,r1,r2] 3=K3 at *;generalize lk [r0,r1] 2=K2 at *;generalize lk [r0] 1=K1 at *;generalize lk [] 0=K0 at *;generalize lnR [r0,r1,r2,r3] [] 4=T4 at *;generalize lnR [r0,r1,r2] [] 3=T3 at *;generalize lnR [r0,r1] [] 2=T2 at *;generalize lnR [r0] [] 1=T1 at *;generalize lnR [] [] 0=T0 at *;generalize ns.map D.int=N at *;unfold iE lentR nY;have a1:(args 8 [.non,.lst N]).set 0 (.ob (some 0) T0)=[.ob (some 0) T0,.v (.lst N),.no,.no,.no,.no,.no,.no]:=rfl;rw[a1];have s1:jY 2 (qC 2 cY (zA (zI 1) (zA (zB (.int 0)) zM))) [.ob (some 0) T0,.v (.lst N),.no,.no,.no,.no,.no,.no]=some (.nx [.ob (some 0) T0,.v (.lst N),.v (.int sd),.no,.no,.no,.no,.no]):=by simp[c0]
 have s2:setOG 3 (zU (zA (ofO (relGO 0 (callO 1 bP (zA (zI 0) zM)))) zM)) [.ob (some 0) T0,.v (.lst N),.v (.int sd),.no,.no,.no,.no,.no]=some (.nx [.ob (some 0) T0,.v (.lst N),.v (.int sd),.own [K0],.no,.no,.no,.no]):=by
  generalize ofO (relGO 0 (callO 1 bP (zA (zI 0) zM)))=G at *;simp[lk0]
 have s3:forG (rng1 (zB (.int 4))) (zZ 4) dZ [.ob (some 0) T0,.v (.lst N),.v (.int sd),.own [K0],.no,.no,.no,.no]=some (.nx [.ob (some 0) T4,.v (.lst N),.v (.int sd),.own [K0,K1,K2,K3,K4],.v (.int 3),d5,d6,d7]):=by
  rw[forG_eq,rng4];simp[jI,e0,e1,e2,e3]
 unfold seqR;rw[s1];simp only[aQ];rw[s2];simp only[aQ];rw[s3];simp[relR,relS,vR,obAt]
theorem KQ{rs:List R3}(hl:rs.length<=50){k:Nat}(h:k<rs.length){ds:List Sl}{i:Nat}{r:Option Nat}(hd:ds[i]?=some (.ob r (lnR rs [] (k+1)))) :
  lentG 0 [11] (fun _=>dM) (varP i) zM ds=some (.nx (ds.set i (.ob r (lnR rs [] k)))):=by
 have b:=backR rs [] h (by omega);obtain⟨U,hU⟩:∃U,lnR rs [] (k+1)=.ins 11 U:=⟨_,rfl⟩
 rw[hU] at b hd;generalize lnR rs [] k=L' at *;unfold lentG varP;simp[hd,b,putP,putO]
theorem TJ{rs:List R3}(hl:rs.length<=50){k:Nat}(h:k<rs.length){ds:List Sl}{i:Nat}{r:Option Nat}(hd:ds[i]?=some (.ob r (lnR rs [] k))) :
  lentG 0 [11] (fun _=>dS) (varP i) zM ds=some (.nx (ds.set i (.ob r (lnR rs [] (k+1))))):=by
 have b:=againR rs [] h (by omega);obtain⟨U,hU⟩:∃U,lnR rs [] k=.ins 11 U:=⟨_,rfl⟩
 rw[hU] at b hd;generalize lnR rs [] (k+1)=L' at *;unfold lentG varP;simp[hd,b,putP,putO]
theorem QN{rs:List R3}(hl:rs.length<=50)(N LK nw x5 x6 x7 x8 x9:Sl):∀(items:List D) (k:Nat) (x:Sl),k+items.length<=rs.length →
  ∃y,jI (zZ 4) sX items [N,.ob none (lnR rs [] (k+items.length)),LK,nw,x,x5,x6,x7,x8,x9]=some (.nx [N,.ob none (lnR rs [] k),LK,nw,y,x5,x6,x7,x8,x9])
 |[],k,x,_=>⟨x,rfl⟩
 | d :: items, k, x, h => by
   simp only[aM] at h;obtain⟨y,ih⟩:=QN hl N LK nw x5 x6 x7 x8 x9 items k (.v d) (by omega);refine⟨y,?_⟩;have t:=KQ hl (k:=k+items.length) (by omega) (ds:=[N,.ob none (lnR rs [] (k+items.length+1)),LK,nw,.v d,x5,x6,x7,x8,x9]) (i:=1) (r:=none) rfl;have e:k+(d::items).length=k+items.length+1:=by simp only[aM];omega
   rw[e,jI];unfold sX at ih ⊢;simp only[wO,aQ,nQ,nP] at t ⊢;rw[t];exact ih
theorem GX{rs:List R3}(hl:rs.length<=50)(LK nw:Sl):∀(items:List D) (k:Nat) (x:Sl),k+items.length<=rs.length →
  ∃y,jI (zZ 3) gN items [.ob (some 0) (lnR rs [] (k+items.length)),LK,nw,x]=some (.nx [.ob (some 0) (lnR rs [] k),LK,nw,y])
 |[],k,x,_=>⟨x,rfl⟩
 | d :: items, k, x, h => by
   simp only[aM] at h;obtain⟨y,ih⟩:=GX hl LK nw items k (.v d) (by omega);refine⟨y,?_⟩;have t:=KQ hl (k:=k+items.length) (by omega) (ds:=[.ob (some 0) (lnR rs [] (k+items.length+1)),LK,nw,.v d]) (i:=0) (r:=some 0) rfl;have e:k+(d::items).length=k+items.length+1:=by simp only[aM];omega
   rw[e,jI];unfold gN at ih ⊢;simp only[wO,aQ,nQ,nP] at t ⊢;rw[t];exact ih
theorem LA{mk:Mks}(hm:MkOk mk):∀p∈sps mk,PyData.strOk (txS p.1)=true:=fun p hp=>by
 have:=UA (hm.nm p ((EH mk).1 p hp)).2.2.asc 40;simpa[shal] using this
theorem wC(n:Nat){l:Mks}(h:∀p∈l,PyData.strOk (txS p.1)=true):shals (n+2) (l.map pairD)=true:=kH fun d hd=>by
 obtain⟨p,hp,rfl⟩:=cM.mp hd;have:=h p hp;unfold pairD;cases p.2<;>simp[shal,shals,this]
theorem wH(ps:List Rw){mk:Mks}(hm:MkOk mk):shal 40 (lookD ps mk)=true:=by
 have h1:shals 39 (ps.map rwD)=true:=aBg 37 ps;have h2:shals 39 ((sps mk).map pairD)=true:=wC 37 (LA hm);unfold lookD;simp[shal,shals,h1,h2]
theorem aEq(p:List Nat×Option Int):eqvD (pairD p) (pairD p)=true:=by
 unfold pairD;cases p.2<;>simp[eqvD,toPy,toPys,PyData.eqv,PyData.eqvAll]
theorem GQ:∀l:Mks,eqvs (l.map pairD) (l.map pairD)=true
 |[]=>rfl
 |p::l=>by rw[bI,BE,aEq,GQ l];rfl
theorem QB(ps:List Rw)(mk:Mks):eqvD (lookD ps mk) (lookD ps mk)=true:=by
 have h1:=VJ ps ps;have h2:=GQ (sps mk);simp only[decide_true] at h1;unfold lookD;simp only[eqvD,toPy,toPys,PyData.eqv,PyData.eqvAll,bU,Bool.and_true];exact⟨by rw[<- h1,<- wK];simp[eqvD,toPy,PyData.eqv],by rw[<- h2,<- wK];simp[eqvD,toPy,PyData.eqv]⟩
theorem ne_look(ps:List Rw){mk:Mks}(hm:MkOk mk):neD (lookD ps mk) (lookD ps mk)=some (.bl false):=by
 rw[FD (wH ps hm) (wH ps hm),QB];rfl
theorem eq_look(ps:List Rw){mk:Mks}(hm:MkOk mk):eqD (lookD ps mk) (lookD ps mk)=some (.bl true):=by
 rw[GR (wH ps hm) (wH ps hm),QB]
theorem UW{rs:List R3}(h:∀r∈rs,okR3' r)(hl:rs.length<=50)(i:Nat):neD (lk rs i) (lk rs i)=some (.bl false):=ne_look _ (AS h hl i).1
theorem eq_lk{rs:List R3}(h:∀r∈rs,okR3' r)(hl:rs.length<=50)(i:Nat):eqD (lk rs i) (lk rs i)=some (.bl true):=eq_look _ (AS h hl i).1
theorem LX(a:Int):neD (.lst [.int a,.int 12]) (.lst [.int a,.int 12])=some (.bl false):=by rw[FD (by simp[shal,shals]) (by simp[shal,shals])];simp
theorem aEr(a:Int):eqD (.lst [.int a,.int 12]) (.lst [.int a,.int 12])=some (.bl true):=by rw[GR (by simp[shal,shals]) (by simp[shal,shals])];simp
theorem AJ{ds:List Sl}{i:Nat}{r:Option Nat}{T:OT}{fw fd:FE}{w:Int}{d:D}{x:Int}(h:ds[i]?=some (.ob r T))(hi:i≠20)(hw:fw (ds.set i (.v (otD T)))=some (.int w))(hd:fd (ds.set i (.v (otD T)))=some d)(hf:aX [otD T,.int w,d]=some (.fresh [.int x,.int 12])):relFO i (jT 3 aX (zA (zI i) (zA fw (zA fd zM)))) ds=some [.int x,.int 12]:=by
 have hi:i<ds.length:=(aT.mp h).1;have e1:relO i ds=ds.set i (.v (otD T)):=by unfold relO;rw[h]
 have e2:zI i (ds.set i (.v (otD T)))=some (otD T):=by
  unfold zI;rw[aK hi]
 have ea:zA (zI i) (zA fw (zA fd zM)) (ds.set i (.v (otD T)))=some [otD T,.int w,d]:=by
  unfold zA;rw[e2,hw,hd];rfl
 unfold relFO;rw[e1]
 have e3:jT 3 aX (zA (zI i) (zA fw (zA fd zM))) (ds.set i (.v (otD T)))=some [.int x,.int 12]:=by
  generalize hG:zA (zI i) (zA fw (zA fd zM))=G at *;simp[ea,hf,retF]
 rw[e3];rfl
theorem AR(rs:List R3)(k:Nat):otD (lnR rs [] k)=.ins 11 [.lst ((psR (rs.take k) []).map rwD),mkD (mkR (rs.take k) []),.lst (otDs (erl rs [] k)),.lst (otDs (ltr rs [] k))]:=ON _ _ _ _
theorem GY{rs:List R3}(h:∀r∈rs,okR3' r)(hl:rs.length<=50)(LK nw:Sl):∀(n k:Nat) (x:Sl),k+n=rs.length →
  ∃y,jI (zZ 3) fL ((List.range' (k+1) n).map (lk rs)) [.ob (some 0) (lnR rs [] k),LK,nw,x]=some (.nx [.ob (some 0) (lnR rs [] rs.length),LK,nw,y])
 |0,k,x,e=>⟨x,by rw[show k=rs.length by omega];rfl⟩
 | n + 1, k, x, e => by
   obtain⟨y,ih⟩:=GY h hl LK nw n (k+1) (.v (lk rs (k+1))) (by omega);refine⟨y,?_⟩;have t:=TJ hl (k:=k) (by omega) (ds:=[.ob (some 0) (lnR rs [] k),LK,nw,.v (lk rs (k+1))]) (i:=0) (r:=some 0) rfl;have l:=wE h hl (k+1) (ds:=[.ob (some 0) (lnR rs [] (k+1)),LK,nw,.v (lk rs (k+1))]) (i:=0) (r:=some 0) rfl;have ne:=UW h hl (k+1)
   have turn:fL [.ob (some 0) (lnR rs [] k),LK,nw,.v (lk rs (k+1))]=some (.nx [.ob (some 0) (lnR rs [] (k+1)),LK,nw,.v (lk rs (k+1))]):=by
    unfold fL;rw[qE (ds':=[.ob (some 0) (lnR rs [] (k+1)),LK,nw,.v (lk rs (k+1))]) (by rw[t];rfl)];generalize lk rs (k+1)=V at *;generalize lnR rs [] (k+1)=L' at *;generalize ofO (relGO 0 (callO 1 bP (zA (zI 0) zM)))=G at *;simp[l,ne]
   rw[List.range'_succ,bI,jI];simp only[wO,aQ,nQ,nP,turn];exact ih
theorem kA(rs:List R3){j:Nat}(hj:j<=4):FL.cutD (2:) (some ((j:Int)+1)) none=(List.range' (j+1) (4-j)).map (lk rs):=by
 have e:=ZD (2:) (j+1);simp only[Int.natCast_add,ZV] at e;rw[show((j:Int)+1)=(j:Int)+((1:Nat):Int) from rfl] at *;rw[e];rcases(by omega:j=0\/j=1\/j=2\/j=3\/j=4) with rfl | rfl | rfl | rfl | rfl<;>rfl
theorem ltr_end(rs:List R3):ltr rs [] rs.length=[]:=by unfold ltr;rw[Nat.sub_self];rfl
theorem aBq{rs:List R3}(d:D):aX [otD (lnR rs [] rs.length),.int 3,d]=some (.fresh [.int 2,.int 12]):=by
 rw[AR,ltr_end];exact NQ _ _ _ _
theorem RO{rs:List R3}(d:D):aX [otD (lnR rs [] 0),.int 2,d]=some (.fresh [.int 2,.int 12]):=by
 rw[AR];exact aBn _ _ _ _
theorem MX{rs:List R3}(h:∀r∈rs,okR3' r)(h4:rs.length=4){j:Nat}(hj:j<=4) :
  fU (lnR rs [] j) [.non,.lst (2:),.int (j:Int)]=some (.bl true,lnR rs [] 0):=by
 have hl:rs.length<=50:=by omega
 have c1:=kA rs hj;have c2:=kA rs (j:=0) (by omega);obtain⟨y,e1⟩:=GY h hl (.v (.lst (2:))) (.v (.int (j:Int))) (4-j) j .no (by omega);obtain⟨z,e2⟩:=GX hl (.v (.lst (2:))) (.v (.int (j:Int))) ((List.range' 1 4).map (lk rs)) 0 y (by simp[h4]);have l4:=wE h hl 4 (ds:=[.ob (some 0) (lnR rs [] 4),.v (.lst (2:)),.v (.int (j:Int)),y]) (i:=0) (r:=some 0) rfl;have l0:=wE h hl 0 (ds:=[.ob (some 0) (lnR rs [] 0),.v (.lst (2:)),.v (.int (j:Int)),z]) (i:=0) (r:=some 0) rfl;have n4:=UW h hl 4;have q0:=eq_lk h hl 0;have r3:=AJ (ds:=[.ob (some 0) (lnR rs [] 4),.v (.lst (2:)),.v (.int (j:Int)),y]) (i:=0) (r:=some 0) (fw:=zB (.int 3)) (fd:=zB (.str "")) rfl (by decide) rfl rfl (by have:=aBq (rs:=rs) (.str "");rw[h4] at this;exact this);have r2:=AJ (ds:=[.ob (some 0) (lnR rs [] 0),.v (.lst (2:)),.v (.int (j:Int)),z]) (i:=0) (r:=some 0) (fw:=zB (.int 2)) (fd:=zB (.str "")) rfl (by decide) rfl rfl (RO _);rw[h4] at e1;simp only[bO,List.length_range',Nat.zero_add] at e2;have ne2:=LX 2;have eq2:=aEr 2;unfold fU lentR iR;have a1:(args 4 [.non,.lst (2:),.int (j:Int)]).set 0 (.ob (some 0) (lnR rs [] j))=[.ob (some 0) (lnR rs [] j),.v (.lst (2:)),.v (.int (j:Int)),.no]:=rfl;rw[a1];simp only[Nat.sub_zero,Nat.zero_add,Int.natCast_zero,Int.zero_add] at c2;generalize hLL:[lk rs 0,lk rs 1,lk rs 2,lk rs 3,lk rs 4]=LL at *;have i4:ixD (.lst LL) (.int (-1))=some (lk rs 4):=by rw[<- hLL];rfl
 have i0:ixD (.lst LL) (.int 0)=some (lk rs 0):=by rw[<- hLL];rfl
 have s1:forG (viaA (mkL (sliA (zI 1) (soP (zJ yP (zI 2) (zB (.int 1)))) noP)) asLT) (zZ 3) fL [.ob (some 0) (lnR rs [] j),.v (.lst LL),.v (.int (j:Int)),.no]=some (.nx [.ob (some 0) (lnR rs [] 4),.v (.lst LL),.v (.int (j:Int)),y]):=by
  generalize (List.range' (j+1) (4-j)).map (lk rs)=IT at *;simp[viaA,c1,e1,asLT]
 have s2:forG (viaA (mkL (sliA (zI 1) (soP (zB (.int 1))) noP)) asLT) (zZ 3) gN [.ob (some 0) (lnR rs [] 4),.v (.lst LL),.v (.int (j:Int)),y]=some (.nx [.ob (some 0) (lnR rs [] 0),.v (.lst LL),.v (.int (j:Int)),z]):=by
  generalize (List.range' 1 4).map (lk rs)=IT at *;simp[viaA,c2,e2,asLT]
 unfold seqR ifR;rw[s1];simp only[aQ];generalize lk rs 4=K4 at *;generalize lk rs 0=K0 at *;generalize lnR rs [] 4=T4 at *;generalize lnR rs [] 0=T0 at *;generalize ofO (relGO 0 (callO 1 bP (zA (zI 0) zM)))=G at *;generalize relFO 0 (jT 3 aX (zA (zI 0) (zA (zB (.int 3)) (zA (zB (.str "")) zM))))=G3 at *;generalize relFO 0 (jT 3 aX (zA (zI 0) (zA (zB (.int 2)) (zA (zB (.str "")) zM))))=G2 at *
 have tt:(orT (zT (zJ neD (mkL G3) (mkL (zU (zA (zB (.int 2)) (zA (zB (.int 12)) zM)))))) (zT (zJ neD G (zJ ixD (zI 1) (un1 negD (zB (.int 1))))))) [.ob (some 0) T4,.v (.lst LL),.v (.int (j:Int)),y]=some false:=by
  simp[r3,ne2,l4,i4,n4]
 rw[tt];simp only[aQ,WH,if_false];rw[s2];simp[vR,r2,eq2,l0,i0,q0,obAt]
theorem no_len{cs:List Nat}(h:cs.length=0\/8<cs.length)(hl:cs.length<=1000):bJ [.str (txS cs)]=some (.val (.bl false)):=by
 have lf:=MB cs (by omega);refine xW ?_;unfold eZ;have ar:args 1 [.str (txS cs)]=[.v (.str (txS cs))]:=by simp[args]
 rw[ar,qE (ds':=[.v (.str (txS cs))]) (by simp)];rcases h with h | h
 . have k1 : (cs.length : Int) < 1 := by omega
   exact RN (by simp[lf,k1])
 . have k1 : ¬ ((cs.length : Int) < 1) := by omega
   have k2:(8:Int)<(cs.length:Int):=by omega
   exact RN (by simp[lf,k1,k2])
theorem no_char{cs:List Nat}{c:Nat}(hc:c∈cs)(hn:c∉abcL)(h1:1<=cs.length)(h8:cs.length<=8):bJ [.str (txS cs)]=some (.val (.bl false)):=by
 have lf:=MB cs (by omega)
 have comp:compG (viaA (zW 0) asS) [none] (zZ 0) (fun _=>some true) (zJ inS (zI 0) (zB (.str (Str.ofString "abcdefghijklmnopqrstuvwxyz")))) [.v (.str (txS cs))]=some (cs.map fun c=>D.bl (decide (c∈abcL))):=by
  rw[aAz];refine yM (items:=cs.map fun c=>D.str (txS [c])) (by simp;rfl) (by simp;omega) ?_;rw[yT (fun c=>D.str (txS [c])) (fun c=>D.bl (decide (c∈abcL))) cs];intro c hc;have:=aEj abcL c;exact⟨_,rfl,by simp[jO,this]⟩
 have al:allD [.lst (cs.map fun c=>D.bl (decide (c∈abcL)))]=some (.bl false):=by
  have e:(cs.map fun c=>D.bl (decide (c∈abcL)))=(cs.map fun c=>decide (c∈abcL)).map D.bl:=by simp
  rw[e,QO]
  have:(cs.map fun c=>decide (c∈abcL)).all id=false:=by
   rw[ZX];intro z;have:=iB.mp z (decide (c∈abcL)) (cM.mpr ⟨c,hc,rfl⟩);simp[hn] at this
  rw[this]
 refine xW ?_;unfold eZ;have ar:args 1 [.str (txS cs)]=[.v (.str (txS cs))]:=by simp[args]
 have k1 : ¬((cs.length:Int)<1):=by omega
 have k2 : ¬((8:Int)<(cs.length:Int)):=by omega
 rw[ar,qE (ds':=[.v (.str (txS cs))]) (by simp),qE (ds':=[.v (.str (txS cs))]) (by simp[lf,k1,k2])];simp only[UE,QK,QG,UV,aDs,comp,cR,aQ,al,flatR];simp
theorem no_non:bJ [.non]=some (.val (.bl false)):=by unfold bJ runG eZ;simp[args]
theorem no_int(n:Int):bJ [.int n]=some (.val (.bl false)):=by unfold bJ runG eZ;simp[args]
theorem no_bl(b:Bool):bJ [.bl b]=some (.val (.bl false)):=by
 have e:isiD "str" (.bl b)=some (.bl false):=rfl;unfold bJ runG eZ;simp[args,e]
theorem no_tup(l:List D):bJ [.tup l]=some (.val (.bl false)):=by unfold bJ runG eZ;simp[args]
theorem aAt(n k:Int)(h1:0<=k)(h8:k<=100):∃cs:List Nat,(cs.length:Int)=k/\Ltr cs/\eN [.int n,.int k]=some (.val (.str (txS cs))):=by
 have hr:(iC 0 k.toNat).length=k.toNat:=by simp[iC]
 obtain⟨n',cs,y3,l,hL,e⟩:=kC (.v (.int k)) (iC 0 k.toNat) n [] .no (by rw[hr];simp;omega) (fun _ h=>nomatch h);have ok:okR k:=wZ (by omega) (by omega);refine⟨cs,by rw[hr] at l;simp at l;omega,hL,xW ?_⟩;unfold rY;rw[qE (ds':=[.v (.int n),.v (.int k),.v (.str (txS [])),.no]) (by simp[args,<- TY]),qE (ds':=[.v (.int n'),.v (.int k),.v (.str (txS cs)),y3]) (by simp[ok,e])];simp
noncomputable def othL:List Nat:=[32,33,34,35,36,38,39,40,41,42,43,44,45,46,47,48,49,50,51,52,53,54,55,56,57,58,59,60,61,62,63,64,65,66,67,68,69,70,71,72,73,74,75,76,77,78,79,80,81,82,83,84,85,86,87,88,89,90,91,92,93,94,95,96,123,124,125,126]
theorem t_oth:Str.ofString " !\"#$&'()*+,-./0123456789:;<=>?@ABCDEFGHIJKLMNOPQRSTUVWXYZ[\\]^_`{|}~" = txS othL:=by decide
theorem oth_ix(n:Int):∃c,c∉abcL/\ixD (.str (txS othL)) (.int (n%68))=some (.str (txS [c])):=by
 have h0:=dP n (show(68:Int)≠0 by decide);have h1:=dB n (show(0:Int)<68 by decide);generalize n%68=i at *
 have e:ixD (.str (txS othL)) (.int i)=(othL[i.toNat]?).map fun c=>D.str (txS [c]):=by
  show(if (txS othL).length<=sizeLine then (atI othL i).map fun c=>D.str ⟨#[c]⟩ else none)=_;rw[xH,if_pos (by decide)];unfold atI;rw[DP h0 (by show i<68;exact h1)];rfl
 rw[e];have hl:i.toNat<othL.length:=by show i.toNat<68;omega
 rw[cC hl];refine⟨othL[i.toNat],?_,rfl⟩;have:∀c∈othL,c∉abcL:=by decide
 exact this _ (CJ hl)
theorem RV(c:Int):∃cs:List Nat,bJ [.str (txS cs)]=some (.val (.bl false))/\gO [.int c]=some (.val (.str (txS cs))):=by
 have ar:args 5 [.int c]=[.v (.int c),.no,.no,.no,.no]:=by simp[args]
 have p0:=dP (c/96) (show(2:Int)≠0 by decide);have p1:=dB (c/96) (show(0:Int)<2 by decide);have q0:=dP (c/3) (show(32:Int)≠0 by decide);have q1:=dB (c/3) (show(0:Int)<32 by decide)
 obtain⟨k,hk,ek⟩:∃k:Int,(k=0\/k=9+c/3%32)/\ixD (.lst [.int 0,.int (9+c/3%32)]) (.int (c/96%2))=some (.int k):=by
  rcases(by omega:c/96%2=0\/c/96%2=1) with e | e<;>rw[e]
  . exact⟨0,.inl rfl,by simp⟩
  . exact⟨_,.inr rfl,by simp⟩
 by_cases h3:c%3=0
 . obtain⟨w, lw, _, ew⟩ := aAt (c/192) k (by omega) (by omega);refine⟨w,no_len (by omega) (by omega),xW ?_⟩;unfold iG;rw[ar,qE (ds':=[.v (.int c),.v (.int k),.no,.no,.no]) (by simp[ek])];exact RN (by simp[h3,ew])
 . have z0 := dP (c / 3) (show (8 : Int) ≠ 0 by decide);have z1:=dB (c / 3) (show (0:Int) < 8 by decide);obtain ⟨w,lw,hw,ew⟩:=tT (c / 192) (1+c / 3 % 8) (by omega) (by omega);have m0:=dP (c / 24) (show (1+c / 3 % 8:Int)≠0 by omega);have m1:=dB (c / 24) (show (0:Int) < 1+c / 3 % 8 by omega);have r1:=yN (c / 24) (show (0:Int) < 1+c / 3 % 8 by omega);generalize hs:1+c / 3 % 8=sz at *;generalize c / 24 % sz=a at *;obtain ⟨n,rfl⟩:∃ n:Nat,a=(n:Int):=⟨a.toNat,by omega⟩
   obtain⟨g,hg,eg⟩:=oth_ix (c/192);have lw':w.length<=16777216:=by omega
   have lo:lenD [.str (txS othL)]=some (.int 68):=MB othL (by decide);have s1:=wG w (b:=n) (by omega);have hnn:((n+1:Nat):Int)=(n:Int)+1:=by omega
   have s2:=EI w (n+1);rw[hnn] at s2;have a1:=BJ (w.take n) [g] (by simp;omega);have a2:=BJ (w.take n++[g]) (w.drop (n+1)) (by simp;omega);refine⟨w.take n++[g]++w.drop (n+1),no_char (c:=g) (by simp) hg (by simp;omega) (by simp;omega),xW ?_⟩;unfold iG
   rw[t_oth,ar,qE (ds':=[.v (.int c),.v (.int k),.no,.no,.no]) (by simp[ek]),
    qE (ds':=[.v (.int c),.v (.int k),.no,.no,.no]) (by simp[h3]),
    qE (ds':=[.v (.int c),.v (.int sz),.no,.no,.no]) (by simp[hs]),
    qE (ds':=[.v (.int c),.v (.int sz),.v (.int (n:Int)),.no,.no]) (by simp[r1]),
    qE (ds':=[.v (.int c),.v (.int sz),.v (.int (n:Int)),.v (.str (txS w)),.no]) (by simp[ew]),
    qE (ds':=[.v (.int c),.v (.int sz),.v (.int (n:Int)),.v (.str (txS w)),.v (.str (txS othL))]) (by simp)]
   simp[slsS,soP,noP,xH,lw',s1,s2,a1,a2,lo,eg]
theorem aAv{d:D}(h:bJ [d]=some (.val (.bl false)))(P M E L:D):bY [.ins 11 [P,M,E,L],d]=true:=by
 unfold bY runX eP ifX;simp[args,h,retV,lM]
theorem RH{n:List Nat}(hn:Nm n){mk:Mks}(h:n∉mk.map (·.1))(P E L:D):bY [.ins 11 [P,mkD mk,E,L],.str (txS n)]=true:=by
 have hi:=vJ hn;have hk:hasK (.inr (txS n)) ((mkN mk).map (Sum.inr:Str->Key))=false:=DR fun z=>h ((DM n mk).mp z);unfold bY runX eP ifX mkD;generalize (mkN mk).map (Sum.inr:Str->Key)=ks at *;generalize mkV mk=vs at *;simp[args,hi,retV,lM,dnotG,dinG,keyD,kdD,hk,fldG,fldD,List.lookup]
theorem some_ex{B:List D}(hB:shals 40 B=true){LL:List D}{j:Int}{K:D}(h1:ixD (.lst LL) (.int j)=some K)(h2:ixD K (.int 1)=some (.lst B))(x:Sl)(l:Mks)(hl:∀p∈l,PyData.strOk (txS p.1)=true) :
  ∃S:Mks,(∀p∈S,p∈l)/\S.length<=l.length/\compL (zZ 0) (zT (zJ (inE true) (zI 0) (zJ ixD (zJ ixD (zI 1) (zI 2)) (zB (.int 1))))) (zW 0) [x,.v (.lst LL),.v (.int j)] (l.map pairD)=some (S.map pairD):=by
 refine⟨l.filter fun p=>!B.any fun z=>eqvD z (pairD p),fun p hp=>(eF.mp hp).1,rH _ _,?_⟩;refine vL pairD (fun p=>!B.any fun z=>eqvD z (pairD p)) pairD l fun p hp=>?_
 have sh:shal 40 (pairD p)=true:=by
  have:=hl p hp;unfold pairD;cases p.2<;>simp[shal,shals,this]
 refine⟨[.v (pairD p),.v (.lst LL),.v (.int j)],by simp,?_,fun _=>by simp⟩;generalize pairD p=q at *;simp[h1,h2,inE,sh,hB]
theorem GK:∀l:List Str,flats (l.map D.str)=true
 |[]=>rfl
 |a::l=>by simp[flats,flat,GK l]
theorem OX{ds:List Sl}{i:Nat}{r:Option Nat}{ps:List Rw}{mk:Mks}{es ls:List OT}(h:ds[i]?=some (.ob r (lnM ps mk es ls)))(hl:mk.length<64):relFO i (methF 0 [11] bQ (zW i) zM) ds=some ((srtT (mkN mk)).map D.str):=by
 have hi:i<ds.length:=(aT.mp h).1;have e1:relO i ds=ds.set i (.v (otD (lnM ps mk es ls))):=by unfold relO;rw[h]
 have e2:zW i (ds.set i (.v (otD (lnM ps mk es ls))))=some (otD (lnM ps mk es ls)):=by
  unfold zW;rw[aK hi]
 have m:=aDu hl ps es ls
 have e3:methF 0 [11] bQ (zW i) zM (ds.set i (.v (otD (lnM ps mk es ls))))=some ((srtT (mkN mk)).map D.str):=by
  unfold methF;rw[e2];generalize otD (lnM ps mk es ls)=L at *;simp[m,retF]
 unfold relFO;rw[e1,e3];simp[GK]
theorem in_strs(t:Str)(l:List Str):∃b,inD true (.str t) (.lst (l.map D.str))=some (.bl b)/\(b=true->t∉l):=by
 refine⟨!(l.map D.str).any fun z=>eqvD z (.str t),?_,fun h z=>?_⟩
 . have : (l.map D.str).all sclD = true := iB.mpr fun d hd => by obtain ⟨_, _, rfl⟩ := cM.mp hd; rfl
   simp only[inD,asLT,aQ,sclD,this,and_self,if_true]
 . have e : eqvD (.str t) (.str t) = true := by simp [eqvD, toPy, PyData.eqv]
   have:(l.map D.str).any (fun z=>eqvD z (.str t))=true:=aAr.mpr ⟨.str t,cM.mpr ⟨t,z,rfl⟩,e⟩;rw[this] at h;cases h
theorem aDl{S:Mks}(h:∀p∈S,PyData.strOk (txS p.1)=true):neD (.lst (S.map pairD)) (.lst [])=some (.bl (!S.isEmpty)):=by
 have sh:shal 40 (.lst (S.map pairD))=true:=by
  have:shals 40 (S.map pairD)=true:=wC 38 h;simp[this]
 rw[FD sh (by simp[shal,shals]),wK];cases S with
 |nil=>rfl
 |cons p S=>simp
theorem aDk{n:List Nat}(h:Nm n):PyData.strOk (txS n)=true:=by
 have:=UA h.2.2.asc 40;simpa[shal] using this
noncomputable def slQ(N:Sl)(rs:List R3)(j:Nat)(y4:Sl)(last:List Nat)(S:Mks)(x7 x8 x9:Sl):List Sl:=[N,.ob none (lnR rs [] j),.v (.lst (2:)),.v (.int (j:Int)),y4,.v (.str (txS last)),.v (.lst (S.map pairD)),x7,x8,x9]
theorem VF(rs:List R3){j:Nat}(hj:j<=4):ixD (.lst (2:)) (.int (j:Int))=some (lk rs j):=by
 rcases(by omega:j=0\/j=1\/j=2\/j=3\/j=4) with rfl | rfl | rfl | rfl | rfl<;>rfl
theorem VW{rs:List R3}(h:∀r∈rs,okR3' r)(h4:rs.length=4){j:Nat}(hj:j<=4)(N y4:Sl)(last:List Nat)(S:Mks)(x7 x9:Sl)(d:D)(hd:bY [otD (lnR rs [] j),d]=true) :
  (ifG (orT (zT (zJ neD (mkL (relFO 1 (jT 3 aX (zA (zI 1) (zA (zB (.int 1)) (zA (zI 8) zM)))))) (mkL (zU (zA (zB (.int 1)) (zA (zB (.int 12)) zM)))))) (zT (zJ neD (ofO (relGO 1 (callO 1 bP (zA (zI 1) zM)))) (zJ ixD (zI 2) (zI 3))))) (retG (zB (.bl false))) qN)
    (slQ N rs j y4 last S x7 (.v d) x9)=some (.nx (slQ N rs j y4 last S x7 (.v d) x9)):=by
 have hl:rs.length<=50:=by omega
 have lk1:=wE h hl j (ds:=slQ N rs j y4 last S x7 (.v d) x9) (i:=1) (r:=none) rfl;have n1:=UW h hl j;have ix:=VF rs hj
 have rf:aX [otD (lnR rs [] j),.int 1,d]=some (.fresh [.int 1,.int 12]):=by
  rw[AR] at hd ⊢;exact aBo _ _ _ _ _ hd
 have r1:=AJ (ds:=slQ N rs j y4 last S x7 (.v d) x9) (i:=1) (r:=none) (fw:=zB (.int 1)) (fd:=zI 8) rfl (by decide) rfl rfl rf;have t1:=LX 1;unfold slQ at *;generalize (2:)=LL at *;generalize lk rs j=K at *;generalize lnR rs [] j=T at *;generalize ofO (relGO 1 (callO 1 bP (zA (zI 1) zM)))=G at *;generalize relFO 1 (jT 3 aX (zA (zI 1) (zA (zB (.int 1)) (zA (zI 8) zM))))=G1 at *;simp[r1,t1,lk1,ix,n1]
theorem ref0(rs:List R3)(j:Nat){d:D}(h:bJ [d]=some (.val (.bl false))):aX [otD (lnR rs [] j),.int 0,d]=some (.fresh [.int 0,.int 12]):=by
 rw[AR];exact aBp _ _ h
theorem b2_turn{rs:List R3}(h:∀r∈rs,okR3' r)(h4:rs.length=4){j:Nat}(hj:j<=4)(N y4:Sl){last:List Nat}(hn:Nm last){S:Mks}(hS:∀p∈S,Nm p.1)(hSl:S.length<=1000)(c:Int)(x8 x9:Sl) :
  ∃(last':List Nat) (y8:Sl),Nm last'/\oY (slQ N rs j y4 last S (.v (.int c)) x8 x9)=some (.nx (slQ N rs j y4 last' S (.v (.int c)) y8 x9)):=by
 have hl:rs.length<=50:=by omega
 obtain⟨mo,ml⟩:=AS h hl j;have z0:=dP (c/2) (show(8:Int)≠0 by decide);have z1:=dB (c/2) (show(0:Int)<8 by decide);obtain⟨w,lw,hw,ew⟩:=tT (c/16) (1+c/2%8) (by omega) (by omega);have wn:Nm w:=⟨by omega,by omega,hw⟩
 have s1:jY 8 (qC 2 eN (zA (zJ qX (zI 7) (zB (.int 16))) (zA (zJ yP (zB (.int 1)) (zJ jK (zJ qX (zI 7) (zB (.int 2))) (zB (.int 8)))) zM))) (slQ N rs j y4 last S (.v (.int c)) x8 x9)=some (.nx (slQ N rs j y4 last S (.v (.int c)) (.v (.str (txS w))) x9)):=by
  unfold slQ;generalize (2:)=LL at *;simp[ew]
 have ne:=aDl fun p hp=>aDk (hS p hp)
 obtain⟨nm,nn,s2⟩:∃nm:List Nat,Nm nm/\(ifG (andT (zT (zJ eqD (zJ jK (zJ qX (zI 7) (zB (.int 2))) (zB (.int 4))) (zB (.int 3)))) (zT (zJ neD (zI 6) (mkL (zU zM))))) (jY 8 (zJ ixD (zJ ixD (zI 6) (zJ jK (zJ qX (zI 7) (zB (.int 8))) (callB lenD (zA (zI 6) zM)))) (zB (.int 0)))) qN)
   (slQ N rs j y4 last S (.v (.int c)) (.v (.str (txS w))) x9)=some (.nx (slQ N rs j y4 last S (.v (.int c)) (.v (.str (txS nm))) x9)):=by
  by_cases hc:c/2%4=3
  . cases S with
    | nil =>
      refine⟨w,wn,?_⟩;unfold slQ;generalize (2:)=LL at *;simp at ne;simp[hc,ne]
    | cons p0 S0 =>
      have lp:0<(p0::S0).length:=by simp
      generalize p0::S0=S at *;have r1:jK (.int (c/8)) (.int (S.length:Int))=some (.int (c/8%(S.length:Int))):=yN _ (by omega);have q0:=dP (c/8) (show(S.length:Int)≠0 by omega);have q1:=dB (c/8) (show(0:Int)<(S.length:Int) by omega);obtain⟨k,hk⟩:∃k:Nat,c/8%(S.length:Int)=(k:Int):=⟨(c/8%(S.length:Int)).toNat,by omega⟩
      rw[hk] at r1 q0 q1;have kl:k<S.length:=by omega
      have hr:S[k]?=some S[k]:=cC kl
      have i1:ixD (.lst (S.map pairD)) (.int (k:Int))=some (pairD S[k]):=by
       rw[xA _ (by omega) (by simp;omega)];simp[hr]
      have i0:ixD (pairD S[k]) (.int 0)=some (.str (txS S[k].1)):=by simp[pairD]
      have nb:(!S.isEmpty)=true:=by cases S with | nil=>simp at lp | cons=>rfl
      rw[nb] at ne;refine⟨S[k].1,hS _ (CJ kl),?_⟩;unfold slQ;generalize (2:)=LL at *;generalize pairD S[k]=PD at *;generalize hSS:S.map pairD=SS at *;have ll:SS.length=S.length:=by rw[<- hSS];simp
      simp[hc,ne,r1,i1,i0,ll]
  . refine⟨w, wn, ?_⟩;unfold slQ;generalize (2:)=LL at *;simp[hc]
 obtain⟨b,eb,hb⟩:=in_strs (txS nm) (srtT (mkN (mkR (rs.take j) [])));have mks:=OX (ds:=slQ N rs j y4 last S (.v (.int c)) (.v (.str (txS nm))) x9) (i:=1) (r:=none) (ps:=psR (rs.take j) []) (mk:=mkR (rs.take j) []) (es:=erl rs [] j) (ls:=ltr rs [] j) rfl ml;obtain⟨nx,hx,ex⟩:=RV (c/2);unfold oY;rw[qE s1,qE s2]
 by_cases hc:c%2=1/\b=true
 . obtain ⟨hc1, rfl⟩ := hc;refine ⟨nm,.v (.str (txS nm)),nn,?_⟩
   have nin:nm∉(mkR (rs.take j) []).map (·.1):=fun z=>hb rfl ((srtT_perm _).mem_iff.mpr (by
    obtain⟨p,hp,e⟩:=cM.mp z
    exact cM.mpr ⟨p,hp,by rw[e]⟩))
   have hd:bY [otD (lnR rs [] j),.str (txS nm)]=true:=by
    rw[AR];exact RH nn nin _ _ _
   have ae:=VW h h4 hj N y4 nm S (.v (.int c)) x9 (.str (txS nm)) hd
   rw[qE (ds':=slQ N rs j y4 nm S (.v (.int c)) (.v (.str (txS nm))) x9) (by
    unfold slQ at mks ⊢;generalize (2:)=LL at *;generalize relFO 1 (methF 0 [11] bQ (zW 1) zM)=G at *
    simp[hc1,mks,eb])]
   exact ae
 . refine ⟨last, .v (.str (txS nx)), hn, ?_⟩
   have hd:bY [otD (lnR rs [] j),.str (txS nx)]=true:=by
    rw[AR];exact aAv hx _ _ _ _
   have ae:=VW h h4 hj N y4 last S (.v (.int c)) x9 (.str (txS nx)) hd;have r0:=AJ (ds:=slQ N rs j y4 last S (.v (.int c)) (.v (.str (txS nx))) x9) (i:=1) (r:=none) (fw:=zB (.int 0)) (fd:=zI 8) rfl (by decide) rfl rfl (ref0 rs j hx);have t0:=LX 0
   have tf:(andT (zT (zJ eqD (zJ jK (zI 7) (zB (.int 2))) (zB (.int 1)))) (zT (zJ (inD true) (zI 8) (mkL (relFO 1 (methF 0 [11] bQ (zW 1) zM)))))) (slQ N rs j y4 last S (.v (.int c)) (.v (.str (txS nm))) x9)=some false:=by
    unfold slQ at mks ⊢;generalize (2:)=LL at *;generalize relFO 1 (methF 0 [11] bQ (zW 1) zM)=G at *
    by_cases hc1:c%2=1
    . have : b = false := by cases b with | false => rfl | true => exact (hc ⟨hc1, rfl⟩).elim
      subst this;simp[hc1,mks,eb]
    . simp[hc1]
   have s3:(qF (jY 8 (qC 1 gO (zA (zJ qX (zI 7) (zB (.int 2))) zM)))
 (ifG (zT (zJ neD (mkL (relFO 1 (jT 3 aX (zA (zI 1) (zA (zB (.int 0)) (zA (zI 8) zM)))))) (mkL (zU (zA (zB (.int 0)) (zA (zB (.int 12)) zM)))))) (retG (zB (.bl false))) qN)) (slQ N rs j y4 last S (.v (.int c)) (.v (.str (txS nm))) x9)=some (.nx (slQ N rs j y4 last S (.v (.int c)) (.v (.str (txS nx))) x9)):=by
    rw[qE (ds':=slQ N rs j y4 last S (.v (.int c)) (.v (.str (txS nx))) x9) (by
     unfold slQ;generalize (2:)=LL at *
     simp[ex])]
    unfold slQ at r0 ⊢;generalize (2:)=LL at *;generalize relFO 1 (jT 3 aX (zA (zI 1) (zA (zB (.int 0)) (zA (zI 8) zM))))=G0 at *;simp[r0,t0]
   rw[qE (ds':=slQ N rs j y4 last S (.v (.int c)) (.v (.str (txS nx))) x9) (by rw[if_not tf];exact s3)];exact ae
theorem VU{rs:List R3}(h:∀r∈rs,okR3' r)(h4:rs.length=4){j:Nat}(hj:j<=4)(N y4:Sl){S:Mks}(hS:∀p∈S,Nm p.1)(hSl:S.length<=1000)(x9:Sl):∀(cs:List Int) (last:List Nat) (x7 x8:Sl),Nm last →
  ∃(last':List Nat) (y7 y8:Sl),Nm last'/\jI (zZ 7) oY (cs.map D.int) (slQ N rs j y4 last S x7 x8 x9)=some (.nx (slQ N rs j y4 last' S y7 y8 x9))
 |[],last,x7,x8,hn=>⟨last,x7,x8,hn,rfl⟩
 | c :: cs, last, x7, x8, hn => by
   obtain⟨l1,y8,n1,t⟩:=b2_turn h h4 hj N y4 hn hS hSl c x8 x9;obtain⟨l2,z7,z8,n2,e⟩:=VU h h4 hj N y4 hS hSl x9 cs l1 (.v (.int c)) y8 n1;refine⟨l2,z7,z8,n2,?_⟩;rw[bI,jI,wO];have e1:(slQ N rs j y4 last S x7 x8 x9).set 7 (.v (.int c))=slQ N rs j y4 last S (.v (.int c)) x8 x9:=rfl;rw[e1];simp only[aQ,t];exact e
theorem DU{rs:List R3}(h:∀r∈rs,okR3' r)(h4:rs.length=4){j:Nat}(hj:j<=4)(N y4:Sl)(last:List Nat)(S:Mks)(x7 x8:Sl){d:D}(hd:bJ [d]=some (.val (.bl false))) :
  oX (slQ N rs j y4 last S x7 x8 (.v d))=some (.nx (slQ N rs j y4 last S x7 x8 (.v d))):=by
 have hl:rs.length<=50:=by omega
 have lk1:=wE h hl j (ds:=slQ N rs j y4 last S x7 x8 (.v d)) (i:=1) (r:=none) rfl;have n1:=UW h hl j;have ix:=VF rs hj;have r1:=AJ (ds:=slQ N rs j y4 last S x7 x8 (.v d)) (i:=1) (r:=none) (fw:=zB (.int 0)) (fd:=zI 9) rfl (by decide) rfl rfl (ref0 rs j hd);have t1:=LX 0;unfold oX;unfold slQ at *;generalize (2:)=LL at *;generalize lk rs j=K at *;generalize lnR rs [] j=T at *;generalize ofO (relGO 1 (callO 1 bP (zA (zI 1) zM)))=G at *;generalize relFO 1 (jT 3 aX (zA (zI 1) (zA (zB (.int 0)) (zA (zI 9) zM))))=G1 at *;simp[r1,t1,lk1,ix,n1]
theorem t_a:Str.ofString "a" = txS [97]:=by decide
theorem b3_loop{rs:List R3}(h:∀r∈rs,okR3' r)(h4:rs.length=4){j:Nat}(hj:j<=4)(N y4:Sl)(last:List Nat)(S:Mks)(x7 x8 x9:Sl) :
  ∃y9,jI (zZ 9) oX [.non,.int 7,.bl true,.tup [.str (Str.ofString "a")]] (slQ N rs j y4 last S x7 x8 x9)=some (.nx (slQ N rs j y4 last S x7 x8 y9)):=by
 have e:∀(x d),(slQ N rs j y4 last S x7 x8 x).set 9 (.v d)=slQ N rs j y4 last S x7 x8 (.v d):=fun _ _=>rfl;have t1:=DU h h4 hj N y4 last S x7 x8 no_non;have t2:=DU h h4 hj N y4 last S x7 x8 (no_int 7);have t3:=DU h h4 hj N y4 last S x7 x8 (no_bl true);have t4:=DU h h4 hj N y4 last S x7 x8 (no_tup [.str (Str.ofString "a")]);exact⟨.v (.tup [.str (Str.ofString "a")]),by simp only[jI,wO,e,aQ,t1,t2,t3,t4]⟩
theorem srt_one(t:Str):srtT [t]=[t]:=rfl
theorem last_eq{rs:List R3}{n:List Nat}(hn:Nm n)(j:Int)(hr:(ltr rs [] 0).length<=10):∃(T:OT) (U:List OT),lnR rs [] 0=.ins 11 U/\dC (lnR rs [] 0) [.str (txS n),.int j]=some T ∧
  (∀ds:List Sl,ds[1]?=some (.ob none T)->ds[5]?=some (.v (.str (txS n)))->ds[3]?=some (.v (.int j)) →
    relVO 1 (methV 1 [11] bV (zW 1) (zA (zI 5) zM)) ds=some (.int j)/\relFO 1 (methF 0 [11] bQ (zW 1) zM) ds=some [.str (txS n)] ∧
    relFO 1 (jT 3 aX (zA (zI 1) (zA (zB (.int 3)) (zA (zB (.str "")) zM)))) ds=some [.int 2,.int 12]):=by
 have mm:=markM hn (ps:=psR (rs.take 0) []) (mk:=mkR (rs.take 0) []) (es:=erl rs [] 0) (ls:=ltr rs [] 0) (some j) (show(0:Nat)<sizeLine by decide) (show(0:Nat)<sizeLine by decide);have pm:putM n (some j) (mkR (rs.take 0) [])=[(n,some j)]:=rfl;rw[pm] at mm;refine⟨_,_,rfl,mm,fun ds h1 h5 h3=>⟨?_,?_,?_⟩⟩
 . have mo : MkOk [(n, some j)] := ⟨by simp, fun p hp => by rw [aR.mp hp]; exact hn⟩
   have w:=aAw mo (n:=n) (v:=some j) (by simp) (psR (rs.take 0) []) (erl rs [] 0++[stM (psR (rs.take 0) []) (mkR (rs.take 0) [])]) [];have hi:1<ds.length:=(aT.mp h1).1;generalize lnM (psR (rs.take 0) []) [(n,some j)] (erl rs [] 0++[stM (psR (rs.take 0) []) (mkR (rs.take 0) [])]) []=T at *;have e1:relO 1 ds=ds.set 1 (.v (otD T)):=by unfold relO;rw[h1]
   have e2:zW 1 (ds.set 1 (.v (otD T)))=some (otD T):=by unfold zW;rw[aK hi]
   have e5:zI 5 (ds.set 1 (.v (otD T)))=some (.str (txS n)):=by unfold zI;rw[aB (by decide),h5]
   have ea:zA (zI 5) zM (ds.set 1 (.v (otD T)))=some [.str (txS n)]:=by unfold zA;rw[e5];rfl
   have em:methV 1 [11] bV (zW 1) (zA (zI 5) zM) (ds.set 1 (.v (otD T)))=some (.int j):=by
    unfold methV;rw[e2,ea];generalize otD T=L at *;simp[w,retV]
   unfold relVO;rw[e1,em];rfl
 . have := OX h1 (by simp);exact this
 . refine AJ (w := 3) (d := .str "") h1 (by decide) rfl rfl ?_;unfold lnM;rw[ON];exact NQ _ _ _ _
theorem run_law(ns:List Int)(hl:ns.length<=63)(hb:∀c∈ns,intBits c<=1048576):AB [.lst (ns.map D.int)]=some (.val (.bl true)):=by
 have c13:cY [.lst (ns.map D.int),.int 13]=some (.val (.int (cel ns 13))):=MQ ns 13;obtain⟨rs,hr,h4,eb⟩:=aFo ns;have hl5:rs.length<=50:=by omega
 have m0:=dP (cel ns 13) (show(5:Int)≠0 by decide);have m1:=dB (cel ns 13) (show(0:Int)<5 by decide);have r5:jK (.int (cel ns 13)) (.int 5)=some (.int (cel ns 13%5)):=yN _ (by decide);obtain⟨j,hj⟩:∃j:Nat,cel ns 13%5=(j:Int):=⟨(cel ns 13%5).toNat,by omega⟩
 rw[hj] at r5 m0 m1;generalize cel ns 13=c at *;have j4:j<=4:=by omega
 obtain⟨y4,bl⟩:=QN hl5 (.v (.lst (ns.map D.int))) (.v (.lst (2:))) (.v (.int (j:Int))) .no .no .no .no .no ((List.range' (j+1) (4-j)).map (lk rs)) j .no (by simp;omega);have je:j+((List.range' (j+1) (4-j)).map (lk rs)).length=4:=by simp;omega
 rw[je] at bl;have lc:=kA rs j4;obtain⟨mo4,ml4⟩:=AS hr hl5 4;obtain⟨moj,mlj⟩:=AS hr hl5 j;have hB:shals 40 ((sps (mkR (rs.take j) [])).map pairD)=true:=wC 38 (LA moj);obtain⟨S,sS,lS,cS⟩:=some_ex hB (LL:=(2:)) (j:=(j:Int)) (VF rs j4) (show ixD (lk rs j) (.int 1)=some (.lst ((sps (mkR (rs.take j) [])).map pairD)) from rfl) .no (sps (mkR (rs.take 4) [])) (LA mo4);have sp4:=EH (mkR (rs.take 4) []);have nS:∀p∈S,Nm p.1:=fun p hp=>mo4.nm p (sp4.1 p (sS p hp));have lS':S.length<=1000:=by omega
 obtain⟨cs,_,_,_,ecs⟩:=ZE ns hb 14 44;have ecs:FL.cutD (ns.map D.int) (some 14) (some 44)=cs.map D.int:=ecs;obtain⟨last,y7,y8,nl,e2⟩:=VU hr h4 j4 (.v (.lst (ns.map D.int))) y4 nS lS' .no cs [97] .no .no ⟨by decide,by decide,fun c hc=>by rw[aR.mp hc];decide⟩;obtain⟨y9,e3⟩:=b3_loop hr h4 j4 (.v (.lst (ns.map D.int))) y4 last S y7 y8 .no;have ag:=MX hr h4 j4;obtain⟨T,U,hU,mk,fin⟩:=last_eq (rs:=rs) nl (j:Int) (by unfold ltr;simp;omega);have L0:dU (.ins 20 []) [.non]=some (lnR [] [] 0):=YN;have ro0:refO (lnR [] [] 0)=true:=rfl;have roj:refO (lnR rs [] j)=true:=rfl;refine xW ?_;unfold AA;have a0:args 10 [.lst (ns.map D.int)]=[.v (.lst (ns.map D.int)),.no,.no,.no,.no,.no,.no,.no,.no,.no]:=rfl;rw[a0];have i4:ixD (.lst (2:)) (.int 4)=some (lk rs 4):=VF rs (j:=4) (aY 4);have i41:ixD (lk rs 4) (.int 1)=some (.lst ((sps (mkR (rs.take 4) [])).map pairD)):=rfl
 have cg:compG (viaA (zJ ixD (zJ ixD (zI 2) (zB (.int 4))) (zB (.int 1))) asLT) [none,some 2,some 3] (zZ 0) (zT (zJ (inE true) (zI 0) (zJ ixD (zJ ixD (zI 1) (zI 2)) (zB (.int 1))))) (zW 0)
   [.v (.lst (ns.map D.int)),.ob none (lnR rs [] j),.v (.lst (2:)),.v (.int (j:Int)),y4,.v (.str (txS [97])),.no,.no,.no,.no]=some (S.map pairD):=by
  refine yM (items:=(sps (mkR (rs.take 4) [])).map pairD) ?_ (by simp;omega) cS;generalize (2:)=LL at *;generalize lk rs 4=K4 at *;generalize (sps (mkR (rs.take 4) [])).map pairD=PP at *;simp[viaA,i4,i41,asLT]
 rw[t_a] at e3 ⊢;unfold slQ at e2 e3;generalize (2:)=LL at *;generalize hIT:(List.range' (j+1) (4-j)).map (lk rs)=IT at *;generalize hSS:S.map pairD=SS at *;generalize hN:ns.map D.int=N at *;generalize cs.map D.int=CC at *;generalize hT0:lnR rs [] 0=T0 at *;generalize lnR rs [] 4=T4 at *;generalize lnR rs [] j=Tj at *;generalize lnR [] [] 0=TT at *;have f1:=fin [.v (.lst N),.ob none T,.v (.lst LL),.v (.int (j:Int)),y4,.v (.str (txS last)),.v (.lst SS),y7,y8,y9] rfl rfl rfl;obtain⟨g1,g2,g3⟩:=f1;have eqn:eqD (.lst [.str (txS last)]) (.lst [.str (txS last)])=some (.bl true):=aEz (l:=[txS last]) fun x hx=>by rw[aR.mp hx];exact aDk nl
 have eq2:=aEr 2
 rw[qE (ds':=[.v (.lst N),.ob none TT,.no,.no,.no,.no,.no,.no,.no,.no]) (by simp[setB,makeO,L0]),
  qE (ds':=[.v (.lst N),.ob none T4,.v (.lst LL),.no,.no,.no,.no,.no,.no,.no]) (by simp[setR,callR,hereA,ro0,eb]),
  qE (ds':=[.v (.lst N),.ob none T4,.v (.lst LL),.v (.int (j:Int)),.no,.no,.no,.no,.no,.no]) (by simp[c13,r5]),
  qE (ds':=[.v (.lst N),.ob none Tj,.v (.lst LL),.v (.int (j:Int)),y4,.no,.no,.no,.no,.no]) (by simp[viaA,lc,bl,asLT]),
  qE (ds':=[.v (.lst N),.ob none Tj,.v (.lst LL),.v (.int (j:Int)),y4,.v (.str (txS [97])),.no,.no,.no,.no]) (by simp),
  qE (ds':=[.v (.lst N),.ob none Tj,.v (.lst LL),.v (.int (j:Int)),y4,.v (.str (txS [97])),.v (.lst SS),.no,.no,.no]) (by simp[cg]),
  qE (ds':=[.v (.lst N),.ob none Tj,.v (.lst LL),.v (.int (j:Int)),y4,.v (.str (txS last)),.v (.lst SS),y7,y8,.no]) (by simp[viaA,ecs,e2,asLT]),
  qE (ds':=[.v (.lst N),.ob none Tj,.v (.lst LL),.v (.int (j:Int)),y4,.v (.str (txS last)),.v (.lst SS),y7,y8,y9]) (by simp[viaA,e3,asLT]),
  qE (ds':=[.v (.lst N),.ob none T0,.v (.lst LL),.v (.int (j:Int)),y4,.v (.str (txS last)),.v (.lst SS),y7,y8,y9]) (by simp[ifNR,callR,hereA,roj,ag]),
  qE (ds':=[.v (.lst N),.ob none T,.v (.lst LL),.v (.int (j:Int)),y4,.v (.str (txS last)),.v (.lst SS),y7,y8,y9]) (by rw[hU] at mk ⊢;simp[lentG,varP,mk,putP,putO])]
 generalize relVO 1 (methV 1 [11] bV (zW 1) (zA (zI 5) zM))=G1 at *;generalize relFO 1 (methF 0 [11] bQ (zW 1) zM)=G2 at *;generalize relFO 1 (jT 3 aX (zA (zI 1) (zA (zB (.int 3)) (zA (zB (.str "")) zM))))=G3 at *;simp[g1,g2,g3,eqn,eq2]
end K54
namespace K54
open PySem PyProof.Rows L2 FL
set_option maxHeartbeats 0 in
theorem all_mk{l:WF}{w:bR}{K:aN}{h:Heap}{mg:Str->Option Value}{fa:aA}(X:K.In h)(G:h.Ns aH mg)(hfa:mg "law" = some (.ref fa)){K0 K1 K2 K3 K4 K5 K6 K11 f0 f2 f3 f4 f5 f6 f7 f8 f9 f10 f11 f12 f13 f14 f15 f16 f17 f18 f19 f20 f21 f22 f23 f24 f25 f26 f27 f28 f29 f30 f31 f32 f33 f34 f35 f36 f37 f38 f39 f40 f41 f42 f43 f44 f45 f46 f47 f48 f49 f50 f51 f52 f53 f54 f55 f56 f57 f58 f59 f60 f61 f62 f63 f64 f65 f66 E0 E1 E2 E3 E4 E5 E6 E7 E8 E9 E10 E11 E12:aA}{t0 t1 t2:Tok}{tu1:aA}{tc1:Value}{td1:Option aA}{tn1:Nat}{ts1:Array (Option Value)}{f1 f67:aA}{od1 an1 od67 an67:Option aA}{sl1 sl67:Array (Option Value)}{oc1 kV1 dc1 pm1 cd1 ct1 oc67 kV67 dc67 pm67 cd67 ct67:Value}(q0:CN K "Put" K0)(na0_span:NoAttr K K0 "span")(na0_fill:NoAttr K K0 "fill")(q1:CN K "Widen" K1)(na1_fill:NoAttr K K1 "fill")(na1_at:NoAttr K K1 "at")(na1_many:NoAttr K K1 "many")(q2:CN K "Narrow" K2)(na2_fill:NoAttr K K2 "fill")(na2_at:NoAttr K K2 "at")(na2_many:NoAttr K K2 "many")(q3:CN K "Move" K3)(na3_fill:NoAttr K K3 "fill")(na3_far:NoAttr K K3 "far")(q4:CN K "Stretch" K4)(na4_fill:NoAttr K K4 "fill")(na4_top:NoAttr K K4 "top")(na4_bottom:NoAttr K K4 "bottom")(q5:CN K "Mirror" K5)(na5_fill:NoAttr K K5 "fill")(q6:CN K "Deed" K6)(na6_fill:NoAttr K K6 "fill")(q11:CN K "Line" K11)(na11_pieces:NoAttr K K11 "pieces")(na11_places:NoAttr K K11 "places")(na11_earlier:NoAttr K K11 "earlier")(na11_later:NoAttr K K11 "later")(d0:DefM K "is_name" (top 17) f0)(a1:cF K (.ref K11) "__init__" = some (some (.ref f1)))(l1:LkF K f1 oc1 od1 "__init__" "Line.__init__" (aO (top 19) 0) (.ref tu1) kV1 dc1 pm1 an1 cd1 ct1 sl1)(c1:fK K cd1 "Line.__init__" = true)(k1:bG K (.ref f1)=true)(lt1:K.lookup tu1=some ⟨tc1,td1,.seq #[.none] tn1,ts1⟩)(i1:mE K (.ref f1)=true)(d2:DefC K K11 "step" "Line.step" (aO (top 19) 3) f2)(d3:DefM K "knit" (top 27) f3)(d4:DefM K "later_low" (top 24) f4)(d5:DefM K "earlier_behind" (top 25) f5)(d6:DefM K "ends_ahead" (top 23) f6)(d7:DefM K "meet" (top 22) f7)(d8:DefM K "parts_in" (top 28) f8)(d9:DefM K "rows_over" (top 29) f9)(d10:DefM K "put" (top 31) f10)(d11:DefC K K0 "done" "Put.done" (aO (top 35) 3) f11)(d12:DefM K "farther" (top 46) f12)(d13:DefM K "shifted" (top 45) f13)(d14:DefC K K1 "done" "Widen.done" (aO (top 36) 3) f14)(d15:DefC K K2 "done" "Narrow.done" (aO (top 37) 3) f15)(d16:DefC K K3 "done" "Move.done" (aO (top 38) 3) f16)(d17:DefC K K4 "least_from" "Stretch.least_from" (aO (top 39) 4) f17)(d18:DefC K K4 "done" "Stretch.done" (aO (top 39) 3) f18)(d19:DefM K "mirrored" (top 47) f19)(d20:DefC K K5 "done" "Mirror.done" (aO (top 40) 2) f20)(d21:DefC K K0 "went" "Put.went" (aO (top 35) 2) f21)(d22:DefM K "opened" (top 43) f22)(d23:DefC K K1 "went" "Widen.went" (aO (top 36) 2) f23)(d24:DefM K "taken_out" (top 44) f24)(d25:DefC K K2 "went" "Narrow.went" (aO (top 37) 2) f25)(d26:DefC K K3 "went" "Move.went" (aO (top 38) 2) f26)(d27:DefM K "has" (top 21) f27)(d28:DefC K K0 "came" "Put.came" (aO (top 35) 1) f28)(d29:DefC K K1 "came" "Widen.came" (aO (top 36) 1) f29)(d30:DefC K K2 "came" "Narrow.came" (aO (top 37) 1) f30)(d31:DefC K K3 "came" "Move.came" (aO (top 38) 1) f31)(d32:DefC K K4 "came" "Stretch.came" (aO (top 39) 1) f32)(d33:DefC K K5 "came" "Mirror.came" (aO (top 40) 0) f33)(d34:DefC K K4 "went" "Stretch.went" (aO (top 39) 2) f34)(d35:DefC K K5 "went" "Mirror.went" (aO (top 40) 1) f35)(d36:DefC K K11 "do" "Line.do" (aO (top 19) 1) f36)(d37:DefC K K11 "mark" "Line.mark" (aO (top 19) 2) f37)(d38:DefC K K11 "become" "Line.become" (aO (top 19) 6) f38)(d39:DefC K K11 "back" "Line.back" (aO (top 19) 4) f39)(d40:DefC K K11 "again" "Line.again" (aO (top 19) 5) f40)(d41:DefC K K11 "told" "Line.told" (aO (top 19) 7) f41)(d42:DefC K K11 "where" "Line.where" (aO (top 19) 8) f42)(d43:DefC K K11 "marks" "Line.marks" (aO (top 19) 9) f43)(d44:DefC K K6 "__init__" "Deed.__init__" (aO (top 34) 0) f44)(d45:DefC K K0 "__init__" "Put.__init__" (aO (top 35) 0) f45)(d46:DefM K "check_many" (top 41) f46)(d47:DefC K K1 "__init__" "Widen.__init__" (aO (top 36) 0) f47)(d48:DefC K K2 "__init__" "Narrow.__init__" (aO (top 37) 0) f48)(d49:DefC K K3 "__init__" "Move.__init__" (aO (top 38) 0) f49)(d50:DefM K "check_share" (top 42) f50)(d51:DefC K K4 "__init__" "Stretch.__init__" (aO (top 39) 0) f51)(d52:DefM K "_law_cell_at" (top 49) f52)(d53:DefM K "_law_word" (top 50) f53)(d54:DefM K "_law_name" (top 51) f54)(d55:DefM K "_law_place" (top 52) f55)(d56:DefM K "_law_many" (top 53) f56)(d57:DefM K "_law_share" (top 54) f57)(d58:DefM K "_law_span" (top 55) f58)(d59:DefM K "_law_row" (top 56) f59)(d60:DefM K "_law_made" (top 57) f60)(d61:DefM K "_law_classes" (top 58) f61)(d62:DefM K "_law_refused" (top 59) f62)(d63:DefM K "_law_no_name" (top 60) f63)(d64:DefM K "_law_look" (top 61) f64)(d65:DefM K "_law_begun" (top 62) f65)(d66:DefM K "_law_all_again" (top 63) f66)(a67:aI K aH "law" = some (some (.ref f67)))(l67:LkF K f67 oc67 od67 "law" "law" (top 64) .none kV67 dc67 pm67 an67 cd67 ct67 sl67)(c67:fK K cd67 "law" = true)(k67:bG K (.ref f67)=true)(mk0:eT K K0=true)(kc0:bG K (.ref K0)=true)(mk1:eT K K1=true)(kc1:bG K (.ref K1)=true)(mk2:eT K K2=true)(kc2:bG K (.ref K2)=true)(mk3:eT K K3=true)(kc3:bG K (.ref K3)=true)(mk4:eT K K4=true)(kc4:bG K (.ref K4)=true)(mk5:eT K K5=true)(kc5:bG K (.ref K5)=true)(ai5:cF K (.ref K5) "__init__" = some (some (.ref f44)))(mk11:eT K K11=true)(kc11:bG K (.ref K11)=true)(s1_6:tN K (.ref K6) "__getattribute__" = some (some (.builtin "type.__getattribute__")))(s2_6:WC K K6 (.type "type")=true)(s3_6:WE K (.ref K6) (.type "type") "__init__" = some (.val (.ref f44)))(xn0:aI K aH "SpanError" = some (some (.ref E0)))(xn1:aI K aH "Empty" = some (some (.ref E1)))(xn2:aI K aH "NoEnd" = some (some (.ref E2)))(xn3:aI K aH "Clash" = some (some (.ref E3)))(xn4:aI K aH "NoCount" = some (some (.ref E4)))(xn5:aI K aH "NoShare" = some (some (.ref E5)))(y6:XI K "NoName" E6)(y7:XI K "NoMark" E7)(y8:XI K "NoDeed" E8)(xn9:aI K aH "NoRule" = some (some (.ref E9)))(xn10:aI K aH "TooMuch" = some (some (.ref E10)))(xn11:aI K aH "NoText" = some (some (.ref E11)))(xn12:aI K aH "NoRow" = some (some (.ref E12)))(xe6:HC K E6 [.type "ValueError",.type "Exception",.type "BaseException",.type "object"] "ValueError.__new__" = true)(xe7:HC K E7 [.type "ValueError",.type "Exception",.type "BaseException",.type "object"] "ValueError.__new__" = true)(xe8:HC K E8 [.type "ValueError",.type "Exception",.type "BaseException",.type "object"] "ValueError.__new__" = true)(xb0:sD K E0 (.type "BaseException")=some true)(xu0:pE K E0=true)(xy0:mO K (.ref E0)=some (.type "type"))(xs6_0:fA K (.ref E6) (.ref E0)=some true)(x6_1:XN K E6 E1)(x6_2:XN K E6 E2)(x6_3:XN K E6 E3)(x6_4:XN K E6 E4)(x6_5:XN K E6 E5)(x6_7:XN K E6 E7)(x6_8:XN K E6 E8)(x6_9:XN K E6 E9)(x6_10:XN K E6 E10)(x6_11:XN K E6 E11)(x6_12:XN K E6 E12)(xs7_0:fA K (.ref E7) (.ref E0)=some true)(x7_1:XN K E7 E1)(x7_2:XN K E7 E2)(x7_3:XN K E7 E3)(x7_4:XN K E7 E4)(x7_5:XN K E7 E5)(x7_6:XN K E7 E6)(x7_8:XN K E7 E8)(x7_9:XN K E7 E9)(x7_10:XN K E7 E10)(x7_11:XN K E7 E11)(x7_12:XN K E7 E12)(xs8_0:fA K (.ref E8) (.ref E0)=some true)(x8_1:XN K E8 E1)(x8_2:XN K E8 E2)(x8_3:XN K E8 E3)(x8_4:XN K E8 E4)(x8_5:XN K E8 E5)(x8_6:XN K E8 E6)(x8_7:XN K E8 E7)(x8_9:XN K E8 E9)(x8_10:XN K E8 E10)(x8_11:XN K E8 E11)(x8_12:XN K E8 E12)(xs6_ValueError:fA K (.ref E6) (.type "ValueError")=some true)(xs7_ValueError:fA K (.ref E7) (.type "ValueError")=some true)(xs8_ValueError:fA K (.ref E8) (.type "ValueError")=some true)(z0:aI K aH "ValueError" = some none)(z1:aI K aH "all" = some none)(z2:aI K aH "dict" = some none)(z3:aI K aH "int" = some none)(z4:aI K aH "isinstance" = some none)(z5:aI K aH "len" = some none)(z6:aI K aH "list" = some none)(z7:aI K aH "max" = some none)(z8:aI K aH "min" = some none)(z9:aI K aH "range" = some none)(z10:aI K aH "reversed" = some none)(z11:aI K aH "sorted" = some none)(z12:aI K aH "str" = some none)(v0:aI K aH "LETTERS" = some (some (.str "abcdefghijklmnopqrstuvwxyz" t0)))(v1:aI K aH "MOST_LETTERS" = some (some (.int 8 t1)))(v2:aI K aH "MOST_SHARE" = some (some (.int 1000 t2))) :
  ∃fd:aJ,(∀(s:aD) (v:Value),NB s fd ⟨[v],[]⟩ [("_law_script",v)])/\∀base:Heap,K.In base->base.Ns aH mg->FnOk l.prog w K mg base CX0 9 fa fd ["_law_script"] (RJ K 63):=by
 have e:=hfa.symm.trans (bD X G a67);cases e;obtain⟨n0,cl0⟩:=q0.get;obtain⟨n1,cl1⟩:=q1.get;obtain⟨n2,cl2⟩:=q2.get;obtain⟨n3,cl3⟩:=q3.get;obtain⟨n4,cl4⟩:=q4.get;obtain⟨n5,cl5⟩:=q5.get;obtain⟨n6,cl6⟩:=q6.get;obtain⟨n11,cl11⟩:=q11.get;have y6:XI K (xName 6) E6:=y6;have y7:XI K (xName 7) E7:=y7;have y8:XI K (xName 8) E8:=y8;have T:Glb K mg:=⟨cK X G z0,cK X G z1,cK X G z2,cK X G z3,cK X G z4,cK X G z5,cK X G z6,cK X G z7,cK X G z8,cK X G z9,cK X G z10,cK X G z11,cK X G z12,⟨_,bD X G v0⟩,⟨_,bD X G v1⟩,⟨_,bD X G v2⟩,(jF n1 cl1 na1_at (jF n2 cl2 na2_at jH)),(jF n4 cl4 na4_bottom jH),(jF n11 cl11 na11_earlier jH),(jF n3 cl3 na3_far jH),(jF n0 cl0 na0_fill (jF n1 cl1 na1_fill (jF n2 cl2 na2_fill (jF n3 cl3 na3_fill (jF n4 cl4 na4_fill (jF n5 cl5 na5_fill (jF n6 cl6 na6_fill jH))))))),(jF n11 cl11 na11_later jH),(jF n1 cl1 na1_many (jF n2 cl2 na2_many jH)),(jF n11 cl11 na11_pieces jH),(jF n11 cl11 na11_places jH),(jF n0 cl0 na0_span jH),(jF n4 cl4 na4_top jH),(newOk (t:=22) (by exact n11) cl11 na11_earlier),(newOk (t:=23) (by exact n11) cl11 na11_later),(newOk (t:=20) (by exact n11) cl11 na11_pieces),(newOk (t:=21) (by exact n11) cl11 na11_places),⟨E1,bD X G xn1,(jE y6 x6_1.k (jE y7 x7_1.k (jE y8 x8_1.k jX)))⟩,⟨E2,bD X G xn2,(jE y6 x6_2.k (jE y7 x7_2.k (jE y8 x8_2.k jX)))⟩,⟨E3,bD X G xn3,(jE y6 x6_3.k (jE y7 x7_3.k (jE y8 x8_3.k jX)))⟩,⟨E4,bD X G xn4,(jE y6 x6_4.k (jE y7 x7_4.k (jE y8 x8_4.k jX)))⟩,⟨E5,bD X G xn5,(jE y6 x6_5.k (jE y7 x7_5.k (jE y8 x8_5.k jX)))⟩,⟨E9,bD X G xn9,(jE y6 x6_9.k (jE y7 x7_9.k (jE y8 x8_9.k jX)))⟩,⟨E10,bD X G xn10,(jE y6 x6_10.k (jE y7 x7_10.k (jE y8 x8_10.k jX)))⟩,⟨E11,bD X G xn11,(jE y6 x6_11.k (jE y7 x7_11.k (jE y8 x8_11.k jX)))⟩,⟨E12,bD X G xn12,(jE y6 x6_12.k (jE y7 x7_12.k (jE y8 x8_12.k jX)))⟩,⟨E8,bD X G y8.1,(jE y6 x6_8.k (jE y7 x7_8.k (jE y8 (FJ E8) jX)))⟩,⟨E7,bD X G y7.1,(jE y6 x6_7.k (jE y7 (FJ E7) (jE y8 x8_7.k jX)))⟩,⟨E6,bD X G y6.1,(jE y6 (FJ E6) (jE y7 x7_6.k (jE y8 x8_6.k jX)))⟩,(jE y6 (FK (by decide +kernel) xs6_ValueError) (jE y7 (FK (by decide +kernel) xs7_ValueError) (jE y8 (FK (by decide +kernel) xs8_ValueError) jX)))⟩
 have XR_6:XR K mg 6 E6:=⟨by exact y6.1,by exact bD X G y6.1,⟨xe6,y6.i⟩⟩
 have XR_7:XR K mg 7 E7:=⟨by exact y7.1,by exact bD X G y7.1,⟨xe7,y7.i⟩⟩
 have XR_8:XR K mg 8 E8:=⟨by exact y8.1,by exact bD X G y8.1,⟨xe8,y8.i⟩⟩
 have XT_6:XT K mg 6 "SpanError" E6 E0:=⟨by exact y6.1,bD X G xn0,⟨vB xu0 xy0 xs6_0,xb0⟩⟩
 have XT_7:XT K mg 7 "SpanError" E7 E0:=⟨by exact y7.1,bD X G xn0,⟨vB xu0 xy0 xs7_0,xb0⟩⟩
 have XT_8:XT K mg 8 "SpanError" E8 E0:=⟨by exact y8.1,bD X G xn0,⟨vB xu0 xy0 xs8_0,xb0⟩⟩
 have F1:=fun_mkD (st:=(aO (top 19) 0)) l1 c1 k1 lt1 rfl;have b1_0:Binds K _ ["self","pieces"] (List.replicate 0 .none):=F1.binds (ps:=["self","pieces"]) fun _ _ _ _ _ _ _ us hl=>match us,hl with | [_,_],_=>⟨_,rfl,rfl⟩
 have b1_1:Binds K _ ["self","pieces"] (List.replicate 1 .none):=F1.binds (ps:=["self","pieces"]) fun _ _ _ _ _ _ _ us hl=>match us,hl with | [_],_=>⟨_,rfl,rfl⟩ | _::_::_,hl=>absurd hl (by simp) | [],hl=>absurd hl (by simp)
 obtain⟨_,F37,a37,k37,i37⟩:=d37.get;have b37:=F37.binds (ps:=["self","name","place"]) fun _ _ _ _ _ _=>len3 fun _ _ _=>rfl;obtain⟨_,F39,a39,k39,i39⟩:=d39.get;have b39:=F39.binds (ps:=["self"]) fun _ _ _ _ _ _=>len1 fun _=>rfl;obtain⟨_,F40,a40,k40,i40⟩:=d40.get;have b40:=F40.binds (ps:=["self"]) fun _ _ _ _ _ _=>len1 fun _=>rfl;obtain⟨_,F42,a42,k42,i42⟩:=d42.get;have b42:=F42.binds (ps:=["self","name"]) fun _ _ _ _ _ _=>len2 fun _ _=>rfl;obtain⟨_,F44,a44,k44,i44⟩:=d44.get;have b44:=F44.binds (ps:=["self"]) fun _ _ _ _ _ _=>len1 fun _=>rfl;obtain⟨_,F45,a45,k45,i45⟩:=d45.get;have b45:=F45.binds (ps:=["self","span","value"]) fun _ _ _ _ _ _=>len3 fun _ _ _=>rfl;obtain⟨_,F47,a47,k47,i47⟩:=d47.get;have b47:=F47.binds (ps:=["self","at","many"]) fun _ _ _ _ _ _=>len3 fun _ _ _=>rfl;obtain⟨_,F48,a48,k48,i48⟩:=d48.get;have b48:=F48.binds (ps:=["self","at","many"]) fun _ _ _ _ _ _=>len3 fun _ _ _=>rfl;obtain⟨_,F49,a49,k49,i49⟩:=d49.get;have b49:=F49.binds (ps:=["self","far"]) fun _ _ _ _ _ _=>len2 fun _ _=>rfl;obtain⟨_,F51,a51,k51,i51⟩:=d51.get;have b51:=F51.binds (ps:=["self","top","bottom"]) fun _ _ _ _ _ _=>len3 fun _ _ _=>rfl;obtain⟨_,F61,a61,k61⟩:=d61.get;have b61:=F61.binds (ps:=["_law_e"]) fun _ _ _ _ _ _=>len1 fun _=>rfl;have F67:=SN (st:=(top 64)) l67 c67 k67;refine⟨dH "law" "law" (jR (top 64)) (qL (top 64)) (zE (top 64)) .none kV67 dc67 pm67 an67 cd67 ct67,fun s v=>.of_eq rfl,fun base _ _=>?_⟩;have S:SysAt l.prog w base K mg:=⟨h,X,G⟩
 have C_is_name:=d0.cal S fun F=>PX F T;have G1:=uR (P:=l.prog) (w:=w) (base:=base) F1 T;have C_knit:=d3.cal S fun F=>aEn F T;have C_later_low:=d4.cal S fun F=>HN F T;have C_earlier_behind:=d5.cal S fun F=>tJ F T;have C_ends_ahead:=d6.cal S fun F=>FY F T;have C_meet:=d7.cal S fun F=>aEm F T C_later_low C_earlier_behind C_ends_ahead;have C_parts_in:=d8.cal S fun F=>MH F T C_meet;have C_rows_over:=d9.cal S fun F=>HM F T C_parts_in;have C_put:=d10.cal S fun F=>fok_put F T C_knit C_rows_over;have C_farther:=d12.cal S fun F=>PY F T;have C_shifted:=d13.cal S fun F=>PU F T C_farther;have M_least_from:MCal l.prog w K mg base "least_from" 1 1 [4] bW:=(d17.mc n4 cl4 (fun F=>pG F T) yW)
 have C_mirrored:=d19.cal S fun F=>MI F T;have C_opened:=d22.cal S fun F=>SO F T;have C_taken_out:=d24.cal S fun F=>HL F T;have C_has:=d27.cal S fun F=>fok_has F T;have M_came:MCal l.prog w K mg base "came" 2 1 [0,1,2,3,4,5] dE:=(d28.mc n0 cl0 (fun F=>MM F T C_has) (d29.mc n1 cl1 (fun F=>GG F T C_taken_out) (d30.mc n2 cl2 (fun F=>CP F T C_opened) (d31.mc n3 cl3 (fun F=>HY F T) (d32.mc n4 cl4 (fun F=>BC F T) (d33.mc n5 cl5 (fun F=>CT F T) yW))))))
 have M_step:LCal l.prog w K mg base "step" 1 2 [11] (fun _=>cU):=(d2.lc n11 cl11 (fun F=>IA F T) xU)
 have M_done:MCal l.prog w K mg base "done" 6 1 [0,1,2,3,4,5] cH:=(d11.mc n0 cl0 (fun F=>ML F T C_put) (d14.mc n1 cl1 (fun F=>GF F T C_parts_in C_knit C_shifted) (d15.mc n2 cl2 (fun F=>CO F T C_parts_in C_knit C_shifted) (d16.mc n3 cl3 (fun F=>HX F T C_shifted) (d18.mc n4 cl4 (fun F=>BB F T C_knit M_least_from) (d20.mc n5 cl5 (fun F=>CS F T C_mirrored) yW))))))
 have M_went:MCal l.prog w K mg base "went" 3 1 [0,1,2,3,4,5] cT:=(d21.mc n0 cl0 (fun F=>MK F T) (d23.mc n1 cl1 (fun F=>GD F T C_opened) (d25.mc n2 cl2 (fun F=>CM F T C_taken_out) (d26.mc n3 cl3 (fun F=>HW F T) (d34.mc n4 cl4 (fun F=>BA F T M_least_from M_came) (d35.mc n5 cl5 (fun F=>CQ F T) yW))))))
 have GX37_6:=AV (P:=l.prog) (w:=w) (base:=base) F37 T C_is_name M_step XR_6;have MX_mark_6:MCalX l.prog w K mg base "mark" 11 2 2 eA E6:=⟨by decide +kernel,K11,f37,_,_,n11,cl11,⟨a37,i37,k37⟩,GX37_6,b37⟩
 have G37:=IB F37 T C_is_name M_step;have M_become:LCal l.prog w K mg base "become" 1 1 [11] (fun _=>cD):=(d38.lc n11 cl11 (fun F=>CU F T) xU)
 have GX39_8:=AW (P:=l.prog) (w:=w) (base:=base) F39 T M_become XR_8;have MX_back_8:MCalX l.prog w K mg base "back" 11 2 0 eB E8:=⟨by decide +kernel,K11,f39,_,_,n11,cl11,⟨a39,i39,k39⟩,GX39_8,b39⟩
 have G39:=IC (P:=l.prog) (w:=w) (base:=base) F39 T M_become;have GX40_8:=uO (P:=l.prog) (w:=w) (base:=base) F40 T M_become XR_8;have MX_again_8:MCalX l.prog w K mg base "again" 11 2 0 dW E8:=⟨by decide +kernel,K11,f40,_,_,n11,cl11,⟨a40,i40,k40⟩,GX40_8,b40⟩
 have G40:=GJ (P:=l.prog) (w:=w) (base:=base) F40 T M_become;have GX42_7:=uN (P:=l.prog) (w:=w) (base:=base) F42 T C_is_name XR_7;have MX_where_7:MCalX l.prog w K mg base "where" 11 2 1 bY E7:=⟨by decide +kernel,K11,f42,_,_,n11,cl11,⟨a42,i42,k42⟩,GX42_7,b42⟩
 have G42:=GH F42 T C_is_name;have G44:=uS (P:=l.prog) (w:=w) (base:=base) F44 T;have G45:=BD (P:=l.prog) (w:=w) (base:=base) F45 T;have C_check_many:=d46.cal S fun F=>FZ F T;have S_Deed:SCal l.prog w K mg base "Deed" 1 ["fill"] bX:=⟨K6,f44,_,_,bD X G n6,⟨.type "type",s1_6,s2_6,s3_6,k44⟩,G44,b44⟩
 have G47:=tL F47 T C_check_many S_Deed;have G48:=sH F48 T C_check_many S_Deed;have G49:=uQ (P:=l.prog) (w:=w) (base:=base) F49 T S_Deed;have C_check_share:=d50.cal S fun F=>CL F T;have G51:=rW F51 T C_check_share S_Deed;have C__law_cell_at:=d52.cal S fun F=>AZ F T;have C__law_word:=d53.cal S fun F=>HP F T;have C__law_name:=d54.cal S fun F=>HR F T C__law_word;have C__law_place:=d55.cal S fun F=>GB F T;have C__law_many:=d56.cal S fun F=>HS F T;have C__law_share:=d57.cal S fun F=>GA F T;have C__law_span:=d58.cal S fun F=>HQ F T C__law_many;have C__law_row:=d59.cal S fun F=>MJ F T C__law_place C__law_span C__law_many C__law_share;have Mk_Mirror:MkC l.prog w K mg base 5 1 0 bX:=⟨K5,f44,_,_,n5,bD X G n5,⟨mk5,ai5,i44,kc5⟩,cl5,G44,b44,(yH (l:=["fill"]) (qP na5_fill yR))⟩
 have Mk_Put:MkC l.prog w K mg base 0 1 2 eS:=⟨K0,f45,_,_,n0,bD X G n0,⟨mk0,a45,i45,kc0⟩,cl0,G45,b45,(yH (l:=["span","fill"]) (qP na0_span (qP na0_fill yR)))⟩
 have Mk_Widen:MkC l.prog w K mg base 1 2 2 cN:=⟨K1,f47,_,_,n1,bD X G n1,⟨mk1,a47,i47,kc1⟩,cl1,G47,b47,(yH (l:=["fill","at","many"]) (qP na1_fill (qP na1_at (qP na1_many yR))))⟩
 have Mk_Narrow:MkC l.prog w K mg base 2 2 2 cN:=⟨K2,f48,_,_,n2,bD X G n2,⟨mk2,a48,i48,kc2⟩,cl2,G48,b48,(yH (l:=["fill","at","many"]) (qP na2_fill (qP na2_at (qP na2_many yR))))⟩
 have Mk_Move:MkC l.prog w K mg base 3 2 1 eM:=⟨K3,f49,_,_,n3,bD X G n3,⟨mk3,a49,i49,kc3⟩,cl3,G49,b49,(yH (l:=["fill","far"]) (qP na3_fill (qP na3_far yR)))⟩
 have Mk_Stretch:MkC l.prog w K mg base 4 2 2 dR:=⟨K4,f51,_,_,n4,bD X G n4,⟨mk4,a51,i51,kc4⟩,cl4,G51,b51,(yH (l:=["fill","top","bottom"]) (qP na4_fill (qP na4_top (qP na4_bottom yR))))⟩
 have C__law_made:=d60.cal S fun F=>HU F T Mk_Mirror Mk_Put Mk_Widen Mk_Narrow Mk_Move Mk_Stretch;have GH61:=uP (P:=l.prog) (w:=w) (base:=base) F61 T;have CH__law_classes:CalH l.prog w K mg base "_law_classes" 1 cG:=⟨f61,_,_,GH61,b61,k61,bD X G a61⟩
 have M_mark:LCal l.prog w K mg base "mark" 2 2 [11] (fun _=>dC):=(wM n11 cl11 ⟨a37,i37,k37⟩ G37 (by decide) b37 (by decide +kernel) xU)
 have M_where:MCal l.prog w K mg base "where" 2 1 [11] bV:=(JO n11 cl11 ⟨a42,i42,k42⟩ G42 (by decide) b42 (by decide +kernel) yW)
 have M_back:LCal l.prog w K mg base "back" 2 0 [11] (fun _=>dM):=(wM n11 cl11 ⟨a39,i39,k39⟩ G39 (by decide) b39 (by decide +kernel) xU)
 have M_again:LCal l.prog w K mg base "again" 2 0 [11] (fun _=>dS):=(wM n11 cl11 ⟨a40,i40,k40⟩ G40 (by decide) b40 (by decide +kernel) xU)
 have C__law_refused:=d62.cal S fun F=>AX F T CH__law_classes M_mark M_where M_back M_again XT_6 XT_7 XT_8 MX_mark_6 MX_where_7 MX_back_8 MX_again_8;have C__law_no_name:=d63.cal S fun F=>AY F T C__law_word;have M_told:MCal l.prog w K mg base "told" 1 0 [11] fG:=(d41.mc n11 cl11 (fun F=>HZ F T) yW)
 have M_marks:MCal l.prog w K mg base "marks" 1 0 [11] bQ:=(d43.mc n11 cl11 (fun F=>GI F T) yW)
 have C__law_look:=d64.cal S fun F=>HV F T M_told M_where M_marks;have M_do:LCal l.prog w K mg base "do" 7 1 [11] (fun _=>fW):=(d36.lc n11 cl11 (fun F=>PZ F T M_step M_done M_went) xU)
 have C__law_begun:=d65.calR S fun F=>GC F T C__law_cell_at C__law_look C__law_name C__law_place C__law_made C__law_row M_mark M_do;have C__law_all_again:=d66.calR S fun F=>tK F T C__law_look C__law_refused M_again M_back;have Mk_Line_1:LMk l.prog w K mg base 20 1 1 1 dU:=⟨⟨K11,f1,_,_,by exact n11,bD X G n11,⟨mk11,a1,i1,kc11⟩,G1,b1_1⟩⟩
 exact law_ofB (F:=AB) (fok_law F67 T C__law_begun C__law_cell_at C__law_word C__law_all_again C__law_no_name C__law_refused C__law_look M_mark M_back M_where M_marks Mk_Line_1) run_law
end K54
namespace PySem.W.Fast
def tw11133761245859324144:=0
def tw18358900275276135875:=0
def tw14084652518696837191:=0
def tw10790181450735587365:=0
def tw6219921035344413579:=0
def tw8819915229059211768:=0
def tw3409240486893297665:=0
def tw11955027876574539438:=0
def tw16281662387890540115:=0
def tw13048193978821195137:=0
def tw16307726056681105489:=0
def tw1093750335055739790:=0
def tw11548107427221578425:=0
def tw3657180707526282413:=0
def tw9770338375406392467:=0
def tw5691618101845554077:=0
def tw5286718871654421248:=0
def tw12362340117551277433:=0
def tw11815187056650975833:=0
def tw11502972855342944451:=0
def tw11194889577714448305:=0
def tw5888453041347934629:=0
def tw8619572891796936249:=0
def tw13587471719330971475:=0
def tw368232442654832100:=0
def tw1237650006677508074:=0
def tw12907215752156594974:=0
def tw12354263043777135669:=0
def tw5405817235668834434:=0
def tw421476159271242028:=0
def tw14416894672556615318:=0
def tw14855570068075294175:=0
def tw2630945019843400992:=0
def tw6507810129388743188:=0
def tw8766945406338255572:=0
def tw5070589792094091068:=0
def tw2050533684088717103:=0
def tw12410941855183579237:=0
def tw6263936470631275180:=0
def tw5823965256744597248:=0
def tw12944102998217718877:=0
def tw13786018339199436518:=0
def tw16795652530110288422:=0
def tw18155903937984565125:=0
def tw15804907248978415430:=0
def tw9017081556849765661:=0
def tw16751387360632233387:=0
def tw15437880617783085967:=0
def tw14304595768008971278:=0
def tw10557613075572489599:=0
def tw15469564884895629117:=0
def tw16879196246331791537:=0
def tw4310411967309740084:=0
def tw1030745088371352073:=0
def tw13915614788431088713:=0
def tw9318672639295488733:=0
def tw6160703127002562058:=0
def tw4761550851875823462:=0
def tw1216116250627305108:=0
def tw8474434801394732655:=0
def tw14509339701948659331:=0
def tw1201222683684746004:=0
def tw8319058433817942400:=0
def tw14345189879264624454:=0
def tw6822242165043983843:=0
def tw10771183838178457809:=0
def tw17801408416144733277:=0
def tw13219912346658499982:=0
def tw6697778503031959625:=0
def tw16310758270471754876:=0
def tw10191997291976698088:=0
def tw4364830803737924674:=0
def tw6562434600915308668:=0
def tw1534340772672766444:=0
def tw2268976804789249809:=0
def tw8773265698558417356:=0
def tw4926147270288254056:=0
def tw13128111885955493803:=0
def tw11156463729021121200:=0
def tw1414631089309261824:=0
def tw15867648823675769507:=0
def tw13400325517830481698:=0
def tw971681133986907286:=0
def tw12280842359669519328:=0
def tw10653579485983782453:=0
def tw7626131063480343942:=0
def tw4857810684888325529:=0
def tw10649668538736718214:=0
def tw7638302261520024661:=0
def tw9959881318341869466:=0
def tw10618601325482135162:=0
def tw13000264543336701351:=0
def tw8656202517130345803:=0
def tw3292202309255136569:=0
def tw18263052287774260526:=0
def tw15362841077070791586:=0
def tw11719798120335591363:=0
def tw1411997470481373212:=0
def tw11654421183107943370:=0
def tw1573903616409381375:=0
def tw13859050582667271676:=0
def tw11073463517204908180:=0
def tw1401658639124831523:=0
def tw17400260036722946527:=0
def tw13805879997447845681:=0
def tw10412006854340629957:=0
def tw3787688421765488537:=0
def tw15008711825270767489:=0
def tw18124424385926214382:=0
def tw9099742654868737878:=0
def tw7645588154333254176:=0
def tw9007414048633404486:=0
def tw14460302245894277255:=0
def tw9139838782699462244:=0
def tw9936886130251805176:=0
def tw17293865673469814089:=0
def tw4533348288426141463:=0
def tw5859057113831995008:=0
def tw7893950423227964122:=0
def tw2406345841247128085:=0
def tw17086688325468823659:=0
def tw6147237345298279679:=0
def tw10872061638761171425:=0
def tw11554122688066795862:=0
def tw17147223257047260347:=0
def tw15016735128679976819:=0
def tw5754028061880875781:=0
def tw7044784593328951262:=0
def tw5075185251737468536:=0
def tw17802415144919659890:=0
def tw15600212359815075817:=0
def tw7634210562151332193:=0
def tw17456105486699599294:=0
def tw15587783523275319469:=0
def tw998080148170153999:=0
def tw6056353462223988749:=0
def tw911801136730096540:=0
def tw15922392858138830237:=0
def tw4709897367433857206:=0
def tw5757927349162253047:=0
def tw7879849958102366568:=0
def tw10035277593861823018:=0
def tw13760753520906942340:=0
def tw14977970157569678876:=0
def tw12880215511681115183:=0
def tw9722556118952314498:=0
def tw8530671985883060024:=0
def tw8463409653386360822:=0
def tw12176019337502574509:=0
def tw1100339842767888231:=0
def tw11969085074520553519:=0
def tw13038052073430787634:=0
def tw8166761999785937969:=0
def tw14776255307931726971:=0
def tw17045470766762430332:=0
def tw11722883243878111759:=0
def tw14603929072381872393:=0
def tw4103948425072333560:=0
def tw4765102341869143848:=0
def tw11248202468477953806:=0
def tw16055930904313612049:=0
def tw15198549226979183468:=0
def tw6494117556519155679:=0
def tw10409459756560698469:=0
def tw5383852361514111055:=0
def tw2400826374502248868:=0
def tw6753543898400069835:=0
def tw6871172511877359433:=0
def tw13936767106449514378:=0
def tw4239632202662741409:=0
def tw15097359567434697037:=0
def tw17875709457738028911:=0
def tw699631552183642906:=0
def tw1171530998451510266:=0
def tw9328679116518327280:=0
def tw5587346402867857743:=0
def tw6100157752722308100:=0
def tw11586742168266141346:=0
def tw10853427658389935568:=0
def tw701520340353202442:=0
def tw4386469059807372672:=0
def tw6177269885089141461:=0
def tw11897766038022657287:=0
def tw13158063771394363363:=0
def tw12813498728455407747:=0
def tw806512885456415746:=0
def tw7452559432402913496:=0
def tw6998120859356396172:=0
def tw9102069313547784971:=0
def tw2344799351452021978:=0
def tw7042118016470577909:=0
def tw9634690510956618451:=0
def tw1504820630116639774:=0
def tw9475824919758525424:=0
def tw5962519953101178704:=0
def tw12262854704584923316:=0
def tw2233727329845495659:=0
def tw12257367241560927507:=0
def tw9715426500914703897:=0
def tw5573787774639308540:=0
def tw6972145594323632123:=0
def tw10067691859080415741:=0
def tw18441509727710145253:=0
def tw15034279245182681216:=0
def tw8632310964982062538:=0
def tw5043815940156060024:=0
def tw8899242633513964669:=0
def tw8380174948690743875:=0
def tw11138665004231859966:=0
def tw11315430645091535729:=0
def tw3973608871271002938:=0
def tw12073208547902163741:=0
def tw10468908975652873943:=0
def tw10904532956315868931:=0
def tw18269821484231542488:=0
def tw16549151109550445564:=0
def tw10377067764004854826:=0
def tw3437577881956011008:=0
def tw4303276266752004143:=0
def tw3191862522919415913:=0
def tw3118826457308522057:=0
def tw8269694248833819273:=0
def tw18220552698669282635:=0
def tw14639573884090263618:=0
def tw18421782164699207937:=0
def tw16559235019449074107:=0
def tw1230087645702973289:=0
def tw4404989426829843535:=0
def tw4443374739864966078:=0
def tw4509657723034937464:=0
def tw6702531750978793904:=0
def tw3141348171309203187:=0
def tw3063781487135280534:=0
def tw17915368093161865738:=0
def tw8530977847115503191:=0
def tw10137860729548957998:=0
def tw1095806188293179757:=0
def tw12383221553822542976:=0
def tw14222635113337937108:=0
def tw51098227841366377:=0
def tw8302938839732989268:=0
def tw14067252233717199728:=0
def tw5195109720360161270:=0
def tw13689435640190337977:=0
def tw8941069953598413024:=0
def tw5250808565229641825:=0
def tw7961210660267062025:=0
def tw981086447037464316:=0
def tw4300646184779330104:=0
def tw3605562307830716114:=0
def tw4719685479648202024:=0
def tw6099373547100744787:=0
def tw9738746128246835047:=0
def tw13660689472480513245:=0
def tw17862255982520320654:=0
def tw2812650377681276665:=0
def tw1839192714852324263:=0
def tw7598191425690271701:=0
def tw5984385749546075858:=0
def tw3777561612379594245:=0
def tw16073914704987774739:=0
def tw1171621241081798630:=0
def tw6284689854053424579:=0
def tw545523138237968217:=0
def tw5900617024084084616:=0
def tw964172382649194171:=0
def tw16287735704141070151:=0
def tw1404774934539935366:=0
def tw1065873709803203430:=0
def tw5487607159656434050:=0
def tw10292290459674357616:=0
def tw4928540917473558561:=0
def tw1870888079262715008:=0
def tw6326549165993505036:=0
def tw15829857726586346263:=0
def tw1027760212826027774:=0
def tw10600699550064735141:=0
def tw13671681649598992588:=0
def tw10086934334009782082:=0
def tw2396889160268024395:=0
def tw6394323101186901137:=0
def tw1168477858136413291:=0
def tw8375063745230170009:=0
def tw16068182898261128017:=0
def tw2411882319716417076:=0
def tw8712463866509125036:=0
def tw2045655316848224318:=0
def tw1656437125782272963:=0
def tw11444235720971667503:=0
def tw8155785947029325742:=0
def tw14629988007598438554:=0
def tw10028607135658311403:=0
def tw2944835292444429874:=0
def tw12860975542326910122:=0
def tw3209179733178492821:=0
def tw15935289138928457228:=0
def tw15576956344775678272:=0
def tw4798924985012158209:=0
def tw8564887223135536477:=0
def tw2128949039452397579:=0
def tw13123725882098550563:=0
def tw3061150869957054299:=0
def tw5977379273068958943:=0
def tw1440077613522939339:=0
def tw10240153995016007716:=0
def tw15666829620195206048:=0
def tw17440072154662491897:=0
def tw1907076916538209304:=0
def tw13342144324390625533:=0
def tw16264426585902343529:=0
def tw4998914986205851730:=0
def tw7572333555882748315:=0
def tw13322299995121971131:=0
def tw5517999124190861823:=0
def tw12279016746385163936:=0
def tw5671273709305448487:=0
def tw604480209919740056:=0
def tw5431873255769514241:=0
def tw5735506226329144501:=0
def tw15823643770292643343:=0
def tw939648874611465768:=0
def tw14530713122762242001:=0
def tw17403861469961517789:=0
def tw14413812710804836406:=0
def tw13280576455527520122:=0
def tw360159928447799426:=0
def tw1749732109764139893:=0
def tw6159837622788188150:=0
def tw11181583859379764387:=0
def tw8090744702179747318:=0
def tw10501391530036258220:=0
def tw11662871815689293546:=0
def tw3862601175553299088:=0
def tw12125571305918972254:=0
def tw9844348298433171830:=0
def tw2388453379459645768:=0
def tw3279766388481416246:=0
def tw15142738981228652192:=0
def tw9541145403262783776:=0
def tw12255526388838130852:=0
def tw16657243344466734140:=0
def tw6772389787094567947:=0
def tw4843753277485761776:=0
def tw12528798575925016897:=0
def tw10367160735429396932:=0
def tw1511961540861840930:=0
def tw7270631836337995223:=0
def tw3834187752387573441:=0
def tw15990823799131070720:=0
def tw5519354407306962851:=0
def tw17589057880689622164:=0
def tw117409225919996656:=0
def tw8927571029865121527:=0
def tw14148021234112228390:=0
def tw14953601767422608569:=0
def tw17322261841283010230:=0
def tw17105257472403747747:=0
def tw4822468417397676210:=0
def tw1816517019201613113:=0
def tw6126962306470561715:=0
def tw17356614078655369778:=0
def tw7982874225745028807:=0
def tw1096330701040380191:=0
end PySem.W.Fast
def PySem.W.Fast.tw3263024324327117093:Unit:=()
def PySem.W.Fast.tw4875339972442587148:Unit:=()
def PySem.W.Fast.tw5818246597848926609:Unit:=()
def PySem.W.Fast.tw17964735846960265041:Unit:=()
def PySem.W.Fast.tw16670975367370303296:Unit:=()
def PySem.W.Fast.tw7173175031756319751:Unit:=()
def PySem.W.Fast.tw14305466978486733730:Unit:=()
def PySem.W.Fast.tw3799582463940205083:Unit:=()
def PySem.W.Fast.tw17437266598843500437:Unit:=()
def PySem.W.Fast.tw15290920519283651260:Unit:=()
def PySem.W.Fast.tw17714055338063278400:Unit:=()
def PySem.W.Fast.tw14590818013742142089:Unit:=()
def PySem.W.Fast.tw231121532780980387:Unit:=()
def PySem.W.Fast.tw8043399528449188756:Unit:=()
def PySem.W.Fast.tw15791610753500450212:Unit:=()
def PySem.W.Fast.tw15651542571264188910:Unit:=()
def PySem.W.Fast.tw9298936556967819806:Unit:=()
def PySem.W.Fast.tw12641489662077017381:Unit:=()
def PySem.W.Fast.tw4252656170188054762:Unit:=()
def PySem.W.Fast.tw820769906397615973:Unit:=()
def PySem.W.Fast.tw492827669353793276:Unit:=()
def PySem.W.Fast.tw800184059369699200:Unit:=()
def PySem.W.Fast.tw7455458686623337185:Unit:=()
def PySem.W.Fast.tw14651567308105957595:Unit:=()
def PySem.W.Fast.tw17701864633344508835:Unit:=()
def PySem.W.Fast.tw9703366766866860292:Unit:=()
def PySem.W.Fast.tw5191402686016173136:Unit:=()
def PySem.W.Fast.tw18374695953950614137:Unit:=()
def PySem.W.Fast.tw8288804736825612928:Unit:=()
def PySem.W.Fast.tw3188627528032326997:Unit:=()
def PySem.W.Fast.tw16026847369701139876:Unit:=()
def PySem.W.Fast.tw15536138124729973965:Unit:=()
def PySem.W.Fast.tw2882364397538711839:Unit:=()
def PySem.W.Fast.tw4778873565712943133:Unit:=()
open PySem PySem.W PyProof.Rows
set_option maxRecDepth 100000 in
set_option maxHeartbeats 0 in
theorem PySem.Challenge.cw_spanmap_k54_refused_line_holds : PySem.Challenge.rw_spanmap_k54_refused_line.Holds := by
 w_on; o_law; k_head; (case hw=>w_witness2)
 k_fill
 refine' FL.walkB (l:=PySem.Challenge.rw_spanmap_k54_refused_line) (k:=9) rfl rfl ⟨rfl,by decide,by decide⟩ (fun w h Y=>PySem.W.kIn_of Y) (fun w=>by kernel_rfl) ?T ?F
 case T =>
  intro w;dsimp only [L2.makers]
  repeat (first
   | exact FL.TabL.nil
   | (apply FL.tabL_no; k_is)
   | (apply FL.tabL_yes; k_is; k_is; exact rfl; k_is; exact rfl; kernel_rfl))
  all_goals decide
 case F =>
  intro w mg fa h KX G hmg;refine' K54.all_mk KX G hmg ..
  all_goals first | ((first | unfold FL.DefM | unfold FL.DefC); iterate 9 (apply Exists.intro); repeat' (first | (unfold FL.LkF; k_is) | k_is | apply And.intro)) | ((first | unfold FL.CN | unfold FL.XN | unfold FL.XI); repeat' (first | k_is | apply And.intro | decide)) | (unfold L2.NoAttr; k_is) | (unfold FL.LkF; k_is) | k_is | k_exc | decide | exact rfl | skip
#print axioms PySem.Challenge.cw_spanmap_k54_refused_line_holds
