import PyProof.Rows.All
import Wide.All
import OpenK.AllK
import Wide.FinOn
import Lean
import PyProof.EqAt
import PyProof.EqKinds
import PyProof.TupleCall
import PyProof.Rows.SetFrom
import PyProof.TupleKey
import KE.KSortTup
import PyProof.ListRange
import PyProof.ConsumeS
import KE.KIntText
import PyProof.StrCalls2
import PyProof.StrOps2
import PyProof.SliceStr2
import PyProof.StrWalks
import PyProof.Rows.StrJoin2
import PyProof.ZipIter
import PyProof.TupleIter
import PyProof.ListMulRoad
import PyProof.WalksMore
import KE.KDictLaws
import KE.KDictList
import PyProof.IsiH_list
import PyProof.AttrMiss
import KE.KDictOf
import PyProof.StationsW
import PyProof.ExcInit
import PyProof.ExcClass2
import PyProof.ExcBaseAll.ValueError
import OpenK.KMake
import OpenK.KCls
import PyProof.Rows.FStr
import PyProof.LayNew
import PyProof.RulesAs
import PyProof.NsDelKeeps
import PyProof.ExcAttrAll.ValueError
import KE.KIsAll
import PyProof.CollectIter
import PyProof.TupleOfStr
import KE.KEqDict
import PyProof.DictWalks
import KE.KRevSl
import KE.KSortedL
import PyProof.DictItemsLoops
import KE.KPairComp
import PySem.Challenge.RW_mergeline_k31_goods_come_and_spoil
set_option Elab.async false
set_option linter.all false
set_option maxRecDepth 100000
set_option maxHeartbeats 4000000
open Array renaming getElem?_toList→lI,length_toList→cH,toArray_toList→Fq,toList_append→HJ
open Bool renaming and_eq_true_iff→g7,and_eq_true→eD,and_false→AG,eq_iff_iff→eA,false_ne_true→eS,or_eq_true→z8,or_true→E8,true_and→iX
open False renaming elim→gD
open ForInStep renaming yield→pT
open Int renaming emod_lt_of_pos→dF,emod_nonneg→cJ,eq_ofNat_of_zero_le→kL,le_antisymm→Ae,le_trans→xN,toNat_natCast→dS
open List renaming all_eq_true→dO,all_map→E7,any_cons→mG,any_eq_true→jO,append_assoc→cp,append_nil→cy,drop_eq_nil_of_le→q5,drop_succ_cons→uQ,drop_zero→kT,eq_nil_of_length_eq_zero→mV,ext_getElem?→je,filterMap_append→Fk,filterMap_cons_none→hU,filterMap_cons_some→ef,filterMap_cons→fq,filterMap_eq_map→lS,filterMap_map→b0,filterMap→tL,filter_append→oG,filter_congr→kW,filter_cons→eE,filter_eq_nil_iff→q_,filter_eq_self→nO,filter_filter→iQ,find?_cons→cI,flatten_cons→eJ,foldl_append→f6,foldl_cons→nH,foldl→AA,fst_mem_of_mem_zipIdx→jI,getD_eq_getElem?_getD→aI,getElem?_append_left→bX,getElem?_append_right→bS,getElem?_eq_getElem→au,getElem?_eq_none→eO,getElem?_eq_some_iff→aH,getElem?_inj→wR,getElem?_map→aG,getElem?_range→fu,getElem?_replicate→dM,getElem?_set_ne→a9,getElem?_set_self→bf,getElem?_zipIdx→jH,getElem?_zip_eq_some→BG,getElem_cons_drop→E9,getElem_mem→dP,length_append→aV,length_cons→bR,length_drop→cN,length_filterMap_le→pU,length_filter_le→gJ,length_map→ai,length_nil→dA,length_pos_iff→iy,length_range→cG,length_replicate→cU,length_set→nJ,length_singleton→fH,length_take→bJ,length→dC,lookup_cons→dN,lookup→kj,map_append→aN,map_congr_left→cW,map_cons→ay,map_drop→pW,map_id→ko,map_map→aB,map_nil→gx,map_set→qZ,map_singleton→vQ,map_take→pV,map→oF,mem_append_left→bF,mem_append_right→bu,mem_append→aR,mem_cons_of_mem→aT,mem_cons_self→aM,mem_cons→ax,mem_filterMap→ka,mem_filter→gf,mem_flatMap→yf,mem_iff_getElem?→Fm,mem_iff_getElem→tK,mem_map→av,mem_of_getElem?→aQ,mem_of_mem_drop→eX,mem_of_mem_take→ez,mem_or_eq_of_mem_set→BI,mem_range→bW,mem_replicate→gI,mem_singleton→aW,nil_append→gU,nodup_append→cF,nodup_cons→bY,nodup_nil→kR,not_mem_nil→a8,of_mem_zip→rj,pairwise_iff_getElem→o9,range_add→AH,range_succ→j_,range→aX,replicate_succ→dJ,replicate→aY,set_comm→uU,size_toArray→bL,sum_cons→uW,take_add_one→ck,take_append_drop→gK,take_append_of_le_length→yE,take_length→c9,take_of_length_le→c0,take_sublist→wO,take_zero→tJ,toArray→bN,zip_cons_cons→eT
open List.Pairwise renaming map→mW
open List.Perm renaming eq_of_pairwise→yD
open List.cons renaming inj→iK
open Nat renaming eq_zero_or_pos→vS,le_add_right→mH,le_of_lt→ou,le_of_not_lt→gE,le_refl→aP,le_succ→ud,le_trans→bQ,lt_of_lt_of_le→bE,lt_or_ge→lb,lt_succ_of_lt→k_,lt_trans→xH,min_eq_left→nM,mul_comm→Fj,mul_le_mul→iC,ne_of_gt→ft,ne_of_lt→a7,not_lt_zero→Ai,sub_self→rA,succ_mul→xG,toDigits_of_lt_base→kM,toDigits→g_,zero_add→rn,zero_le→bx
open Ne renaming symm→bT
open Option renaming isSome_map→vP,map_some→jW,toList_some→HG
open Option.some renaming injEq→gF,inj→cD
open Or renaming inl→lJ
open PyProof.Rows renaming AllBare→t_,IntsAre→wQ,assignInOrder_cons→ja,assignInOrder_nil→Ab,callWith_type1→iA,slot_tuple_getitem→j3
open PyProof.Rows.F renaming entry_set_update_loop→HD
open PyProof.Rows.IsTup renaming new→tF
open PySem renaming Addr→aF,Around→dE,Builtin→qY,CmpOp→Fh,DictEntry→sX,Expr→bC,FuncData→eU,GenState→sV,Heap→cM,IsPair→Fo,IsPart→Bv,NameKind→ot,Paired→Fg,Params→Bx,PassesOwn→pS,Program→bA,PyData→ae,Result→vR,Scope→j',Shared→aL,Spec→fe,Stmt→e6,Value→aD,Within→Dj,World→cg,boot_len→sY,call_meetsIn→Ad,call_meets→iB,codeAny_builtin→kS,codeAny_mono→pw,length_partsBetween→xI,mem_of_lookup→iw,plainId_quiet→yd,sizeLine_eq→du,tupleKind_room_in1→kZ,typeIs_int→yB,typeIs_str→uc,wpAny_Call_Name_kw→kY,wpAny_Call_method→qX,wpAny_binaryOp_repeat_ref→HC,wpAny_bindName→pX,wpAny_bind→aA,wpAny_callSpecial?_slot→iS,wpAny_call_entry→j9,wpAny_execs_nil→uP,wpAny_field→fh,wpAny_holding→oq,wpAny_ite_false→kU,wpAny_loadPart'→eG,wpAny_mono→gT,wpAny_newObj_type→fB,wpAny_onRaise→ye,wpAny_passesOwn→jy,wpAny_pure→bj,wpAny_pyIter_list→my,wpAny_pyIter_tuple→yA,wpAny_rule→ua,wpAny_seqItems→gW,wpAny_setField_rec→jd,wpAny_standAt→yc,wpAny_truthy_bool→eR,wpAny_updateSeq_pair→vT
open PySem.Around renaming under→C_
open PySem.AutoSeq1 renaming idx_int→HF,sub_tuple_tuple→z_
open PySem.Builtin.List renaming listFitsIndex→mr,listTooLong→jw
open PySem.Builtin.Slice renaming sliceAdjust→vO,slicePlaces→iU
open PySem.Builtin.SmallTypes renaming nextOf→iD
open PySem.Calls renaming Name_function_global→Aa,callWith_builtin→kN,evalArgs_plain→mE,spliced_cons→iL,spliced_nil→o8
open PySem.Code renaming isFrame→E5
open PySem.F renaming args_dict_get_3→AF,args_str_split_2→xJ,args_tuple_add_2→Ac,args_tuple_iterator_next_1→BF,called_set→jX,entry_dict_get→Bz,entry_str_split→yC,entry_tuple_add→Az,entry_tuple_iterator_next→Df,plainAttrs_dict→pA,plainAttrs_list→dH,plainAttrs_str→BD,slot_dict_getitem→zZ,slot_dict_get→qV,slot_dict_pop→Dd,slot_dict_setdefault→xK,slot_int_rmul→tG,slot_list_append→fK,slot_list_getattribute→km,slot_str_split→Af,slot_tuple_add→Bu,slot_tuple_iterator_next→jP,slot_tuple_mul→Ah,slot_zip_next→tH,type_list_append→fL
open PySem.Heap renaming NewAttrErr→rq,SameBut→gw,get?_push_of_some→aE,get?_push_size→bq,lt_size→aZ,size_push→gG
open PySem.Heap.SameBut renaming update→Ag
open PySem.MeetsSeq renaming plain_index_loop→rm
open PySem.NameKind renaming cell→k9,free→dX
open PySem.Obj renaming mapSeq→Bw
open PySem.Paired renaming length→tZ
open PySem.PassesOwn renaming never→bU
open PySem.PyData renaming bool→iE,canLay0→cw,canLayAll0→oW,eqv→cP,int→dD,list→mw,none→xO,str→aS,tuple→fc
open PySem.SeqAt renaming readOf→vU
open PySem.Str renaming empty→fw,join→cX,length_append→cq
open PySem.StrLaws renaming found_one→uV,join_split→nP,occ_length_le→De,sliceText_from→BH,sliceText_to→Dl,split_free→uf
open PySem.Txt renaming slice_le→Fp,slice→mJ,split→cC
open PySem.Value renaming int→xE,isStrOf→uO,none→qS,ref→di,type→qU
open PySem.W renaming Frag→ao,callWith_K0→E6,callWith_K→ub,cellsFrom_some→Bt,codeIn→jb,emptyDict→gQ,findIn→bV,fnOf→fJ,hasDictIn→kf,instObj→gN,isFn→mZ,kdl_dict→vV,keepIn→eI,kia_one→iM,kitOne→cA,lookIn→ri,makesIn→qL,methodCall_KW→Dc,mg_of→lK,nsIn→BJ,plainGet_of→sW,plainGet→jz,plainOver→oE,takerIn→xF
open Sum renaming inl→iR,inr→bo
open Sum.inl renaming inj→Di
open Sum.inr renaming inj→j0
open True renaming intro→fj
def qQ0:=@decide_eq_false
def qQ1:=@decide_eq_true
def qQ2:=@if_neg
def qQ3:=@if_pos
def qQ4:=@of_decide_eq_true
def qQ5:=@of_decide_eq_false
def qQ6:=@congrArg
def qQ7:=@absurd
local macro_rules|`(tactic|symm)=>`(tactic|decide +kernel)
local macro_rules|`(tactic|left)=>`(tactic|first|exact Or.inl rfl|exact Or.inr rfl|exact Or.inr (Or.inl rfl)|exact Or.inr (Or.inr rfl)|assumption)
local macro_rules|`(tactic|ext)=>`(tactic|(intro _ _ h;(repeat obtain⟨_,h⟩:=h);subst_vars;rfl))
local macro_rules|`(tactic|ac_rfl)=>`(tactic|exact⟨rfl,by first|exact Or.inl rfl|exact Or.inr (Or.inl rfl)|exact Or.inr (Or.inr rfl),by decide,by decide⟩)
local macro_rules|`(tactic|grind)=>`(tactic|exact⟨rfl,rfl,rfl,by decide +kernel,rfl,by decide +kernel,by decide +kernel⟩)
set_option genSizeOf false
set_option genInjectivity false
local macro_rules|`(tactic|omega)=>`(tactic|lia)
section
local macro_rules|`(#[$a])=>`(⟨$a⟩)|`(#[$a,$b,*])=>`(⟨$a,$b,*⟩)
local macro_rules|`(∅)=>`(by omega)
local macro_rules|`(⋯)=>`(by decide)
local macro_rules|`(∎)=>`(by symm)
local macro_rules|`(↑$x)=>`(by simpa using $x)
namespace L2
open PySem PySem.Spec PyProof.Rows
variable{C a it:aF}{A:dE}{g':Array sV}{d':Drawn}{c e tg:bC}{fd:eU}{base h:cM}{g:Int->Int->Int}{pins:List (aF×Obj)}{kw:List (Str×aD)}{ch fp:List aF}{outer:List Env}{es:List bC}{body:List e6}{N ps:List Str}{us:List aD}{M:Model}{k t':Nat}{o:Obj}{P:bA}{K:ao}{scope:j'}{pl:Sem Bool}{s s':aL}{kindOf:Str->Option ot}{mA mg:Str->Option aD}{u:aD}{E Q:aD->aL->Prop}{f:aD->aD->Sem aD}{w:cg}
abbrev Key:=Sum Int Str
def AI:Key->aD->Bool
 | .inl k,v=>aD.isInt k v
 | .inr x,v=>uO x v
def zac(w:cg):Key->Int
 | .inl k=>hashInt k
 | .inr x=>hashStr w x
theorem gq:∀{k:Key}{v:aD},AI k v=true->(∃i t,k=iR i/\v=xE i t)\/(∃x t,k=bo x/\v=aD.str x t)
 | .inl i,v,h=>by
  obtain⟨t,e⟩:=aD.isInt_shape h;exact .inl #[i,t,rfl,e]
 | .inr x,v,h=>by
  obtain⟨t,e⟩:=aD.isStrOf_shape h;exact .inr #[x,t,rfl,e]
theorem Jh(i:Int)(t:Tok):AI (.inl i) (.int i t)=true:=by simp[AI,aD.isInt]
theorem Ji(x:Str)(t:Tok):AI (.inr x) (.str x t)=true:=by simp[AI,uO]
theorem Sn(a b:Int):decide ((iR a:Key)=iR b)=(a==b):=by
 by_cases e:a=b
 ·subst e;simp
 ·have h:¬(iR a:Key)=iR b:=λq=>e (Di q)
  rw[qQ0 h];exact(beq_eq_false_iff_ne.mpr e).symm
theorem Sq(a b:Str):decide ((bo a:Key)=bo b)=decide (a=b):=by
 by_cases e:a=b
 ·simp
 ·have h:¬(bo a:Key)=bo b:=λq=>e (j0 q)
  rw[qQ0 h,qQ0 e]
theorem Sr(a:Int)(b:Str):decide ((iR a:Key)=bo b)=false:=qQ0 (λq=>nomatch q)
theorem Ss(a:Str)(b:Int):decide ((bo a:Key)=iR b)=false:=qQ0 (λq=>nomatch q)
def ei(prog:bA)(w:cg):PySem.KeyKind prog w Key where
 is:=AI
 hash:=zac w
 inj:=λv a b ha hb=>by
  rcases gq ha with⟨i,t,rfl,rfl⟩|⟨x,t,rfl,rfl⟩
  ·rcases gq hb with⟨j,u,rfl,e⟩|⟨y,u,rfl,e⟩
   ·injection e with e1 _;rw[e1]
   ·exact nomatch e
  ·rcases gq hb with⟨j,u,rfl,e⟩|⟨y,u,rfl,e⟩
   ·exact nomatch e
   ·injection e with e1 _;rw[e1]
 byValue:=λk v h=>by
  rcases gq h with⟨i,t,rfl,rfl⟩|⟨x,t,rfl,rfl⟩<;>rfl
 pyHash:=λhv h=>by
  rcases gq hv with⟨i,t,rfl,rfl⟩|⟨x,t,rfl,rfl⟩
  ·exact wpAny_pyHash_int h
  ·exact wpAny_pyHash_str h
 eqBool:=λhu hv h=>by
  rcases gq hu with⟨i,t,rfl,rfl⟩|⟨x,t,rfl,rfl⟩
  ·rcases gq hv with⟨j,u,rfl,rfl⟩|⟨y,u,rfl,rfl⟩
   ·rw[Sn]at h;exact wpAny_eqBool_int h
   ·rw[Sr]at h;exact SeqAt.EqAt.int_str i t y u _ _ _ _ h
  ·rcases gq hv with⟨j,u,rfl,rfl⟩|⟨y,u,rfl,rfl⟩
   ·rw[Ss]at h;exact SeqAt.EqAt.str_int x t j u _ _ _ _ h
   ·rw[Sq]at h;exact wpAny_eqBool_str h
 «strs»:=λk x t v h=>by
  rcases gq h with⟨i,u,rfl,e⟩|⟨y,u,rfl,e⟩
  ·exact nomatch e
  ·injection e with e1 _
   subst e1;cases v<;>rfl
theorem Dm(prog:bA)(w:cg)(i:Int)(t:Tok):(ei prog w).is (.inl i) (.int i t)=true:=Jh i t
theorem rB(prog:bA)(w:cg)(x:Str)(t:Tok):(ei prog w).is (.inr x) (.str x t)=true:=Ji x t
inductive V where
 |non|bl (b:Bool)|int (i:Int)|str (x:Str)|Vh (b:Array UInt8)|flt (b:UInt64)|ref (a:aF)|ty (n:String)
 deriving DecidableEq
variable{vs xs:List V}
def RelV:V->aD->Prop
 | .non,u=>u=qS
 | .bl b,u=>u=aD.bool b
 | .int i,u=>∃t,u=xE i t
 | .str x,u=>∃t,u=aD.str x t
 | .Vh b,u=>∃t,u=aD.bytes b t
 | .flt b,u=>∃t,u=aD.float b t
 | .ref a,u=>u=di a
 | .ty n,u=>u=qU n
abbrev dI:List V->List aD->Prop:=Fg RelV
theorem dI.length(r:dI xs us):xs.length=us.length:=tZ r
theorem dI.get:∀{xs:List V}{us:List aD}{i:Nat}{x:V},dI xs us->xs[i]?=some x->∃u,us[i]?=some u/\RelV x u
 |_,_,_,_,.nil,e=>by simp at e
 |_,_,0,_,.cons r _,e=>by simp at e;subst e;exact#[_,rfl,r]
 |_,_,i+1,x,.cons _ t,e=>by
  obtain⟨u,h1,h2⟩:=dI.get t ↑e
  exact#[u,by simpa using h1,h2]
theorem dI.append:∀{xs ys:List V}{us ws:List aD},dI xs us->dI ys ws->dI (xs++ys) (us++ws)
 |_,_,_,_,.nil,s=>s
 |_,_,_,_,.cons r t,s=>.cons r (dI.append t s)
theorem dI.take:∀{xs:List V}{us:List aD}(n:Nat),dI xs us->dI (xs.take n) (us.take n)
 |_,_,0,_=>.nil
 |_,_,_+1,.nil=>.nil
 |_,_,n+1,.cons r t=>.cons r (dI.take n t)
theorem dI.drop:∀{xs:List V}{us:List aD}(n:Nat),dI xs us->dI (xs.drop n) (us.drop n)
 |_,_,0,r=>r
 |_,_,_+1,.nil=>.nil
 |_,_,n+1,.cons _ t=>dI.drop n t
def pY:Option V->Option aD->Prop
 |some v,some u=>RelV v u
 |none,none=>True
 |_,_=>False
def KV{κ:Type}:List (κ×V)->List (κ×aD)->Prop:=Fg λ(p:κ×V)(q:κ×aD)=>p.1=q.1/\RelV p.2 q.2
def kV:Key->V
 | .inl i=>.int i
 | .inr x=>.str x
inductive HO where
 |lst (xs:List V)
 |tup (xs:List V)
 |dK (kvs:List (Key×V))|dT (kvs:List (List Key×V))
 |set (S:Int->Bool) (n:Nat)
 |ins (C dx:aF) (fs:List (Str×V))
 |own (x:aF)
 |xd (fs:List (Str×V))
 |met (f x:aF)
 |rng (lo hi:Int)
 |tM (o:Obj) (u:HO)
 |Sv (ps:Array aD)
 |ext (φ:cM->Prop)
abbrev Hp:=aF->Option HO
variable{H:Hp}{R:V->V->Hp->Prop}
def upd(H:Hp)(a:aF)(o:HO):Hp:=λb=>if b=a then some o else H b
theorem bh{o:HO}:upd H a o a=some o:=by unfold upd;rw[qQ3 rfl]
theorem aO{b: aF}{o:HO}(h:b≠a):upd H a o b=H b:=by unfold upd;rw[qQ2 h]
theorem V0{b: aF}{o u:HO}(h:H a=some o)(h':H b=some u)(d:o≠u):a≠b:=by
 intro e;subst e;rw[h]at h';exact d (cD h')
theorem bG{b: aF}{o:HO}(h:H a=some o)(h':H b=none):a≠b:=by
 intro e;subst e;rw[h]at h';cases h'
section
variable(P:bA)(w:cg)
def ia(H:Hp)(h:cM)(a:aF):HO->Prop
 | .lst xs=>xs.length<=sizeLine/\∃(its:List aD)(n:Nat),dI xs its/\h.get? a=some { cls:=.type "list",data:=.seq its.toArray n }
 | .tup xs=>xs.length<=sizeLine/\∃its:List aD,dI xs its/\IsTup h a its.toArray
 | .dK kvs=>kvs.length<=sizeLine/\(a==sysModules)=false/\∃vs,KV kvs vs/\h.DictOf (ei P w) a vs
 | .dT kvs=>kvs.length<=sizeLine/\(a==sysModules)=false/\∃xs:List (List Key×aF×aD),
   Fg (λ(p:List Key×V)(q:List Key×aF×aD)=>p.1=q.1/\H q.2.1=some (.tup (p.1.map kV))/\RelV p.2 q.2.2) kvs xs/\
   ∃o es ep,h.get? a=some o/\o.ExactDict/\o.data=.dict es ep/\es.toList=xs.map (entryOfKey (tupleKind (ei P w)))/\(xs.map (·.1)).Nodup
 | .set S n=>h.SetOf (intKind P w) a S n
 | .ins C dx fs=>H dx=some (.own a)/\fs.length<=1000/\dx≠a/\h.get? a=some (gN C dx)/\
   ∃mA,h.Ns1 dx mA/\(∀f,pY (fs.lookup f) (mA f))/\Dj mA (fs.map (·.1))
 | .own _=>∃o,h.get? a=some o
 | .xd fs=>∃mA,h.Ns1 a mA/\∀f,pY (fs.lookup f) (mA f)
 | .rng lo hi=>∃t u v,h.get? a=some { cls:=.type "range",data:=.fields (bN [.int lo t,.int hi u,.int 1 v]) }
 | .tM o u=>h.get? a=some o/\ia H h a u
 | .Sv ps=>h.get? a=some { cls:=.none,data:=.fields ps }
 | .met f x=>h.get? a=some (PySem.W.methodObj (.ref f) (.ref x))
 | .ext φ=>φ h/\(∃o,h.get? a=some o)/\∀h1 h2:cM,φ h1->(∀o,h1.get? a=some o->h2.get? a=some o)->φ h2
def uR(H:Hp)(h:cM):Prop:=∀a o,H a=some o->ia P w H h a o
end
section
variable{P:bA}{w:cg}{H H':Hp}{h h':cM}{a:aF}{o:HO}
theorem ia.lt(x:ia P w H h a o):a<h.objs.size:=by
 cases o with
 |lst xs=>obtain⟨_,_,_,_,e⟩:=x;exact aZ e
 |tup xs=>obtain⟨_,_,_,p⟩:=x;exact p.lt
 |dK kvs=>obtain⟨_,_,_,_,o,_,_,e,_⟩:=x;exact aZ e
 |dT kvs=>obtain⟨_,_,_,_,o,_,_,e,_⟩:=x;exact aZ e
 |set S n=>obtain⟨o,_,_,_,e,_⟩:=x;exact aZ e
 |ins C dx fs=>obtain⟨_,_,_,e,_⟩:=x;exact aZ e
 |own y=>obtain⟨_,e⟩:=x;exact aZ e
 |xd fs=>obtain⟨_,⟨_,_,_,e,_⟩,_⟩:=x;exact aZ e
 |rng lo hi=>obtain⟨_,_,_,e⟩:=x;exact aZ e
 |tM ob u=>obtain⟨e,_⟩:=x;exact aZ e
 |Sv ps=>exact aZ x
 |met f y=>exact aZ x
 |ext φ=>obtain⟨_,⟨_,e⟩,_⟩:=x;exact aZ e
theorem Fg.Sw{α β:Type}{F G:α->β->Prop}:∀{l₁:List α}{l₂:List β},Fg F l₁ l₂->(∀a b,F a b->G a b)->Fg G l₁ l₂
 |_,_,.nil,_=>.nil
 |_,_,.cons r t,f=>.cons (f _ _ r) (Fg.Sw t f)
theorem ia.stay(x:ia P w H h a o)(k:∀b u,(b=a\/H b=some (.own a))->h.get? b=some u->h'.get? b=some u)
  (ho:∀b,H b=some (.own a)->H' b=some (.own a))(ht:∀b xs,H b=some (.tup xs)->H' b=some (.tup xs)):ia P w H' h' a o:=by
 induction o with
 |lst xs=>obtain⟨z,its,n,r,e⟩:=x;exact#[z,its,n,r,k _ _ (.inl rfl) e]
 |tup xs=>obtain⟨z,its,r,ob,e,c⟩:=x;exact#[z,its,r,ob,k _ _ (.inl rfl) e,c]
 |dK kvs=>obtain⟨z,y,vs,r,ob,es,ep,e,c⟩:=x;exact#[z,y,vs,r,ob,es,ep,k _ _ (.inl rfl) e,c]
 |dT kvs=>
  obtain⟨z,y,xs,r,ob,es,ep,e,c⟩:=x;exact#[z,y,xs,Fg.Sw r λp q z=>#[z.1,ht _ _ z.2.1,z.2.2],ob,es,ep,k _ _ (.inl rfl) e,c]
 |set S n=>obtain⟨ob,es,ep,t,e,c⟩:=x;exact#[ob,es,ep,t,k _ _ (.inl rfl) e,c]
 |ins C dx fs=>
  obtain⟨d,z,ne,e,mA,⟨od,es,ep,e2,c⟩,r⟩:=x;exact#[ho _ d,z,ne,k _ _ (.inl rfl) e,mA,#[od,es,ep,k _ _ (.inr d) e2,c],r]
 |own y=>obtain⟨ob,e⟩:=x;exact#[ob,k _ _ (.inl rfl) e]
 |xd fs=>obtain⟨mA,⟨od,es,ep,e,c⟩,r⟩:=x;exact#[mA,#[od,es,ep,k _ _ (.inl rfl) e,c],r]
 |rng lo hi=>obtain⟨t,u,v,e⟩:=x;exact#[t,u,v,k _ _ (.inl rfl) e]
 |tM ob u ih=>obtain⟨e,q⟩:=x;exact#[k _ _ (.inl rfl) e,ih q]
 |Sv ps=>
  have e:=x;exact k a _ (.inl rfl) e
 |met f y=>
  have e:=x;exact k a _ (.inl rfl) e
 |ext φ=>obtain⟨p,⟨o,e⟩,st⟩:=x;exact#[st _ _ p λo q=>k _ _ (.inl rfl) q,#[o,k _ _ (.inl rfl) e],st]
theorem uR.lt(x:uR P w H h)(e:H a=some o):a<h.objs.size:=(x a o e).lt
theorem uR.fresh(x:uR P w H h)(e:h.objs.size<=a):H a=none:=by
 cases q:H a with
 |none=>rfl
 |some u=>exact qQ7 (bE (x.lt q) e) ∅
theorem uR.kept(x:uR P w H h)(k:∀b u,h.get? b=some u->h'.get? b=some u):uR P w H h':=λa o e=>
 (x a o e).stay (λb u _ q=>k b u q) (λ_ q=>q) λ_ _ q=>q
theorem uR.laid(x:uR P w H h)(k:∀b u,h.get? b=some u->h'.get? b=some u)(hp:h.objs.size<=a)(new:ia P w (upd H a o) h' a o):uR P w (upd H a o) h':=λb u e=>by
 have hn:=x.fresh hp;by_cases hb:b=a
 ·subst hb;rw[bh]at e;cases e;exact new
 ·rw[aO hb]at e
  exact(x b u e).stay (λc v _ q=>k c v q) (λc q=>by rw[aO (bG q hn)];exact q) λc xs q=>by rw[aO (bG q hn)];exact q
end
def Rd(H:Hp)(a:aF)(u:HO):Prop:=H a=some u\/∃o,H a=some (.tM o u)
theorem Rd.of{u:HO}(h:H a=some u):Rd H a u:=.inl h
theorem Rd.ok{u:HO}(r:Rd H a u)(x:uR P w H h):ia P w H h a u:=by
 rcases r with r|⟨o,r⟩
 ·exact x a u r
 ·obtain⟨_,q⟩:=x a _ r
  exact q
def V1:Option HO->Prop
 |some (.lst _)=>True
 |some (.dK _)=>True
 |some (.dT _)=>True
 |some (.set _ _)=>True
 |some (.ins _ _ _)=>True
 |some (.ext _)=>True
 |_=>False
section
variable{P:bA}{w:cg}{H:Hp}{h h':cM}{x e:aF}{o':HO}
theorem uR.write(ok:uR P w H h)(mu:V1 (H x))(he:e=x\/H e=some (.own x))(k:∀b u,b≠e->h.get? b=some u->h'.get? b=some u)(N6:∃u,h'.get? e=some u)
  (new:ia P w (upd H x o') h' x o'):uR P w (upd H x o') h':=λb u q=>by
 have V2:∀c y,H c=some (.own y)->c≠x:=λc y r z=>by subst z;rw[r]at mu;exact mu
 by_cases hb:b=x
 ·subst hb;rw[bh]at q;cases q;exact new
 ·rw[aO hb]at q
  by_cases Sx:b=e
  ·have q':H b=some (.own x):=by
    rcases he with z|z
    ·exact qQ7 (Sx.trans z) hb
    ·rwa[Sx]
   rw[q]at q';cases q';obtain⟨v,hv⟩:=N6;exact#[v,by rw[Sx];exact hv]
  ·refine(ok b u q).stay (λc v hc r=>k c v ?_ r) (λc r=>by rw[aO (V2 c b r)];exact r) λc xs r=>by rw[aO ((λc xs r z=>by subst z;rw[r]at mu;exact mu) c xs r)];exact r
   rcases hc with rfl|hc
   ·exact Sx
   ·rintro rfl
    rcases he with z|z
    ·exact V2 c b hc z
    ·rw[hc]at z;cases z;exact hb rfl
end
structure Un(fs ex:List aF)(H H':Hp)(h h':cM):Prop where
 keep:∀b o,h.get? b=some o->H b=none->b∉fs->b∉ex->h'.get? b=some o
 slot:∀b o,h.get? b=some o->H b=none->b∈fs->b∉ex->∃sl,h'.get? b=some { o with slots:=sl }
 free:∀b o,h.get? b=some o->H b=none->b∉ex->H' b=none
 there:∀b o,h.get? b=some o->b∉ex->∃o',h'.get? b=some o'
 tups:∀b xs,H b=some (.tup xs)->H' b=some (.tup xs)
 vW:∀b o u,H b=some (.tM o u)->H' b=some (.tM o u)
 yF:∀b ps,H b=some (.Sv ps)->∃more,H' b=some (.Sv (ps++more))
section
variable{fs fs' ex ex':List aF}{H H1 H2:Hp}{h h1 h2 h':cM}{a x e:aF}{o:HO}
theorem Un.any(u:Un fs ex H H1 h h1){b:aF}{ob:Obj}(q:h.get? b=some ob)(n:H b=none)(hx:b∉ex):∃sl,h1.get? b=some { ob with slots:=sl }:=by
 by_cases hb:b∈fs
 ·exact u.slot b ob q n hb hx
 ·exact#[ob.slots,u.keep b ob q n hb hx]
theorem Un.kept(k:∀b u,h.get? b=some u->h'.get? b=some u):Un fs ex H H h h':=
 #[λb ob q _ _ _=>k b ob q,λb ob q _ _ _=>#[ob.slots,k b ob q],λ_ _ _ n _=>n,λb ob q _=>#[ob,k b ob q],λ_ _ q=>q,λ_ _ _ q=>q,λ_ ps q=>#[#[],by rw[q];simp]]
theorem Un.refl:Un fs ex H H h h:=Un.kept λ_ _ q=>q
theorem Un.laid(k:∀b u,h.get? b=some u->h'.get? b=some u)(hp:h.objs.size<=a)(hn:H a=none):Un fs ex H (upd H a o) h h' where
 keep:=λb u q _ _ _=>k b u q
 slot:=λb u q _ _ _=>#[u.slots,k b u q]
 free:=λb u q n _=>by rw[aO (a7 (bE (aZ q) hp))];exact n
 there:=λb u q _=>#[u,k b u q]
 tups:=λb xs q=>by rw[aO (bG q hn)];exact q
 vW:=λb u xs q=>by rw[aO (bG q hn)];exact q
 yF:=λb ps q=>#[#[],by rw[aO (bG q hn),q];simp]
theorem Un.write(mu:V1 (H x))(he:e=x\/H e=some (.own x))(k:∀b u,b≠e->h.get? b=some u->h'.get? b=some u)(N6:∃u,h'.get? e=some u):Un fs ex H (upd H x o) h h':=by
 have hx:∀b,H b=none->b≠x:=λb n z=>by subst z;rw[n]at mu;exact mu
 have hb:∀b,H b=none->b≠e:=λb n z=>by
  subst z;rcases he with r|r
  ·exact hx b n r
  ·rw[n]at r;cases r
 have hm:∀b u,H b=some u->¬V1 (some u)->b≠x:=λb u q nm z=>by subst z;rw[q]at mu;exact nm mu
 refine#[λb u q n _ _=>k b u (hb b n) q,λb u q n _ _=>#[u.slots,k b u (hb b n) q],λb u q n _=>by rw[aO (hx b n)];exact n,λb u q _=>?_,
  λb xs q=>by rw[aO (hm b _ q λz=>z)];exact q,λb u xs q=>by rw[aO (hm b _ q λz=>z)];exact q,λb ps q=>#[#[],by rw[aO (hm b _ q λz=>z),q];simp]]
 by_cases Sx:b=e
 ·subst Sx;exact N6
 ·exact#[u,k b u Sx q]
end
def trk(h:cM)(H:Hp):List aF:=(aX h.objs.size).filter λa=>(H a).isSome
def Jj(h:cM)(H:Hp):cM:=PySem.W.hideAll h (trk h H)
theorem Jk(h:cM)(H:Hp):(Jj h H).objs.size=h.objs.size:=PySem.W.hideAll_size _ _
theorem K2{b:aF}(e:h.get? b=some o)(n:H b=none):(Jj h H).get? b=some o:=
 PySem.W.hideAll_get _ e λhm=>by
  have q:=(gf.mp hm).2;rw[n]at q;simp at q
theorem Oo{b:aF}(e:(Jj h H).get? b=some o):h.get? b=some o/\H b=none:=by
 have e':=PySem.W.of_hideAll _ e;refine#[e',?_]
 cases q:H b with
 |none=>rfl
 |some x=>
  have z:(Jj h H).get? b=none:=PySem.W.hideAll_none _ (gf.mpr #[bW.mpr (aZ e'),by simp[q]]);rw[z]at e;cases e
structure Mod(K:ao)(mg:Str->Option aD)(base:cM):Prop where
 Sy:K.In base
 glob:base.Ns mainGlobals mg
 blt:∃mb,base.Ns builtinsNs mb/\∀x:Str,x≠"__name__"->mb x=bootBuiltins x
 nolimit:base.NoLimit
structure Cx where
 prog:bA
 w:cg
 K:ao
 mg:Str->Option aD
 base:cM
 A:dE
 N:List Str
 s₀:aL
 H₀:Hp
 env:Env
 outer:List Env
 stack:List Env
 ex:List aF
 fn:Str->Bool
 calm:Bool
 pn:List (aF×Obj)
 xe:aD->aL->Prop
variable{X:Cx}
def KS(l:List Env):List aF:=l.filterMap (·.frame)
abbrev Cx.fs(X:Cx):List aF:=KS X.outer
def Vis(sc:j')(x:Str):Prop:=sc.names.lookup x=some .local\/sc.names.lookup x=some .cell\/sc.names.lookup x=some .free
def Loc(sc:j')(x:Str):Prop:=sc.names.lookup x=some .local\/sc.names.lookup x=some .cell
def Look(env:Env)(h:cM)(m:Str->Option aD)(x:Str)(u:aD):Prop:=
 (env.kindOf x=some .local/\m x=some u)\/((env.kindOf x=some .cell\/env.kindOf x=some .free)/\∃c,env.cells.lookup x=some c/\h.IsCell c (some u))
abbrev vX(x:Str):Prop:=(x==("__debug__":Str))=false
abbrev NCd(x:Str):Prop:=(x==("__classdict__":Str))=false
abbrev kO(X:Cx)(e:bC)(es:List bC):Prop:=starEach (e::es) X.env=(false,eval e X.env)::starEach es X.env
abbrev rC(X:Cx)(p:Pos)(es:List bC):Prop:=(backTo p (starEach es X.env)).any (·.1)=false
abbrev Ft(X:Cx)(p:Pos)(es:List bC):Prop:=((backTo p (starEach es X.env)).all (λx=>!x.1)&&(backToKw p (keywordEach [] X.env)).all (λx=>x.1.isSome)&&decide (es.length+([]:List Keyword).length+(if([]:List Keyword).isEmpty then 0 else 1)<30))=true
abbrev AJ(X:Cx)(x:Str):Prop:=X.fn x=true\/X.env.scope.names.lookup x=some .local
abbrev KW(X:Cx)(e:bC):Prop:=∀x,foldedSetIterable e X.env x=pure x
abbrev uS(X:Cx)(o:bC)(x:Str):Prop:=attributeBase o x X.env (eval o X.env)=eval o X.env
abbrev QO(X:Cx)(p:Pos)(e:bC):Prop:=swapsWith e none p.line X.env=pure false
abbrev uX(X:Cx)(p:Pos)(e t:bC):Prop:=swapsWith e (some t) p.line X.env=pure false
def ow(X:Cx)(i:Nat)(x:Str):Prop:=X.N[i]?=some x/\Vis X.env.scope x/\vX x/\NCd x
structure Cx.Ok(X:Cx):Prop where
 mod:Mod X.K X.mg X.base
 kind:X.env.scope.kind=.function
 glob:X.env.globals=mainGlobals
 blt:X.env.builtins=builtinsNs
 above:X.s₀.heap.objs.size<=X.env.locals
 inj:∀x y c,X.env.cells.lookup x=some c->X.env.cells.lookup y=some c->x=y
 has:∀x,(X.env.kindOf x=some .cell\/X.env.kindOf x=some .free)->∃c,X.env.cells.lookup x=some c
 cab:∀x c,X.fn x=true->X.env.cells.lookup x=some c->X.s₀.heap.objs.size<=c
 hd:X.calm=true->X.A.handled=none
 frames:X.A.frames=some X.stack
 stk:X.stack=X.outer\/(X.stack=X.env::X.outer/\X.env.frame=some X.env.locals)
 exf:∀b∈X.ex,b≠X.env.locals/\∀x c,X.env.cells.lookup x=some c->c≠b
 bs:∀b o,X.base.get? b=some o->X.s₀.heap.get? b=some o/\X.H₀ b=none
 QP:X.base.objs.size<=X.s₀.heap.objs.size
 K3:∀b o,X.base.get? b=some o->b∉X.ex
 Oq:∀b∈X.ex,b∉X.fs
 xP:X.s₀.heap.FunFrames X.base X.outer
 Sz:∀b∈X.fs,X.H₀ b=none
structure Inv(X:Cx)(pins:List (aF×Obj))(σ:List (Option V))(H:Hp)(s:aL):Prop where
 ok:X.Ok
 os:s.os=X.s₀.os
 bare:t_ s.gens
 base:Un X.fs X.ex X.H₀ H X.s₀.heap s.heap
 loc:∃m,s.heap.Ns X.env.locals m/\∀(i:Nat)(x:Str)(v:V),X.N[i]?=some x->σ[i]?=some (some v)->Vis X.env.scope x->∃u,RelV v u/\Look X.env s.heap m x u
 cell:∀x c,X.env.cells.lookup x=some c->∃v,s.heap.IsCell c v
 free:H X.env.locals=none
 pB:∀x c,X.env.cells.lookup x=some c->H c=none
 pin:∀p∈X.pn++pins,s.heap.get? p.1=some p.2/\H p.1=none/\p.1≠X.env.locals/\p.1∉X.fs/\∀v,p.2.data≠.cell v
 hok:uR X.prog X.w H s.heap
 len:σ.length=X.N.length
section
variable{X:Cx}{pins:List (aF×Obj)}{σ:List (Option V)}{H H':Hp}{s:aL}{h':cM}
theorem Cx.Ok.zae(ok:X.Ok){b:aF}(e:X.base.get? b=some o):b∉X.fs:=λhb=>by
 have:=(ok.xP.mem hb).1;rw[e]at this;cases this
theorem Inv.bs(I:Inv X pins σ H s):∀b o,X.base.get? b=some o->s.heap.get? b=some o/\H b=none:=λb o e=>
 #[I.base.keep b o (I.ok.bs b o e).1 (I.ok.bs b o e).2 (I.ok.zae e) (I.ok.K3 b o e),I.base.free b o (I.ok.bs b o e).1 (I.ok.bs b o e).2 (I.ok.K3 b o e)]
theorem Inv.bk(I:Inv X pins σ H s):∀b o,X.base.get? b=some o->s.heap.get? b=some o:=λb o e=>(I.bs b o e).1
theorem Inv.mod(I:Inv X pins σ H s):Mod X.K X.mg X.base:=I.ok.mod
theorem Inv.yg(I:Inv X pins σ H s):X.K.In s.heap:=I.ok.mod.Sy.keeps I.bk
theorem Inv.lt(I:Inv X pins σ H s):X.env.locals<s.heap.objs.size:=let#[_,hn,_]:=I.loc;hn.lt
theorem Inv.sz(I:Inv X pins σ H s):X.s₀.heap.objs.size<=s.heap.objs.size:=bQ I.ok.above (ou I.lt)
theorem Inv.zaf(I:Inv X pins σ H s)(h:s.heap.objs.size<=a):a∉X.fs:=λhb=>by
 obtain⟨_,o,ho,_⟩:=I.ok.xP.mem hb;exact qQ7 (bE (aZ ho) (bQ I.sz h)) ∅
theorem Inv.SD(I:Inv X pins σ H s):∀x c,X.env.cells.lookup x=some c->c≠X.env.locals:=λx c e z=>by
 obtain⟨v,o,ho,hd⟩:=I.cell x c e;obtain⟨m,⟨o',es,ep,BK,SF,_⟩,_⟩:=I.loc;rw[z,BK]at ho;cases ho;rw[SF]at hd;cases hd
theorem Inv.xP(I:Inv X pins σ H s):s.heap.FunFrames X.base X.outer:=by
 have all:∀(l:List Env),(∀b∈KS l,b∈X.fs)->X.s₀.heap.FunFrames X.base l->s.heap.FunFrames X.base l:=by
  intro l
  induction l with
  |nil=>intro _ _;trivial
  |cons env r ih=>
   intro hs hl;obtain⟨hk,⟨L,o,hf,hn,ho,hd⟩,hr⟩:=hl;have hL:=hs L (by unfold KS;rw[fq,hf];exact aM)
   obtain⟨sl,e⟩:=I.base.slot L o ho (I.ok.Sz L hL) hL λz=>I.ok.Oq L z hL
   exact#[hk,#[L,_,hf,hn,e,hd],ih (λb hb=>hs b (by unfold KS;rw[fq,hf];exact aT _ hb)) hr]
 exact all X.outer (λ_ hb=>hb) I.ok.xP
theorem Inv.stack(I:Inv X pins σ H s):s.heap.FunFrames X.base X.stack:=by
 rcases I.ok.stk with e|⟨e,hf⟩
 ·rw[e];exact I.xP
 ·rw[e]
  obtain⟨m,hn,_⟩:=I.loc;exact .cons (by rw[I.ok.kind];decide) hf hn (cM.get?_none_of_le (bQ I.ok.QP I.ok.above)) I.xP
theorem Inv.BL(I:Inv X pins σ H s):∀b∈KS X.stack,b∈X.env.locals::X.fs:=λb hb=>by
 rcases I.ok.stk with e|⟨e,hf⟩
 ·rw[e]at hb;exact aT _ hb
 ·rw[e]at hb
  unfold KS at hb;rwa[fq,hf]at hb
theorem Inv.HK(I:Inv X pins σ H s):∀b∈KS X.stack,H b=none:=λb hb=>by
 rcases ax.mp (I.BL b hb)with e|hb
 ·rw[e];exact I.free
 ·obtain⟨_,o,ho,_⟩:=I.ok.xP.mem hb
  exact I.base.free b o ho (I.ok.Sz b hb) λz=>I.ok.Oq b z hb
theorem Inv.step(I:Inv X pins σ H s)
  (KY:∀b∈ch,(b∈X.ex\/X.s₀.heap.objs.size<=b)/\b≠X.env.locals/\(∀x c,X.env.cells.lookup x=some c->c≠b)/\∀p∈X.pn++pins,p.1≠b)
  (keep:∀b o,b≠X.env.locals->b∉X.fs->b∉ch->s.heap.get? b=some o->H b=none->h'.get? b=some o)
  (slot:∀b o,b≠X.env.locals->b∈X.fs->b∉ch->s.heap.get? b=some o->H b=none->∃sl,h'.get? b=some { o with slots:=sl })(free:∀b o,b∉ch->s.heap.get? b=some o->H b=none->H' b=none)
  (there:∀b o,b∉ch->s.heap.get? b=some o->∃o',h'.get? b=some o')
  (tups:∀b xs,H b=some (.tup xs)->H' b=some (.tup xs))(vW:∀b o u,H b=some (.tM o u)->H' b=some (.tM o u))(yF:∀b ps,H b=some (.Sv ps)->∃more,H' b=some (.Sv (ps++more)))
  (ns:∀m,s.heap.Ns X.env.locals m->h'.Ns X.env.locals m)(hok:uR X.prog X.w H' h')(hg:t_ g'):
  Inv X pins σ H' { s with heap:=h',gens:=g',drawn:=d',toks:=t' }:=by
 have neL:∀b o,X.s₀.heap.get? b=some o->b≠X.env.locals:=λb o e=>a7 (bE (aZ e) I.ok.above)
 have Vi:∀b o,X.s₀.heap.get? b=some o->b∉X.ex->b∉ch:=λb o e hx hb=>by
  rcases(KY b hb).1 with z|z
  ·exact hx z
  ·exact qQ7 (bE (aZ e) z) ∅
 have cellK:∀x c,X.env.cells.lookup x=some c->∀v,s.heap.IsCell c v->h'.IsCell c v:=λx c e v #[o,ho,hd]=>by
  have V3:=λz=>(KY c z).2.2.1 x c e rfl
  by_cases hc:c∈X.fs
  ·obtain⟨sl,q⟩:=slot c o (I.SD x c e) hc V3 ho (I.pB x c e)
   exact#[_,q,hd]
  ·exact#[o,keep c o (I.SD x c e) hc V3 ho (I.pB x c e),hd]
 refine#[I.ok,I.os,hg,#[λb o e n hb hx=>?_,λb o e n hb hx=>?_,λb o e n hx=>?_,λb o e hx=>?_,λb xs e=>tups b xs (I.base.tups b xs e),λb o xs e=>vW b o xs (I.base.vW b o xs e),λb ps e=>?_],?_,λx c e=>?_,?_,λx c e=>?_,λp hp=>?_,hok,I.len]
 ·exact keep b o (neL b o e) hb (Vi b o e hx) (I.base.keep b o e n hb hx) (I.base.free b o e n hx)
 ·obtain⟨sl,e1⟩:=I.base.slot b o e n hb hx
  obtain⟨V4,e2⟩:=slot b _ (neL b o e) hb (Vi b o e hx) e1 (I.base.free b o e n hx);exact#[V4,e2]
 ·obtain⟨o',e1⟩:=I.base.there b o e hx
  exact free b o' (Vi b o e hx) e1 (I.base.free b o e n hx)
 ·obtain⟨o',e1⟩:=I.base.there b o e hx
  exact there b o' (Vi b o e hx) e1
 ·obtain⟨m1,e1⟩:=I.base.yF b ps e
  obtain⟨m2,e2⟩:=yF b _ e1;exact#[_,by rw[e2,Array.append_assoc]]
 ·obtain⟨m,hn,hl⟩:=I.loc
  refine#[m,ns m hn,λi x v e1 e2 e3=>?_]
  obtain⟨u,r,l⟩:=hl i x v e1 e2 e3;refine#[u,r,?_]
  rcases l with l|⟨k,c,e,z⟩
  ·exact .inl l
  ·exact .inr #[k,c,e,cellK x c e _ z]
 ·obtain⟨v,z⟩:=I.cell x c e
  exact#[v,cellK x c e v z]
 ·obtain⟨m,⟨o,_,_,ho,_⟩,_⟩:=I.loc
  exact free _ o (λz=>(KY _ z).2.1 rfl) ho I.free
 ·obtain⟨v,o,ho,hd⟩:=I.cell x c e
  exact free c o (λz=>(KY c z).2.2.1 x c e rfl) ho (I.pB x c e)
 ·obtain⟨e,n,ne,nf,d⟩:=I.pin p hp
  have V3:=λz=>(KY p.1 z).2.2.2 p hp rfl
  exact#[keep p.1 p.2 ne nf V3 e n,free p.1 p.2 V3 e n,ne,nf,d]
theorem Inv.un(I:Inv X pins σ H s)(u:Un X.fs [] H H' s.heap h')(hok:uR X.prog X.w H' h'):Inv X pins σ H' { s with heap:=h',toks:=t' }:=by
 obtain⟨m,⟨o,es,ep,ho,r⟩,_⟩:=id I.loc;obtain⟨sl,hL⟩:=u.any ho I.free (by simp)
 exact I.step (ch:=[]) (λ_ z=>nomatch z) (λb o _ hb _ e n=>u.keep b o e n hb (by simp)) (λb o _ hb _ e n=>u.slot b o e n hb (by simp)) (λb o _ e n=>u.free b o e n (by simp)) (λb o _ e=>u.there b o e (by simp)) u.tups u.vW u.yF (λm' hm=>by
  obtain⟨o',SG,SJ,BK,r'⟩:=hm;rw[ho]at BK;cases BK;exact#[_,SG,SJ,hL,r']) hok I.bare
theorem Inv.call(I:Inv X pins σ H s)(u:Un (KS X.stack) ch H H' s.heap h')(hok:uR X.prog X.w H' h')(hg:t_ g')
  (KY:∀b∈ch,(b∈X.ex\/X.s₀.heap.objs.size<=b)/\b≠X.env.locals/\(∀x c,X.env.cells.lookup x=some c->c≠b)/\∀p∈X.pn++pins,p.1≠b):
  Inv X pins σ H' { s with heap:=h',gens:=g',drawn:=d',toks:=t' }:=by
 obtain⟨m,⟨o,es,ep,ho,r⟩,_⟩:=id I.loc;obtain⟨sl,hL⟩:=u.any ho I.free λz=>(KY _ z).2.1 rfl
 exact I.step KY (λb o hL hb hc e n=>u.keep b o e n (λz=>(ax.mp (I.BL b z)).elim hL hb) hc) (λb o _ _ hc e n=>u.any e n hc) (λb o hc e n=>u.free b o e n hc) (λb o hc e=>u.there b o e hc) u.tups u.vW u.yF (λm' hm=>by
  obtain⟨o',SG,SJ,BK,r'⟩:=hm;rw[ho]at BK;cases BK;exact#[_,SG,SJ,hL,r']) hok hg
theorem Inv.turned(I:Inv X pins σ H s)(k:∀b o,b≠it->s.heap.get? b=some o->h'.get? b=some o)(hn:H it=none)(hL:it≠X.env.locals)
  (h1:it∈X.ex\/X.s₀.heap.objs.size<=it)(h2:∀x c,X.env.cells.lookup x=some c->c≠it)(h3:∀p∈X.pn++pins,p.1≠it):Inv X pins σ H { s with heap:=h',toks:=t' }:=by
 have V5:∀b u,H b=some u->b≠it:=λb u e z=>by rw[z,hn]at e;cases e
 refine I.step (ch:=[it]) (λb hb=>?_) (λb o _ _ hc e _=>k b o (λz=>hc (by simp[z])) e) (λb o _ _ hc e _=>#[o.slots,k b o (λz=>hc (by simp[z])) e]) (λ_ _ _ _ n=>n)
  (λb o hc e=>#[o,k b o (λz=>hc (by simp[z])) e]) (λ_ _ e=>e) (λ_ _ _ e=>e) (λb ps e=>#[#[],by rw[e];simp]) (λm hm=>?_) (λb u e=>?_) I.bare
 ·have e:b=it:=by simpa using hb
  subst e;exact#[h1,hL,h2,h3]
 ·obtain⟨o,es,ep,ho,r⟩:=hm
  exact#[o,es,ep,k _ o (bT hL) ho,r]
 ·refine(I.hok b u e).stay (λc v hc q=>k c v ?_ q) (λ_ q=>q) λ_ _ q=>q
  rcases hc with z|z
  ·rw[z];exact V5 b u e
  ·exact V5 c _ z
theorem Inv.tok(I:Inv X pins σ H s)(t:Nat):Inv X pins σ H { s with toks:=t }:=I.un Un.refl I.hok
theorem Inv.kept(I:Inv X pins σ H s)(k:∀b u,s.heap.get? b=some u->h'.get? b=some u):Inv X pins σ H { s with heap:=h',toks:=t' }:=I.un (Un.kept k) (I.hok.kept k)
theorem Inv.laid{o:HO}(I:Inv X pins σ H s)(k:∀b u,s.heap.get? b=some u->h'.get? b=some u)(hp:s.heap.objs.size<=a)(new:ia X.prog X.w (upd H a o) h' a o):
  Inv X pins σ (upd H a o) { s with heap:=h',toks:=t' }:=I.un (Un.laid k hp (I.hok.fresh hp)) (I.hok.laid k hp new)
theorem Inv.write{x e:aF}{o:HO}(I:Inv X pins σ H s)(mu:V1 (H x))(he:e=x\/H e=some (.own x))(k:∀b u,b≠e->s.heap.get? b=some u->h'.get? b=some u)(N6:∃u,h'.get? e=some u)
  (new:ia X.prog X.w (upd H x o) h' x o):Inv X pins σ (upd H x o) { s with heap:=h',toks:=t' }:=I.un (Un.write mu he k N6) (I.hok.write mu he k N6 new)
theorem Inv.HL{QQ:List (aF×Obj)}(I:Inv X pins σ H s)(h:∀p∈QQ,s.heap.get? p.1=some p.2/\H p.1=none/\p.1≠X.env.locals/\p.1∉X.fs/\∀v,p.2.data≠.cell v):Inv X QQ σ H s:=
 #[I.ok,I.os,I.bare,I.base,I.loc,I.cell,I.free,I.pB,λp hp=>(aR.mp hp).elim (λz=>I.pin p (bF _ z)) (h p),I.hok,I.len]
theorem Dn(hN:N.Nodup){i j:Nat}{x:Str}(a:N[i]?=some x)(b:N[j]?=some x):i=j:=by
 obtain⟨h1,e1⟩:=aH.mp a
 obtain⟨h2,e2⟩:=aH.mp b
 exact(List.getElem_inj hN).mp (e1.trans e2.symm)
theorem AK{i:Nat}{x:Str}{v:V}{Q:Unit->aL->Prop}(I:Inv X pins σ H s)(hN:X.N.Nodup)(hi:X.N[i]?=some x)(hx:Loc X.env.scope x)(r:RelV v u)
  (h:∀s',Inv X pins (σ.set i (some v)) H s'->(∃a,gw a s.heap s'.heap/\(a=X.env.locals\/X.env.cells.lookup x=some a))->Q () s')(hf:AJ X x:=by left):wpAny M A (storeName X.env x u) Q E s:=by
 obtain⟨m,hn,hl⟩:=id I.loc;have zag:(X.env.scope.kind == .class||(X.env.scope.kind == .module&&X.env.locals != X.env.globals))=false:=by rw[I.ok.kind];rfl
 have hiσ:i < σ.length:=by rw[I.len];exact(aH.mp hi).1
 have SD:=I.SD;have tracked:∀{a:aF}{h':cM},(∃o,s.heap.get? a=some o/\H a=none)->gw a s.heap h'->uR X.prog X.w H h':=λ{a h'}ha hs b ob e=>by
  obtain⟨_,_,QR⟩:=ha;refine(I.hok b ob e).stay (λc w' hc q=>(hs.2 c ?_).trans q) (λ_ q=>q) λ_ _ q=>q
  rintro rfl
  rcases hc with rfl|hc
  ·rw[QR]at e;cases e
  ·rw[QR]at hc;cases hc
 rcases hx with hk|hk
 ·refine wpAny_storeName_local hk hn (λh' hn' hs=>?_) zag
  obtain⟨oL,_,_,V6,_⟩:=id hn;refine h _ #[I.ok,I.os,I.bare,#[λb o e n hb hx=>?_,λb o e n hb hx=>?_,I.base.free,λb o e hx=>?_,I.base.tups,I.base.vW,I.base.yF],#[_,hn',λj y v' e1 e2 e3=>?_],λy c e=>?_,I.free,I.pB,λp hp=>?_,tracked #[oL,V6,I.free] hs,by simpa using I.len] #[_,hs,.inl rfl]
  ·exact(hs.2 b (a7 (bE (aZ e) I.ok.above))).trans (I.base.keep b o e n hb hx)
  ·obtain⟨sl,e1⟩:=I.base.slot b o e n hb hx
   exact#[sl,(hs.2 b (a7 (bE (aZ e) I.ok.above))).trans e1]
  ·obtain⟨o',e1⟩:=I.base.there b o e hx
   exact#[o',(hs.2 b (a7 (bE (aZ e) I.ok.above))).trans e1]
  ·by_cases hj:j=i
   ·subst hj
    rw[hi]at e1;cases e1;rw[bf hiσ]at e2
    cases e2;exact#[u,r,.inl #[hk,by simp]]
   ·rw[a9 (bT hj)]at e2
    obtain⟨u',r',q⟩:=hl j y v' e1 e2 e3;refine#[u',r',?_]
    rcases q with⟨k,e⟩|⟨k,c,e,z⟩
    ·refine .inl #[k,?_]
     have:y≠x:=λe=>hj (Dn hN e1 (e▸hi))
     simp[this,e]
    ·exact .inr #[k,c,e,z.sameBut hs (SD y c e)]
  ·obtain⟨w',z⟩:=I.cell y c e
   exact#[w',z.sameBut hs (SD y c e)]
  ·obtain⟨e,n,ne,nf,d⟩:=I.pin p hp
   exact#[(hs.2 p.1 ne).trans e,n,ne,nf,d]
 ·have hfn:X.fn x=true:=by
   rcases hf with z|z
   ·exact z
   ·rw[z]at hk;cases hk
  obtain⟨c,hc⟩:=I.ok.has x (.inl hk);obtain⟨w',z⟩:=I.cell x c hc;refine wpAny_storeName_cell I.ok.kind hk hc z (λh' Vj hs=>?_)
  obtain⟨oc,hoc,zai⟩:=id z;refine h { s with heap:=h' } #[I.ok,I.os,I.bare,#[λb o e n hb hx=>?_,λb o e n hb hx=>?_,I.base.free,λb o e hx=>?_,I.base.tups,I.base.vW,I.base.yF],#[m,hn.sameBut hs (bT (SD x c hc)),λj y v' e1 e2 e3=>?_],λy c' e=>?_,I.free,I.pB,λp hp=>?_,tracked #[oc,hoc,I.pB x c hc] hs,by simpa using I.len] #[c,hs,.inr hc]
  ·exact(hs.2 b (a7 (bE (aZ e) (I.ok.cab x c hfn hc)))).trans (I.base.keep b o e n hb hx)
  ·obtain⟨sl,e1⟩:=I.base.slot b o e n hb hx
   exact#[sl,(hs.2 b (a7 (bE (aZ e) (I.ok.cab x c hfn hc)))).trans e1]
  ·obtain⟨o',e1⟩:=I.base.there b o e hx
   exact#[o',(hs.2 b (a7 (bE (aZ e) (I.ok.cab x c hfn hc)))).trans e1]
  ·by_cases hj:j=i
   ·subst hj
    rw[hi]at e1;cases e1;rw[bf hiσ]at e2
    cases e2;exact#[u,r,.inr #[.inl hk,c,hc,Vj]]
   ·rw[a9 (bT hj)]at e2
    obtain⟨u',r',q⟩:=hl j y v' e1 e2 e3;refine#[u',r',?_]
    rcases q with q|⟨k,c',e,z'⟩
    ·exact .inl q
    ·refine .inr #[k,c',e,z'.sameBut hs ?_]
     rintro rfl
     exact hj (Dn hN e1 (I.ok.inj _ _ _ e hc▸hi))
  ·by_cases Ot:c'=c
   ·subst Ot;exact#[_,Vj]
   ·obtain⟨w2,z2⟩:=I.cell y c' e
    exact#[w2,z2.sameBut hs Ot]
  ·obtain⟨e,n,ne,nf,d⟩:=I.pin p hp
   refine#[(hs.2 p.1 ?_).trans e,n,ne,nf,d]
   intro q;rw[q,hoc]at e;exact d w' (by rw[<-(cD e)];exact zai)
theorem nQ{i:Nat}{x:Str}{v:V}{Q:Unit->aL->Prop}(I:Inv X pins σ H s)(hN:X.N.Nodup)(hi:X.N[i]?=some x)(hx:Loc X.env.scope x)(r:RelV v u)
  (h:∀s',Inv X pins (σ.set i (some v)) H s'->Q () s')(hf:AJ X x:=by left):wpAny M A (storeName X.env x u) Q E s:=
 AK I hN hi hx r (λs' I' _=>h s' I') hf
theorem Inv.call'(I:Inv X pins σ H s)(ho:s'.os=s.os)(u:Un (KS X.stack) ch H H' s.heap s'.heap)(hok:uR X.prog X.w H' s'.heap)(hg:t_ s'.gens)
  (KY:∀b∈ch,(b∈X.ex\/X.s₀.heap.objs.size<=b)/\b≠X.env.locals/\(∀x c,X.env.cells.lookup x=some c->c≠b)/\∀p∈X.pn++pins,p.1≠b):Inv X pins σ H' s':=by
 obtain⟨h',g',d',t',o'⟩:=s';have e:=ho;subst e;exact I.call u hok hg KY
end
abbrev XK:=aD->Option aF->Hp->Prop
abbrev St:=List (Option V)
variable{σ:St}
abbrev VK:=V->Hp->Prop
abbrev TE:=St->Hp->VK->Prop
variable{t:TE}
abbrev TT:=St->Hp->(Bool->Hp->Prop)->Prop
abbrev TA:=St->Hp->(List V->Hp->Prop)->Prop
structure Ends where
 nx:St->Hp->Prop
 rt:VK
 bk:St->Hp->Prop:=λ_ _=>False
 ct:St->Hp->Prop:=λ_ _=>False
abbrev TS:=Ends->St->Hp->Prop
def EP(X:Cx)(pins:List (aF×Obj))(σ:St)(Q:VK)(u:aD)(s':aL):Prop:=∃v H',Inv X pins σ H' s'/\RelV v u/\Q v H'
def TP(X:Cx)(pins:List (aF×Obj))(σ:St)(Q:Bool->Hp->Prop)(b:Bool)(s':aL):Prop:=∃H',Inv X pins σ H' s'/\Q b H'
def AP(X:Cx)(pins:List (aF×Obj))(σ:St)(Q:List V->Hp->Prop)(us:List aD)(s':aL):Prop:=∃vs H',Inv X pins σ H' s'/\dI vs us/\Q vs H'
def SP(X:Cx)(pins:List (aF×Obj))(D:Ends)(f:Flow)(s':aL):Prop:=
 match f with
 | .next=>∃σ' H',Inv X pins σ' H' s'/\D.nx σ' H'
 | .brk=>∃σ' H',Inv X pins σ' H' s'/\D.bk σ' H'
 | .cont=>∃σ' H',Inv X pins σ' H' s'/\D.ct σ' H'
 | .ret u=>∃v σ' H',Inv X pins σ' H' s'/\RelV v u/\D.rt v H'
def PE(X:Cx)(e:bC)(t:TE):Prop:=
 ∀(pins:List (aF×Obj))(s:aL)(σ:St)(H:Hp)(Q:VK),Inv X pins σ H s->t σ H Q->wpAny (model X.prog X.w) X.A (eval e X.env) (EP X pins σ Q) X.xe s
def PT(X:Cx)(e:bC)(t:TT):Prop:=
 ∀(pins:List (aF×Obj))(s:aL)(σ:St)(H:Hp)(Q:Bool->Hp->Prop),Inv X pins σ H s->t σ H Q->wpAny (model X.prog X.w) X.A (isTrue e X.env (eval e X.env)) (TP X pins σ Q) X.xe s
def PW(X:Cx)(e:bC)(t:TT):Prop:=
 ∀(whole:Sem aD)(pins:List (aF×Obj))(s:aL)(σ:St)(H:Hp)(Q:Bool->Hp->Prop),Inv X pins σ H s->t σ H Q->wpAny (model X.prog X.w) X.A (isTrue e X.env whole) (TP X pins σ Q) X.xe s
theorem PW.pt{t:TT}(h:PW X e t):PT X e t:=h _
def PA(X:Cx)(es:List bC)(t:TA):Prop:=
 ∀(pos:Pos)(pins:List (aF×Obj))(s:aL)(σ:St)(H:Hp)(Q:List V->Hp->Prop),Inv X pins σ H s->t σ H Q->wpAny (model X.prog X.w) X.A (spliced (backTo pos (starEach es X.env))) (AP X pins σ Q) X.xe s
def PS(X:Cx)(st:e6)(t:TS):Prop:=
 ∀(pins:List (aF×Obj))(s:aL)(σ:St)(H:Hp)(D:Ends),Inv X pins σ H s->t D σ H->wpAny (model X.prog X.w) X.A (exec st X.env) (SP X pins D) X.xe s
def Fu(X:Cx)(st:List e6)(t:TS):Prop:=
 ∀(pins:List (aF×Obj))(s:aL)(σ:St)(H:Hp)(D:Ends),Inv X pins σ H s->t D σ H->wpAny (model X.prog X.w) X.A (execs st X.env) (SP X pins D) X.xe s
theorem fP{α:Type}{t:Sem α}{Q Q':α->aL->Prop}(h:wpAny M A t Q E s)(hQ:∀a s,Q a s->Q' a s):wpAny M A t Q' E s:=gT h hQ λ_ _ x=>x
section
variable{X:Cx}
def SK(i:Nat):TE:=λσ H Q=>∃v,σ[i]?=some (some v)/\Q v H
def tC(v:V):TE:=λ_ H Q=>Q v H
theorem BM{i:Nat}{x:Str}{pos:Pos}(hN:X.N[i]?=some x)(hv:Vis X.env.scope x)(hd:vX x:=by decide)(Ou:NCd x:=by decide):PE X (.Name x pos) (SK i):=by
 intro pins s σ H Q I h;obtain⟨v,e,h⟩:=h;obtain⟨m,hn,hl⟩:=I.loc;obtain⟨u,r,l⟩:=hl i x v hN e hv;have fin:EP X pins σ Q u s:=#[v,H,I,r,h];rcases l with⟨hk,hm⟩|⟨hk,c,hc,QS⟩
 ·exact wpAny_Name (wpAny_loadName_local I.ok.kind hk hn hm fin) hd
 ·rcases hk with hk|hk
  ·exact wpAny_Name (wpAny_loadName_cell I.ok.kind hk hc QS fin) hd
  ·exact wpAny_Name (wpAny_loadName_free I.ok.kind hk hc QS fin Ou) hd
theorem ug{i:Nat}{x:Str}{pos:Pos}(h:ow X i x):PE X (.Name x pos) (SK i):=BM h.1 h.2.1 h.2.2.1 h.2.2.2
theorem K4{i j pos}:PE X (.Constant (.int i) j pos) (tC (.int i)):=λ_ _ _ H _ I h=>wpAny_Constant_int #[.int i,H,I.tok _,#[_,rfl],h]
theorem V7{b j pos}:PE X (.Constant (.bool b) j pos) (tC (.bl b)):=λ_ _ _ H _ I h=>Constant_bool #[.bl b,H,I,rfl,h]
theorem K5{j pos}:PE X (.Constant .none j pos) (tC .non):=λ_ _ _ H _ I h=>Constant_none #[.non,H,I,rfl,h]
theorem SM{x j pos}:PE X (.Constant (.str x) j pos) (tC (.str x)):=λ_ _ _ H _ I h=>Calls.Constant_str #[.str x,H,I.tok _,#[_,rfl],h]
def Gl(X:Cx)(x:Str):Prop:=X.env.kindOf x=some .globalImplicit
theorem yh{x:Str}{pos:Pos}(I:Inv X pins σ H s)(hg:Gl X x)(hm:X.mg x=some u)(h:Q u s)
  (hd:vX x:=by decide):wpAny (model X.prog X.w) X.A (eval (.Name x pos) X.env) Q E s:=
 Aa I.ok.kind hg (Calls.loadGlobal_global (by rw[I.ok.glob];exact I.mod.glob.keeps I.bk) hm h) hd
theorem vY{x:Str}{pos:Pos}(I:Inv X pins σ H s)(hg:Gl X x)(hm:X.mg x=none)(hv:bootBuiltins x=some u)(h:Q u s)
  (hn:x≠"__name__":=by decide)(hd:vX x:=by decide):wpAny (model X.prog X.w) X.A (eval (.Name x pos) X.env) Q E s:=by
 obtain⟨mb,h1,h2⟩:=I.mod.blt;exact Aa I.ok.kind hg (Calls.loadGlobal_builtin (by rw[I.ok.glob];exact I.mod.glob.keeps I.bk) hm (by rw[I.ok.blt];exact h1.keeps I.bk) ((h2 x hn).trans hv) h) hd
theorem yi{x:Str}{v:V}{pos:Pos}(hg:Gl X x)(hm:X.mg x=some u)(r:RelV v u)(hd:vX x:=by decide):PE X (.Name x pos) (tC v):=
 λ_ _ _ H _ I h=>yh I hg hm #[v,H,I,r,h] hd
theorem HM{x:Str}{v:V}{pos:Pos}(hg:Gl X x)(hm:X.mg x=none)(hv:bootBuiltins x=some u)(r:RelV v u)(hn:x≠"__name__":=by decide)(hd:vX x:=by decide):PE X (.Name x pos) (tC v):=
 λ_ _ _ H _ I h=>vY I hg hm hv #[v,H,I,r,h] hn hd
variable{a b:bC}{ta tb:TE}{pos:Pos}
def PC(X:Cx)(op:Fh)(a b:bC)(t:TE):Prop:=
 ∀(pins:List (aF×Obj))(s:aL)(σ:St)(H:Hp)(Q:VK),Inv X pins σ H s->t σ H Q->
  wpAny (model X.prog X.w) X.A (eval a X.env) (λv s₁=>wpAny (model X.prog X.w) X.A (eval b X.env) (λu s₂=>wpAny (model X.prog X.w) X.A (compareOp op v u) (EP X pins σ Q) X.xe s₂) X.xe s₁) X.xe s
def tB(t:TE):TT:=λσ H Q=>t σ H λx H1=>∃c,x=.bl c/\Q c H1
theorem Fv{op:Fh}(h:PC X op a b t)(h1:behindInMarks op b=false:=by first|exact K6 _ (by decide) (by decide)|rfl):PE X (.Compare a [op] [b] pos) t:=λpins s σ H Q I hw=>wpAny_Compare1 (h pins s σ H Q I hw) h1
theorem K7{op:Fh}(h:PC X op a b t)(h1:behindInMarks op b=false:=by first|exact K6 _ (by decide) (by decide)|rfl):PT X (.Compare a [op] [b] pos) (tB t):=by
 intro pins s σ H Q I hw;refine wpAny_isTrue_Compare1 (fP (h pins s σ H _ I hw) λv s1 h1=>fP h1 λu s2 h2=>fP h2 λc s3 #[x,H1,I1,r1,q1]=>?_) h1
 obtain⟨d,rfl,q⟩:=q1;cases r1;exact eR #[H1,I1,q]
theorem SN(h:PE X e t)(he:∀whole,isTrue e X.env whole=(do let v <-whole;standAt e.pos;holding [v] (truthy v)):=by intro _;rfl):PT X e (tB t):=by
 intro pins s σ H Q I hw;refine isTrue_plain (fP (h pins s σ H _ I hw) λv s1 #[x,H1,I1,r1,q1]=>?_) (he _)
 obtain⟨d,rfl,q⟩:=q1;cases r1;exact eR #[H1,I1,q]
variable{tA Zj:TT}{rest:List bC}
def zaj(t u:TT):TT:=λσ H Q=>t σ H λc H1=>if c=true then u σ H1 Q else Q false H1
def tOr(t u:TT):TT:=λσ H Q=>t σ H λc H1=>if c=true then Q true H1 else u σ H1 Q
def zak(t:TT):TT:=λσ H Q=>t σ H λc H1=>Q (!c) H1
theorem pw_and1(ha:PT X a tA):PW X (.BoolOp .And [a] pos) tA:=by
 intro wh pins s σ H Q I h;refine isTrue_and (fP (ha pins s σ H Q I h) λc s1 e=>?_)
 cases c with
 |true=>exact isTrue_and_nil e
 |false=>exact e
theorem pw_or1(ha:PT X a tA):PW X (.BoolOp .Or [a] pos) tA:=by
 intro wh pins s σ H Q I h;refine isTrue_or (fP (ha pins s σ H Q I h) λc s1 e=>?_)
 cases c with
 |false=>exact isTrue_or_nil e
 |true=>exact e
theorem pw_and(ha:PT X a tA)(hb:PW X (.BoolOp .And (b::rest) pos) Zj):PW X (.BoolOp .And (a::b::rest) pos) (zaj tA Zj):=by
 intro wh pins s σ H Q I h;refine isTrue_and (fP (ha pins s σ H _ I h) λc s1 #[H1,I1,q1]=>?_)
 cases c with
 |true=>exact hb wh pins s1 σ H1 Q I1 q1
 |false=>exact#[H1,I1,q1]
theorem pw_or(ha:PT X a tA)(hb:PW X (.BoolOp .Or (b::rest) pos) Zj):PW X (.BoolOp .Or (a::b::rest) pos) (tOr tA Zj):=by
 intro wh pins s σ H Q I h;refine isTrue_or (fP (ha pins s σ H _ I h) λc s1 #[H1,I1,q1]=>?_)
 cases c with
 |true=>exact#[H1,I1,q1]
 |false=>exact hb wh pins s1 σ H1 Q I1 q1
theorem K8(ha:PT X a tA):PT X (.UnaryOp .Not a pos) (zak tA):=by
 intro pins s σ H Q I h;exact isTrue_not (ha pins s σ H (λc H1=>Q (!c) H1) I h)
def V8(ta tb:TE):TE:=λσ H Q=>ta σ H λx H1=>∃c,x=.bl c/\if c=true then tb σ H1 Q else Q (.bl false) H1
def zal(ta tb:TE):TE:=λσ H Q=>ta σ H λx H1=>∃c,x=.bl c/\if c=true then Q (.bl true) H1 else tb σ H1 Q
def V9(ta:TE):TE:=λσ H Q=>ta σ H λx H1=>∃c,x=.bl c/\Q (.bl (!c)) H1
theorem K9{op}(h:PE X a t):PE X (.BoolOp op [a] pos) t:=λpins s σ H Q I hw=>BoolOp_one (h pins s σ H Q I hw)
theorem Fw(ha:PE X a ta)(hb:PE X (.BoolOp .And (b::rest) pos) tb):PE X (.BoolOp .And (a::b::rest) pos) (V8 ta tb):=by
 intro pins s σ H Q I h;refine BoolOp_and (fP (ha pins s σ H _ I h) λv s1 #[x,H1,I1,r1,q1]=>?_)
 obtain⟨c,rfl,q1⟩:=q1;cases r1;refine eR ?_
 cases c with
 |true=>exact hb pins s1 σ H1 Q I1 q1
 |false=>exact#[.bl false,H1,I1,rfl,q1]
theorem QT(ha:PE X a ta)(hb:PE X (.BoolOp .Or (b::rest) pos) tb):PE X (.BoolOp .Or (a::b::rest) pos) (zal ta tb):=by
 intro pins s σ H Q I h;refine BoolOp_or (fP (ha pins s σ H _ I h) λv s1 #[x,H1,I1,r1,q1]=>?_)
 obtain⟨c,rfl,q1⟩:=q1;cases r1;refine eR ?_
 cases c with
 |false=>exact hb pins s1 σ H1 Q I1 q1
 |true=>exact#[.bl true,H1,I1,rfl,q1]
theorem SQ(ha:PE X a ta):PE X (.UnaryOp .Not a pos) (V9 ta):=by
 intro pins s σ H Q I h;refine UnaryOp_ (fP (ha pins s σ H _ I h) λv s1 #[x,H1,I1,r1,q1]=>?_)
 obtain⟨c,rfl,q1⟩:=q1;cases r1;exact not_of (eR #[.bl (!c),H1,I1,rfl,q1])
def tIf(t:TT)(ta tb:TE):TE:=λσ H Q=>t σ H λc H1=>if c=true then ta σ H1 Q else tb σ H1 Q
theorem K_(hc:PT X c tA)(ha:PE X a ta)(hb:PE X b tb):PE X (.IfExp c a b pos) (tIf tA ta tb):=by
 intro pins s σ H Q I h;refine wpAny_IfExp (fP (hc pins s σ H _ I h) λd s1 #[H1,I1,q1]=>?_)
 cases d with
 |true=>exact ha pins s1 σ H1 Q I1 q1
 |false=>exact hb pins s1 σ H1 Q I1 q1
end
def jx(K:ao)(H:Hp)(a:aF)(xs:List V):Prop:=
 Rd H a (.lst xs)\/
  ∃(o:Obj)(its:Array aD)(n:Nat),K.lookup a=some o/\o.cls=.type "list"/\o.dict=none/\o.data=.seq its n/\its.size<=sizeLine/\dI xs its.toList
def oH(K:ao)(H:Hp)(a:aF)(xs:List V):Prop:=
 Rd H a (.tup xs)\/
  ∃(o:Obj)(its:Array aD)(n:Nat),K.lookup a=some o/\o.cls=.type "tuple"/\o.data=.seq its n/\its.size<=sizeLine/\dI xs its.toList
def zam:aD->Option V
 | .none=>some .non
 | .bool b=>some (.bl b)
 | .int i _=>some (.int i)
 | .str x _=>some (.str x)
 | .bytes b _=>some (.Vh b)
 | .float b _=>some (.flt b)
 | .ref a=>some (.ref a)
 | .type n=>some (.ty n)
 |_=>none
theorem RelV.abs{x:V}(r:RelV x u):zam u=some x:=by
 cases x with
 |non=>cases r;rfl
 |bl _=>cases r;rfl
 |int _=>obtain⟨t,rfl⟩:=r;rfl
 |str _=>obtain⟨t,rfl⟩:=r;rfl
 |Vh _=>obtain⟨t,rfl⟩:=r;rfl
 |flt _=>obtain⟨t,rfl⟩:=r;rfl
 |ref _=>cases r;rfl
 |ty _=>cases r;rfl
theorem RelV.inj{x y:V}(r:RelV x u)(q:RelV y u):x=y:=cD (r.abs.symm.trans q.abs)
theorem dI.inj:∀{xs ys:List V}{us:List aD},dI xs us->dI ys us->xs=ys
 |_,_,_,.nil,.nil=>rfl
 |_,_,_,.cons r t,.cons r' t'=>by rw[r.inj r',dI.inj t t']
section
variable{X:Cx}{pins:List (aF×Obj)}{σ:St}{H:Hp}{s:aL}{a:aF}{xs ys:List V}
theorem jx.of(h:H a=some (.lst xs)):jx K H a xs:=.inl (.inl h)
theorem oH.of(h:H a=some (.tup xs)):oH K H a xs:=.inl (.inl h)
theorem Inv.list(I:Inv X pins σ H s)(h:jx X.K H a xs):∃its:List aD,dI xs its/\PlainL s.heap a its.toArray/\xs.length<=sizeLine:=by
 rcases h with h|⟨o,its,n,hk,hc,hd,hs,hz,r⟩
 ·obtain⟨z,its,n,r,e⟩:=h.ok I.hok
  exact#[its,r,#[_,n,e,rfl,rfl,rfl],z]
 ·refine#[_,r,#[o,n,I.yg a o hk,hc,hd,by simpa using hs],?_]
  have e:=r.length;simp only[cH]at e;omega
theorem Inv.tuple(I:Inv X pins σ H s)(h:oH X.K H a xs):∃its:List aD,dI xs its/\IsTup s.heap a its.toArray/\xs.length<=sizeLine:=by
 rcases h with h|⟨o,its,n,hk,hc,hs,hz,r⟩
 ·obtain⟨z,its,r,p⟩:=h.ok I.hok
  exact#[its,r,p,z]
 ·refine#[_,r,#[o,I.yg a o hk,hc,n,by simpa using hs],?_]
  have e:=r.length;simp only[cH]at e;omega
theorem Inv.yG(I:Inv X pins σ H s)(h:jx X.K H a xs)(h':jx X.K H a ys):xs=ys:=by
 obtain⟨its,r,⟨o,n,e,_,_,d⟩,_⟩:=I.list h;obtain⟨Fx,r',⟨o',n',e',_,_,d'⟩,_⟩:=I.list h';rw[e]at e';cases e';rw[d]at d'
 injection d' with d1 _
 have:its=Fx:=by simpa using qQ6 Array.toList d1
 subst this;exact r.inj r'
theorem Inv.AO(I:Inv X pins σ H s)(h:oH X.K H a xs)(h':oH X.K H a ys):xs=ys:=by
 obtain⟨its,r,⟨o,e,_,n,d⟩,_⟩:=I.tuple h;obtain⟨Fx,r',⟨o',e',_,n',d'⟩,_⟩:=I.tuple h';rw[e]at e';cases e';rw[d]at d'
 injection d' with d1 _
 have:its=Fx:=by simpa using qQ6 Array.toList d1
 subst this;exact r.inj r'
end
abbrev Cx.wish(X:Cx)(E:aD->aL->Prop):Cx:={ X with xe:=E }
abbrev Cx.xQ(X:Cx):Cx:=X.wish λ_ _=>False
theorem Cx.Ok.wish(ok:X.Ok)(E:aD->aL->Prop):(X.wish E).Ok:=
 #[ok.mod,ok.kind,ok.glob,ok.blt,ok.above,ok.inj,ok.has,ok.cab,ok.hd,ok.frames,ok.stk,ok.exf,ok.bs,ok.QP,ok.K3,ok.Oq,ok.xP,ok.Sz]
theorem Cx.Ok.rD(ok:(X.wish E).Ok):X.Ok:=
 #[ok.mod,ok.kind,ok.glob,ok.blt,ok.above,ok.inj,ok.has,ok.cab,ok.hd,ok.frames,ok.stk,ok.exf,ok.bs,ok.QP,ok.K3,ok.Oq,ok.xP,ok.Sz]
section
variable{X:Cx}{pins:List (aF×Obj)}{σ:St}{H:Hp}{s:aL}{E:aD->aL->Prop}
theorem Inv.wish(I:Inv X pins σ H s)(E:aD->aL->Prop):Inv (X.wish E) pins σ H s:=#[I.ok.wish E,I.os,I.bare,I.base,I.loc,I.cell,I.free,I.pB,I.pin,I.hok,I.len]
theorem Inv.rD(I:Inv (X.wish E) pins σ H s):Inv X pins σ H s:=#[I.ok.rD,I.os,I.bare,I.base,I.loc,I.cell,I.free,I.pB,I.pin,I.hok,I.len]
theorem SP.rD{D:Ends}{f:Flow}(h:SP (X.wish E) pins D f s'):SP X pins D f s':=by
 cases f with
 |next=>obtain⟨σ',H',I,q⟩:=h;exact#[σ',H',I.rD,q]
 |brk=>obtain⟨σ',H',I,q⟩:=h;exact#[σ',H',I.rD,q]
 |cont=>obtain⟨σ',H',I,q⟩:=h;exact#[σ',H',I.rD,q]
 |ret u=>obtain⟨v,σ',H',I,r,q⟩:=h;exact#[v,σ',H',I.rD,r,q]
theorem Fu.xQ{st:List e6}{t:TS}(h:Fu X.xQ st t):Fu X st t:=λpins s σ H D I hw=>
 gT (h pins s σ H D (I.wish _) hw) (λ_ _ q=>q.rD) λ_ _ z=>gD z
end
section
variable{X:Cx}{st:e6}{rest:List e6}{t u:TS}{e:bC}{te:TE}{pos:Pos}
def V_:TS:=λD σ H=>D.nx σ H
def zan(t u:TS):TS:=λD σ H=>t { D with nx:=u D } σ H
theorem HN:Fu X [] V_:=λ_ _ σ H _ I h=>uP #[σ,H,I,h]
theorem kr(h1:PS X st t)(h2:Fu X rest u):Fu X (st::rest) (zan t u):=by
 intro pins s σ H D I h;refine wpAny_execs_cons (fP (h1 pins s σ H { D with nx:=u D } I h) λf s1 q=>?_)
 cases f with
 |next=>
  obtain⟨σ',H',I',q⟩:=q;exact h2 pins s1 σ' H' D I' q
 |ret v=>exact q
 |brk=>exact q
 |cont=>exact q
theorem BO(h1:PS X st t):Fu X [st] t:=by
 intro pins s σ H D I h;refine wpAny_execs_cons (fP (h1 pins s σ H D I h) λf s1 q=>?_)
 cases f with
 |next=>exact uP q
 |ret v=>exact q
 |brk=>exact q
 |cont=>exact q
theorem Inv.quiet(I:Inv X pins σ H s):interactive X.env=false:=by simp[interactive,I.ok.kind]
def V'(te:TE):TS:=λD σ H=>te σ H λ_ H1=>D.nx σ H1
theorem lL(he:PE X e te)(hs:QO X pos e:=by rfl):PS X (.Expr e pos) (V' te):=by
 intro pins s σ H D I h;exact wpAny_Expr_any (fP (he pins s σ H _ I h) λv s1 #[x,H1,I1,r1,q1]=>#[σ,H1,I1,q1]) I.quiet hs
def zao(te:TE):TS:=λD σ H=>te σ H D.rt
theorem uh(he:PE X e te):PS X (.Return (some e) pos) (zao te):=by
 intro pins s σ H D I h;exact wpAny_Return_some (fP (he pins s σ H _ I h) λv s1 #[x,H1,I1,r1,q1]=>#[x,σ,H1,I1,r1,q1])
def zap(c:TT)(t u:TS):TS:=λD σ H=>c σ H λb H1=>if b=true then t D σ H1 else u D σ H1
theorem wU{a b:List e6}{tc:TT}(hc:PT X c tc)(ha:Fu X a t)(hb:Fu X b u):PS X (.If c a b pos) (zap tc t u):=by
 intro pins s σ H D I h;refine wpAny_If (fP (hc pins s σ H _ I h) λd s1 #[H1,I1,q1]=>?_)
 cases d with
 |true=>exact ha pins s1 σ H1 D I1 q1
 |false=>exact hb pins s1 σ H1 D I1 q1
def SR:TS:=λ_ _ _=>False
theorem jA{sts:List e6}:Fu X sts SR:=λ_ _ _ _ _ _ h=>h.elim
end
abbrev TG:=V->St->Hp->(St->Hp->Prop)->Prop
abbrev QV:=List V->St->Hp->(St->Hp->Prop)->Prop
def PG(X:Cx)(target:bC)(t:TG):Prop:=
 ∀(pins:List (aF×Obj))(s:aL)(σ:St)(H:Hp)(v:V)(u:aD)(Q:St->Hp->Prop),Inv X pins σ H s->RelV v u->t v σ H Q->
  wpAny (model X.prog X.w) X.A (assign target X.env u) (λ_ s'=>∃σ' H',Inv X pins σ' H' s'/\Q σ' H') X.xe s
def Zk(X:Cx)(ts:List bC)(t:QV):Prop:=
 ∀(pins:List (aF×Obj))(s:aL)(σ:St)(H:Hp)(vs:List V)(us:List aD)(Q:St->Hp->Prop),Inv X pins σ H s->dI vs us->t vs σ H Q->
  wpAny (model X.prog X.w) X.A (assignInOrder ((assignEach ts X.env).map (·.2)) us) (λ_ s'=>∃σ' H',Inv X pins σ' H' s'/\Q σ' H') X.xe s
section
variable{X:Cx}{pos:Pos}
def AQ(i:Nat):TG:=λv σ H Q=>Q (σ.set i (some v)) H
theorem Ov{i:Nat}{x:Str}(hN:X.N.Nodup)(hi:X.N[i]?=some x)(hx:Loc X.env.scope x)(hf:AJ X x:=by left):PG X (.Name x pos) (AQ i):=by
 intro pins s σ H v u Q I r h;exact wpAny_assign_Name (nQ I hN hi hx r (λs' I'=>#[_,H,I',h]) hf)
theorem gX{x:Str}{pos:Pos}(i:Nat)(hN:X.N.Nodup)(hi:X.N[i]?=some x:=by rfl)(hx:Loc X.env.scope x:=by left)(hf:AJ X x:=by left):PG X (.Name x pos) (AQ i):=Ov hN hi hx hf
def Wb:QV:=λvs σ H Q=>vs=[]/\Q σ H
def QW(t:TG)(u:QV):QV:=λvs σ H Q=>∃v r,vs=v::r/\t v σ H λσ' H'=>u r σ' H' Q
theorem fM:Zk X [] Wb:=by
 intro pins s σ H vs us Q I r h;obtain⟨e,h⟩:=h;subst e;cases r;exact Ab #[σ,H,I,h]
theorem bZ{t:TG}{u:QV}(h1:PG X e t)(h2:Zk X es u)
  (hs:(assignEach (e::es) X.env).map (·.2)=assign e X.env::(assignEach es X.env).map (·.2):=by rfl):Zk X (e::es) (QW t u):=by
 intro pins s σ H vs us Q I r h;obtain⟨v,vr,e1,h⟩:=h;subst e1;cases r with
 |cons r rr=>
  rw[hs];exact ja (fP (h1 pins s σ H _ _ _ I r h) λ_ s1 #[σ1,H1,I1,q1]=>(h2 pins s1 σ1 H1 _ _ Q I1 rr q1))
def Wc(K:ao)(n:Nat)(t:QV):TG:=λv σ H Q=>∃a xs,v=.ref a/\oH K H a xs/\xs.length=n/\t xs σ H Q
theorem gY{t:QV}{n:Nat}(hc:X.calm=true)(h:Zk X es t)
  (hn:(assignEach es X.env).length=n:=by rfl)(Dp:(assignEach es X.env).findIdx? (·.1)=none:=by rfl):PG X (.Tuple es k pos) (Wc X.K n t):=by
 intro pins s σ H v u Q I r hw;obtain⟨a,xs,e1,hq,hl,hw⟩:=hw;subst e1;cases r;obtain⟨its,rv,ht,hz⟩:=I.tuple hq;refine assign_Tuple_tuple (I.ok.hd hc) ht (by simp[hn,<-hl,rv.length]) Dp λh' hx=>?_
 exact h pins _ σ H xs _ Q (I.kept λb o e=>hx b o (a7 (aZ e)) e) ↑rv hw
def Wf(te:TE)(g:TG):TS:=λD σ H=>te σ H λx H1=>g x σ H1 D.nx
theorem ui{i:Nat}{x:Str}{te:TE}{pos':Pos}(hN:X.N.Nodup)(hi:X.N[i]?=some x)(hx:Loc X.env.scope x)(he:PE X e te)(hs:uX X pos e (.Name x pos'):=by rfl)(hf:AJ X x:=by left):
  PS X (.Assign [.Name x pos'] e pos) (Wf te (AQ i)):=by
 intro pins s σ H D I h;exact wpAny_Assign_Name (fP (he pins s σ H _ I h) λv s1 #[y,H1,I1,r1,q1]=>(nQ I1 hN hi hx r1 (λs2 I2=>#[_,H1,I2,q1]) hf)) hs
def zaq(i j:Nat)(ta:TA):TS:=λD σ H=>ta σ H λvs H1=>∃v w,vs=[v,w]/\D.nx ((σ.set i (some v)).set j (some w)) H1
theorem La{i j:Nat}{x y:Str}{a b:bC}{ta:TA}{px py pt:Pos}{kt k2 Fy}(hc:X.calm=true)(hN:X.N.Nodup)(hi:X.N[i]?=some x)(hj:X.N[j]?=some y)(yj:i≠j)
  (hx:X.env.scope.names.lookup x=some .local)(hy:X.env.scope.names.lookup y=some .local)(ha:PA X [a,b] ta)
  (hw:swappedStores [.Tuple [.Name x px,.Name y py] kt pt] (.Tuple [a,b] k2 Fy) X.env=pure (some [x,y]))
  (hs:swapsWithSole [.Tuple [.Name x px,.Name y py] kt pt] (.Tuple [a,b] k2 Fy) pos.line X.env=pure false:=by rfl):
  PS X (.Assign [.Tuple [.Name x px,.Name y py] kt pt] (.Tuple [a,b] k2 Fy) pos) (zaq i j ta):=by
 intro pins s σ H D I h;refine aA (yc ?_)
 rw[hs];refine aA (bj ?_)
 refine aA (Tuple_ (fP (ha _ pins s σ H _ I h) λus s1 #[vs,H1,I1,r1,q1]=>?_))
 obtain⟨v,w,e1,q1⟩:=q1;subst e1;obtain⟨u1,u2,rfl,rv,sD⟩:∃u1 u2,us=[u1,u2]/\RelV v u1/\RelV w u2:=by
  cases r1 with
  |cons p q=>
   cases q with
   |cons p' q'=>
    cases q';exact#[_,_,rfl,p,p']
 refine fB ?_ (by show 2<=sizeLine;decide)
 have I2:Inv X pins σ H1 { s1 with heap:=s1.heap.push { cls:=.type "tuple",data:=.seq [u1,u2].toArray } }:=I1.kept λb o e=>aE _ e
 rw[hw];refine aA (bj ?_)
 refine aA (ua (aA (unpackItems_tuple (items:=(bN [u1,u2])) (I.ok.hd hc) (tF s1.heap _) λh' hx'=>?_)))
 refine aA (ja (pX (nQ (I2.kept (t':=s1.toks) λb o e=>hx' b o (a7 (aZ e)) e) hN hj (.inl hy) sD (λs2 I4=>?_) (.inr hy))))
 refine ja (pX (nQ I4 hN hi (.inl hx) rv (λs3 I5=>Ab (bj ?_)) (.inr hx)))
 rw[uU _ _ (bT yj)]at I5;exact#[_,H1,I5,q1]
end
section
variable{X:Cx}{pos:Pos}
def SV(c:TT)(tb:TS):TS:=λD σ H=>∃W:Nat->St->Hp->Prop,(∃m,W m σ H)/\∀m σ H,W m σ H->
 c σ H λb H1=>if b=true then ∃N:St->Hp->Prop,(∀σ' H',N σ' H'->∃m',m'<m/\W m' σ' H')/\tb { D with nx:=N,ct:=N,bk:=D.nx } σ H1 else D.nx σ H1
theorem Lb{tc:TT}{tb:TS}(hp:pS (model X.prog X.w) X.A X.env X.xe)(hc:PT X c tc)(hb:Fu X body tb):PS X (.While c body [] pos) (SV tc tb):=by
 intro pins s σ H D I h;obtain⟨W,⟨m0,w0⟩,turn⟩:=h;refine wpAny_While (codeAny_whileLoop (λn s'=>∃σ' H',Inv X pins σ' H' s'/\W n σ' H') ?_ m0 #[σ,H,I,w0])
 rintro n s1 ⟨σ1,H1,I1,w1⟩
 refine jy hp (fP (hc pins s1 σ1 H1 _ I1 (turn n σ1 H1 w1)) λb s2 #[H2,I2,q2]=>?_)
 cases b with
 |true=>
  obtain⟨N,hN,q2⟩:=q2;rw[qQ3 rfl];refine jy hp (fP (hb pins s2 σ1 H2 _ I2 q2) λf s3 q3=>?_)
  cases f with
  |next=>
   obtain⟨σ3,H3,I3,n3⟩:=q3;obtain⟨m',hm,w3⟩:=hN σ3 H3 n3;exact#[m',hm,σ3,H3,I3,w3]
  |cont=>
   obtain⟨σ3,H3,I3,n3⟩:=q3;obtain⟨m',hm,w3⟩:=hN σ3 H3 n3;exact#[m',hm,σ3,H3,I3,w3]
  |brk=>exact q3
  |ret v=>exact q3
 |false=>
  rw[qQ2 eS];exact uP #[σ1,H2,I2,q2]
end
structure It where
 go:Nat->Hp->Prop
 Wh:Nat->Hp->V->Hp->Prop
 stop:Nat->Hp->Prop
def uj(X:Cx)(pins:List (aF×Obj))(H:Hp)(b:aF):Prop:=
 H b=none/\b≠X.env.locals/\b∉X.fs/\(b∈X.ex\/X.s₀.heap.objs.size<=b)/\(∀x c,X.env.cells.lookup x=some c->c≠b)/\∀p∈X.pn++pins,p.1≠b
theorem Inv.vZ{H': Hp}{b:aF}(I:Inv X pins σ H s)(hb:s.heap.objs.size<=b)(hn:H' b=none):uj X pins H' b:=by
 refine#[hn,ft (bE I.lt hb),I.zaf hb,.inr (bQ I.sz hb),λx c e z=>?_,λp hp z=>?_]
 ·obtain⟨v,q⟩:=I.cell x c e
  exact qQ7 (bE q.lt (by rw[z];exact hb)) (Nat.lt_irrefl _)
 ·exact qQ7 (bE (aZ (I.pin p hp).1) (by rw[z];exact hb)) (Nat.lt_irrefl _)
structure Turn(P:bA)(w:cg)(K:ao)(tg:bC)(J:It)(fp:List aF)(it:aF)(tn:Nat->cM->Prop):Prop where
 mem:it∈fp
 obj:∀i h,tn i h->∀b∈fp,∃o,h.get? b=some o/\∀v,o.data≠.cell v
 keep:∀i h h',tn i h->(∀b∈fp,∀o,h.get? b=some o->h'.get? b=some o)->tn i h'
 item:∀(X:Cx),X.prog=P->X.w=w->X.K=K->X.calm=true->∀(i:Nat)(pins:List (aF×Obj))(s:aL)(σ:St)(H:Hp)(E:aD->aL->Prop),Inv X pins σ H s->(∀b∈fp,uj X pins H b)->tn i s.heap->J.go i H->
  wpAny (model P w) X.A (pyNext (.ref it)) (λr s1=>∃u,r=some u/\
   wpAny (model P w) X.A (letOwnedTupleGo tg (.ref it) u) (λ_ s2=>∃x H',Inv X pins σ H' s2/\RelV x u/\J.Wh i H x H'/\tn (i+1) s2.heap/\∀b∈fp,H' b=none) E s1) E s
 done:∀(X:Cx),X.prog=P->X.w=w->X.K=K->X.calm=true->∀(i:Nat)(pins:List (aF×Obj))(s:aL)(σ:St)(H:Hp)(E:aD->aL->Prop),Inv X pins σ H s->(∀b∈fp,uj X pins H b)->tn i s.heap->J.stop i H->
  wpAny (model P w) X.A (pyNext (.ref it)) (λr s1=>r=none/\Inv X pins σ H s1) E s
 self:∀(A:dE)(i:Nat)(s:aL)(Q:aD->aL->Prop)(E:aD->aL->Prop),tn i s.heap->Q (.ref it) s->wpAny (model P w) A (pyIter (.ref it)) Q E s
abbrev TI:=St->Hp->(It->Hp->Prop)->Prop
def PIE(X:Cx)(pins:List (aF×Obj))(σ:St)(tg:bC)(R:It->Hp->Prop)(Zm:aD)(s2:aL):Prop:=
 ∃(it:aF)(fp:List aF)(tn:Nat->cM->Prop)(J:It)(H':Hp),Zm=.ref it/\Inv X pins σ H' s2/\Turn X.prog X.w X.K tg J fp it tn/\tn 0 s2.heap/\(∀b∈fp,uj X pins H' b)/\R J H'
def PI(X:Cx)(tg iter:bC)(wi:TI):Prop:=
 ∀(pins:List (aF×Obj))(s:aL)(σ:St)(H:Hp)(R:It->Hp->Prop),Inv X pins σ H s->wi σ H R->
  wpAny (model X.prog X.w) X.A (eval iter X.env) (λv s1=>wpAny (model X.prog X.w) X.A (pyIter v) (PIE X pins σ tg R) X.xe s1) X.xe s
theorem Dq{n:String}{vs:Array aD}{Q:Unit->aL->Prop}(ho:s.heap.get? it=some o)(hc:o.cls=.type n)(hd:o.data=.fields vs)
    (hn:["enumerate","zip","dict_itemiterator","dict_reverseitemiterator","odict_iterator","itertools.zip_longest","itertools.pairwise"].contains n=false)(hQ:Q () s):wpAny M A (letOwnedTupleGo tg (.ref it) u) Q E s:=by
  cases tg<;>first
    | exact bj hQ
    | (cases u<;>first
        | exact bj hQ
        | (refine aA (wpAny_load ho ?_)
           rw[hc,hd];show wpAny M A (if(["enumerate","zip","dict_itemiterator","dict_reverseitemiterator","odict_iterator","itertools.zip_longest","itertools.pairwise"].contains n&&vs[0]?==some (rawInt _))=true then _ else _) Q E s
           rw[qQ2 (by intro h;rw[hn,Bool.false_and]at h;cases h)]
           exact bj hQ))
def Itl(K:ao)(a:aF):It:=
 #[λi H=>∃xs x,jx K H a xs/\xs[i]?=some x,λi H x H'=>H'=H/\∀xs,jx K H a xs->xs[i]?=some x,λi H=>∃xs,jx K H a xs/\xs.length<=i]
def Itt(K:ao)(a:aF):It:=
 #[λi H=>∃xs x,oH K H a xs/\xs[i]?=some x,λi H x H'=>H'=H/\∀xs,oH K H a xs->xs[i]?=some x,λi H=>∃xs,oH K H a xs/\xs.length<=i]
def Itr(lo:Int)(n:Nat):It:=#[λi _=>i<n,λi H x H'=>H'=H/\x=.int (lo+i),λi _=>n<=i]
theorem Jl(a it:aF):Turn P w K tg (Itl K a) [it] it (λi h=>h.IsListIter it a i) where
 mem:=by simp
 obj:=λi h st b hb=>by
  have e:b=it:=by simpa using hb
  subst e;obtain⟨o,e,c,d⟩:=st;exact#[o,e,λv z=>by rw[d]at z;cases z]
 keep:=λi h h' st k=>st.at λo e=>k it (by simp) o e
 item:=by
  intro X hP hw hK hc i pins s σ H E I hf st hg;subst hP hw hK;obtain⟨xs,x,hq,hx⟩:=hg;obtain⟨its,rv,p,hz⟩:=I.list hq;obtain⟨u,hu,ru⟩:=rv.get hx;obtain⟨f0,f1,f2,f3,f4,f5⟩:=hf it (by simp)
  refine wpAny_pyNext_list_item st p.isList ↑hu λh' yk sb=>?_
  obtain⟨o,e,c,d⟩:=id yk;exact#[u,rfl,Dq e c d ⋯ #[x,H,I.turned (λb o hb e=>(sb.2 b hb).trans e) f0 f1 f3 f4 f5,ru,#[rfl,λys hy=>by rw[I.yG hy hq];exact hx],yk,λb hb=>(hf b hb).1]]
 done:=by
  intro X hP hw hK hc i pins s σ H E I hf st hg;subst hP hw hK;obtain⟨xs,hq,hx⟩:=hg;obtain⟨its,rv,p,hz⟩:=I.list hq;obtain⟨f0,f1,f2,f3,f4,f5⟩:=hf it (by simp)
  have hl:=rv.length;exact wpAny_pyNext_list_end (I.ok.hd hc) st p.isList (by simp;omega) λh' eb=>#[rfl,I.turned (λb o hb e=>eb b o hb e) f0 f1 f3 f4 f5]
 self:=λ_ _ _ _ _ st h=>wpAny_pyIter_listiter st h
theorem Fz(a it:aF):Turn P w K tg (Itt K a) [it] it (λi h=>h.IsTupleIter it a i) where
 mem:=by simp
 obj:=λi h st b hb=>by
  have e:b=it:=by simpa using hb
  subst e;obtain⟨o,e,c,d⟩:=st;exact#[o,e,λv z=>by rw[d]at z;cases z]
 keep:=λi h h' st k=>st.at λo e=>k it (by simp) o e
 item:=by
  intro X hP hw hK hc i pins s σ H E I hf st hg;subst hP hw hK;obtain⟨xs,x,hq,hx⟩:=hg;obtain⟨its,rv,p,hz⟩:=I.tuple hq;obtain⟨u,hu,ru⟩:=rv.get hx;obtain⟨f0,f1,f2,f3,f4,f5⟩:=hf it (by simp)
  refine wpAny_pyNext_tuple_item st p ↑hu λh' yk sb=>?_
  obtain⟨o,e,c,d⟩:=id yk;exact#[u,rfl,Dq e c d ⋯ #[x,H,I.turned (λb o hb e=>(sb.2 b hb).trans e) f0 f1 f3 f4 f5,ru,#[rfl,λys hy=>by rw[I.AO hy hq];exact hx],yk,λb hb=>(hf b hb).1]]
 done:=by
  intro X hP hw hK hc i pins s σ H E I hf st hg;subst hP hw hK;obtain⟨xs,hq,hx⟩:=hg;obtain⟨its,rv,p,hz⟩:=I.tuple hq;obtain⟨f0,f1,f2,f3,f4,f5⟩:=hf it (by simp)
  have hl:=rv.length;exact wpAny_pyNext_tuple_end (I.ok.hd hc) st p (by simp;omega) λh' eb=>#[rfl,I.turned (λb o hb e=>eb b o hb e) f0 f1 f3 f4 f5]
 self:=λ_ _ _ _ _ st h=>wpAny_pyIter_tupleiter st h
theorem FC(it:aF)(lo:Int)(n:Nat):Turn P w K tg (Itr lo n) [it] it (λi h=>IsRangeIter h it (lo+(i:Nat)*1) ((n:Int)-(i:Nat)) 1) where
 mem:=by simp
 obj:=λi h st b hb=>by
  have e:b=it:=by simpa using hb
  subst e;exact#[_,st,λv z=>by
   have z':=z;cases z']
 keep:=λi h h' st k=>k it (by simp) _ st
 item:=by
  intro X hP hw hK hc i pins s σ H E I hf st hg;subst hP hw hK;obtain⟨f0,f1,f2,f3,f4,f5⟩:=hf it (by simp)
  refine (Walks.range (I.ok.hd hc) it lo 1 n).item i s _ _ hg st λv h' tk hv yk kk=>?_
  obtain⟨t,rfl⟩:=hv;have I1:Inv X pins σ H { s with heap:=h',toks:=tk }:=I.turned (λb o hb e=>kk b o ↑hb e) f0 f1 f3 f4 f5
  refine#[_,rfl,Dq yk rfl rfl ⋯ #[.int (lo+i),H,I1,#[t,?_],#[rfl,rfl],yk,λb hb=>(hf b hb).1]]
  rw[Int.mul_one]
 done:=by
  intro X hP hw hK hc i pins s σ H E I hf st hg;subst hP hw hK;obtain⟨f0,f1,f2,f3,f4,f5⟩:=hf it (by simp)
  exact wpAny_pyNext_range_end (I.ok.hd hc) st (by have:n<=i:=hg;omega) λh' eb=>#[rfl,I.turned (λb o hb e=>eb b o hb e) f0 f1 f3 f4 f5]
 self:=λ_ _ _ _ _ st h=>wpAny_pyIter_rangeiter st h
section
variable{X:Cx}{tg:bC}
def Wi(K:ao)(tl:TE):TI:=λσ H R=>tl σ H λx H1=>∃a,x=.ref a/\(∃xs,jx K H1 a xs)/\R (Itl K a) H1
def zau(K:ao)(tl:TE):TI:=λσ H R=>tl σ H λx H1=>∃a,x=.ref a/\(∃xs,oH K H1 a xs)/\R (Itt K a) H1
theorem HP{l:bC}{tl:TE}(hl:PE X l tl):PI X tg l (Wi X.K tl):=by
 intro pins s σ H R I h;refine fP (hl pins s σ H _ I h) λv s1 #[x,H1,I1,r1,q1]=>?_
 obtain⟨a,e,⟨xs,hq⟩,q⟩:=q1;subst e;cases r1;obtain⟨its,rv,p,hz⟩:=I1.list hq;refine my p.isList ?_
 refine#[s1.heap.objs.size,_,_,_,H1,rfl,I1.kept λb o e=>aE _ e,Jl a _,#[_,bq _ rfl,rfl,rfl],λb hb=>?_,q]
 have e:b=s1.heap.objs.size:=by simpa using hb
 subst e;exact I1.vZ ∅ (I1.hok.fresh ∅)
theorem SW{l:bC}{tl:TE}(hl:PE X l tl):PI X tg l (zau X.K tl):=by
 intro pins s σ H R I h;refine fP (hl pins s σ H _ I h) λv s1 #[x,H1,I1,r1,q1]=>?_
 obtain⟨a,e,⟨xs,hq⟩,q⟩:=q1;subst e;cases r1;obtain⟨its,rv,p,hz⟩:=I1.tuple hq;refine yA p ?_
 refine#[s1.heap.objs.size,_,_,_,H1,rfl,I1.kept λb o e=>aE _ e,Fz a _,#[_,bq _ rfl,rfl,rfl],λb hb=>?_,q]
 have e:b=s1.heap.objs.size:=by simpa using hb
 subst e;exact I1.vZ ∅ (I1.hok.fresh ∅)
theorem Lc{R:It->Hp->Prop}{lo hi:Int}{t u v:Tok}{tk:Nat}(I:Inv X pins σ H s)(h1:-(2^62)<=lo)(h2:lo<2^62)(h3:-(2^62)<=hi)(h4:hi<2^62)
  (q:R (Itr lo (hi-lo).toNat) H):wpAny (model X.prog X.w) X.A (pyIter (.ref s.heap.objs.size)) (PIE X pins σ tg R) E { s with heap:=s.heap.push { cls:=.type "range",data:=.fields (bN [.int lo t,.int hi u,.int 1 v]) },toks:=tk }:=by
 refine wpAny_pyIter_range (IsRange.new ..) (small_one h1 h2 h3 h4) ?_
 have I1:Inv X pins σ H { s with heap:=s.heap.push { cls:=.type "range",data:=.fields (bN [.int lo t,.int hi u,.int 1 v]) },toks:=tk }:=I.kept λb o e=>aE _ e
 refine#[(s.heap.push { cls:=.type "range",data:=.fields (bN [.int lo t,.int hi u,.int 1 v]) }).objs.size,_,_,_,H,rfl,
  I1.kept λb o e=>aE _ e,FC _ lo (hi-lo).toNat,?_,λb hb=>?_,q]
 ·have e1:lo+((0:Nat))*1=lo:=by simp
  have e2:(((hi-lo).toNat))-((0:Nat))=qY.Range.rangeSize lo hi 1:=by rw[rangeSize_one];split<;>omega
  rw[e1,e2];exact bq _ rfl
 ·have e:b=(s.heap.push { cls:=.type "range",data:=.fields (bN [.int lo t,.int hi u,.int 1 v]) }).objs.size:=by simpa using hb
  subst e;exact I1.vZ (aP _) (I1.hok.fresh (aP _))
def Wj(ta:TA):TI:=λσ H R=>ta σ H λvs H1=>∃j:Int,vs=[.int j]/\-(2^62)<=j/\j<2^62/\R (Itr 0 j.toNat) H1
theorem Jm{a:bC}{ta:TA}{p pos:Pos}(hg:Gl X "range")(hm:X.mg "range"=none)(ha:PA X [a] ta)(hs:starEach [a] X.env=[(false,eval a X.env)]:=by rfl):PI X tg (.Call (.Name "range" p) [a] [] pos) (Wj ta):=by
 intro pins s σ H R I h;refine Call_ (vY I hg hm boot_range (iA (fP (ha pos pins s σ H _ I h) λus s1 #[vs,H1,I1,r1,q1]=>?_) hs rfl))
 obtain⟨j,e,q1,q2,q⟩:=q1;subst e;cases r1 with
 |cons r rr=>
  cases rr;obtain⟨t,rfl⟩:=r;exact call_range_1 (Lc I1 ∅ ∅ q1 q2 ↑q)
def zav(wi:TI)(g:TG)(tb:TS):TS:=λD σ H=>wi σ H λJ H1=>∃W:Nat->Nat->St->Hp->Prop,(∃m,W 0 m σ H1)/\∀i m σ H,W i m σ H->
 (J.stop i H/\D.nx σ H)\/(J.go i H/\∃N:St->Hp->Prop,(∀σ' H',N σ' H'->∃m',m'<m/\W (i+1) m' σ' H')/\∀x H',J.Wh i H x H'->g x σ H' λσ2 H2=>tb { D with nx:=N,ct:=N,bk:=D.nx } σ2 H2)
def BP(fp:List aF)(h:cM):List (aF×Obj):=fp.filterMap λb=>(h.get? b).map λo=>(b,o)
theorem pZ{b:aF}(hb:b∈fp)(e:h.get? b=some o):(b,o)∈BP fp h:=ka.mpr #[b,hb,by rw[e];rfl]
theorem Jn{p:aF×Obj}(hp:p∈BP fp h):p.1∈fp/\h.get? p.1=some p.2:=by
 obtain⟨b,hb,e⟩:=ka.mp hp;cases q:h.get? b with
 |none=>rw[q]at e;cases e
 |some o=>
  rw[q]at e;have e':=cD e;subst e';exact#[hb,q]
theorem Inv.pinned(I:Inv X pins σ H s)(hf:∀b∈fp,uj X pins H b)(ho:∀b∈fp,∃o,s.heap.get? b=some o/\∀v,o.data≠.cell v):Inv X (pins++BP fp s.heap) σ H s:=
 I.HL λp hp=>(aR.mp hp).elim (λz=>I.pin p (bu _ z)) λz=>by
  obtain⟨hb,e⟩:=Jn z;obtain⟨f0,f1,f2,_⟩:=hf p.1 hb;obtain⟨o,e',d⟩:=ho p.1 hb;rw[e]at e';cases e';exact#[e,f0,f1,f2,d]
theorem Inv.rE{pl: List (aF×Obj)}(I:Inv X (pins++pl) σ H s):Inv X pins σ H s:=I.HL λp hp=>I.pin p (bu _ (bF _ hp))
theorem BQ{iter:bC}{wi:TI}{g:TG}{tb:TS}{pos:Pos}(hp:pS (model X.prog X.w) X.A X.env X.xe)(hc:X.calm=true)(hi:PI X tg iter wi)(hg:PG X tg g)(hb:Fu X body tb)
  (hs:KW X iter:=by intro _;rfl):PS X (.For tg iter body [] pos) (zav wi g tb):=by
 intro pins s σ H D I h;refine wpAny_For (fP (hi pins s σ H _ I h) λv s1 h1=>fP h1 λZm s2 h2=>?_) hs
 obtain⟨it,fp,tn,J,H2,e,I2,T,Wk,f2,W,⟨m0,w0⟩,turn⟩:=h2;subst e;have stat:∀{H':Hp},(∀b∈fp,H' b=none)->∀b∈fp,uj X pins H' b:=λhn b hb=>#[hn b hb,(f2 b hb).2]
 refine codeAny_forLoop_any (λn s'=>∃i σ' H',Inv X pins σ' H' s'/\tn i s'.heap/\(∀b∈fp,H' b=none)/\W i n σ' H') ?_ m0 #[0,σ,H2,I2,Wk,λb hb=>(f2 b hb).1,w0]
 rintro n s3 ⟨i,σ3,H3,I3,st3,fr3,w3⟩
 rcases turn i n σ3 H3 w3 with⟨stop,qn⟩|⟨go,N,hN,step⟩
 ·refine jy hp (fP (T.done X rfl rfl rfl hc i pins s3 σ3 H3 X.xe I3 (stat fr3) st3 stop) λr s4 #[hr,I4]=>?_)
  subst hr;exact uP #[σ3,H3,I4,qn]
 ·refine jy hp (fP (T.item X rfl rfl rfl hc i pins s3 σ3 H3 X.xe I3 (stat fr3) st3 go) λr s4 #[u,hr,h4]=>?_)
  subst hr;refine jy hp (fP h4 λ_ s5 #[x,H5,I5,r5,y5,st5,fr5]=>?_)
  refine jy hp (fP (hg _ s5 σ3 H5 x u _ (I5.pinned (stat fr5) (T.obj _ _ st5)) r5 (step x H5 y5)) λ_ s6 #[σ6,H6,I6,q6]=>?_)
  refine jy hp (fP (hb _ s6 σ6 H6 _ I6 q6) λf s7 q7=>?_)
  have again:∀{σ7:St}{H7:Hp},Inv X _ σ7 H7 s7->N σ7 H7->∃m,m<n/\∃i σ' H',Inv X pins σ' H' s7/\tn i s7.heap/\(∀b∈fp,H' b=none)/\W i m σ' H':=λ{σ7 H7}I7 n7=>by
   obtain⟨m',hm,w7⟩:=hN σ7 H7 n7;refine#[m',hm,i+1,σ7,H7,I7.rE,T.keep _ _ _ st5 λb hb o e=>(I7.pin (b,o) (bu _ (bu _ (pZ hb e)))).1,λb hb=>?_,w7]
   obtain⟨o,e,d⟩:=T.obj _ _ st5 b hb;exact(I7.pin (b,o) (bu _ (bu _ (pZ hb e)))).2.1
  cases f with
  |next=>obtain⟨σ7,H7,I7,n7⟩:=q7;exact again I7 n7
  |cont=>obtain⟨σ7,H7,I7,n7⟩:=q7;exact again I7 n7
  |brk=>obtain⟨σ7,H7,I7,q7⟩:=q7;exact#[σ7,H7,I7.rE,q7]
  |ret v=>obtain⟨x7,σ7,H7,I7,r7,q7⟩:=q7;exact#[x7,σ7,H7,I7.rE,r7,q7]
end
abbrev R2:=V->V->Hp->VK->Prop
variable{r:R2}
def rg(X:Cx)(f:aD->aD->Sem aD)(r:R2):Prop:=
 ∀(pins:List (aF×Obj))(s:aL)(σ:St)(H:Hp)(x y:V)(v u:aD)(Q:VK),Inv X pins σ H s->RelV x v->RelV y u->r x y H Q->
  wpAny (model X.prog X.w) X.A (f v u) (EP X pins σ Q) X.xe s
def g8(X:Cx)(f:aD)(r:List V->Hp->VK->Prop):Prop:=
 ∀(pins:List (aF×Obj))(s:aL)(σ:St)(H:Hp)(xs:List V)(us:List aD)(Q:VK),Inv X pins σ H s->dI xs us->r xs H Q->
  wpAny (model X.prog X.w) X.A (call f us) (EP X pins σ Q) X.xe s
def zax(X:Cx)(r:V->Hp->(Bool->Hp->Prop)->Prop):Prop:=
 ∀(pins:List (aF×Obj))(s:aL)(σ:St)(H:Hp)(x:V)(v:aD)(Q:Bool->Hp->Prop),Inv X pins σ H s->RelV x v->r x H Q->
  wpAny (model X.prog X.w) X.A (truthy v) (TP X pins σ Q) X.xe s
def Wm(r:R2)(ta tb:TE):TE:=λσ H Q=>ta σ H λx H1=>tb σ H1 λy H2=>r x y H2 Q
def rI(C:Int->Int->Prop)(g:Int->Int->V):R2:=λx y H Q=>∃i j,x=.int i/\y=.int j/\C i j/\Q (g i j) H
def N7(g:Int->Int->V):R2:=λx y H Q=>∃i j,x=.int i/\y=.int j/\Q (g i j) H
section
variable{X:Cx}{a b c:bC}{ta tb tc:TE}{pos:Pos}
theorem SX(ha:PE X a ta)(hb:PE X b tb)(I:Inv X pins σ H s)
  (h:ta σ H λx H1=>tb σ H1 λy H2=>R x y H2)
  (hf:∀v u s2 x y H2,Inv X pins σ H2 s2->RelV x v->RelV y u->R x y H2->wpAny (model X.prog X.w) X.A (f v u) Q X.xe s2):
  wpAny (model X.prog X.w) X.A (eval a X.env) (λv s₁=>wpAny (model X.prog X.w) X.A (eval b X.env) (λu s₂=>wpAny (model X.prog X.w) X.A (f v u) Q X.xe s₂) X.xe s₁) X.xe s:=by
 exact fP (ha pins s σ H _ I h) λv s1 #[x,H1,I1,r1,q1]=>(fP (hb pins s1 σ H1 _ I1 q1) λu s2 #[y,H2,I2,r2,q2]=>(hf v u s2 x y H2 I2 r1 r2 q2))
theorem Dr{op:Operator}(ho:rg X (binaryOp op) r)(ha:PE X a ta)(hb:PE X b tb):PE X (.BinOp a op b pos) (Wm r ta tb):=by
 intro pins s σ H Q I h;exact wpAny_BinOp (SX ha hb I h λv u s2 x y H2 I2 rx ry q=>ho pins s2 σ H2 x y v u Q I2 rx ry q)
theorem opI{C:Int->Int->Prop}
  (rule:∀(i j:Int)(t u:Tok)(s:aL)(Q:aD->aL->Prop)(E:aD->aL->Prop),C i j->Q (.int (g i j) s.toks) { s with toks:=s.toks+1 }->wpAny (model X.prog X.w) X.A (f (.int i t) (.int j u)) Q E s):
  rg X f (rI C λi j=>.int (g i j)):=by
 intro pins s σ H x y v u Q I rx ry h;obtain⟨i,j,rfl,rfl,hc,q⟩:=h;obtain⟨t,rfl⟩:=rx;obtain⟨t',rfl⟩:=ry;exact rule i j t t' s _ _ hc #[.int (g i j),H,I.tok _,#[_,rfl],q]
theorem Wn
  (rule:∀(i j:Int)(t u:Tok)(s:aL)(Q:aD->aL->Prop)(E:aD->aL->Prop),Q (.int (g i j) s.toks) { s with toks:=s.toks+1 }->wpAny (model X.prog X.w) X.A (f (.int i t) (.int j u)) Q E s):
  rg X f (N7 λi j=>.int (g i j)):=by
 intro pins s σ H x y v u Q I rx ry h;obtain⟨i,j,rfl,rfl,q⟩:=h;obtain⟨t,rfl⟩:=rx;obtain⟨t',rfl⟩:=ry;exact rule i j t t' s _ _ #[.int (g i j),H,I.tok _,#[_,rfl],q]
theorem Ow{g:Int->Int->Bool}
  (rule:∀(i j:Int)(t u:Tok)(s:aL)(Q:aD->aL->Prop)(E:aD->aL->Prop),Q (.bool (g i j)) s->wpAny (model X.prog X.w) X.A (f (.int i t) (.int j u)) Q E s):
  rg X f (N7 λi j=>.bl (g i j)):=by
 intro pins s σ H x y v u Q I rx ry h;obtain⟨i,j,rfl,rfl,q⟩:=h;obtain⟨t,rfl⟩:=rx;obtain⟨t',rfl⟩:=ry;exact rule i j t t' s _ _ #[.bl (g i j),H,I,rfl,q]
def Wo(i j:Int):Prop:=0<j/\j<1073741824
def Ox(i j:Int):Prop:=(-(2^64)<i/\i<2^64)\/(-(2^64)<j/\j<2^64)
theorem Ox.ok{i j:Int}(h:Ox i j):IntMulOk i j:=by
 rcases h with⟨h1,h2⟩|⟨h1,h2⟩
 ·exact .of_left (intBits_le_64 h1 h2)
 ·exact .of_right (intBits_le_64 h1 h2)
theorem SY:rg X (binaryOp .Add) (N7 λi j=>.int (i+j)):=Wn λ_ _ _ _ _ _ _ q=>add_int q
theorem S0:rg X (binaryOp .Sub) (N7 λi j=>.int (i-j)):=Wn λ_ _ _ _ _ _ _ q=>sub_int q
theorem S1:rg X (binaryOp .Mult) (rI Ox λi j=>.int (i*j)):=opI λ_ _ _ _ _ _ _ hc q=>mul_int q hc.ok
theorem Oy:rg X (binaryOp .FloorDiv) (rI Wo λi j=>.int (i/j)):=opI λi j _ _ _ _ _ hc q=>by
 have h1:=hc.1;have h2:=hc.2;exact floordiv_int ∅ (by rw[Int.fdiv_eq_ediv_of_nonneg i ∅];exact q) (.inl (PyProof.noPylong_small ∅))
theorem S2:rg X (binaryOp .Mod) (rI (λ_ j=>0<j) λi j=>.int (i%j)):=opI λi j _ _ _ _ _ hc q=>by
 have h1:=hc;exact mod_int' ∅ (by rw[Int.fmod_eq_emod_of_nonneg i ∅];exact q)
end
section
variable{X:Cx}{a b c:bC}{ta tb tc:TE}{pos:Pos}
theorem FD{Q:VK}{k k':Bool}(I:Inv X pins σ H s)(q:Q (.bl k) H)(e:k=k'):EP X pins σ Q (.bool k') s:=by
 subst e;exact#[.bl k,H,I,rfl,q]
theorem Wp:rg X (compareOp .Lt) (N7 λi j=>.bl (decide (i<j))):=Ow λ_ _ _ _ _ _ _ q=>lt_int q
theorem Ds:rg X (compareOp .LtE) (N7 λi j=>.bl (decide (i<=j))):=Ow λ_ _ _ _ _ _ _ q=>le_int q
theorem QX:rg X (compareOp .Gt) (N7 λi j=>.bl (decide (j<i))):=Ow λ_ _ _ _ _ _ _ q=>gt_int q
theorem QY:rg X (compareOp .GtE) (N7 λi j=>.bl (decide (j<=i))):=Ow λ_ _ _ _ _ _ _ q=>ge_int q
theorem Jo:rg X (compareOp .In) (λx y H Q=>∃i j,x=.str i/\y=.str j/\Q (.bl (!(qY.Str.occurrences j i 0 j.length 1).isEmpty)) H):=by
 intro pins s σ H x y v u Q I rx ry h;obtain⟨i,j,rfl,rfl,q⟩:=h;obtain⟨t,rfl⟩:=rx;obtain⟨t',rfl⟩:=ry;exact in_str (FD I q rfl)
theorem iF:rg X (compareOp .Is) (λx y H Q=>y=.non/\Q (.bl (decide (x=.non))) H):=by
 intro pins s σ H x y v u Q I rx ry h;obtain⟨rfl,q⟩:=h;cases ry;refine is_none_gen (FD I q ?_)
 cases x<;>first
  |(cases rx;rfl)
  |(obtain⟨t,rfl⟩:=rx;rfl)
theorem uY:rg X (compareOp .IsNot) (λx y H Q=>y=.non/\Q (.bl (!decide (x=.non))) H):=by
 intro pins s σ H x y v u Q I rx ry h;obtain⟨rfl,q⟩:=h;cases ry;refine isnot_none_gen (FD I q ?_)
 cases x<;>first
  |(cases rx;rfl)
  |(obtain⟨t,rfl⟩:=rx;rfl)
theorem eu(b:bC){op:Fh}(h:op≠.In:=by decide)(h2:op≠.NotIn:=by decide):behindInMarks op b=false:=by
 have e1:(op==Fh.In)=false:=by cases op<;>first|rfl|exact qQ7 rfl h
 have e2:(op==Fh.NotIn)=false:=by cases op<;>first|rfl|exact qQ7 rfl h2
 cases b<;>simp[behindInMarks,e1,e2]
theorem HQ{op:Fh}(ho:rg X (compareOp op) r)(ha:PE X a ta)(hb:PE X b tb)(hm:behindInMarks op b=false):PE X (.Compare a [op] [b] pos) (Wm r ta tb):=by
 intro pins s σ H Q I h;exact wpAny_Compare1 (SX ha hb I h λv u s2 x y H2 I2 rx ry q=>ho pins s2 σ H2 x y v u Q I2 rx ry q) hm
def Wq(t:TE):TT:=λσ H Q=>t σ H λx H'=>∃k,x=.bl k/\Q k H'
theorem HR{op:Fh}(ho:rg X (compareOp op) r)(ha:PE X a ta)(hb:PE X b tb)(hm:behindInMarks op b=false):PT X (.Compare a [op] [b] pos) (Wq (Wm r ta tb)):=by
 intro pins s σ H Q I h;refine wpAny_isTrue_Compare1 (fP (ha pins s σ H _ I h) λv s1 #[x,H1,I1,r1,q1]=>fP (hb pins s1 σ H1 _ I1 q1) λu s2 #[y,H2,I2,r2,q2]=>
  fP (ho pins s2 σ H2 x y v u _ I2 r1 r2 q2) λc s3 #[z,H3,I3,r3,k,e,q3]=>?_) hm
 subst e;cases r3;exact eR #[H3,I3,q3]
def S3(r r':R2)(ta tb tc:TE):TE:=λσ H Q=>ta σ H λx H1=>tb σ H1 λy H2=>r x y H2 λz H3=>∃k,z=.bl k/\
 (if k=true then tc σ H3 λw' H4=>r' y w' H4 Q else Q (.bl false) H3)
theorem Dt{op op':Fh}{r': R2}(ho:rg X (compareOp op) r)(BK:rg X (compareOp op') r')(ha:PE X a ta)(hb:PE X b tb)(hc:PE X c tc)
  (hm:lastMarks [op,op'] [b,c]=false:=by with_unfolding_all rfl):PE X (.Compare a [op,op'] [b,c] pos) (S3 r r' ta tb tc):=by
 intro pins s σ H Q I h;refine Compare_chain (fP (ha pins s σ H _ I h) λv s1 #[x,H1,I1,r1,q1]=>chain_link (fP (hb pins s1 σ H1 _ I1 q1) λu s2 #[y,H2,I2,r2,q2]=>
  fP (ho pins s2 σ H2 x y v u _ I2 r1 r2 q2) λd s3 #[z,H3,I3,r3,k,e,q3]=>?_)) hm
 subst e;cases r3;refine eR ?_
 cases k with
 |false=>exact ite_ff #[.bl false,H3,I3,rfl,q3]
 |true=>exact ite_tt (chain_last (fP (hc pins s3 σ H3 _ I3 q3) λw' s4 #[z',H4,I4,r4,q4]=>BK pins s4 σ H4 y z' u w' Q I4 r2 r4 q4))
def Wr(K:ao)(x:V)(H:Hp)(k:Bool):Prop:=
 match x with
 | .non=>k=false
 | .bl b=>k=b
 | .int i=>k=(i != 0)
 | .str y=>y.length<=sizeLine/\k=((y.length:Int) != 0)
 | .Vh y=>y.size<=sizeLine/\k=((y.size:Int) != 0)
 | .ref p=>(∃xs,jx K H p xs/\k=!xs.isEmpty)\/(∃xs,oH K H p xs/\k=!xs.isEmpty)\/∃kvs,H p=some (.dK kvs)/\k=!kvs.isEmpty
 |_=>False
theorem FE{κ:Type}{kvs:List (κ×V)}{vs:List (κ×aD)}(r:KV kvs vs):(!vs.isEmpty)=!kvs.isEmpty:=by
 cases r<;>rfl
theorem yH{its:List aD}(r:dI xs its):(!its.toArray.isEmpty)=!xs.isEmpty:=by
 cases r<;>simp
theorem uk:(sizeLine:Nat)<2^63:=by rw[du];decide
theorem S4:zax X (λx H Q=>∃k,Wr X.K x H k/\Q k H):=by
 intro pins s σ H x v Q I rx h;obtain⟨k,e,q⟩:=h;have hl:=uk;have hs:=du;cases x with
 |non=>
  cases rx;have e':k=false:=e;subst e';exact truthy_none #[H,I,q]
 |bl b=>
  cases rx;have e':k=b:=e;subst e';exact eR #[H,I,q]
 |int i=>
  obtain⟨t,rfl⟩:=rx;have e':=e;subst e';exact PySem.P.truthy_int #[H,I,q]
 |str y=>
  obtain⟨t,rfl⟩:=rx;obtain⟨hy,e'⟩:y.length<=sizeLine/\k=((y.length:Int) != 0):=e;subst e';exact PySem.P.truthy_str ∅ #[H,I.tok _,q]
 |Vh y=>
  obtain⟨t,rfl⟩:=rx;obtain⟨hy,e'⟩:y.size<=sizeLine/\k=((y.size:Int) != 0):=e;subst e';exact PySem.W.truthy_bytes ∅ #[H,I.tok _,q]
 |ref p=>
  cases rx;have e':=e;rcases e' with⟨xs,hx,e'⟩|⟨xs,hx,e'⟩|⟨kvs,hx,e'⟩
  ·subst e'
   obtain⟨its,r,pl,hz⟩:=I.list hx;have hlen:=r.length;exact wpAny_truthy_list pl.isList (by simp;omega) #[H,I.tok _,by rw[yH r];exact q]
  ·subst e'
   obtain⟨its,r,pl,hz⟩:=I.tuple hx;have hlen:=r.length;exact truthy_tuple pl (by simp;omega) #[H,I.tok _,by rw[yH r];exact q]
  ·subst e'
   obtain⟨hz,hS,vs,r,m⟩:kvs.length<=sizeLine/\(p==sysModules)=false/\∃vs,KV kvs vs/\s.heap.DictOf _ p vs:=I.hok p _ hx;have hlen:=tZ r;exact wpAny_truthy_dict hS m ∅ #[H,I.tok _,by rw[FE r];exact q]
 |_=>exact(show False from e).elim
theorem Ld(ha:PE X a ta)(he:∀whole,isTrue a X.env whole=(do let v <-whole;standAt a.pos;holding [v] (truthy v))):
  PT X a (λσ H Q=>ta σ H λx H'=>∃k,Wr X.K x H' k/\Q k H'):=by
 intro pins s σ H Q I h;exact isTrue_plain (fP (ha pins s σ H _ I h) λv s1 #[x,H1,I1,r1,q1]=>S4 pins s1 σ H1 x v Q I1 r1 q1) (he _)
theorem FG:rg X (binaryOp .Add) (λx y H Q=>∃i j,x=.str i/\y=.str j/\i.length+j.length<=sizeLine/\Q (.str (i++j)) H):=by
 intro pins s σ H x y v u Q I rx ry h;obtain⟨i,j,rfl,rfl,hz,q⟩:=h;obtain⟨t,rfl⟩:=rx;obtain⟨t',rfl⟩:=ry;exact add_str (λt' tk=>#[.str (i++j),H,I.tok _,#[_,rfl],q]) hz
theorem vals1{x:V}(r:dI [x] us):∃u,us=[u]/\RelV x u:=by
 cases r with
 |cons r1 r2=>cases r2;exact#[_,rfl,r1]
theorem vals2{x y:V}(r:dI [x,y] us):∃u w',us=[u,w']/\RelV x u/\RelV y w':=by
 cases r with
 |cons r1 r2=>
  cases r2 with
  |cons r3 r4=>cases r4;exact#[_,_,rfl,r1,r3]
theorem Jp(hc:X.calm=true):g8 X (.builtin "min") (λxs H Q=>∃i j,xs=[.int i,.int j]/\Q (.int (if j<i then j else i)) H):=by
 intro pins s σ H xs us Q I r h;obtain⟨i,j,rfl,q⟩:=h;obtain⟨u,w',rfl,⟨t,rfl⟩,⟨t',rfl⟩⟩:=vals2 r;refine min_two_ints (I.ok.hd hc) λh' tk k=>#[_,H,I.kept k,?_,q]
 by_cases hj:j<i
 ·rw[qQ3 hj,qQ3 hj];exact#[_,rfl]
 ·rw[qQ2 hj,qQ2 hj];exact#[_,rfl]
theorem Jq:g8 X (.type "int") (λxs H Q=>(∃i,xs=[.int i]/\Q (.int i) H)\/∃k,xs=[.bl k]/\Q (.int (if k then 1 else 0)) H):=by
 intro pins s σ H xs us Q I r h;rcases h with⟨i,rfl,q⟩|⟨k,rfl,q⟩
 ·obtain⟨u,rfl,t,rfl⟩:=vals1 r
  exact call_int_int #[.int i,H,I,#[_,rfl],q]
 ·obtain⟨u,rfl,r1⟩:=vals1 r
  cases r1;exact call_int_bool #[.int (if k then 1 else 0),H,I.tok _,#[_,rfl],q]
theorem BR:g8 X (.type "str") (λxs H Q=>∃i,xs=[.int i]/\i.natAbs.log2<1920/\Q (.str (toString i)) H):=by
 intro pins s σ H xs us Q I r h;obtain⟨i,rfl,hz,q⟩:=h;obtain⟨u,rfl,t,rfl⟩:=vals1 r;exact PySem.P.str_of_int hz #[.str _,H,I.tok _,#[_,rfl],q]
end
structure FH(h:cM)(x dx C:aF)(mA:Str->Option aD):Prop where
 obj:h.get? x=some (gN C dx)
 ns:h.Ns1 dx mA
 ne:dx≠x
theorem Jr{dx:aF}(n:h.Ns1 dx mA):∃od,h.get? dx=some od/\∀name,ri name od=some (mA name):=by
 obtain⟨o,es,ep,ho,hd,hk,_,hm⟩:=n;refine#[o,ho,λname=>?_]
 have e:=hm name;unfold nsFind findBy at e;rw[<-Array.find?_toList]at e
 unfold ri;rw[hd]
 dsimp only
 split
 ·rename_i y q
  rw[q]at e;exact qQ6 some e
 ·rename_i q
  rw[q]at e;have a:es.toList.any (·.refKey)=false:=by
   rw[List.any_eq_false];intro y hy;obtain⟨z,t,Le⟩:=hk y (Array.mem_toList_iff.mp hy);simp[sX.refKey,Le]
  rw[qQ2 (by rw[a];exact eS)];exact qQ6 some e
theorem FH.look{x dx: aF}(I:FH h x dx C mA):∃od,PySem.W.InstAt h x (gN C dx) C (some od)/\∀name,ri name od=some (mA name):=
 let#[od,ho,hl]:=Jr I.ns
 #[od,#[I.obj,rfl,rfl,ho],hl]
section
variable{prog:bA}{w:cg}{A:dE}{E:aD->aL->Prop}{s:aL}{K:ao}{x dx C f:aF}{mA:Str->Option aD}{name:Str}{v:aD}
theorem get_map{expr:Bool}(X:K.In s.heap)(I:FH s.heap x dx C mA)(hg:jz K C name=true)(hh:kf K C=true)
  (ha:bV K (.ref C) name=some none)(hv:mA name=some v)(Oz:PySem.W.handedIn v=true)(h:Q v { s with toks:=s.toks+1 }):
  wpAny (model prog w) A (getAttr (.ref x) name expr) Q E s:=by
 obtain⟨od,J,hl⟩:=I.look;exact PySem.W.get_value X J (sW hg).1 (PySem.W.findObj_own hh ha rfl (by rw[hl,hv])) Oz h
theorem Lf{Q:aD×List aD->aL->Prop}(X:K.In s.heap)(I:FH s.heap x dx C mA)(hg:jz K C name=true)
  (hf:bV K (.ref C) name=some (some (.ref f)))(ht:mZ K (.ref f)=true)(hv:mA name=none)(h:Q (.ref f,[.ref x]) s):
  wpAny (model prog w) A (getMethod (.ref x) name pl) Q E s:=by
 obtain⟨od,J,hl⟩:=I.look;exact PySem.W.method_fn X J (sW hg).1 (sW hg).2 hf (beq_iff_eq.mp ht) (by show(ri name od).map (·.isSome)=some false;rw[hl,hv];rfl) h
theorem OB{ns:List Str}{Q:Unit->aL->Prop}(X:K.In s.heap)(I:FH s.heap x dx C mA)
  (hs:bV K (.ref C) "__setattr__"=some (some (.builtin "object.__setattr__")))(hp:oE K C=true)(ht:xF K C name=some none)(hh:kf K C=true)
  (hw:Dj mA ns)(BU:ns.length<=sizeLine)
  (h:∀h',FH h' x dx C (λy=>if y=name then some v else mA y)->gw dx s.heap h'->Q () { s with heap:=h',toks:=s.toks+2 }):
  wpAny (model prog w) A (setAttr (.ref x) name v) Q E s:=by
 obtain⟨od,J,hl⟩:=I.look;refine PySem.W.set_plain X J hs (PySem.W.osa_open X J hp ht λb=>?_)
 obtain⟨cd,hc,SF⟩:=PySem.W.any_some hh;refine aA (bj (aA (aA (wpAny_loadPart I.obj (aA (PySem.W.Looks.here (PySem.W.looks_clsIn X hc) ?_))))))
 rw[SF];refine bj (aA (bj (aA ?_)))
 refine wpAny_nsSet1 I.ns λh' Zn p9=>?_
 obtain⟨oD,esD,epD,hoD,hdD,hcD⟩:=Zn.count (Dj.cons name v hw);exact aA (wpAny_lookBehind hoD (by rw[hdD];exact pastItsLine_dict (bQ hcD (by rw[bR];omega))) (bj (h _ #[(p9.2 _ (bT I.ne)).trans I.obj,Zn,I.ne] p9)))
theorem Lg{R:vR->aL->Prop}{vs:List aD}(X:K.In s.heap)(hm:qL K C=true)
  (hi:bV K (.ref C) "__init__"=some (some (.ref f)))(hf:PySem.W.typeIn K (.ref f)=some (.type "function"))
  (h:codeAny (model prog w) (A.under (.builtin "type.__call__" #[.ref C::vs,kw])) (.call (.ref f) #[.ref (s.heap.objs.size+1)::vs,kw]) (PySem.W.InitBack (s.heap.objs.size+1) R)
   { s with heap:=(s.heap.push gQ).push (gN C s.heap.objs.size) }) :
  codeAny (model prog w) A (.call (.ref C) #[vs,kw]) R s:=by
 exact PySem.W.make_core (PySem.W.makes_of X hm) (PySem.W.looks_findIn X hi) (λself=>PySem.W.bind_fn X self hf) (.inl rfl) h
end
def iz(f:Str)(v:V):List (Str×V)->List (Str×V)
 | []=>[(f,v)]
 |(g,x)::r=>if g=f then(g,v)::r else(g,x)::iz f v r
theorem wV(f g:Str)(v:V):∀fs:List (Str×V),(iz f v fs).lookup g=if g=f then some v else fs.lookup g
 | []=>by
  show kj g [(f,v)]=_;by_cases h:g=f
  ·have hb:=beq_iff_eq.mpr h
   simp[kj,hb,qQ3 h]
  ·have hb:=beq_eq_false_iff_ne.mpr h
   simp[kj,hb,qQ2 h]
 |(k,x)::r=>by
  rw[show iz f v ((k,x)::r)=(if k=f then(k,v)::r else(k,x)::iz f v r)from rfl]
  by_cases hk:k=f
  ·rw[qQ3 hk]
   by_cases h:g=k
   ·have hb:=beq_iff_eq.mpr h
    simp[kj,hb,qQ3 (h.trans hk)]
   ·have hb:=beq_eq_false_iff_ne.mpr h
    simp[kj,hb,qQ2 (λe:g=f=>h (e.trans hk.symm))]
  ·rw[qQ2 hk]
   by_cases h:g=k
   ·have hb:=beq_iff_eq.mpr h
    simp[kj,hb,qQ2 (λe:g=f=>hk (h.symm.trans e))]
   ·have hb:=beq_eq_false_iff_ne.mpr h
    simp[kj,hb];exact wV f g v r
theorem v3(f:Str)(v:V):∀fs:List (Str×V),f∈(iz f v fs).map (·.1)/\∀g,g∈fs.map (·.1)->g∈(iz f v fs).map (·.1)
 | []=>#[by simp[iz],λg h=>by simp at h]
 |(k,x)::r=>by
  obtain⟨i1,i2⟩:=v3 f v r;rw[show iz f v ((k,x)::r)=(if k=f then(k,v)::r else(k,x)::iz f v r)from rfl]
  by_cases hk:k=f
  ·rw[qQ3 hk]
   subst hk;exact#[by simp,λg h=>by simpa using h]
  ·rw[qQ2 hk]
   refine#[?_,λg h=>?_]
   ·rw[ay]
    exact aT _ i1
   ·rw[ay]at h ⊢
    rcases ax.mp h with e|e
    ·exact ax.mpr (.inl e)
    ·exact aT _ (i2 g e)
theorem wW(f:Str)(v:V):∀fs:List (Str×V),(iz f v fs).length<=fs.length+1
 | []=>by simp[iz]
 |(k,x)::r=>by
  have ih:=wW f v r;rw[show iz f v ((k,x)::r)=(if k=f then(k,v)::r else(k,x)::iz f v r)from rfl]
  by_cases hk:k=f
  ·rw[qQ3 hk,bR,bR];omega
  ·rw[qQ2 hk,bR,bR];omega
theorem pY.some_of{v:V}{o:Option aD}(r:pY (some v) o):∃u,o=some u/\RelV v u:=by
 cases o with
 |none=>exact(show False from r).elim
 |some u=>exact#[u,rfl,r]
theorem pY.none_of{o:Option aD}(r:pY none o):o=none:=by
 cases o with
 |none=>rfl
 |some u=>exact(show False from r).elim
theorem Js{v:V}(r:RelV v u):PySem.W.handedIn u=true:=by
 cases v with
 |non=>cases(show u=qS from r);rfl
 |bl b=>cases(show u=aD.bool b from r);rfl
 |int i=>obtain⟨t,e⟩:=r;cases e;rfl
 |str x=>obtain⟨t,e⟩:=r;cases e;rfl
 |Vh b=>obtain⟨t,e⟩:=r;cases e;rfl
 |flt b=>obtain⟨t,e⟩:=r;cases e;rfl
 |ref a=>cases(show u=di a from r);rfl
 |ty n=>cases(show u=qU n from r);rfl
section
variable{P:bA}{w:cg}{H H':Hp}{h h':cM}{a C dx:aF}{fs fs':List (Str×V)}
theorem BV(hok:uR P w H h)(e:H a=some (.ins C dx fs)):∃mA,FH h a dx C mA/\(∀f,pY (fs.lookup f) (mA f))/\Dj mA (fs.map (·.1))/\fs.length<=1000/\H dx=some (.own a):=by
 obtain⟨d,z,ne,ob,mA,n,r,q⟩:=(hok a _ e)
 exact#[mA,#[ob,n,ne],r,q,z,d]
end
structure qM(K:ao)(C:aF):Prop where
 pg:jz K C fw=true
 hd:kf K C=true
 po:oE K C=true
 sa:bV K (.ref C) "__setattr__"=some (some (.builtin "object.__setattr__"))
theorem qM.get(c:qM K C)(f:Str):jz K C f=true:=c.pg
def eK(K:ao)(C:aF)(f:Str):Prop:=bV K (.ref C) f=some none
theorem eK.taker{f:Str}(n:eK K C f):xF K C f=some none:=by
 unfold xF;rw[show bV K _ f=some none from n]
 rfl
structure Lh(K:ao)(C:aF)(m:Str)(f:aF):Prop where
 at_:bV K (.ref C) m=some (some (.ref f))
 fn:mZ K (.ref f)=true
 kp:eI K (.ref f)=true
section
variable{X:Cx}{pins:List (aF×Obj)}{σ:St}{H:Hp}{s:aL}{a C dx:aF}{fs:List (Str×V)}{f:Str}{v:V}{A:dE}{E:aD->aL->Prop}
theorem yI{b:Bool}(I:Inv X pins σ H s)(e:H a=some (.ins C dx fs))(c:qM X.K C)(n:eK X.K C f)(l:fs.lookup f=some v)
  (h:∀u s',Inv X pins σ H s'->RelV v u->Q u s'):wpAny (model X.prog X.w) A (getAttr (.ref a) f b) Q E s:=by
 obtain⟨mA,O,r,_,_,_⟩:=BV I.hok e;obtain⟨u,hu,ru⟩:=pY.some_of (by rw[<-l];exact r f)
 exact get_map I.yg O (c.get f) c.hd n hu (Js ru) (h u _ (I.tok _) ru)
theorem yJ{m:Str}{g:aF}{Q:aD×List aD->aL->Prop}(I:Inv X pins σ H s)(e:H a=some (.ins C dx fs))(c:qM X.K C)(k:Lh X.K C m g)(l:fs.lookup m=none)
  (h:Q (.ref g,[.ref a]) s):wpAny (model X.prog X.w) A (getMethod (.ref a) m pl) Q E s:=by
 obtain⟨mA,O,r,_,_,_⟩:=BV I.hok e;have hn:=pY.none_of (by rw[<-l];exact r m)
 exact Lf I.yg O (c.get m) k.at_ k.fn hn h
theorem yK{y:V}{Q:Unit->aL->Prop}(I:Inv X pins σ H s)(e:H a=some (.ins C dx fs))(c:qM X.K C)(n:eK X.K C f)(hl:fs.length<1000)(ry:RelV y u)
  (h:∀s',Inv X pins σ (upd H a (.ins C dx (iz f y fs))) s'->Q () s'):wpAny (model X.prog X.w) A (setAttr (.ref a) f u) Q E s:=by
 obtain⟨mA,O,r,wi,_,ho⟩:=BV I.hok e;have hz:(fs.map (·.1)).length<=sizeLine:=by rw[ai,du];omega
 refine OB I.yg O c.sa c.po n.taker c.hd wi hz λh' O' sb=>h _ ?_
 have hd:∃o,h'.get? dx=some o:=let#[o,_,_,e',_]:=O'.ns;#[o,e'];refine I.write (by rw[e];exact fj) (.inr ho) (λb q hb z=>(sb.2 b hb).trans z) hd ?_
 refine#[by rw[aO O.ne];exact ho,?_,O.ne,O'.obj,_,O'.ns,λg=>?_,λg hg=>?_]
 ·have:=wW f y fs;omega
 ·show pY ((iz f y fs).lookup g) (if g=f then some u else mA g)
  rw[wV];by_cases q:g=f
  ·rwa[qQ3 q,qQ3 q]
  ·rw[qQ2 q,qQ2 q];exact r g
 ·by_cases q:g=f
  ·rw[q];exact(v3 f y fs).1
  ·refine(v3 f y fs).2 g (wi g λz=>hg ?_)
   show(if g=f then some u else mA g)=none
   rwa[qQ2 q]
theorem Inv.made(I:Inv X pins σ H s):Inv X pins σ (upd (upd H s.heap.objs.size (.own (s.heap.objs.size+1))) (s.heap.objs.size+1) (.ins C s.heap.objs.size []))
  { s with heap:=(s.heap.push gQ).push (gN C s.heap.objs.size) }:=by
 have e1:(s.heap.push gQ).get? s.heap.objs.size=some gQ:=bq s.heap rfl
 have e2:((s.heap.push gQ).push (gN C s.heap.objs.size)).get? (s.heap.objs.size+1)=some (gN C s.heap.objs.size):=by
  have:=bq (s.heap.push gQ) (o:=gN C s.heap.objs.size) rfl
  rwa [gG]at this
 have I1:=I.laid (o:=.own (s.heap.objs.size+1)) (t':=s.toks) (λb u q=>aE _ q) ∅ #[_,e1]
 refine I1.laid (λb u q=>aE _ q) (Nat.le_of_eq (gG _ _)) ?_
 have ne:s.heap.objs.size≠s.heap.objs.size+1:=a7 ∅;refine#[by rw[aO ne,bh],bx _,ne,e2,λ_=>none,(cM.Ns1.of_empty (#[gQ,#[],_,e1,rfl,(λe he=>qQ7 he (by simp)),λ_=>rfl])).at λo q=>aE _ q,λ_=>fj,λy hy=>qQ7 rfl hy]
theorem OD{prog:bA}{env:Env}{f:Str}{pos:Pos}(hb:attributeBase e f env (eval e env)=eval e env)
  (h:wpAny (model prog w) A (eval e env) (λo s₁=>wpAny (model prog w) A (getAttr o f true) Q E s₁) E s):wpAny (model prog w) A (eval (.Attribute e f pos) env) Q E s:=
 Attribute_any_ h (by rw[arm_eval_Attribute,hb])
end
def zaz(K:ao)(ta:TE)(f:Str):TE:=λσ H Q=>ta σ H λx H1=>∃a C dx fs v,x=.ref a/\H1 a=some (.ins C dx fs)/\qM K C/\eK K C f/\fs.lookup f=some v/\Q v H1
def zaA(K:ao)(ta tv:TE)(f:Str):TS:=λD σ H=>tv σ H λy H1=>ta σ H1 λx H2=>∃a C dx fs,x=.ref a/\H2 a=some (.ins C dx fs)/\qM K C/\eK K C f/\fs.length<1000/\
 D.nx σ (upd H2 a (.ins C dx (iz f y fs)))
def Ws(X:Cx)(op:Operator)(rd:V->V->Hp->VK->Prop):Prop:=
 ∀(pins:List (aF×Obj))(s:aL)(σ:St)(H:Hp)(x y:V)(u v:aD)(Q:VK),Inv X pins σ H s->RelV x u->RelV y v->rd x y H Q->wpAny (model X.prog X.w) X.A (inplaceOp op u v) (EP X pins σ Q) X.xe s
def OG(K:ao)(ta tv:TE)(rd:V->V->Hp->VK->Prop)(f:Str):TS:=λD σ H=>ta σ H λx H1=>∃a C dx fs v,x=.ref a/\H1 a=some (.ins C dx fs)/\qM K C/\eK K C f/\fs.lookup f=some v/\
 tv σ H1 λy H2=>rd v y H2 λz H3=>∃Li fs',H3 a=some (.ins C Li fs')/\fs'.length<1000/\D.nx σ (upd H3 a (.ins C Li (iz f z fs')))
section
variable{X:Cx}{o e value:bC}{f:Str}{pos pos' Wt:Pos}{ta tv:TE}
theorem mK(he:PE X e ta)(hb:uS X e f):PE X (.Attribute e f pos) (zaz X.K ta f):=by
 intro pins s σ H Q I h;refine OD hb (fP (he pins s σ H _ I h) λu s1 #[x,H1,I1,rx,a,C,dx,fs,v,ex,ea,c,n,l,q]=>?_)
 subst ex;obtain rfl:u=di a:=rx;exact yI I1 ea c n l λu' s2 I2 ru=>#[v,H1,I2,ru,q]
theorem oX(ha:PE X o ta)(hv:PE X value tv)(hs:uX X pos value (.Attribute o f pos')):PS X (.Assign [.Attribute o f pos'] value pos) (zaA X.K ta tv f):=by
 intro pins s σ H D I h;refine plainObj_wpAny_Assign_Attribute (fP (hv pins s σ H _ I h) λu s1 #[y,H1,I1,ry,q]=>fP (ha pins s1 σ H1 _ I1 q) λov s2 #[x,H2,I2,rx,a,C,dx,fs,ex,ea,c,n,l,q2]=>?_) hs
 subst ex;obtain rfl:ov=di a:=rx;exact yK I2 ea c n l ry λs3 I3=>#[σ,_,I3,q2]
theorem Jt{op:Operator}{rd:V->V->Hp->VK->Prop}(ha:PE X o ta)(hv:PE X value tv)(hop:Ws X op rd):PS X (.AugAssign (.Attribute o f Wt) op value pos) (OG X.K ta tv rd f):=by
 intro pins s σ H D I h;refine wpAny_AugAssign_AttributeAny (fP (ha pins s σ H _ I h) λov s1 #[x,H1,I1,rx,a,C,dx,fs,v,ex,ea,c,n,l,q]=>?_)
 subst ex;obtain rfl:ov=di a:=rx;refine yI I1 ea c n l λu s2 I2 ru=>fP (hv pins s2 σ H1 _ I2 q) λw3 s3 #[y,H2,I3,ry,q3]=>fP (hop pins s3 σ H2 v y u w3 _ I3 ru ry q3) λw4 s4 #[z,H3,I4,rz,Li,fs',ea',l',q4]=>?_
 exact yK I4 ea' c n l' rz λs5 I5=>#[σ,_,I5,q4]
def zaB:V->V->Hp->VK->Prop:=λx y H Q=>∃i j,x=.int i/\y=.int j/\Q (.int (i+j)) H
theorem S5:Ws X .Add zaB:=by
 rintro pins s σ H x y u v Q I rx ry ⟨i,j,rfl,rfl,q⟩
 obtain⟨t,rfl⟩:=(show ∃t,u=xE i t from rx)
 obtain⟨t',rfl⟩:=(show ∃t',v=xE j t' from ry)
 exact PyProof.Rows.iadd_int #[.int (i+j),H,I.tok _,#[_,rfl],q]
end
section
variable{X:Cx}{pins:List (aF×Obj)}{σ:St}{H:Hp}{s:aL}{A:dE}{E:aD->aL->Prop}{Q:aD->aL->Prop}{c:aD}{b:Bool}
inductive yL(K:ao)(H:Hp):V->aD->Prop where
 |non:yL K H .non (.type "NoneType")
 |bl (x:Bool):yL K H (.bl x) (.type "bool")
 |int (i:Int):yL K H (.int i) (.type "int")
 |str (x:Str):yL K H (.str x) (.type "str")
 |flt (x:UInt64):yL K H (.flt x) (.type "float")
 |lst {a:aF} {xs:List V} (e:H a=some (.lst xs)):yL K H (.ref a) (.type "list")
 |tM {a:aF} {o:Obj} {xs:List V} (e:H a=some (.tM o (.lst xs))):yL K H (.ref a) (.type "list")
 |tup {a:aF} {xs:List V} (e:H a=some (.tup xs)):yL K H (.ref a) (.type "tuple")
 |dK {a:aF} {kvs:List (Key×V)} (e:H a=some (.dK kvs)):yL K H (.ref a) (.type "dict")
 |dT {a:aF} {kvs:List (List Key×V)} (e:H a=some (.dT kvs)):yL K H (.ref a) (.type "dict")
 |ins {a C dx:aF} {fs:List (Str×V)} (e:H a=some (.ins C dx fs)) (cl:qM K C) (ha:bV K (.ref C) "__class__"=some (some (.builtin "object.__class__")))
   (hn:PySem.W.specialIn K (.builtin "object.__class__") "__get__"=some (some (.builtin "getset_descriptor.__get__"))) (QZ:PySem.W.takesIn K (.builtin "object.__class__")=some true)
   (hm:PySem.W.mroIn K C (.type "object")=some true):yL K H (.ref a) (.ref C)
end
structure dB(k:Nat)(A:dE):Prop where
 hd:A.handled=none
 dp:A.depth+3*k+5<recursionLimit
 un:A.units+16*k+200<cLine
theorem dB.mono{j: Nat}(r:dB k A)(h:j<=k):dB j A:=#[r.hd,by have:=r.dp;omega,by have:=r.un;omega]
theorem dB.deeper(r:dB (k+1) A)(env:Env):dB k (A.deeper env):=
 #[r.hd,by have:=r.dp;show A.depth+1+3*k+5<_;omega,by have:=r.un;show A.units+3+16*k+200<_;omega]
theorem FJ:(A.under (.builtin "type.__call__" #[.ref C::us,kw])).depth=A.depth+1:=by
 first|rfl|simp[C_,Code.weight,Code.isCreation,Code.isGuard,Code.isCaller,Code.frames,E5,guardIds]
theorem FK:(A.under (.builtin "type.__call__" #[.ref C::us,kw])).units=A.units+1:=by
 first|rfl|simp[C_,Code.cUnits,Code.frames,E5]
theorem dB.make(r:dB (k+1) A)(C:aF)(us:List aD)(kw:List (Str×aD)):dB k (A.under (.builtin "type.__call__" #[.ref C::us,kw])):=
 #[r.hd,by have:=r.dp;rw[FJ];omega,by have:=r.un;rw[FK];omega]
theorem dB.depth(r:dB k A):A.depth<recursionLimit:=by have:=r.dp;omega
def S6:TA:=λ_ H Q=>Q [] H
def Wu(ta:TE)(tr:TA):TA:=λσ H Q=>ta σ H λx H1=>tr σ H1 λxs H2=>Q (x::xs) H2
section
variable{X:Cx}{e:bC}{es:List bC}{te:TE}{t:TA}{pos:Pos}
theorem eV:PA X [] S6:=λ_ _ _ _ H Q I h=>o8 #[[],H,I,.nil,h]
theorem cY(ha:PE X e te)(hr:PA X es t)(hs:kO X e es:=by rfl):PA X (e::es) (Wu te t):=by
 intro pos pins s σ H Q I h;rw[hs];exact iL (fP (ha pins s σ H _ I h) λu s1 #[x,H1,I1,r1,q1]=>(fP (hr pos pins s1 σ H1 _ I1 q1) λus s2 #[xs,H2,I2,r2,q2]=>#[_,H2,I2,.cons r1 r2,q2]))
def zaC(t:TA):TE:=λσ H Q=>t σ H λxs H1=>xs.length<=sizeLine/\∀p,H1 p=none->Q (.ref p) (upd H1 p (.tup xs))
def zaD(t:TA):TE:=λσ H Q=>t σ H λxs H1=>xs.length<=sizeLine/\∀p,H1 p=none->Q (.ref p) (upd H1 p (.lst xs))
theorem FL{x1}(h:PA X es t):PE X (.Tuple es x1 pos) (zaC t):=by
 intro pins s σ H Q I hq;refine wpAny_Tuple_spliced (fP (h pos pins s σ H _ I hq) λus s1 #[xs,H1,I1,r,z,q]=>#[by rw[<-r.length];exact z,?_])
 refine#[.ref s1.heap.objs.size,_,I1.laid (λb u e=>aE _ e) ∅ ?_,rfl,q _ (I1.hok.fresh ∅)]
 exact#[z,us,r,#[_,bq _ rfl,rfl,_,rfl]]
theorem BW(h:PA X es t):PE X (.List es pos) (zaD t):=by
 intro pins s σ H Q I hq;refine wpAny_List_spliced (fP (h pos pins s σ H _ I hq) λus s1 #[xs,H1,I1,r,z,q]=>#[by rw[<-r.length];exact z,?_])
 refine#[.ref s1.heap.objs.size,_,I1.laid (λb u e=>aE _ e) ∅ ?_,rfl,q _ (I1.hok.fresh ∅)]
 exact#[z,us,0,r,bq _ rfl]
end
abbrev Sp:=List V->Hp->VK->XK->Prop
abbrev KZ:=List Env->Hp->aL->XK->aD->aL->Prop
variable{CX:KZ}
structure Ju(P:bA)(w:cg)(K:ao)(mg:Str->Option aD)(base:cM)(A:dE)(outer:List Env)(s:aL)(H:Hp):Prop where
 frames:A.frames=some outer
 mod:Mod K mg base
 bs:∀b o,base.get? b=some o->s.heap.get? b=some o/\H b=none
 QP:base.objs.size<=s.heap.objs.size
 xP:s.heap.FunFrames base outer
 Sz:∀b∈KS outer,H b=none
 hok:uR P w H s.heap
 bare:t_ s.gens
def CE(outer:List Env)(P:bA)(w:cg)(H:Hp)(s:aL)(Q:VK)(u:aD)(s':aL):Prop:=
 ∃v H',s'.os=s.os/\t_ s'.gens/\Un (KS outer) [] H H' s.heap s'.heap/\uR P w H' s'.heap/\RelV v u/\Q v H'
def CR(CX:KZ)(outer:List Env)(P:bA)(w:cg)(H:Hp)(s:aL)(Q:VK)(E:XK)(r:vR)(s':aL):Prop:=
 match r with
 | .ok (.ret u)=>CE outer P w H s Q u s'
 | .ok _=>False
 | .error e=>CX outer H s E e s'
structure dW(P:bA)(w:cg)(K:ao)(mg:Str->Option aD)(base:cM)(CX:KZ)(k:Nat)(f:aF)(fd:eU)(ps:List Str)(sp:Sp):Prop where
 len:∀vs H Q E,sp vs H Q E->vs.length=ps.length
 run:∀(A:dE)(outer:List Env)(s:aL)(H:Hp)(args:Args)(us:List aD)(vs:List V)(Q:VK)(E:XK),dB k A->Ju P w K mg base A outer s H->BindsTo s fd args (ps.zip us)->dI vs us->sp vs H Q E->
  codeAny (model P w) A (.call (.ref f) args) (CR CX outer P w H s Q E) s
theorem dW.imp{f:aF}{sp sp':Sp}(F:dW P w K mg base CX k f fd ps sp)
  (h:∀vs H Q E,sp' vs H Q E->sp vs H Q E):dW P w K mg base CX k f fd ps sp':=
 #[λvs H Q E q=>F.len vs H Q E (h _ _ _ _ q),λA outer s H args us vs Q E hr he hb hv hs=>F.run A outer s H args us vs Q E hr he hb hv (h _ _ _ _ hs)]
theorem Ju.make(e:Ju P w K mg base A outer s H)(C:aF)(us:List aD)(kw:List (Str×aD)):
  Ju P w K mg base (A.under (.builtin "type.__call__" #[.ref C::us,kw])) outer s H:=#[by first|exact e.frames|(simpa[C_,Code.envs,E5,pushEnvs]using e.frames),e.mod,e.bs,e.QP,e.xP,e.Sz,e.hok,e.bare]
section
variable{X:Cx}{pins:List (aF×Obj)}{σ:St}{H:Hp}{s s':aL}
theorem Inv.env0(I:Inv X pins σ H s):Ju X.prog X.w X.K X.mg X.base X.A X.stack s H:=
 #[I.ok.frames,I.ok.mod,I.bs,bQ I.ok.QP I.sz,I.stack,I.HK,I.hok,I.bare]
theorem Inv.after{Q:VK}(I:Inv X pins σ H s)(h:CE X.stack X.prog X.w H s Q u s'):EP X pins σ Q u s':=by
 obtain⟨v,H',os,bare,un,hok,r,q⟩:=h;obtain⟨hh,g,d,t,Vk⟩:=s';obtain rfl:Vk=s.os:=os;exact#[v,H',I.call un hok bare (λb z=>qQ7 z (by simp)),r,q]
end
def Wv(sp:Sp)(Aj:List V)(E:XK)(t:TA):TE:=λσ H Q=>t σ H λvs H1=>sp (vs++Aj) H1 Q E
def Q0(C:aF)(m:Str)(sp:Sp)(Aj:List V)(E:XK)(ta:TE)(t:TA):TE:=λσ H Q=>ta σ H λx H1=>∃a dx fs,x=.ref a/\H1 a=some (.ins C dx fs)/\fs.lookup m=none/\
 t σ H1 λvs H2=>sp (x::(vs++Aj)) H2 Q E
def Q5(C:aF)(sp:Sp)(Aj:List V)(E:XK)(t:TA):TE:=λσ H Q=>t σ H λvs H1=>∀x dx,H1 x=none->H1 dx=none->dx≠x->
 sp (.ref x::(vs++Aj)) (upd (upd H1 dx (.own x)) x (.ins C dx [])) (λv H2=>v=.non/\Q (.ref x) H2) E
def Binds(K:ao)(fd:eU)(ps:List Str)(ds:List aD):Prop:=
 ∀(s:aL)(us:List aD),K.In s.heap->(us++ds).length=ps.length->BindsTo s fd #[us,[]] (ps.zip (us++ds))
theorem Binds.all(h:∀us:List aD,us.length=ps.length->bindArgs fd #[us,[]]=pure (ps.zip us)):Binds K fd ps []:=λs us _ hl=>by
 rw[cy]at hl ⊢;exact .of_eq (h us hl)
def rF(CX:KZ)(X:Cx)(E:XK):Prop:=∀(pins:List (aF×Obj))(σ:St)(H:Hp)(s:aL)(e:aD)(s':aL),Inv X pins σ H s->CX X.stack H s E e s'->X.xe e s'
section
variable{X:Cx}{CX:KZ}{k:Nat}{f C:aF}{fd:eU}{ps:List Str}{sp:Sp}{Aj:List V}{ds:List aD}{E:XK}{x m:Str}{p pos apos:Pos}{e o:bC}{es:List bC}{ta:TE}{t:TA}
theorem FN{Q:VK}(F:dW X.prog X.w X.K X.mg X.base CX k f fd ps sp)(hr:dB k X.A)(hb:Binds X.K fd ps ds)(hd:dI Aj ds)(hx:rF CX X E)
  (I:Inv X pins σ H s)(r:dI vs us)(h:sp (vs++Aj) H Q E):wpAny (model X.prog X.w) X.A (call (.ref f) us) (EP X pins σ Q) X.xe s:=by
 have r2:=r.append hd;have hl:(us++ds).length=ps.length:=by rw[<-r2.length];exact F.len _ _ _ _ h
 refine wpAny_call (pw (F.run X.A X.stack s H #[us,[]] _ _ Q E hr I.env0 (hb s us I.yg hl) r2 h) λr s' hq=>?_)
 cases r with
 |error e=>exact hx pins σ H s e s' I hq
 |ok fl=>
  cases fl with
  |ret u=>exact I.after hq
  |next=>exact gD hq
  |brk=>exact gD hq
  |cont=>exact gD hq
theorem uZ(F:dW X.prog X.w X.K X.mg X.base CX k f fd ps sp)(hr:dB k X.A)(hg:Gl X x)(hm:X.mg x=some (.ref f))(hk:eI X.K (.ref f)=true)(hb:Binds X.K fd ps ds)(hd:dI Aj ds)(hx:rF CX X E)
  (ha:PA X (e::es) t)(sZ:vX x:=by decide)(he:kO X e es:=by rfl)(mX:rC X pos es:=by rfl):
  PE X (.Call (.Name x p) (e::es) [] pos) (Wv sp Aj E t):=by
 intro pins s σ H Q I h;exact kY (yh I hg hm (ub (h₀:=X.base) I.ok.mod.Sy hk (fP (ha pos pins s σ H _ I h) λus s1 #[vs,H1,I1,r,q]=>#[I1.yg,(FN F hr hb hd hx I1 r q)]) he mX) sZ)
theorem HS(he:PE X o ta)(c:qM X.K C)(hm:Lh X.K C m f)(F:dW X.prog X.w X.K X.mg X.base CX k f fd ps sp)(hr:dB k X.A)(hb:Binds X.K fd ps ds)(hd:dI Aj ds)(hx:rF CX X E)(ha:PA X (e::es) t)
  (Dp:kO X e es:=by rfl)(mX:rC X pos es:=by rfl)
  (ht:eval (.Call (.Attribute o m apos) (e::es) [] pos) X.env=(do
   let ov <-eval o X.env
   standAt apos.atName
   let(f,first) <-holding [ov] (getMethod ov m pl)
   callWith pos f first (backTo pos (starEach (e::es) X.env)) (backToKw pos (keywordEach [] X.env))):=by rfl) :
  PE X (.Call (.Attribute o m apos) (e::es) [] pos) (Q0 C m sp Aj E ta t):=by
 intro pins s σ H Q I h;refine Dc (fP (he pins s σ H _ I h) λu s1 #[x,H1,I1,rx,a,dx,fs,ex,ea,l,q]=>?_) ht
 subst ex;obtain rfl:u=di a:=rx;refine yJ I1 ea c hm l ?_
 refine ub (h₀:=X.base) I.ok.mod.Sy hm.kp (fP (ha pos pins s1 σ H1 _ I1 q) λus s2 #[vs,H2,I2,r,q2]=>#[I2.yg,?_]) Dp mX
 exact FN (vs:=.ref a::vs) F hr hb hd hx I2 (.cons rfl r) q2
theorem Lj(he:PE X o ta)(c:qM X.K C)(hm:Lh X.K C m f)(F:dW X.prog X.w X.K X.mg X.base CX k f fd ps sp)(hr:dB k X.A)(hb:Binds X.K fd ps ds)(hd:dI Aj ds)(hx:rF CX X E)
  (ht:eval (.Call (.Attribute o m apos) [] [] pos) X.env=(do
   let ov <-eval o X.env
   standAt apos.atName
   let(f,first) <-holding [ov] (getMethod ov m pl)
   callWith pos f first (backTo pos (starEach [] X.env)) (backToKw pos (keywordEach [] X.env))):=by rfl) :
  PE X (.Call (.Attribute o m apos) [] [] pos) (Q0 C m sp Aj E ta S6):=by
 intro pins s σ H Q I h;refine Dc (pl:=pl) (fP (he pins s σ H _ I h) λu s1 #[x,H1,I1,rx,a,dx,fs,ex,ea,l,q]=>?_) ht
 subst ex;obtain rfl:u=di a:=rx;refine yJ I1 ea c hm l ?_
 exact E6 (first:=[.ref a]) I1.yg hm.kp (FN (us:=[.ref a]) (vs:=[.ref a]) F hr hb hd hx I1 (.cons rfl .nil) q)
structure Mk(K:ao)(C f:aF):Prop where
 makes:qL K C=true
 init:bV K (.ref C) "__init__"=some (some (.ref f))
 fn:mZ K (.ref f)=true
 kp:eI K (.ref C)=true
theorem Du{Q:VK}(M:Mk X.K C f)(F:dW X.prog X.w X.K X.mg X.base CX k f fd ps sp)(hr:dB (k+1) X.A)(hb:Binds X.K fd ps ds)(hd:dI Aj ds)
  (hx:rF CX X E)(I:Inv X pins σ H s)(r:dI vs us)
  (h:∀x dx,H x=none->H dx=none->dx≠x->sp (.ref x::(vs++Aj)) (upd (upd H dx (.own x)) x (.ins C dx [])) (λv H2=>v=.non/\Q (.ref x) H2) E):
  wpAny (model X.prog X.w) X.A (call (.ref C) us) (EP X pins σ Q) X.xe s:=by
 have hq:=h (s.heap.objs.size+1) s.heap.objs.size (I.hok.fresh ∅) (I.hok.fresh ∅) (a7 ∅);have I2:=Inv.made (C:=C) I;have r2:dI (V.ref (s.heap.objs.size+1)::(vs++Aj)) (di _::(us++ds)):=.cons rfl (r.append hd);have hl:(di (s.heap.objs.size+1)::us++ds).length=ps.length:=by
  have e:=r2.length;rw[F.len _ _ _ _ hq]at e;exact e.symm
 refine wpAny_call (Lg I.yg M.makes M.init (beq_iff_eq.mp M.fn) (pw (F.run _ X.stack _ _ #[_,[]] (di _::(us++ds)) _ _ E (hr.make C us [])
  (I2.env0.make C us []) (hb _ (di _::us) I2.yg hl) r2 hq) λr s' FP=>?_))
 cases r with
 |error e=>exact hx pins σ _ _ e s' I2 FP
 |ok fl=>
  cases fl with
  |ret u=>
   obtain⟨v,H',I3,rv,ev,q3⟩:=I2.after FP;subst ev;exact#[rv,#[V.ref _,H',I3,rfl,q3]]
  |next=>exact gD FP
  |brk=>exact gD FP
  |cont=>exact gD FP
theorem OI(M:Mk X.K C f)(F:dW X.prog X.w X.K X.mg X.base CX k f fd ps sp)(hr:dB (k+1) X.A)(hg:Gl X x)(hm:X.mg x=some (.ref C))(hb:Binds X.K fd ps ds)(hd:dI Aj ds)(hx:rF CX X E)
  (ha:PA X (e::es) t)(sZ:vX x:=by decide)(he:kO X e es:=by rfl)(mX:rC X pos es:=by rfl):
  PE X (.Call (.Name x p) (e::es) [] pos) (Q5 C sp Aj E t):=by
 intro pins s σ H Q I h;refine kY (yh I hg hm ?_ sZ)
 exact ub (h₀:=X.base) I.ok.mod.Sy M.kp (fP (ha pos pins s σ H _ I h) λus s1 #[vs,H1,I1,r,q]=>#[I1.yg,(Du M F hr hb hd hx I1 r q)]) he mX
theorem Lk(M:Mk X.K C f)(F:dW X.prog X.w X.K X.mg X.base CX k f fd ps sp)(hr:dB (k+1) X.A)(hg:Gl X x)(hm:X.mg x=some (.ref C))(hb:Binds X.K fd ps ds)(hd:dI Aj ds)(hx:rF CX X E)
  (sZ:vX x:=by decide):PE X (.Call (.Name x p) [] [] pos) (Q5 C sp Aj E S6):=by
 intro pins s σ H Q I h;exact kY (yh I hg hm (E6 I.yg M.kp (Du M F hr hb hd hx I .nil h)) sZ)
end
section
variable{X:Cx}{CX:KZ}{k:Nat}{f C:aF}{fd:eU}{ps ks:List Str}{sp:Sp}{E:XK}{x m:Str}{p pos apos zgu:Pos}{e o:bC}{es:List bC}{kws:List Keyword}{te ta:TE}{t tk:TA}{nm:Option Str}
variable{g:List aD->List aD->List aD}{gV:List V->List V->List V}
end
structure cn(N P:List Str)(sc:j'):Prop where
 kind:sc.kind=.function
 co:sc.isCoroutine=false
 gen:sc.isGenerator=false
 nd:N.Nodup
 pre:N.take P.length=P
 par:∀x∈P,sc.names.lookup x=some .local\/sc.names.lookup x=some .cell
 S7:∀y∈sc.names,y.2≠.free
theorem AU{x:Str}:∀{binds:List (Str×aD)}{m:Str->Option aD},(∀v,(x,v)∉binds)->bindL kindOf binds m x=m x
 | [],_,_=>rfl
 |(n,v)::r,m,h=>by
  unfold bindL;rw[AU λw hw=>h w (aT _ hw)]
  split
  ·have:x≠n:=by rintro rfl;exact h v aM
   simp[this]
  ·rfl
theorem AV{x:Str}:∀{binds:List (Str×aD)}{m:Str->Option aD},(∀v,(x,v)∉binds)->bindC kindOf binds m x=m x
 | [],_,_=>rfl
 |(n,v)::r,m,h=>by
  unfold bindC;rw[AV λw hw=>h w (aT _ hw)]
  split
  ·rfl
  ·have:x≠n:=by rintro rfl;exact h v aM
   simp[this]
theorem AW{kindOf:Str->Option ot}{x:Str}{v:aD}:∀{P:List Str}{vs:List aD}{i:Nat}{m:Str->Option aD},P.Nodup->P[i]?=some x->vs[i]?=some v->kindOf x=some .local->
  bindL kindOf (P.zip vs) m x=some v
 | [],_,_,_,_,h,_,_=>by simp at h
 |_::_,[],_,_,_,_,h,_=>by simp at h
 |p::P,w::vs,0,m,nd,h1,h2,hk=>by
  simp at h1 h2;subst h1;subst h2;show bindL kindOf ((p,w)::P.zip vs) m p=_;unfold bindL;rw[AU λv hv=>(bY.mp nd).1 (rj hv).1,qQ3 hk]
  simp
 |p::P,w::vs,i+1,m,nd,h1,h2,hk=>by
  unfold bindL;exact AW (bY.mp nd).2 ↑h1 ↑h2 hk
theorem AX{kindOf:Str->Option ot}{x:Str}{v:aD}:∀{P:List Str}{vs:List aD}{i:Nat}{m:Str->Option aD},P.Nodup->P[i]?=some x->vs[i]?=some v->kindOf x≠some .local->
  bindC kindOf (P.zip vs) m x=some v
 | [],_,_,_,_,h,_,_=>by simp at h
 |_::_,[],_,_,_,_,h,_=>by simp at h
 |p::P,w::vs,0,m,nd,h1,h2,hk=>by
  simp at h1 h2;subst h1;subst h2;show bindC kindOf ((p,w)::P.zip vs) m p=_;unfold bindC;rw[AV λv hv=>(bY.mp nd).1 (rj hv).1,qQ2 hk]
  simp
 |p::P,w::vs,i+1,m,nd,h1,h2,hk=>by
  unfold bindC;exact AX (bY.mp nd).2 ↑h1 ↑h2 hk
def start(N:List Str)(vs:List V):St:=vs.map some++aY (N.length-vs.length) none
def lU(CX:KZ)(P:bA)(w:cg)(K:ao)(mg:Str->Option aD)(base:cM)(N:List Str)(qual:Str)(scope:j')(f:aF)(cd:aD)(A:dE)(outer:List Env)(s:aL)(H:Hp)(E:XK):Cx where
 prog:=P
 w:=w
 K:=K
 mg:=mg
 base:=base
 A:=A.deeper (envOfC qual scope s.heap.objs.size f cd)
 N:=N
 s₀:=s
 H₀:=H
 env:=envOfC qual scope s.heap.objs.size f cd
 outer:=outer
 stack:=envOfC qual scope s.heap.objs.size f cd::outer
 ex:=[]
 calm:=true
 fn:=λ_=>true
 pn:=[]
 xe:=λe s'=>wpAny (model P w) (A.deeper (envOfC qual scope s.heap.objs.size f cd)) (leaving (envOfC qual scope s.heap.objs.size f cd) e) (λ_ Q6=>CX outer H s E e Q6) (λe' Q6=>CX outer H s E e' Q6) s'
theorem Dv{sc:j'}{n:Nat}{x:Str}(h:sc.names.lookup x=some .cell):∃c,(cellsFrom n sc.names []).lookup x=some c:=by
 exact Option.isSome_iff_exists.mp (Bt sc.names n [] (.inl h))
theorem Jv{qual:Str}{f:aF}{cd:aD}{s1: aL}{E:XK}
  (S:cn N ps scope)(hd:A.handled=none)(e0:Ju P w K mg base A outer s H)(hl:vs.length=ps.length)(r:dI vs us)
  (x:InCallC s s.heap.objs.size (bindL (envOfC qual scope s.heap.objs.size f cd).kindOf (ps.zip us) λ_=>none) (cellsFrom (s.heap.objs.size+1) scope.names []) (bindC (envOfC qual scope s.heap.objs.size f cd).kindOf (ps.zip us) λ_=>none) s1):
  Inv (lU CX P w K mg base N qual scope f cd A outer s H E) [] (start N vs) H s1:=by
 have mX:ps.length<=N.length:=by have:=qQ6 dC S.pre;rw[bJ]at this;omega
 obtain⟨h1,tk,rfl,hk⟩:=x.done;have Ww:∀b:aF,b∉(lU CX P w K mg base N qual scope f cd A outer s H E).ex:=λb z=>qQ7 (show b∈([])from z) (by simp)
 refine#[#[e0.mod,S.kind,rfl,rfl,aP _,λy z c h1 h2=>?_,λy hy=>?_,λy c _ h=>?_,λ_=>hd,dE.frames_deeper e0.frames,.inr #[rfl,rfl],λb z=>qQ7 z (Ww b),e0.bs,e0.QP,λb _ _=>Ww b,λb z=>qQ7 z (Ww b),e0.xP,e0.Sz],
  rfl,e0.bare,Un.kept hk,#[_,x.toInCall.ns,λi y v h1 h2 h3=>?_],λy c h=>#[_,x.cell y c h],e0.hok.fresh (aP _),λy c h=>?_,λp hp=>qQ7 (show p∈([])from hp) (by simp),e0.hok.kept hk,?_]
 ·exact name_of_addr x.apart (iw h1) (iw h2)
 ·have hy:=hy
  rcases hy with hy|hy
  ·exact Dv hy
  ·exact qQ7 rfl (S.S7 _ (iw hy))
 ·exact ou (x.above y c (iw h))
 ·have hi:i<vs.length:=by
   unfold start at h2;by_cases hi:i<vs.length
   ·exact hi
   ·rw[bS ↑hi]at h2
    rw[dM]at h2
    split at h2<;>cases h2
  have ha:vs[i]?=some v:=by
   unfold start at h2;rw[bX ↑hi,aG]at h2
   cases e:vs[i]? with
   |none=>rw[e]at h2;cases h2
   |some a=>rw[e]at h2;cases h2;rfl
  obtain⟨u,hu,rv⟩:=r.get ha;have hp:ps[i]?=some y:=by
   rwa[<-S.pre,List.getElem?_take_of_lt ∅]
  have ndP:ps.Nodup:=by rw[<-S.pre];exact S.nd.sublist (wO _ _)
  refine#[u,rv,?_]
  rcases S.par y (aQ hp)with k|k
  ·exact .inl #[k,AW ndP hp hu k]
  ·obtain⟨c,e⟩:=Dv k
   refine .inr #[.inl k,c,e,?_]
   have q:=x.cell y c e;rwa[AX ndP hp hu (by show scope.names.lookup y≠_;rw[k];decide)]at q
 ·exact e0.hok.fresh (ou (x.above y c (iw h)))
 ·unfold start
  show _=N.length;rw[aV,ai,cU];omega
theorem Wx{f:aF}{name qual:Str}{params:Arguments}{dV kV doc pm e7 ct oc:aD}{an od:Option aF}
  {Jw:Array (Option aD)}{sp:Sp}(lk:K.lookup f=some #[oc,od,.func (fJ name qual params body scope dV kV doc pm an e7 ct),Jw])(Ou:jb K e7 qual=true)(S:cn N ps scope)
  (len:∀vs H Q E,sp vs H Q E->vs.length=ps.length)
  (Ln:∀(A:dE)(outer:List Env)(s:aL)(H:Hp)(vs:List V)(Q:VK)(E:XK),dB k (A.deeper (envOfC qual scope s.heap.objs.size f e7))->sp vs H Q E->
   ∃t,Fu (lU CX P w K mg base N qual scope f e7 A outer s H E) body t/\t { nx:=λ_ H'=>Q .non H',rt:=Q } (start N vs) H) :
  dW P w K mg base CX (k+1) f (fJ name qual params body scope dV kV doc pm an e7 ct) ps sp:=by
 refine#[len,λA outer s H args us vs Q E hr e0 hb r BX=>?_]
 have hl:=len _ _ _ _ BX;have KX:=e0.mod.Sy.keeps λb o e=>(e0.bs b o e).1
 have Dw:∀y∈ps.zip us,scope.names.lookup y.1=some .local\/(scope.names.lookup y.1=some .cell/\((cellsFrom (s.heap.objs.size+1) scope.names []).lookup y.1).isSome=true):=λ#[n,v] hy=>by
  rcases S.par n (rj hy).1 with q|q
  ·exact .inl q
  ·exact .inr #[q,Bt _ _ _ (.inl q)]
 refine codeAny_call_function hr.depth (KX _ _ lk) rfl S.co S.gen rfl (PySem.W.codeRec_of KX Ou) (hb _ _ _ _ ?_)
 refine wpAny_newFunctionEnv_cells S.kind Dw λenv he s1 x=>?_
 subst he;refine#[(e0.mod.nolimit.keeps λb o e=>(e0.bs b o e).1).keeps x.toInCall.keep,codeAny_func ?_]
 obtain⟨t,ht,hq⟩:=Ln A outer s H vs Q E (hr.deeper _) BX;refine gT (ht [] s1 _ H _ (Jv S hr.hd e0 hl r x) hq) (λfl s' hs=>?_) λe s' hs=>hs
 have fin:∀{σ':St}{H':Hp}{v:V}{u:aD},Inv (lU CX P w K mg base N qual scope f e7 A outer s H E) [] σ' H' s'->RelV v u->Q v H'->CE outer P w H s Q u s':=
  λ{σ' H' v u}J rv q=>#[v,H',J.os,J.bare,J.base,J.hok,rv,q]
 cases fl with
 |ret u=>
  obtain⟨v,σ',H',J,rv,q⟩:=hs;exact fin J rv q
 |next=>
  obtain⟨σ',H',J,q⟩:=hs;exact fin (v:=V.non) J rfl q
 |brk=>
  obtain⟨_,_,_,q⟩:=hs;exact gD q
 |cont=>
  obtain⟨_,_,_,q⟩:=hs;exact gD q
section
variable{X:Cx}{x:Str}{p pos:Pos}{e:bC}{es:List bC}{t:TA}{id T:String}{r:List V->Hp->VK->Prop}
def tCB(r:List V->Hp->VK->Prop)(t:TA):TE:=λσ H Q=>t σ H λvs H1=>r vs H1 Q
theorem rG(hc:g8 X (.builtin id) r)(hg:Gl X x)(hm:X.mg x=none)(hv:bootBuiltins x=some (.builtin id))(ha:PA X (e::es) t)(hn:x≠"__name__":=by decide)(sZ:vX x:=by decide)
  (he:kO X e es:=by rfl)(mX:rC X pos es:=by rfl):PE X (.Call (.Name x p) (e::es) [] pos) (tCB r t):=by
 intro pins s σ H Q I h;exact kY (vY I hg hm hv (PyProof.Rows.callWith_builtin1 (fP (ha pos pins s σ H _ I h) λus s1 #[vs,H1,I1,r1,q1]=>hc pins s1 σ H1 vs us Q I1 r1 q1) he mX) hn sZ)
theorem sE(hc:g8 X (.type T) r)(hg:Gl X x)(hm:X.mg x=none)(hv:bootBuiltins x=some (.type T))(ha:PA X (e::es) t)(hn:x≠"__name__":=by decide)(sZ:vX x:=by decide)
  (he:kO X e es:=by rfl)(mX:rC X pos es:=by rfl):PE X (.Call (.Name x p) (e::es) [] pos) (tCB r t):=by
 intro pins s σ H Q I h;exact kY (vY I hg hm hv (iA (fP (ha pos pins s σ H _ I h) λus s1 #[vs,H1,I1,r1,q1]=>hc pins s1 σ H1 vs us Q I1 r1 q1) he mX) hn sZ)
end
end L2
namespace HT
open PySem PyProof.Rows
variable{Q:aD->aL->Prop}
section
open PySem.SeqAt
open PySem.AutoSeq1 (wpAny_loadPart')
open PySem.MeetsSeq PySem.MeetsSeq2 PySem.MeetsSeq3
end
section
variable{prog:bA}{w:cg}{A:dE}{E:aD->aL->Prop}{s:aL}
theorem OJ{t b:aF}{vs ws:List aD}(ht:IsTup s.heap t vs.toArray)(hb:IsTup s.heap b ws.toArray)(hv:vs≠[])
  (h1:ws=[]->Q (.ref t) s)(h2:ws≠[]->Q (.ref s.heap.objs.size) { s with heap:=s.heap.push { cls:=.type "tuple",data:=.seq (vs++ws).toArray } })
  (BU:vs.length+ws.length<=sizeLine):wpAny (model prog w) A (binaryOp .Add (.ref t) (.ref b)) Q E s:=by
 obtain⟨⟨cls,dd,data,sl⟩,ho,hc,n,hd⟩:=id ht;obtain⟨⟨zaE,Zo,data2,Zq⟩,Vl,hc2,n2,hd2⟩:=id hb;subst hc hd hc2 hd2;have e:vs.toArray++ws.toArray=(vs++ws).toArray:=by simp
 by_cases hw:ws=[]
 ·exact concat_meets #[_,ho,rfl] #[_,Vl,rfl] noFill_tuple_add seq_tuple_add Bu Az (Ac _ _)
   (tuple_addW1 t b vs.toArray ws.toArray n n2 dd Zo sl Zq ↑hv (by simp[hw])) #[ho,Vl,h1 hw]
 ·refine concat_meets #[_,ho,rfl] #[_,Vl,rfl] noFill_tuple_add seq_tuple_add Bu Az (Ac _ _)
   (tuple_addW2 t b vs.toArray ws.toArray n n2 dd Zo sl Zq ↑hv ↑hw (by rw[bL,bL];exact BU)) #[ho,Vl,?_]
  rw[e];exact h2 hw
def oI(n d:Nat):Option Int->Nat
 |none=>d
 |some v=>if v<0 then(v+(n:Int)).toNat else min v.toNat n
theorem Dx(n d:Nat):oI n d none=d:=rfl
theorem p_(n d k:Nat):oI n d (some (k:Int))=min k n:=by
 show(if(k:Int)<0 then(k+(n:Int)).toNat else min (k:Int).toNat n)=min k n
 rw[qQ2 ∅,dS]
theorem HV(v:Int)(n d:Nat):(if v<0 then max (v+(n:Int)) 0 else min v (n:Int))=((oI n d (some v):Nat):Int):=by
 show(if v<0 then max _ 0 else min v n)=(((if v<0 then(v+n).toNat else min v.toNat n):Nat))
 by_cases hv:v<0
 ·simp only[qQ3 hv];omega
 ·simp only[qQ2 hv];omega
theorem FQ(lo hi:Option Int)(n:Nat):vO lo hi 1 (n:Int)=(((oI n 0 lo:Nat):Int),((oI n n hi:Nat):Int)):=by
 refine Prod.ext ?_ ?_
 ·cases lo with
  |none=>rfl
  |some v=>exact HV v n 0
 ·cases hi with
  |none=>rfl
  |some v=>exact HV v n n
theorem FT(i j:Nat):iU (i:Int) (j:Int) 1=j-i:=by
 unfold iU
 split<;>omega
theorem yM{v:aD}{o:Option Int}{Q:Option Int->aL->Prop}(p:Bv v o)(h:Q o s):wpAny (model prog w) A (qY.Slice.slicePartIndex v) Q E s:=by
 cases p with
 |none=>exact slicePart_none h
 |int i t=>exact slicePart_int h
theorem v5{sl:aF}{vl vu:aD}{lo hi:Option Int}{n:Nat}{Q:Int×Int×Nat->aL->Prop}(hs:s.heap.IsSliceOf sl vl vu .none)(pl:Bv vl lo)(pu:Bv vu hi)
  (h:Q (((oI n 0 lo:Nat):Int),1,oI n n hi-oI n 0 lo) s):wpAny (model prog w) A (qY.Slice.sliceApplied (.ref sl) (pure (n:Int))) Q E s:=by
 obtain⟨os,Wy,Wz,E_⟩:=id hs;refine aA (aA (fh Wy E_ rfl (aA (fh Wy E_ rfl (aA (fh Wy E_ rfl (bj ?_)))))))
 refine aA (slicePart_none ?_)
 refine aA (yM pl (aA (yM pu (aA (bj ?_)))))
 show wpAny _ _ (match vO lo hi 1 (n:Int)with|(lo,hi)=>pure (lo,(1:Int),iU lo hi 1)) _ _ s
 rw[FQ lo hi n];show wpAny _ _ (pure (((oI n 0 lo):Int),1,iU ((oI n 0 lo)) ((oI n n hi)) 1)) _ _ s;rw[FT];exact bj h
theorem Lp(xs:Array aD)(i k:Nat):((aX k).filterMap λ(m:Nat)=>xs[((i:Int)+(m:Int)*1).toNat]?).toArray=((xs.toList.drop i).take k).toArray:=by
 have e:(λ(m:Nat)=>xs[(i+(m:Int)*1).toNat]?)=λm=>xs[i+m]?:=by
  funext m
  have:(i+(m:Int)*1).toNat=i+m:=∅
  rw[this]
 rw[e];have:=pick_run xs i k;rw[b0]at this;have e2:((λx=>xs[x]?)∘λx=>i+x)=λm=>xs[i+m]?:=rfl
 rw[e2]at this;rw[this]
theorem u5{t sl:aF}{items:Array aD}{vl vu:aD}{lo hi:Option Int}(ht:IsTup s.heap t items)(hs:s.heap.IsSliceOf sl vl vu .none)(pl:Bv vl lo)(pu:Bv vu hi)
  (hw:¬(oI items.size 0 lo=0/\oI items.size items.size hi=items.size))
  (h:Q (.ref s.heap.objs.size) { s with heap:=s.heap.push { cls:=.type "tuple",data:=.seq ((items.toList.drop (oI items.size 0 lo)).take (oI items.size items.size hi-oI items.size 0 lo)).toArray } })
  (BU:items.size<=sizeLine):wpAny (model prog w) A (getItem (.ref t) (.ref sl)) Q E s:=by
 have HW:sizeOk (.seq ((items.toList.drop (oI items.size 0 lo)).take (oI items.size items.size hi-oI items.size 0 lo)).toArray):=by
  show((items.toList.drop _).take _).toArray.size<=sizeLine
  rw[bL,bJ,cN,cH];omega
 obtain⟨os,Wy,Wz,E_⟩:=id hs;unfold getItem
 try with_reducible refine oq ?_
 first|refine aA (bj ?_)|skip
 refine aA (wpAny_sequenceKey ht.typeIs ⋯ ?_)
 refine aA (iS ht.typeIs j3
  (j9 j3 ht.typeIs entry_tuple_getitem ?_ (args_tuple_getitem _ _)))
 show wpAny _ _ (qY.Tuple.tupleItemsOf _ >>= _) _ _ s;refine aA (tupleItemsOf_ ht ?_)
 refine aA (wpAny_typeOf (#[os,Wy,Wz]) ?_)
 refine aA (v5 hs pl pu ?_)
 have HX:¬((((oI items.size 0 lo):Int)==0&&(1:Int)==1&&(oI items.size items.size hi-oI items.size 0 lo)==items.size)=true):=by
  intro q;rw[eD,eD]at q;have q1:=eq_of_beq q.1.1;have q2:=eq_of_beq q.2;exact hw #[∅,∅]
 show wpAny _ _ (if(((oI items.size 0 lo):Int)==0&&1==1&&(oI items.size items.size hi-oI items.size 0 lo)==items.size)=true then _ else _) _ _ s
 rw[qQ2 HX,Lp]
 first
  |exact aA (fB (bj #[_,rfl,bj h]) HW)
  |exact aA (fB (aA (bj (bj #[_,rfl,bj h]))) HW)
  |exact aA (aA (fB (bj (bj #[_,rfl,bj h])) HW))
  |exact aA (aA (fB (bj #[_,rfl,bj h]) HW))
end
end HT
namespace L2
open PySem PySem.Spec PyProof.Rows
variable{xs:List V}{its us:List aD}{n t':Nat}
abbrev TO:=St->Hp->(Option Int->Hp->Prop)->Prop
def PO(X:Cx)(e:Option bC)(t:TO):Prop:=
 ∀(pins:List (aF×Obj))(s:aL)(σ:St)(H:Hp)(Q:Option Int->Hp->Prop),Inv X pins σ H s->t σ H Q->
  wpAny (model X.prog X.w) X.A (evalPart e X.env) (λu s'=>∃o H',Inv X pins σ H' s'/\Bv u o/\Q o H') X.xe s
def OL:TO:=λ_ H Q=>Q none H
def WB(t:TE):TO:=λσ H Q=>t σ H λx H1=>∃i,x=.int i/\Q (some i) H1
theorem intsAre_of{ns:List Int}:∀{us:List aD},dI (ns.map V.int) us->wQ us ns:=by
 induction ns with
 |nil=>intro us r;rw[gx]at r;cases r;exact .nil
 |cons n ns ih=>
  intro us r;cases r with
  |cons r1 r2=>
   obtain⟨t,e⟩:=r1;subst e;exact .cons n t (ih r2)
section
variable{X:Cx}{e:bC}{te:TE}{lo hi:Option bC}{tl th:TO}{pos p2:Pos}
theorem OO:PO X none OL:=by
 intro pins s σ H Q I h;exact bj #[none,H,I,.none,h]
theorem OQ(h:PE X e te):PO X (some e) (WB te):=by
 intro pins s σ H Q I hw;refine fP (h pins s σ H _ I hw) λu s1 #[x,H1,I1,r1,q1]=>?_
 obtain⟨i,rfl,q⟩:=q1;obtain⟨t,rfl⟩:=r1;exact#[_,H1,I1,.int i t,q]
def Zr(X:Cx)(r:V->Option Int->Option Int->Hp->VK->Prop):Prop:=
 ∀(pins:List (aF×Obj))(s:aL)(σ:St)(H:Hp)(x:V)(v vl vu:aD)(lo hi:Option Int)(sl:aF)(Q:VK),Inv X pins σ H s->RelV x v->s.heap.IsSliceOf sl vl vu .none->Bv vl lo->Bv vu hi->r x lo hi H Q->
  ∃T id,typeLookup (.type T) "__getitem__"=pure (some (.builtin id))/\s.TypeIs v T/\wpAny (model X.prog X.w) X.A (getItem v (.ref sl)) (EP X pins σ Q) X.xe s
def tSl(r:V->Option Int->Option Int->Hp->VK->Prop)(te:TE)(tl th:TO):TE:=λσ H Q=>te σ H λx H1=>tl σ H1 λl H2=>th σ H2 λu H3=>r x l u H3 Q
theorem yN{r:V->Option Int->Option Int->Hp->VK->Prop}(hr:Zr X r)(he:PE X e te)(hl:PO X lo tl)(hu:PO X hi th):PE X (.Subscript e (.Slice lo hi none p2) pos) (tSl r te tl th):=by
 intro pins s σ H Q I h;refine Subscript_ (fP (he pins s σ H _ I h) λv s1 #[x,H1,I1,r1,q1]=>?_)
 refine wpAny_Slice (fP (hl pins s1 σ H1 _ I1 q1) λvl s2 #[l,H2,I2,pl,q2]=>fP (hu pins s2 σ H2 _ I2 q2) λvu s3 #[u,H3,I3,pu,q3]=>?_)
 refine bj ?_
 have I4:Inv X pins σ H3 { s3 with heap:=s3.heap.push { cls:=.type "slice",data:=.fields (bN [vl,vu,.none]) } }:=I3.kept λb ob q=>aE _ q
 obtain⟨T,id,hT,ht,hg⟩:=hr pins { s3 with heap:=s3.heap.push { cls:=.type "slice",data:=.fields (bN [vl,vu,.none]) } } σ H3 x v vl vu l u s3.heap.objs.size Q I4 r1 (cM.IsSliceOf.new ..) pl pu q3
 exact tail_any ht hT hg (by with_unfolding_all rfl)
def Jx(xs:List V)(lo hi:Option Int):List V:=(xs.drop (HT.oI xs.length 0 lo)).take (HT.oI xs.length xs.length hi-HT.oI xs.length 0 lo)
theorem wX(xs:List V)(lo hi:Option Int):(Jx xs lo hi).length<=xs.length:=by
 unfold Jx;rw[bJ,cN];omega
def zaG(K:ao):V->Option Int->Option Int->Hp->VK->Prop:=λx lo hi H Q=>∃a xs,x=.ref a/\oH K H a xs/\
 ¬(HT.oI xs.length 0 lo=0/\HT.oI xs.length xs.length hi=xs.length)/\∀p,H p=none->Q (.ref p) (upd H p (.tup (Jx xs lo hi)))
theorem S8:Zr X (zaG X.K):=by
 intro pins s σ H x v vl vu lo hi sl Q I rx hs pl pu h;obtain⟨a,xs,rfl,hx,hw,q⟩:=h;cases rx;obtain⟨its,r,ht,hz⟩:=I.tuple hx;have hlen:its.toArray.size=xs.length:=by rw[bL];exact r.length.symm
 refine#[_,_,j3.lookup,ht.typeIs,?_]
 refine HT.u5 ht hs pl pu (by rw[hlen];exact hw) ?_ (by rw[hlen];exact hz)
 rw[hlen];refine#[.ref s.heap.objs.size,_,I.laid (λb ob q=>aE _ q) ∅ ?_,rfl,q _ (I.hok.fresh ∅)]
 exact#[bQ (wX xs lo hi) hz,_,(r.drop _).take _,tF _ _]
def WC(K:ao):R2:=λx y H Q=>∃a b xs ys,x=.ref a/\y=.ref b/\oH K H a xs/\oH K H b ys/\xs≠[]/\xs.length+ys.length<=sizeLine/\
 (ys=[]->Q (.ref a) H)/\(ys≠[]->∀p,H p=none->Q (.ref p) (upd H p (.tup (xs++ys))))
theorem dI.yl(r:dI xs us):us=[]↔xs=[]:=by
 cases r with
 |nil=>simp
 |cons _ _=>simp
theorem OS:rg X (binaryOp .Add) (WC X.K):=by
 intro pins s σ H x y v u Q I rx ry h;obtain⟨a,b,xs,ys,rfl,rfl,ha,hb,hx,hz,q1,q2⟩:=h;cases rx;cases ry;obtain⟨its,r1,p1,_⟩:=I.tuple ha;obtain⟨oy,r2,p2,_⟩:=I.tuple hb;refine HT.OJ p1 p2 (λz=>hx (r1.yl.mp z)) (λz=>#[.ref a,H,I,rfl,q1 (r2.yl.mp z)]) (λz=>?_) (by rw[<-r1.length,<-r2.length];exact hz)
 refine#[.ref s.heap.objs.size,_,I.laid (λb ob q=>aE _ q) ∅ ?_,rfl,q2 (λw=>z (r2.yl.mpr w)) _ (I.hok.fresh ∅)]
 exact#[by rw[aV];exact hz,_,r1.append r2,tF _ _]
end
def Q7(n:Nat)(i:Int):Option Nat:=if 0<=i then(if i<n then some i.toNat else none)else if -(n:Int)<=i then some (i+n).toNat else none
def um{α:Type}(xs:List α)(i:Int):Option α:=(Q7 xs.length i).bind λj=>xs[j]?
theorem OU{i:Int}{j:Nat}(h:Q7 n i=some j):seqIndex? i n=some j/\j<n/\-(n:Int)<=i/\i<n:=by
 unfold Q7 at h;by_cases h0:0<=i
 ·rw[qQ3 h0]at h
  by_cases h1:i<n
  ·rw[qQ3 h1]at h
   have e:=cD h;exact#[by rw[seqIndex_of h0 h1,e],∅,∅,h1]
  ·rw[qQ2 h1]at h;cases h
 ·rw[qQ2 h0]at h
  by_cases h1:-n<=i
  ·rw[qQ3 h1]at h
   have e:=cD h;exact#[by rw[seqIndex_neg ∅ h1,e],∅,h1,∅]
  ·rw[qQ2 h1]at h;cases h
theorem BZ{α:Type}{xs:List α}{i:Int}{v:α}(h:um xs i=some v):∃j,seqIndex? i xs.length=some j/\xs[j]?=some v/\j<xs.length/\-(xs.length:Int)<=i/\i<xs.length:=by
 unfold um at h;cases e:Q7 xs.length i with
 |none=>rw[e]at h;cases h
 |some j=>
  rw[e]at h;obtain⟨h1,h2,h3,h4⟩:=OU e;exact#[j,h1,h,h2,h3,h4]
theorem cz{α:Type}{xs:List α}{j:Nat}{v:α}(h:xs[j]?=some v):um xs (j:Int)=some v:=by
 have hj:=(aH.mp h).1
 have e:Q7 xs.length j=some j:=by
  unfold Q7;rw[qQ3 ∅,qQ3 ∅];simp
 unfold um;rwa[e]
def qc(b:bC):Prop:=∀o i,subscripted b false o i=operate [o,i] (getItem o i)
def N8(X:Cx)(r:R2):Prop:=
 ∀(value slice:bC)(pins:List (aF×Obj))(s:aL)(σ:St)(H:Hp)(x y:V)(v u:aD)(Q:VK),Inv X pins σ H s->RelV x v->RelV y u->r x y H Q->
  subscripted slice false v u=operate [v,u] (getItem v u)->wpAny (model X.prog X.w) X.A (subscriptTail value slice v u) (EP X pins σ Q) X.xe s
def MtR(X:Cx)(id:String)(r:V->List V->Hp->VK->Prop):Prop:=
 ∀(pins:List (aF×Obj))(s:aL)(σ:St)(H:Hp)(x:V)(xs:List V)(v:aD)(us:List aD)(Q:VK),Inv X pins σ H s->RelV x v->dI xs us->r x xs H Q->
  wpAny (model X.prog X.w) X.A (call (.builtin id) (v::us)) (EP X pins σ Q) X.xe s
section
variable{X:Cx}{a b:bC}{ta tb:TE}{pos:Pos}
theorem N8.or{r r':R2}(h:N8 X r)(h':N8 X r'):N8 X (λx y H Q=>r x y H Q\/r' x y H Q):=by
 intro value slice pins s σ H x y v u Q I rx ry q hs;rcases q with q|q
 ·exact h value slice pins s σ H x y v u Q I rx ry q hs
 ·exact h' value slice pins s σ H x y v u Q I rx ry q hs
theorem Q8{r:R2}(hr:N8 X r)(ha:PE X a ta)(hb:PE X b tb)(hs:qc b):PE X (.Subscript a b pos) (Wm r ta tb):=by
 intro pins s σ H Q I h;exact Subscript_ (SX ha hb I h λv u s2 x y H2 I2 rx ry q=>hr a b pins s2 σ H2 x y v u Q I2 rx ry q (hs _ _))
def WD(K:ao):R2:=λx y H Q=>∃p xs i v,x=.ref p/\y=.int i/\jx K H p xs/\um xs i=some v/\Q v H
def WG(K:ao):R2:=λx y H Q=>∃p xs i v,x=.ref p/\y=.int i/\oH K H p xs/\um xs i=some v/\Q v H
def WH:R2:=λx y H Q=>∃z i c,x=.str z/\y=.int i/\z.length<=sizeLine/\um z.cps.toList i=some c/\Q (.str #[(bN [c])]) H
theorem OV:N8 X (WD X.K):=by
 intro value slice pins s σ H x y v u Q I rx ry h hs;obtain⟨p,xs,i,z,rfl,rfl,hq,he,q⟩:=h;cases rx;obtain⟨t,rfl⟩:=ry;obtain⟨its,r,pl,hz⟩:=I.list hq;obtain⟨j,h1,h2,h3,h4,h5⟩:=BZ he;obtain⟨w,ew,sD⟩:=r.get h2;have hl:=r.length;have hn:=uk;have fin:EP X pins σ Q w s:=#[z,H,I,sD,q];by_cases h0:0<=i
 ·have hj:i.toNat=j:=by
   rw[seqIndex_of h0 h5]at h1;exact cD h1
  exact item_listR pl.isList h0 ∅ (by rw[hj];simpa using ew) fin hs
 ·have hj:(i+its.toArray.size).toNat=j:=by
   rw[seqIndex_neg ∅ h4]at h1
   rw[bL,<-hl];exact cD h1
  exact subscriptTail_builtinR pl.isList.typeIs slot_list_getitem.lookup
   (wpAny_getItem_list_neg pl.isList ∅ (by rw[bL]<;>omega) ∅ (by rw[hj];simpa using ew) #[rfl,fin]) hs
theorem S9:N8 X (WG X.K):=by
 intro value slice pins s σ H x y v u Q I rx ry h hs;obtain⟨p,xs,i,z,rfl,rfl,hq,he,q⟩:=h;cases rx;obtain⟨t,rfl⟩:=ry;obtain⟨its,r,pl,hz⟩:=I.tuple hq;obtain⟨j,h1,h2,h3,h4,h5⟩:=BZ he;obtain⟨w,ew,sD⟩:=r.get h2;have hl:=r.length;have hn:=uk;exact subscriptTail_builtinR pl.typeIs slot_tuple_getitem.lookup
  (getItem_tuple pl ∅ ∅ (by rw[bL,<-hl];exact h1) ↑ew #[rfl,(#[z,H,I,sD,q])]) hs
theorem S_:N8 X WH:=by
 intro value slice pins s σ H x y v u Q I rx ry h hs;obtain⟨z,i,c,rfl,rfl,hz,he,q⟩:=h;obtain⟨t,rfl⟩:=rx;obtain⟨t',rfl⟩:=ry;obtain⟨j,h1,h2,h3,h4,h5⟩:=BZ he;have hl:z.cps.toList.length=z.length:=by simp[Str.length]
 rw[hl]at h1 h4 h5;have hn:=uk;exact tail_any (uc s z t) slot_str_getitem.lookup (getItem_str (by
  rw[qQ0 ∅,qQ0 ∅,Bool.or_false]) (by rw[h1];simpa using h2) #[.str #[(bN [c])],H,I.tok _,#[_,rfl],q]) hs
def Zt(K:ao):R2:=λx y H Q=>WD K x y H Q\/WG K x y H Q\/WH x y H Q
theorem B1:N8 X (Zt X.K):=OV.or (S9.or S_)
theorem B2(lo hi:Option Int)(n:Nat):(sliceBounds lo hi none n).1=((HT.oI n 0 lo:Nat):Int)/\(sliceBounds lo hi none n).2.1=((HT.oI n n hi:Nat):Int)/\(sliceBounds lo hi none n).2.2=1:=by
 refine#[?_,?_,rfl]
 ·cases lo with
  |none=>simp[sliceBounds,HT.oI]
  |some i=>
   simp[sliceBounds,HT.oI,Option.getD_none,show(1:Int)>0 by decide,if_true]
   by_cases h:i<0
   ·simp[h,if_true]<;>omega
   ·simp[h,if_false]<;>omega
 ·cases hi with
  |none=>simp[sliceBounds,HT.oI]
  |some i=>
   simp[sliceBounds,HT.oI,Option.getD_none,show(1:Int)>0 by decide,if_true]
   by_cases h:i<0
   ·simp[h,if_true]<;>omega
   ·simp[h,if_false]<;>omega
theorem Ak(its:List aD)(lo hi:Option Int):slicePick its.toArray lo hi none=((its.drop (HT.oI its.length 0 lo)).take (HT.oI its.length its.length hi-HT.oI its.length 0 lo)).toArray:=by
 obtain⟨h1,h2,h3⟩:=B2 lo hi its.toArray.size;unfold slicePick;rw[h1,h2,h3];simp only[sliceRange_one,pick_run,bL]<;>rfl
def zaH(K:ao):V->Option Int->Option Int->Hp->VK->Prop:=λx lo hi H Q=>∃a xs,x=.ref a/\jx K H a xs/\∀p,H p=none->Q (.ref p) (upd H p (.lst (Jx xs lo hi)))
theorem OW:Zr X (zaH X.K):=by
 intro pins s σ H x v vl vu lo hi sl Q I rx hs pl pu h;obtain⟨a,xs,rfl,hx,q⟩:=h;cases rx;obtain⟨its,r,ht,hz⟩:=I.list hx;have hlen:=r.length;refine#[_,_,slot_list_getitem.lookup,ht.isList.typeIs,?_]
 refine wpAny_getItem_list_slice ht.isList hs pl pu .none (by simp) ?_ (by rw[bL]<;>omega)
 rw[Ak,<-hlen];refine#[.ref s.heap.objs.size,_,I.laid (λb ob q=>aE _ q) ∅ ?_,rfl,q _ (I.hok.fresh ∅)]
 exact#[bQ (wX xs lo hi) hz,_,0,(r.drop _).take _,bq _ rfl]
theorem u6:g8 X (.builtin "len") (λxs H Q=>∃p ys,xs=[.ref p]/\(jx X.K H p ys\/oH X.K H p ys)/\Q (.int ys.length) H):=by
 intro pins s σ H xs us Q I r h;obtain⟨p,ys,rfl,hq,q⟩:=h;obtain⟨u,rfl,rx⟩:=vals1 r;cases rx;have hn:=uk;rcases hq with hq|hq
 ·obtain⟨its,r',pl,hz⟩:=I.list hq
  have hlen:=r'.length;exact Calls.call_len_list pl.isList (by simp<;>omega) #[.int ys.length,H,I.tok _,#[_,by rw[bL,hlen]],q]
 ·obtain⟨its,r',pl,hz⟩:=I.tuple hq
  have hlen:=r'.length;exact len_tuple pl (by simp<;>omega) #[.int ys.length,H,I.tok _,#[_,by rw[bL,hlen]],q]
theorem B3:g8 X (.builtin "len") (λxs H Q=>∃z,xs=[.str z]/\z.length<=sizeLine/\Q (.int z.length) H):=by
 intro pins s σ H xs us Q I r h;obtain⟨z,rfl,hz,q⟩:=h;obtain⟨u,rfl,t,rfl⟩:=vals1 r;have hn:=uk;exact len_str ∅ #[.int z.length,H,I.tok _,#[_,rfl],q]
theorem qd:g8 X (.type "list") (λxs H Q=>∃p ys,xs=[.ref p]/\(jx X.K H p ys\/oH X.K H p ys)/\∀l,H l=none->Q (.ref l) (upd H l (.lst ys))):=by
 intro pins s σ H xs us Q I r h;obtain⟨p,ys,rfl,hq,q⟩:=h;obtain⟨u,rfl,rx⟩:=vals1 r;cases rx;have fin:∀(its:List aD),dI ys its->ys.length<=sizeLine->∀(h':cM)(c':Nat),(∀b o',s.heap.get? b=some o'->h'.get? b=some o')->
   h'.get? s.heap.objs.size=some { cls:=.type "list",dict:=none,data:=.seq its.toArray c',slots:=#[] }->EP X pins σ Q _ { s with heap:=h' }:=λits r' hz h' c' kp e=>
  #[.ref s.heap.objs.size,_,I.laid kp ∅ (show ia X.prog X.w _ h' _ (.lst ys) from#[hz,its,c',r',e]),rfl,q _ (I.hok.fresh ∅)]
 rcases hq with hq|hq
 ·obtain⟨its,r',pl,hz⟩:=I.list hq
  have hlen:=r'.length;obtain⟨o,ho,hc,n,hd⟩:=pl.isList;exact call_list_seq p (.inl rfl) ho hc hd (λh' c' kp e=>fin its r' hz h' c' kp e) (by simp<;>omega)
 ·obtain⟨its,r',pl,hz⟩:=I.tuple hq
  have hlen:=r'.length;obtain⟨o,ho,hc,n,hd⟩:=pl;exact call_list_seq p (.inr rfl) ho hc hd (λh' c' kp e=>fin its r' hz h' c' kp e) (by simp<;>omega)
theorem lM:g8 X (.type "tuple") (λxs H Q=>∃p ys,xs=[.ref p]/\((jx X.K H p ys/\∀l,H l=none->Q (.ref l) (upd H l (.tup ys)))\/(oH X.K H p ys/\Q (.ref p) H))):=by
 intro pins s σ H xs us Q I r h;obtain⟨p,ys,rfl,h⟩:=h;obtain⟨u,rfl,rx⟩:=vals1 r;cases rx;rcases h with⟨hq,q⟩|⟨hq,q⟩
 ·obtain⟨its,r',pl,hz⟩:=I.list hq
  have hlen:=r'.length;refine call_tuple_list pl.isList (λh' kp=>?_) (by simp<;>omega)
  have I1:Inv X pins σ H { s with heap:=h' }:=I.kept kp
  have I2:Inv X pins σ (upd H h'.objs.size _) { s with heap:=h'.push { cls:=.type "tuple",data:=.seq its.toArray } }:=
   I1.laid (λb o e=>aE _ e) (aP _) (show ia X.prog X.w _ _ _ (.tup ys) from#[hz,its,r',tF _ _])
  exact#[.ref h'.objs.size,_,I2,rfl,q _ (I1.hok.fresh (aP _))]
 ·obtain⟨its,r',pl,hz⟩:=I.tuple hq
  exact call_tuple_same pl #[.ref p,H,I,rfl,q]
def tyV(K:ao)(T:String)(x:V)(H:Hp):Prop:=match x with
 | .str _=>T="str"
 | .int _=>T="int"
 | .ref p=>(T="list"/\∃xs,jx K H p xs)\/(T="tuple"/\∃o,K.lookup p=some o/\o.cls=.type "tuple"/\o.dict=none)\/
   (T="dict"/\((∃kvs,H p=some (.dK kvs))\/∃kvs,H p=some (.dT kvs)))\/(T="set"/\∃S n,H p=some (.set S n))
 |_=>False
theorem S'{pins:List (aF×Obj)}{σ:St}{H:Hp}{s:aL}{T:String}{x:V}{v:aD}(I:Inv X pins σ H s)(r:RelV x v)(ty:tyV X.K T x H):
  s.TypeIs v T/\∀a,v=.ref a->∃ob,s.heap.get? a=some ob/\ob.dict=none:=by
 cases x with
 |str z=>
  obtain⟨t,rfl⟩:=r
  cases(show T="str" from ty)
  exact#[uc s z t,λ_ e=>nomatch e]
 |int i=>
  obtain⟨t,rfl⟩:=r
  cases(show T="int" from ty)
  exact#[yB s i t,λ_ e=>nomatch e]
 |ref p=>
  cases r;rcases ty with⟨rfl,xs,hq⟩|⟨rfl,o,hk,hc,hd⟩|⟨rfl,hk⟩|⟨rfl,S,n,hk⟩
  ·obtain⟨its,_,pl,_⟩:=I.list hq
   refine#[pl.isList.typeIs,λa e=>?_]
   cases e;obtain⟨o,n,e,c,hd,_⟩:=pl;exact#[o,e,hd]
  ·refine#[#[o,I.yg p o hk,hc],λa e=>?_]
   cases e;exact#[o,I.yg _ o hk,hd]
  ·have z:∃o,s.heap.get? p=some o/\o.ExactDict:=by
    rcases hk with⟨kvs,hk⟩|⟨kvs,hk⟩
    ·obtain⟨_,_,_,_,o,_,_,e,ex,_⟩:=I.hok p _ hk
     exact#[o,e,ex]
    ·obtain⟨_,_,_,_,o,_,_,e,ex,_⟩:=I.hok p _ hk
     exact#[o,e,ex]
   obtain⟨o,e,ex⟩:=z;refine#[#[o,e,ex.1],λa e2=>?_]
   cases e2;exact#[o,e,ex.2.1]
  ·obtain⟨o,_,_,_,e,ex,_⟩:=I.hok p _ hk
   refine#[#[o,e,ex.1],λa e2=>?_]
   cases e2;exact#[o,e,ex.2.1]
 |_=>exact gD ty
def tBM(K:ao)(T:String)(r:V->List V->Hp->VK->Prop)(to:TE)(t:TA):TE:=λσ H Q=>to σ H λx H1=>tyV K T x H1/\t σ H1 λxs H2=>r x xs H2 Q
variable{o e:bC}{es:List bC}{to:TE}{t:TA}{name:Str}{apos jf:Pos}{T id:String}{r:V->List V->Hp->VK->Prop}
theorem rH(pa:PlainAttrs T)(slot:Slot T name id)(hty:typeOf (.builtin id)=pure (.type "method_descriptor"))(hm:MtR X id r)(ho:PE X o to)(ha:PA X (e::es) t)
  (gA:uS X o name:=by rfl)
  (lj:((backTo jf (starEach (e::es) X.env)).all (λx=>!x.1)&&(backToKw jf (keywordEach [] X.env)).all (λx=>x.1.isSome)
   && decide ((e::es).length+([]:List Keyword).length+(if([]:List Keyword).isEmpty then 0 else 1)<30))=true:=by rfl)
  (hline:(apos.endLine==jf.line)=true:=by rfl) (hs:kO X e es:=by rfl) (fD:rC X jf es:=by rfl) :
  PE X (.Call (.Attribute o name apos) (e::es) [] jf) (tBM X.K T r to t):=by
 intro pins s σ H Q I h;refine wpAny_Call_method_late gA lj hline rfl (fP (ho pins s σ H _ I h) λv s1 #[x,H1,I1,r1,ty,q1]=>?_)
 obtain⟨h1,h2⟩:=S' I1 r1 ty;refine#[T,id,pa,slot,hty,h1,h2,?_]
 have hA:=ha jf pins s1 σ H1 _ I1 q1;rw[hs]at hA ⊢;exact kN (by show(false||(backTo jf (starEach es X.env)).any (·.1))=false;rw[fD]<;>rfl) (mE (fP hA λus s2 #[vs,H2,I2,r2,q2]=>hm pins s2 σ H2 x vs v us Q I2 r1 r2 q2))
end
def Vm(X:Cx)(id:String)(r:V->List V->Hp->VK->Prop):Prop:=
 ∀(pins:List (aF×Obj))(s:aL)(σ:St)(H:Hp)(x:V)(xs:List V)(v:aD)(us:List aD)(Q:VK),Inv X pins σ H s->RelV x v->dI xs us->r x xs H Q->
  wpAny (model X.prog X.w) X.A (call (.builtin id) (v::us)) (EP X pins σ Q) X.xe s
theorem dI.one:∀{x:V}{us:List aD},dI [x] us->∃u,us=[u]/\RelV x u
 |_,_,.cons r .nil=>#[_,rfl,r]
theorem dI.two:∀{x y:V}{us:List aD},dI [x,y] us->∃u v,us=[u,v]/\RelV x u/\RelV y v
 |_,_,_,.cons r (.cons q .nil)=>#[_,_,rfl,r,q]
theorem dI.rep(h:dI xs us):∀k:Nat,dI (aY k xs).flatten (aY k us).flatten
 |0=>.nil
 |k+1=>by
  exact dI.append h (dI.rep h k)
theorem foldl_rep(its:List aD):∀(k:Nat)(acc:List aD),
  AA (λx1 x2=>x1++x2) acc.toArray (aY k its.toArray)=(acc++(aY k its).flatten).toArray
 |0,acc=>by simp
 |k+1,acc=>by
  have e:acc.toArray++its.toArray=(acc++its).toArray:=by simp
  have e2:(acc++its)++(aY k its).flatten=acc++(aY (k+1) its).flatten:=by
   rw[dJ,eJ,cp]
  rw[<-e2,<-foldl_rep its k _,<-e,dJ,nH]
section
variable{X:Cx}{pins:List (aF×Obj)}{σ:St}{H:Hp}{s:aL}{l b:aF}{xs ys zs:List V}
theorem Inv.Ta{Fx: List aD}{f:Array aD->Array aD}(I:Inv X pins σ H s)(hH:H l=some (.lst xs))
  (e:s.heap.get? l=some { cls:=.type "list",data:=.seq its.toArray n })(hf:f its.toArray=Fx.toArray)(hv:dI ys Fx)(hz:ys.length<=sizeLine):
  Inv X pins σ (upd H l (.lst ys)) { s with heap:=s.heap.update l (Bw f),toks:=t' }:=by
 have q:=PySem.IsL.update e f;rw[hf]at q;refine I.write (by rw[hH];exact trivial) (.inl rfl) (λb' u hb hu=>(cM.get?_update_other s.heap (Bw f) (bT hb)).trans hu) #[_,q] ?_
 exact#[hz,Fx,_,hv,q]
theorem Inv.WK(I:Inv X pins σ H s)(hv:dI ys its)(hz:ys.length<=sizeLine):
  Inv X pins σ (upd H s.heap.objs.size (.lst ys)) { s with heap:=s.heap.push { cls:=.type "list",data:=.seq its.toArray },toks:=t' }:=
 I.laid (λ_ _ q=>aE _ q) ∅ #[hz,its,0,hv,bq _ rfl]
theorem Inv.fresh(I:Inv X pins σ H s):H s.heap.objs.size=none:=I.hok.fresh ∅
theorem Inv.OX(I:Inv X pins σ H s)(hH:H l=some (.lst xs)):xs.length<=sizeLine/\∃(its:List aD)(n:Nat),dI xs its/\xs.length=its.length/\s.heap.get? l=some { cls:=.type "list",data:=.seq its.toArray n }:=by
 obtain⟨z,its,n,r,e⟩:=I.hok l _ hH;exact#[z,its,n,r,r.length,e]
theorem Dy(h:n<=sizeLine):jw n=false:=by
 exact qQ0 ∅
end
section
variable{X:Cx}
def OY:V->List V->Hp->VK->Prop:=λx vs H Q=>∃l xs y,x=.ref l/\vs=[y]/\H l=some (.lst xs)/\xs.length<sizeLine/\Q .non (upd H l (.lst (xs ++ [y])))
theorem lq:Vm X "list.append" OY:=by
 intro pins s σ H x vs v us Q I rx rv h;obtain⟨l,xs,y,rfl,rfl,hH,hz,q⟩:=h;cases rx;obtain⟨u,rfl,ru⟩:=rv.one;obtain⟨z,its,n,r,hl,e⟩:=I.OX hH;refine iB F.slot_list_append #[_,e,rfl] F.entry_list_append (F.args_list_append_2 _ _) (PySem.list_append l its.toArray n u (by rw[bL];omega)) #[e,?_]
 refine#[.non,_,I.Ta hH e (by simp) (r.append (.cons ru .nil)) ?_,rfl,q]
 rw[aV,fH];omega
def zaI:R2:=λx y H Q=>∃l k xs,x=.ref l/\y=.int k/\H l=some (.lst xs)/\-(2^63)<=k/\k<2^63/\xs.length*k.toNat<=sizeLine/\
 ∀p,H p=none->Q (.ref p) (upd H p (.lst (aY k.toNat xs).flatten))
theorem len_rep{α:Type}(xs:List α)(k:Nat):(aY k xs).flatten.length=k*xs.length:=by
 induction k with
 |zero=>simp
 |succ k ih=>rw[dJ,eJ,aV,ih,xG,Nat.add_comm]
theorem Tb:rg X (binaryOp .Mult) zaI:=by
 intro pins s σ H x y v u Q I rx ry h;obtain⟨l,k,xs,rfl,rfl,hH,h1,h2,hz,q⟩:=h;cases rx;obtain⟨t,rfl⟩:=ry;obtain⟨z,its,n,r,hl,e⟩:=I.OX hH;have hlen:its.toArray.size*k.toNat<=sizeLine:=by rw[bL,<-hl];exact hz
 have zaJ:¬its.toArray.size*k.toNat>(2^63-1)/8:=by
  have:(sizeLine:Nat)<=(2^63-1)/8:=⋯
  omega
 have Lq:¬(!mr k)=true:=by
  rw[fitsIndex_both h1 h2];exact eS
 have HY:¬jw (its.toArray.size*k.toNat)=true:=by
  rw[Dy hlen];exact eS
 have Jy:AA (λx1 x2=>x1++x2) #[] (aY (if its.toArray.isEmpty=true then 0 else k.toNat) its.toArray)=(aY k.toNat its).flatten.toArray:=by
  have f0:∀m:Nat,AA (λx1 x2=>x1++x2) #[] (aY m its.toArray)=(aY m its).flatten.toArray:=λm=>by
   have:=foldl_rep its m [];rw[gU]at this;exact this
  rw[f0];cases its with
  |nil=>simp
  |cons a r'=>rw[qQ2 (by simp)]
 refine HC (T:="list") (U:="int") ⋯ #[_,e,rfl] (λs'=>yB s' k t) noFill_list_mul F.fills_int_mul tG repeat_list F.slot_int_index.lookup
  (iB tG (yB s k t) F.entry_int_rmul (F.args_int_rmul_2 _ _) (int___rmul___int_list k t l its.toArray n)
   #[e,rfl,#[_,e,rfl],iB F.slot_list_mul #[_,e,rfl] F.entry_list_mul (F.args_list_mul_2 _ _) (AutoListH.list___mul___list_int_3 l its.toArray n k t Lq zaJ HY) #[e,?_]])
 rw[Jy];exact#[.ref _,_,I.WK (t':=s.toks) (r.rep k.toNat) (by rw[len_rep,Fj];exact hz),rfl,q _ I.fresh]
end
section
variable{prog:bA}{w:cg}{A:dE}{E:aD->aL->Prop}{s:aL}
end
section
variable{X:Cx}
end
end L2
namespace Att
open PySem PySem.W PySem.Calls PyProof.Rows
variable{h:cM}{l:OpenLaw}{P:Bx}
theorem xR:∀(ns:List Int)(vs:List aD),WellAll P h vs (ns.map WData.int)->wQ vs ns:=by
 intro ns
 induction ns with
 |nil=>
  intro vs w;cases w;exact .nil
 |cons n ns ih=>
  intro vs w;cases w with
  |cons a b=>
   cases a;exact .cons _ _ (ih _ b)
theorem Jz{n:Nat}(hn:l.most=some n){args:List WData}{vals:List aD}
  (OZ:l.row.toRowW.claim.pre args=true)(Tc:WellAll P h vals args):
  ∃a vs ns,vals=[di a]/\args=[WData.list (ns.map WData.int)]/\h.get? a=some { cls:=.type "list",data:=.seq vs.toArray }/\wQ vs ns/\ns.length<=n:=by
 obtain⟨d,r,rfl,h1,h2⟩:=hasAllW_cons ((pre_splitW OZ).1);obtain rfl:=hasAllW_nil h2;obtain⟨xs,rfl,h3⟩:=hasW_list h1;obtain⟨ns,rfl⟩:=items_int h3;have hlen:ns.length<=n:=by
  have h4:(WTm.not (.lt (.lit (.int n)) (.len (.arg 0)))).holds [] { args:=[.list (ns.map .int)] }=true:=by
   have h4:=(holds_andW ((pre_splitW OZ).2)).1;rwa[hn]at h4
  have h5:=condW_of h4 (w_not (w_lt w_lit (w_len_list (w_arg rfl))));refine gE λq=>?_
  first
   |(rw[qQ1 q']at h5;exact qQ7 h5 ⋯)
   |(simp at h5;omega)
 cases Tc with
 |cons w1 w2=>
  cases w2;cases w1 with
  |list ho Dz=>exact#[_,_,ns,rfl,rfl,ho,xR ns _ Dz,hlen]
theorem JA(l:OpenLaw)(args:List WData):l.row.toRowW.claim.post args (.bool true) args=true:=
 postW_of
  (show WShape.has [] _ .bool=true by first|rfl|decide|simp[WShape.has,WShape.arms,WShape.armsAll])
  (show(WTm.eq .res _).value [] { args:=args,res:=some _,after:=args }=some (.bool (true==true))from w_eq_bool (w_res rfl) w_lit) rfl
theorem DB{n:Nat}{q:bA}{loose:List Str}{XP:(Str->Option aD)->cM->Prop}{YP:cg->cM->Prop}{d:DefRec}
  (hn:l.most=some n)(WL:d.params.defaults=[])
  (call:∀(w:cg)(s₀ s₁:aL)(mg mb:Str->Option aD)(fa:aF)(o:Obj)(pm cd doc:aD)(a:aF)(vs:List aD)(ns:List Int),
   Ground q loose [] XP w s₀ mg mb s₁.heap->YP w s₁.heap->
   s₁.heap.get? fa=some o->o.data=.func (docDef d.name d.params d.body d.scope pm cd doc)->s₁.heap.CodeRec cd d.name->mg d.name=some (.ref fa)->
   s₁.heap.get? a=some { cls:=.type "list",data:=.seq vs.toArray }->wQ vs ns->ns.length<=n->s₁.gens=#[]->
   codeAny (model l.prog w) callerA (.call (.ref fa) #[[.ref a],[]]) (λr s'=>r=.ok (.ret (.bool true))/\OldK s₁.heap s'.heap/\s'.os=s₁.os/\t_ s'.gens) s₁) :
  WalkO q loose XP YP l.row.toRowW d [] (λf vs=>PySem.call f vs):=by
 intro w s₀ s₁ mg mb G Y fa o pm cd doc dV kV ho hd Ou hD N9 hg args vals as OZ hlay hrd Tc hlo;obtain rfl:dV=.none:=Dflts.none hD WL;obtain rfl:kV=.none:=Dflts.noKw hD;obtain⟨a,vs,ns,rfl,rfl,Td,hints,hlen⟩:=Jz hn OZ Tc;refine enter_call (pw (call w s₀ s₁ mg mb fa o pm cd doc a vs ns G Y ho (fd_plain hd) Ou N9 Td hints hlen hg) λr s' hq=>?_)
 obtain⟨rfl,h2,h3,h4⟩:=hq;exact#[.inl #[_,_,[],rfl,λ_=>rfl,.bool true,JA l _,λ_=>#[List.Pairwise.nil,λ_ hm=>(nomatch hm)]],h2,h3,h4]
section
variable{prog:bA}{w:cg}{A:dE}{E:aD->aL->Prop}{s:aL}{K:Frag}
end
end Att
namespace L2
open PySem PySem.Spec PyProof.Rows
variable{a b f:aF}{X:Cx}{fd:eU}{h':cM}{H H':Hp}{pins:List (aF×Obj)}{xs:List (List Key×aF×aD)}{kvs:List (List Key×V)}{JB:List (TE×TE)}{ps:List Str}{o:Option V}{pos:Pos}{P:bA}{K:ao}{s:aL}{st:e6}{qual x:Str}{v y:V}{u:aD}{Q:aD->aL->Prop}{w:cg}
theorem AY:∀{vs:List aD}{ns:List Int},wQ vs ns->dI (ns.map V.int) vs
 |_,_,.nil=>.nil
 |_,_,.cons n t h=>.cons #[t,rfl] (AY h)
def Only(H:Hp):Prop:=∀b,H b=none\/∃o xs,H b=some (.tM o (.lst xs))
theorem Lr{mg mb:Str->Option aD}{CX:KZ}{k:Nat}{fa: aF}{sp:Sp}{s₁:aL}{vs:List aD}{ns:List Int}
  (KX:K.In s₁.heap)(FU:s₁.heap.Ns mainGlobals mg)(hb:s₁.heap.Ns builtinsNs mb)(hbb:∀x:Str,x≠"__name__"->mb x=bootBuiltins x)(zaL:s₁.heap.NoLimit)(hg:s₁.gens=#[])
  (ha:s₁.heap.get? a=some { cls:=.type "list",data:=.seq vs.toArray })(hi:wQ vs ns)(hl:ns.length<=sizeLine)(hr:dB k callerA)
  (F:∀base:cM,K.In base->base.Ns mainGlobals mg->dW P w K mg base CX k fa fd [x] sp)(WM:∀(s:aL)(u:aD),BindsTo s fd #[[u],[]] [(x,u)])
  (BX:∀H:Hp,Only H->jx K H a (ns.map V.int)->sp [.ref a] H (λv _=>v=.bl true) λ_ _ _=>False)
  (hCX:∀H e s',CX [] H s₁ (λ_ _ _=>False) e s'->False):
  codeAny (model P w) callerA (.call (.ref fa) #[[.ref a],[]]) (λr s'=>r=.ok (.ret (.bool true))/\OldK s₁.heap s'.heap/\s'.os=s₁.os/\t_ s'.gens) s₁:=by
 have rv:=AY hi;have zaN:=hi.length;have core:∀H:Hp,Only H->jx K H a (ns.map V.int)->uR P w H s₁.heap->(∀b,H b≠none->b=a)->(H a≠none->K.lookup a=none)->
   codeAny (model P w) callerA (.call (.ref fa) #[[.ref a],[]]) (λr s'=>r=.ok (.ret (.bool true))/\OldK s₁.heap s'.heap/\s'.os=s₁.os/\t_ s'.gens) s₁:=by
  intro H hO hS hok hA hK;have HZ:∀{b:aF}{o:Obj},s₁.heap.get? b=some o->H b=none->(Jj s₁.heap H).get? b=some o:=λe n=>K2 e n
  have Ww:∀{b:aF}{o:Obj}{es:Array sX}{ep:Nat},s₁.heap.get? b=some o->o.data=.dict es ep->H b=none:=λ{b o es ep}e d=>by
   cases q:H b with
   |none=>rfl
   |some u=>
    have e':=hA b (by rw[q];simp)
    subst e';rw[ha]at e;cases e;have d':=d;cases d'
  have Zu:∀{b:aF}{m:Str->Option aD},s₁.heap.Ns b m->(Jj s₁.heap H).Ns b m:=λ{b m}#[o,es,ep,e,d,r]=>#[o,es,ep,HZ e (Ww e d),d,r]
  have hKb:=λb o e=>HZ (KX b o e) (by
   cases q:H b with
   |none=>rfl
   |some u=>
    have e':=hA b (by rw[q];simp)
    subst e';rw[hK (by rw[q];simp)]at e;cases e)
  refine pw ((F _ hKb (Zu FU)).run callerA [] s₁ H #[_,[]] [.ref a] [.ref a] _ _ hr (#[rfl,#[hKb,Zu FU,#[mb,Zu hb,hbb],let#[mc,h1,h2]:=zaL;#[mc,Zu h1,h2]],λb o e=>Oo e,Nat.le_of_eq (Jk _ _),trivial,λb hb=>qQ7 (show b∈([])from hb) (by simp),hok,.of_eq hg]) (WM s₁ (.ref a)) (.cons rfl .nil) (BX H hO hS)) λr s' h=>?_
  cases r with
  |error e=>exact(hCX H e s' h).elim
  |ok fl=>
   cases fl with
   |next=>exact gD h
   |brk=>exact gD h
   |cont=>exact gD h
   |ret u=>
    obtain⟨v,H',os,bare,un,zaO,r',q⟩:=h;have q':=q;subst q';obtain rfl:u=aD.bool true:=r';refine#[rfl,OldK.of_keep λb o e=>?_,os,bare]
    cases q:H b with
    |none=>exact un.keep b o e q (by intro z;exact qQ7 (show b∈([])from z) (by simp)) (by simp)
    |some u=>
     rcases hO b with z|⟨ob,xs,z⟩
     ·rw[q]at z;cases z
     ·have z2:=un.vW b ob _ z
      obtain⟨e1,_⟩:=hok b _ z;obtain⟨e2,_⟩:=zaO b _ z2;rw[e]at e1;cases e1;exact e2
 cases hk:K.lookup a with
 |some o=>
  have e:=KX a o hk;rw[ha]at e;cases e;refine core (λ_=>none) (λ_=>.inl rfl) (.inr #[_,_,_,hk,rfl,rfl,rfl,by rw[bL,zaN];exact hl,by simpa using rv]) (λb u z=>by have z':none=some u:=z;cases z') (λb z=>qQ7 rfl z) λz=>qQ7 rfl z
 |none=>
  refine core (λb=>if b=a then some (.tM { cls:=.type "list",data:=.seq vs.toArray } (.lst _))else none) (λb=>?_) (.inl (.inr #[_,qQ3 rfl])) (λb u z=>?_) (λb z=>?_) λ_=>hk
  ·by_cases hb:b=a
   ·exact .inr #[_,_,qQ3 hb]
   ·exact .inl (qQ2 hb)
  ·by_cases hb:b=a
   ·have z':=(qQ3 hb).symm.trans z
    cases z';subst hb;exact#[ha,by rw[ai];exact hl,vs,_,rv,ha]
   ·have z':=(qQ2 hb).symm.trans z
    cases z'
  ·by_cases hb:b=a
   ·exact hb
   ·exact qQ7 (qQ2 hb) z
theorem O1{l:PySem.W.OpenLaw}{n k:Nat}{q:bA}{loose:List Str}{XP:(Str->Option aD)->cM->Prop}{YP:cg->cM->Prop}{d:DefRec}{K:Bx->ao}{CX:cg->KZ}{sp:cg->Sp}
  (hn:l.most=some n)(Zn:n<=sizeLine)(WL:d.params.defaults=[])(hr:dB k callerA)
  (hY:∀(w:cg)(h:cM),YP w h->(K w.params).In h)
  (F:∀(w:cg)(mg:Str->Option aD)(fa:aF)(h:cM),(K w.params).In h->h.Ns mainGlobals mg->mg d.name=some (.ref fa)->
   ∃fd:eU,(∀(s:aL)(u:aD),BindsTo s fd #[[u],[]] [(x,u)])/\
    ∀base:cM,(K w.params).In base->base.Ns mainGlobals mg->dW l.prog w (K w.params) mg base (CX w) k fa fd [x] (sp w))
  (BX:∀(w:cg)(H:Hp)(a:aF)(ns:List Int),ns.length<=n->Only H->jx (K w.params) H a (ns.map V.int)->sp w [.ref a] H (λv _=>v=.bl true) λ_ _ _=>False)
  (hCX:∀(w:cg)(H:Hp)(s:aL)(e:aD)(s':aL),CX w [] H s (λ_ _ _=>False) e s'->False) :
  PySem.W.WalkO q loose XP YP l.row.toRowW d [] (λf vs=>PySem.call f vs):=by
 refine Att.DB hn WL λw s₀ s₁ mg mb fa o pm cd doc a vs ns G Y ho hd Ou N9 Td hints hlen hg=>?_
 have KX:=hY w _ Y;obtain⟨fd,hb,hF⟩:=F w mg fa _ KX G.T.g N9;exact Lr KX G.T.g G.T.b G.T.builtins G.T.nolimit hg Td hints ∅ hr hF hb (λH hO hS=>BX w H a ns hlen hO hS) λH e s'=>hCX w H s₁ e s'
def inClass(s:e6)(j:Nat):e6:=match s with
 | .ClassDef _ _ _ body _ _ _ _ _ _ _=>body.getD j (.Pass #[0,0,0,0])
 |_=>.Pass #[0,0,0,0]
def lN(s:e6):Arguments:=match s with
 | .FunctionDef _ a _ _ _ _ _ _ _ _=>a
 |_=>{ posonlyargs:=[],args:=[],vararg:=none,kwonlyargs:=[],kw_defaults:=[],kwarg:=none,defaults:=[] }
def jB(s:e6):List e6:=match s with
 | .FunctionDef _ _ b _ _ _ _ _ _ _=>b
 |_=>[]
def a_(s:e6):j':=match s with
 | .FunctionDef _ _ _ _ _ _ sc _ _ _=>sc
 |_=>{ kind:=.function,names:=[],isGenerator:=false,isCoroutine:=false }
abbrev gS:KZ:=λ_ _ _ _ _ _=>False
abbrev E0:XK:=λ_ _ _=>False
theorem tN:rF gS X E0:=λ_ _ _ _ _ _ _ h=>h.elim
structure jQ(K:ao)(x qual:Str)(st:e6)(f:aF)(fd:eU):Prop where
 ex:∃(oc:aD)(od:Option aF)(kV doc pm:aD)(an:Option aF)(e7 ct:aD)(Jw:Array (Option aD)),
  fd=fJ x qual (lN st) (jB st) (a_ st) .none kV doc pm an e7 ct/\K.lookup f=some #[oc,od,.func fd,Jw]/\jb K e7 qual=true
 kp:eI K (.ref f)=true
section
variable{P:bA}{w:cg}{K:ao}{mg:Str->Option aD}{base:cM}
theorem jQ.ok{N: List Str}{k:Nat}{sp:Sp}(F:jQ K x qual st f fd)(S:cn N ps (a_ st))(len:∀vs H Q E,sp vs H Q E->vs.length=ps.length)
  (Ln:∀(e7:aD)(A:dE)(outer:List Env)(s:aL)(H:Hp)(vs:List V)(Q:VK)(E:XK),dB k (A.deeper (envOfC qual (a_ st) s.heap.objs.size f e7))->sp vs H Q E->
   ∃t,Fu (lU gS P w K mg base N qual (a_ st) f e7 A outer s H E).xQ (jB st) t/\t { nx:=λ_ H'=>Q .non H',rt:=Q } (start N vs) H):dW P w K mg base gS (k+1) f fd ps sp:=by
 obtain⟨oc,od,kV,doc,pm,an,e7,ct,Jw,rfl,lk,Ou⟩:=F.ex;refine Wx lk Ou S len λA outer s H vs Q E hr BX=>?_
 obtain⟨t,h,q⟩:=Ln e7 A outer s H vs Q E hr BX;exact#[t,h.xQ,q]
theorem jQ.binds(F:jQ K x qual st f fd)
  (h:∀(kV doc pm:aD)(an:Option aF)(e7 ct:aD)(us:List aD),us.length=ps.length->bindArgs (fJ x qual (lN st) (jB st) (a_ st) .none kV doc pm an e7 ct) #[us,[]]=pure (ps.zip us)):Binds K fd ps []:=by
 obtain⟨oc,od,kV,doc,pm,an,e7,ct,Jw,rfl,lk,Ou⟩:=F.ex;exact .all (h kV doc pm an e7 ct)
theorem B4{oc:aD}{od an:Option aF}{Jw:Array (Option aD)}{kV doc pm e7 ct:aD}(l:K.lookup f=some #[oc,od,.func (fJ x qual (lN st) (jB st) (a_ st) .none kV doc pm an e7 ct),Jw])
  (c:jb K e7 qual=true)(k:eI K (.ref f)=true):jQ K x qual st f (fJ x qual (lN st) (jB st) (a_ st) .none kV doc pm an e7 ct):=#[#[oc,od,kV,doc,pm,an,e7,ct,Jw,rfl,l,c],k]
end
section
variable{X:Cx}
theorem pv(i:Nat)(hN:ow X i x:=by ac_rfl):PE X (.Name x pos) (SK i):=ug hN
end
theorem Ls{A B:Prop}(h:B):if false=true then A else B:=by
 exact h
theorem Te{A B:Prop}(h:A):if true=true then A else B:=by
 exact h
def cK(H H':Hp):Prop:=∀b o,H b=some o->H' b=some o
theorem cK.refl(H:Hp):cK H H:=λ_ _ h=>h
theorem cK.trans{H1 H2: Hp}(a:cK H H1)(b:cK H1 H2):cK H H2:=λc o h=>b c o (a c o h)
theorem cK.free(e:cK H H'){l:aF}(h:H' l=Option.none):H l=Option.none:=by
 cases q:H l with
 |none=>rfl
 |some o=>
  rw[e l o q]at h;cases h
theorem cK.seq{xs:List V}(e:cK H H')(h:jx K H a xs):jx K H' a xs:=by
 rcases h with(h|⟨o,h⟩)|h
 ·exact .inl (.inl (e _ _ h))
 ·exact .inl (.inr #[o,e _ _ h])
 ·exact .inr h
section
variable{κ:Type}[DecidableEq κ]
def ic(kvs:List (κ×V))(k:κ):Option V:=(kvs.find? λkv=>decide (kv.1=k)).map (·.2)
def putK(kvs:List (κ×V))(k:κ)(v:V):List (κ×V):=
 if(kvs.any λkv=>decide (kv.1=k))=true then kvs.map (λkv=>if kv.1=k then(kv.1,v)else kv)else kvs ++ [(k,v)]
def AZ(kvs:List (κ×V))(k:κ):List (κ×V):=kvs.filter λkv=>decide (kv.1≠k)
theorem lV{p:κ×V}{r:List (κ×V)}{k:κ}(e:p.1=k):ic (p::r) k=some p.2:=by simp[ic,cI,e]
theorem ku{p:κ×V}{r:List (κ×V)}{k:κ}(e:¬p.1=k):ic (p::r) k=ic r k:=by simp[ic,cI,e]
theorem yO(k:κ):∀kvs:List (κ×V),(kvs.any λkv=>decide (kv.1=k))=(ic kvs k).isSome
 | []=>rfl
 |p::r=>by
  rw[mG];by_cases e:p.1=k
  ·simp[lV e,qQ1 e,Bool.true_or,Option.isSome_some]
  ·rw[ku e,qQ0 e,Bool.false_or];exact yO k r
theorem lW(kvs:List (κ×V))(k:κ)(v:V):(putK kvs k v).length<=kvs.length+1:=by
 unfold putK
 split
 ·rw[ai];omega
 ·rw[aV,bR,dA];omega
theorem u9{kvs:List (κ×V)}{k:κ}(v:V)(h:ic kvs k=none):putK kvs k v=kvs ++ [(k,v)]:=by
 unfold putK;rw[yO,h];exact qQ2 ⋯
theorem pY.pC{u:Option aD}(r:pY o u):o.isSome=u.isSome:=by
 cases o with
 |none=>cases u with
  |none=>rfl
  |some _=>exact(show False from r).elim
 |some _=>cases u with
  |none=>exact(show False from r).elim
  |some _=>rfl
theorem pY.getD{u:Option aD}{d:V}{d':aD}(r:pY o u)(rd:RelV d d'):RelV (o.getD d) (u.getD d'):=by
 cases o with
 |none=>cases u with
  |none=>exact rd
  |some _=>exact(show False from r).elim
 |some _=>cases u with
  |none=>exact(show False from r).elim
  |some _=>exact r
theorem KV.val{kvs:List (κ×V)}{vs:List (κ×aD)}(r:KV kvs vs)(k:κ):pY (ic kvs k) (valueAt vs k):=by
 induction r with
 |nil=>exact fj
 | @cons p q ps qs h t ih=>
  obtain⟨h1,h2⟩:=h;by_cases e:p.1=k
  ·have e':=h1.symm.trans e
   have b:valueAt (q::qs) k=some q.2:=by simp[valueAt,cI,e']
   rwa[lV e,b]
  ·have e':¬q.1=k:=λz=>e (h1.trans z)
   have b:valueAt (q::qs) k=valueAt qs k:=by simp[valueAt,cI,e']
   rwa[ku e,b]
theorem KV.any{kvs:List (κ×V)}{vs:List (κ×aD)}(r:KV kvs vs)(k:κ):(kvs.any λkv=>decide (kv.1=k))=vs.any λkv=>decide (kv.1=k):=by
 induction r with
 |nil=>rfl
 |cons h t ih=>rw[mG,mG,ih,h.1]
theorem KV.repl{kvs:List (κ×V)}{vs:List (κ×aD)}(r:KV kvs vs)(k:κ)(ry:RelV y u):
  KV (kvs.map λkv=>if kv.1=k then(kv.1,y)else kv) (vs.map λkv=>if kv.1=k then(kv.1,u)else kv):=by
 induction r with
 |nil=>exact .nil
 | @cons p q ps qs h t ih=>
  rw[ay,ay];refine .cons ?_ ih
  obtain⟨h1,h2⟩:=h;by_cases e:p.1=k
  ·rw[qQ3 e,qQ3 (h1.symm.trans e)];exact#[h1,ry]
  ·rw[qQ2 e,qQ2 (λz=>e (h1.trans z))];exact#[h1,h2]
theorem KV.put{kvs:List (κ×V)}{vs:List (κ×aD)}(r:KV kvs vs)(k:κ)(ry:RelV y u):KV (putK kvs k y) (stored vs k u):=by
 unfold putK stored;rw[r.any k];by_cases e:(vs.any λkv=>decide (kv.1=k))=true
 ·rw[qQ3 e,qQ3 e];exact r.repl k ry
 ·rw[qQ2 e,qQ2 e];exact Fg.snoc r #[rfl,ry]
theorem KV.drop{kvs:List (κ×V)}{vs:List (κ×aD)}(r:KV kvs vs)(k:κ):KV (AZ kvs k) (without vs k):=by
 unfold KV at r ⊢;unfold AZ without
 induction r with
 |nil=>exact .nil
 | @cons p q ps qs h t ih=>
  obtain⟨h1,h2⟩:=h;rw[eE,eE];by_cases e:p.1=k
  ·have a:¬decide (p.1≠k)=true:=by simp[e]
   have b:¬decide (q.1≠k)=true:=by simp[h1.symm.trans e]
   rw[qQ2 a,qQ2 b];exact ih
  ·have e':¬q.1=k:=λz=>e (h1.trans z)
   have a:decide (p.1≠k)=true:=by simp[e]
   have b:decide (q.1≠k)=true:=by simp[e']
   rw[qQ3 a,qQ3 b];exact .cons #[h1,h2] ih
theorem KV.keys{kvs:List (κ×V)}{vs:List (κ×aD)}(r:KV kvs vs):kvs.map (·.1)=vs.map (·.1):=by
 induction r with
 |nil=>rfl
 |cons h t ih=>rw[ay,ay,ih,h.1]
theorem KV.length{kvs:List (κ×V)}{vs:List (κ×aD)}(r:KV kvs vs):kvs.length=vs.length:=tZ r
theorem Lv(kvs:List (κ×V))(k:κ):(AZ kvs k).length<=kvs.length:=gJ _ _
end
theorem qN{k:Key}(r:RelV (kV k) u):(ei P w).is k u=true:=by
 cases k with
 |inl i=>obtain⟨t,e⟩:=r;subst e;exact Dm P w i t
 |inr x=>obtain⟨t,e⟩:=r;subst e;exact rB P w x t
theorem A0:∀{ks:List Key}{us:List aD},dI (ks.map kV) us->ItemsAre (ei P w) ks us
 | [],_,r=>by rw[gx]at r;cases r;exact .nil
 |k::ks,_,r=>by
  cases r with
  |cons h t=>exact .cons (qN h) (A0 t)
abbrev KT(H:Hp):List (List Key×V)->List (List Key×aF×aD)->Prop:=Fg λp q=>p.1=q.1/\H q.2.1=some (.tup (p.1.map kV))/\RelV p.2 q.2.2
theorem KT.val(r:KT H kvs xs)(k:List Key):pY (ic kvs k) ((atKey xs k).map (·.2)):=by
 induction r with
 |nil=>exact fj
 | @cons p q ps qs h t ih=>
  obtain⟨h1,_,h2⟩:=h;by_cases e:p.1=k
  ·have e':=h1.symm.trans e
   have b:atKey (q::qs) k=some q.2:=by simp[atKey,cI,e']
   rwa[lV e,b]
  ·have e':¬q.1=k:=λz=>e (h1.trans z)
   have b:atKey (q::qs) k=atKey qs k:=by simp[atKey,cI,e']
   rwa[ku e,b]
theorem KT.repl(r:KT H kvs xs)(k:List Key)(ry:RelV y u):
  KT H (kvs.map λkv=>if kv.1=k then(kv.1,y)else kv) (xs.map (putAt k u)):=by
 induction r with
 |nil=>exact .nil
 | @cons p q ps qs h t ih=>
  rw[ay,ay];refine .cons ?_ ih
  obtain⟨h1,h2,h3⟩:=h;unfold putAt;by_cases e:p.1=k
  ·rw[qQ3 e,qQ3 (h1.symm.trans e)];exact#[h1,h2,ry]
  ·rw[qQ2 e,qQ2 (λz=>e (h1.trans z))];exact#[h1,h2,h3]
theorem KT.put(r:KT H kvs xs)(k:List Key)(hb:H b=some (.tup (k.map kV)))(ry:RelV y u):
  KT H (putK kvs k y) (storedH xs k b u):=by
 have e:(kvs.any λkv=>decide (kv.1=k))=(atKey xs k).isSome:=by
  rw[yO,(r.val k).pC,vP]
 unfold putK storedH;rw[e];by_cases q:(atKey xs k).isSome=true
 ·rw[qQ3 q,qQ3 q];exact r.repl k ry
 ·rw[qQ2 q,qQ2 q];exact Fg.snoc r #[rfl,hb,ry]
theorem KT.keeps(r:KT H kvs xs)(ht:∀b ys,H b=some (.tup ys)->H' b=some (.tup ys)):KT H' kvs xs:=
 Fg.Sw r λ_ _ z=>#[z.1,ht _ _ z.2.1,z.2.2]
section
variable{P:bA}{w:cg}{H:Hp}{h:cM}{a:aF}
theorem Q9{u:HO}(ok:uR P w H h)(e:Rd H a u):ia P w H h a u:=e.ok ok
theorem wY{kvs:List (Key×V)}(ok:uR P w H h)(e:Rd H a (.dK kvs)):kvs.length<=sizeLine/\(a==sysModules)=false/\∃vs,KV kvs vs/\h.DictOf (ei P w) a vs:=
 show ia P w H h a (.dK kvs)from Q9 ok e
theorem wZ{kvs:List (Key×V)}(ok:uR P w H h)(e:H a=some (.dK kvs)):kvs.length<=sizeLine/\(a==sysModules)=false/\∃vs,KV kvs vs/\h.DictOf (ei P w) a vs:=wY ok (.inl e)
theorem v7{ks:List Key}(ok:uR P w H h)(e:H a=some (.tup (ks.map kV))):(tupleKind (ei P w)).is h ks a:=by
 obtain⟨_,its,r,o,h1,h2,n,h3⟩:=(ok a _ e)
 exact#[o,_,n,h1,h2,h3,by simpa using A0 r]
theorem yP(ok:uR P w H h)(e:Rd H a (.dT kvs)):kvs.length<=sizeLine/\(a==sysModules)=false/\
  ∃xs,KT H kvs xs/\h.DictOfH (tupleKind (ei P w)) a xs:=by
 obtain⟨z,y,xs,r,o,es,ep,h1,h2,h3,h4,h5⟩:=(Q9 ok e)
 refine#[z,y,xs,r,o,es,ep,h1,h2,h3,h4,λx hx=>?_,h5]
 have all:∀{l:List (List Key×V)}{m:List (List Key×aF×aD)},KT H l m->∀x∈m,(tupleKind (ei P w)).is h x.1 x.2.1:=by
  intro l m q
  induction q with
  |nil=>intro x hx;exact nomatch hx
  | @cons p q ps qs hq t ih=>
   intro x hx;rcases ax.mp hx with e|hx
   ·subst e
    exact v7 ok (by rw[<-hq.1];exact hq.2.1)
   ·exact ih x hx
 exact all r x hx
theorem WN(ok:uR P w H h)(e:H a=some (.dT kvs)):kvs.length<=sizeLine/\(a==sysModules)=false/\
  ∃xs,KT H kvs xs/\h.DictOfH (tupleKind (ei P w)) a xs:=yP ok (.inl e)
end
def pD(H:Hp)(a:aF)(y:V)(r:Option V):Prop:=
 (∃kvs k,Rd H a (.dK kvs)/\y=kV k/\r=ic kvs k)\/∃kvs k b,Rd H a (.dT kvs)/\y=.ref b/\H b=some (.tup (k.map kV))/\r=ic kvs k
def xS(H:Hp)(a:aF)(y v:V)(H':Hp):Prop:=
 (∃kvs k,H a=some (.dK kvs)/\y=kV k/\kvs.length<sizeLine/\H'=upd H a (.dK (putK kvs k v)))\/
 ∃kvs k b,H a=some (.dT kvs)/\y=.ref b/\H b=some (.tup (k.map kV))/\kvs.length<sizeLine/\H'=upd H a (.dT (putK kvs k v))
theorem pD.k{kvs:List (Key×V)}{k:Key}(e:H a=some (.dK kvs)):pD H a (kV k) (ic kvs k):=.inl #[kvs,k,.inl e,rfl,rfl]
theorem pD.t{k:List Key}(e:H a=some (.dT kvs))(eb:H b=some (.tup (k.map kV))):pD H a (.ref b) (ic kvs k):=.inr #[kvs,k,b,.inl e,rfl,eb,rfl]
theorem xS.k{kvs:List (Key×V)}{k:Key}(e:H a=some (.dK kvs))(hl:kvs.length<sizeLine):xS H a (kV k) v (upd H a (.dK (putK kvs k v))):=.inl #[kvs,k,e,rfl,hl,rfl]
theorem xS.t{k:List Key}(e:H a=some (.dT kvs))(eb:H b=some (.tup (k.map kV)))(hl:kvs.length<sizeLine):
  xS H a (.ref b) v (upd H a (.dT (putK kvs k v))):=.inr #[kvs,k,b,e,rfl,eb,hl,rfl]
section
variable{X:Cx}{pins:List (aF×Obj)}{σ:St}{H:Hp}{s:aL}{a:aF}{y v:V}{u r:aD}{o:Option V}{A:dE}{E:aD->aL->Prop}
theorem Inv.big(I:Inv X pins σ H s):sysModules<s.heap.objs.size:=by
 exact xH ⋯ ((I.mod.glob.keeps I.bk).lt)
theorem JC(hu:A.units+1<cLine)(I:Inv X pins σ H s)(g:pD H a y (some v))(ry:RelV y u)(h:∀w' s',Inv X pins σ H s'->RelV v w'->Q w' s'):
  wpAny (model X.prog X.w) A (getItem (.ref a) u) Q E s:=by
 rcases g with⟨kvs,k,e,ey,l⟩|⟨kvs,k,b,e,ey,eb,l⟩
 ·subst ey
  obtain⟨z,hd,vs,rel,dd⟩:=wY I.hok e;obtain⟨w',hw,sD⟩:=pY.some_of (by rw[l];exact rel.val k)
  exact wpAny_getItem_of (qN ry) dd.mapOf hw (h w' _ (I.tok _) sD)
 ·subst ey
  cases(show u=di b from ry)
  obtain⟨z,hd,xs,rel,dd⟩:=yP I.hok e;obtain⟨w',hw,sD⟩:=pY.some_of (by rw[l];exact rel.val k)
  obtain⟨p,hp,hp2⟩:=Option.map_eq_some_iff.mp hw;refine wpAny_getItem_heap (kZ hu) (v7 I.hok eb) dd hp ?_
  rw[hp2];exact h w' _ (I.tok _) sD
theorem zaP(hu:A.units+1<cLine)(I:Inv X pins σ H s)(g:pD H a y o)(ry:RelV y u)(h:∀s',Inv X pins σ H s'->Q (.bool o.isSome) s'):
  wpAny (model X.prog X.w) A (compareOp .In u (.ref a)) Q E s:=by
 rcases g with⟨kvs,k,e,ey,l⟩|⟨kvs,k,b,e,ey,eb,l⟩
 ·subst ey
  obtain⟨z,hd,vs,rel,dd⟩:=wY I.hok e;refine wpAny_in_of (qN ry) hd dd.mapOf ?_
  rw[<-(rel.val k).pC,<-l];exact h _ (I.tok _)
 ·subst ey
  cases(show u=di b from ry)
  obtain⟨z,hd,xs,rel,dd⟩:=yP I.hok e;refine wpAny_in_heap (kZ hu) (v7 I.hok eb) hd dd ?_
  have q:=(rel.val k).pC;rw[vP]at q;rw[<-q,<-l];exact h _ (I.tok _)
theorem O2(hu:A.units+1<cLine)(I:Inv X pins σ H s)(g:pD H a y o)(ry:RelV y u)(h:∀s',Inv X pins σ H s'->Q (.bool (!o.isSome)) s'):
  wpAny (model X.prog X.w) A (compareOp .NotIn u (.ref a)) Q E s:=by
 rcases g with⟨kvs,k,e,ey,l⟩|⟨kvs,k,b,e,ey,eb,l⟩
 ·subst ey
  obtain⟨z,hd,vs,rel,dd⟩:=wY I.hok e;refine wpAny_notIn_of (qN ry) hd dd.mapOf ?_
  rw[<-(rel.val k).pC,<-l];exact h _ (I.tok _)
 ·subst ey
  cases(show u=di b from ry)
  obtain⟨z,hd,xs,rel,dd⟩:=yP I.hok e;refine wpAny_notIn_heap (kZ hu) (v7 I.hok eb) hd dd ?_
  have q:=(rel.val k).pC;rw[vP]at q;rw[<-q,<-l];exact h _ (I.tok _)
theorem u_{t':Nat}{ob:HO}(I:Inv X pins σ H s)(mu:V1 (H a))(hs:gw a s.heap h')(he:∃q,h'.get? a=some q)(new:ia X.prog X.w (upd H a ob) h' a ob):
  Inv X pins σ (upd H a ob) { s with heap:=h',toks:=t' }:=
 I.write mu (.inl rfl) (λb q hb z=>(hs.2 b hb).trans z) he new
theorem v8{kvs:List (Key×V)}{vs:List (Key×aD)}(z:kvs.length<=sizeLine)(hd:(a==sysModules)=false)(rel:KV kvs vs)(dd:h'.DictOf (ei P w) a vs):
  ia P w H' h' a (.dK kvs):=#[z,hd,vs,rel,dd]
theorem JD{Q:Unit->aL->Prop}(hu:A.units+1<cLine)(I:Inv X pins σ H s)(g:xS H a y v H')(ry:RelV y u)(rv:RelV v r)(h:∀s',Inv X pins σ H' s'->Q () s'):
  wpAny (model X.prog X.w) A (setItem (.ref a) u r) Q E s:=by
 rcases g with⟨kvs,k,e,ey,l,eH⟩|⟨kvs,k,b,e,ey,eb,l,eH⟩
 ·subst ey eH
  obtain⟨z,hd,vs,rel,dd⟩:=wZ I.hok e;have hz:vs.length<=sizeLine:=by rw[<-rel.length];exact z
  refine wpAny_setItem_pairs (qN ry) dd λh' B5 hs=>h _ ?_
  have he:∃q,h'.get? a=some q:=let#[q,_,_,hq,_]:=B5;#[q,hq];exact u_ I (by rw[e];exact fj) hs he (v8 (by have:=lW kvs k v;omega) hd (rel.put k rv) B5)
 ·subst ey eH
  cases(show u=di b from ry)
  obtain⟨z,hd,xs,rel,dd⟩:=WN I.hok e;have hz:xs.length<=sizeLine:=by rw[<-tZ rel];exact z
  refine wpAny_setItem_heap (kZ hu) (v7 I.hok eb) dd λh' B5 hs=>h _ ?_
  obtain⟨q,es,ep,hq,h2,h3,h4,_,h5⟩:=B5;refine u_ I (by rw[e];exact fj) hs #[q,hq] #[(by have:=lW kvs k v;omega),hd,_,(rel.put k eb rv).keeps λc ys ec=>?_,q,es,ep,hq,h2,h3,h4,h5]
  rwa[aO (V0 ec e (λz=>nomatch z))]
end
section
variable{X:Cx}{pins:List (aF×Obj)}{σ:St}{H:Hp}{s:aL}{a:aF}{kvs:List (Key×V)}{k:Key}{u:aD}{A:dE}{E:aD->aL->Prop}
theorem WO{more:List aD}(I:Inv X pins σ H s)(e:H a=some (.dK kvs))(ry:RelV (kV k) u)(l:ic kvs k=some v)(hm:more=[]\/∃x,more=[x])
  (h:∀w' s',Inv X pins σ (upd H a (.dK (AZ kvs k))) s'->RelV v w'->Q w' s'):wpAny (model X.prog X.w) A (call (.builtin "dict.pop") (.ref a::u::more)) Q E s:=by
 obtain⟨z,hd,vs,rel,dd⟩:=wZ I.hok e;obtain⟨w',hw,sD⟩:=pY.some_of (v:=v) (o:=valueAt vs k) (by rw[<-l];exact rel.val k)
 have hp:(keyPart u).isSome=true:=by
  cases k with
  |inl i=>obtain⟨t,q⟩:=(show ∃t,u=xE i t from ry);subst q;rfl
  |inr x=>obtain⟨t,q⟩:=(show ∃t,u=aD.str x t from ry);subst q;rfl
 have ha:argsOk "dict.pop" #[.ref a::u::more,[]]:=by
  rcases hm with q|⟨x,q⟩
  ·subst q;exact PySem.F.args_dict_pop_2 _ _
  ·subst q;exact PySem.F.args_dict_pop_3 _ _ _
 refine Ad Dd dd.typeIs PySem.F.entry_dict_pop ha (meets_dict_pop_there (ei X.prog X.w) a (qN ry) more hm hp)
  #[vs,w',dd,by rw[<-rel.length];exact z,hw,λh' B5 hs=>h w' _ ?_ sD]
 have he:∃q,h'.get? a=some q:=let#[q,_,_,hq,_]:=B5;#[q,hq];exact u_ I (by rw[e];exact fj) hs he (v8 (bQ (Lv kvs k) z) hd (rel.drop k) B5)
end
def FV(i:bC):Prop:=∀ov iv,subscripted i false ov iv=operate [ov,iv] (getItem ov iv)
theorem H_{prog:bA}{A:dE}{E:aD->aL->Prop}{env:Env}{value slice:bC}{T id:String}
  (hl:typeLookup (.type T) "__getitem__"=pure (some (.builtin id)))(hs:FV slice)
  (h:wpAny (model prog w) A (eval value env) (λo s₁=>wpAny (model prog w) A (eval slice env) (λi s₂=>s₂.TypeIs o T/\wpAny (model prog w) A (getItem o i) Q E s₂) E s₁) E s):
  wpAny (model prog w) A (eval (.Subscript value slice pos) env) Q E s:=by
 refine Subscript_ (gT h (λo s₁ h₁=>gT h₁ (λi s₂ h₂=>?_) λ_ _ x=>x) λ_ _ x=>x)
 obtain⟨hT,h₂⟩:=h₂;refine aA ?_
 refine aA (wpAny_specialOf hT hl ?_)
 have fin:wpAny (model prog w) A (subscripted slice false o i) (λr s₃=>wpAny (model prog w) A (letTemporaryGo value o r >>= λ_=>pure r) Q E s₃) E s₂:=by
  rw[hs o i];exact wpAny_operating (gT h₂ (λr s₃ h₃=>aA (wpAny_letTemporaryGo (bj h₃))) λ_ _ x=>x)
 first
  |exact bj (aA fin)
  |exact aA (bj (aA fin))
  |exact aA fin
theorem DE{σ:St}(I:Inv X pins σ H s)(g:pD H a y o):s.TypeIs (.ref a) "dict":=by
 rcases g with⟨kvs,k,e,_,_⟩|⟨kvs,k,b,e,_,_,_⟩
 ·obtain⟨_,_,vs,_,dd⟩:=wY I.hok e
  exact dd.typeIs
 ·obtain⟨_,_,xs,_,dd⟩:=yP I.hok e
  exact dd.typeIs
def WQ(td ty:TE):TE:=λσ H Q=>td σ H λx H1=>ty σ H1 λy H2=>∃a v,x=.ref a/\pD H2 a y (some v)/\Q v H2
def zaQ(ty td:TE):TE:=λσ H Q=>ty σ H λy H1=>td σ H1 λx H2=>∃a o,x=.ref a/\pD H2 a y o/\Q (.bl o.isSome) H2
def O4(ty td:TE):TE:=λσ H Q=>ty σ H λy H1=>td σ H1 λx H2=>∃a o,x=.ref a/\pD H2 a y o/\Q (.bl (!o.isSome)) H2
def WR(td ty tv:TE):TS:=λD σ H=>tv σ H λv H1=>td σ H1 λx H2=>ty σ H2 λy H3=>∃a H4,x=.ref a/\xS H3 a y v H4/\D.nx σ H4
section
variable{X:Cx}{o i e value:bC}{pos pos' Wt:Pos}{td ty tv:TE}
theorem ym(hu:X.A.units+1<cLine)(ho:PE X o td)(hi:PE X i ty)(hs:FV i):PE X (.Subscript o i pos) (WQ td ty):=by
 intro pins s σ H Q I h;refine H_ zZ.lookup hs (fP (ho pins s σ H _ I h) λu s1 #[x,H1,I1,rx,q1]=>fP (hi pins s1 σ H1 _ I1 q1) λiv s2 #[y,H2,I2,ry,a,v,ex,g,q2]=>?_)
 subst ex;obtain rfl:u=di a:=rx;exact#[DE I2 g,JC hu I2 g ry λw' s3 I3 sD=>#[v,H2,I3,sD,q2]]
theorem Lw(hu:X.A.units+1<cLine)(hi:PE X i ty)(ho:PE X o td):PC X .In i o (zaQ ty td):=by
 intro pins s σ H Q I h;refine fP (hi pins s σ H _ I h) λiv s1 #[y,H1,I1,ry,q1]=>fP (ho pins s1 σ H1 _ I1 q1) λu s2 #[x,H2,I2,rx,a,ov,ex,g,q2]=>?_
 subst ex;obtain rfl:u=di a:=rx;exact zaP hu I2 g ry λs3 I3=>#[.bl ov.isSome,H2,I3,rfl,q2]
theorem A1(hu:X.A.units+1<cLine)(hi:PE X i ty)(ho:PE X o td):PC X .NotIn i o (O4 ty td):=by
 intro pins s σ H Q I h;refine fP (hi pins s σ H _ I h) λiv s1 #[y,H1,I1,ry,q1]=>fP (ho pins s1 σ H1 _ I1 q1) λu s2 #[x,H2,I2,rx,a,ov,ex,g,q2]=>?_
 subst ex;obtain rfl:u=di a:=rx;exact O2 hu I2 g ry λs3 I3=>#[.bl (!ov.isSome),H2,I3,rfl,q2]
theorem sF(hu:X.A.units+1<cLine)(ho:PE X o td)(hi:PE X i ty)(hv:PE X value tv)(hs:uX X pos value (.Subscript o i pos')):
  PS X (.Assign [.Subscript o i pos'] value pos) (WR td ty tv):=by
 intro pins s σ H D I h;refine wpAny_Assign_Subscript (fP (hv pins s σ H _ I h) λr s1 #[v,H1,I1,rv,q1]=>fP (ho pins s1 σ H1 _ I1 q1) λu s2 #[x,H2,I2,rx,q2]=>fP (hi pins s2 σ H2 _ I2 q2) λiv s3 #[y,H3,I3,ry,a,H4,ex,g,q3]=>?_) hs
 subst ex;obtain rfl:u=di a:=rx;exact JD hu I3 g ry rv λs4 I4=>#[σ,H4,I4,q3]
end
theorem DF(h:cM)(hb:sysModules<h.objs.size):ia P w H (h.push { cls:=.type "dict",data:=.dict #[] }) h.objs.size (.dK []):=
 #[bx _,beq_eq_false_iff_ne.mpr (bT (a7 hb)),[],.nil,cM.DictOf.new h]
theorem Lx(h:cM)(hb:sysModules<h.objs.size):ia P w H (h.push { cls:=.type "dict",data:=.dict #[] }) h.objs.size (.dT []):=
 #[bx _,beq_eq_false_iff_ne.mpr (bT (a7 hb)),[],.nil,_,#[],0,bq _ rfl,#[rfl,rfl,rfl],rfl,rfl,kR]
def Tf:TE:=λ_ H Q=>∀p,H p=none->Q (.ref p) (upd H p (.dK []))
def Tg:TE:=λ_ H Q=>∀p,H p=none->Q (.ref p) (upd H p (.dT []))
section
variable{X:Cx}{pos:Pos}
theorem pE:PE X (.Dict [] [] pos) Tf:=λpins s σ H Q I h=>
 wpAny_Dict_empty #[.ref s.heap.objs.size,_,I.laid (λ_ _ q=>aE _ q) ∅ (DF s.heap I.big),rfl,h _ (I.hok.fresh ∅)]
theorem Ly:PE X (.Dict [] [] pos) Tg:=λpins s σ H Q I h=>
 wpAny_Dict_empty #[.ref s.heap.objs.size,_,I.laid (λ_ _ q=>aE _ q) ∅ (Lx s.heap I.big),rfl,h _ (I.hok.fresh ∅)]
end
def B6:List (TE×TE)->St->Hp->(List (V×V)->Hp->Prop)->Prop
 | [],_,H,Q=>Q [] H
 |(tk,tv)::r,σ,H,Q=>tk σ H λx H1=>tv σ H1 λy H2=>B6 r σ H2 λps H3=>Q ((x,y)::ps) H3
abbrev VV:List (V×V)->List (aD×aD)->Prop:=Fg λp q=>RelV p.1 q.1/\RelV p.2 q.2
def WT(X:Cx)(pos:Pos)(keys:List (Option bC))(values:List bC)(JB:List (TE×TE)):Prop:=
 ∀(pins:List (aF×Obj))(s:aL)(σ:St)(H:Hp)(Q:List (V×V)->Hp->Prop),Inv X pins σ H s->B6 JB σ H Q->
  wpAny (model X.prog X.w) X.A (evalPairs (pairTrees keys values X.env pos)) (λvs s'=>∃ps H',Inv X pins σ H' s'/\VV ps vs/\Q ps H') X.xe s
theorem O5:WT X pos [] [] []:=λpins s σ H Q I h=>pairTrees_nil_walk #[[],H,I,.nil,h]
theorem Lz{k v:bC}{ks:List (Option bC)}{vs:List bC}{tk tv:TE}(hk:PE X k tk)(hv:PE X v tv)(hr:WT X pos ks vs JB):
  WT X pos (some k::ks) (v::vs) ((tk,tv)::JB):=λpins s σ H Q I h=>
 pairTrees_cons_walk (fP (hk pins s σ H _ I h) λu s1 #[x,H1,I1,rx,q1]=>fP (hv pins s1 σ H1 _ I1 q1) λw2 s2 #[y,H2,I2,ry,q2]=>
  fP (hr pins s2 σ H2 _ I2 q2) λws s3 #[ps,H3,I3,rel,q3]=>#[_,H3,I3,.cons #[rx,ry] rel,q3])
def rJ(kvs more:List (Key×V)):List (Key×V):=more.foldl (λacc kv=>putK acc kv.1 kv.2) kvs
theorem KV.merge:∀{more:List (Key×V)}{rs:List (Key×aD)}{kvs:List (Key×V)}{vs:List (Key×aD)},KV more rs->KV kvs vs->KV (rJ kvs more) (merged vs rs):=by
 intro more rs kvs vs r
 induction r generalizing kvs vs with
 |nil=>intro q;exact q
 | @cons p q ps qs h t ih=>
  intro r0;have e:KV (putK kvs p.1 p.2) (stored vs q.1 q.2):=by
   have:=r0.put p.1 h.2;rwa[<-h.1]
  exact ih e
theorem tP:∀(more kvs:List (Key×V)),(rJ kvs more).length<=kvs.length+more.length
 | [],kvs=>by show kvs.length<=kvs.length+0;omega
 |p::r,kvs=>by
  have h1:=tP r (putK kvs p.1 p.2);have h2:=lW kvs p.1 p.2
  show(rJ (putK kvs p.1 p.2) r).length<=_
  rw[bR];omega
theorem yQ{P:bA}{w:cg}:∀{kvs:List (Key×V)}{ws:List (aD×aD)},VV (kvs.map λkv=>(kV kv.1,kv.2)) ws->∃rs,Carries (ei P w) ws rs/\KV kvs rs
 | [],_,r=>by rw[gx]at r;cases r;exact#[[],fj,.nil]
 |p::kvs,_,r=>by
  cases r with
  | @cons a b as bs h t=>
   obtain⟨rs,c,q⟩:=yQ t;obtain⟨b1,b2⟩:=b;exact#[(p.1,b2)::rs,#[qN h.1,rfl,c],.cons #[rfl,h.2] q]
def WU(JB:List (TE×TE)):TE:=λσ H Q=>∀p,H p=none->B6 JB σ (upd H p (.dK [])) λps H2=>H2 p=some (.dK [])/\∃kvs:List (Key×V),ps=kvs.map (λkv=>(kV kv.1,kv.2))/\kvs.length<=15/\Q (.ref p) (upd H2 p (.dK (rJ [] kvs)))
theorem O6{keys:List (Option bC)}{values:List bC}(h:WT X pos keys values JB)(Dz:keys.all (·.isSome)=true)(hl:keys.length=values.length)(h0:keys≠[])
  (h15:keys.length<=15):PE X (.Dict keys values pos) (WU JB):=by
 intro pins s σ H Q I q;have I1:=I.laid (t':=s.toks) (λ_ _ q=>aE _ q) ∅ (DF s.heap I.big)
 refine wpAny_Dict_walk (knd:=ei X.prog X.w) Dz hl h0 h15 (fP (h pins _ σ _ _ I1 (q _ (I.hok.fresh (aP s.heap.objs.size)))) λws s2 #[ps,H2,I2,rel,e,kvs,ep,lk,q2]=>?_)
 subst ep;obtain⟨rs,c,rk⟩:=yQ rel;obtain⟨z,hd,vs0,r0,dd⟩:=wZ I2.hok e;cases r0;refine#[rs,c,dd,λh' B5 hs=>#[.ref s.heap.objs.size,_,?_,rfl,q2]]
 have hz:(rJ [] kvs).length<=sizeLine:=by
  have h1:=tP kvs [];rw[dA]at h1;rw[du];omega
 have he:∃q,h'.get? s.heap.objs.size=some q:=let#[q,_,_,hq,_]:=B5;#[q,hq];exact u_ I2 (by rw[e];exact fj) hs he (v8 hz hd (rk.merge .nil) B5)
structure M1(X:Cx)(o:bC)(m:Str)(apos:Pos)(e:bC)(jf:Pos):Prop where
 base:uS X o m
 few:Ft X jf [e]
 line:(apos.endLine==jf.line)=true
 trees:backTo jf (starEach [e] X.env)=[(false,eval e X.env)]
structure M2(X:Cx)(o:bC)(m:Str)(apos:Pos)(e f:bC)(jf:Pos):Prop where
 base:uS X o m
 few:Ft X jf [e,f]
 line:(apos.endLine==jf.line)=true
 trees:backTo jf (starEach [e,f] X.env)=[(false,eval e X.env),(false,eval f X.env)]
def Zv(H:Hp)(a:aF):Prop:=(∃kvs,Rd H a (.dK kvs))\/∃kvs,Rd H a (.dT kvs)
theorem FW{σ:St}(I:Inv X pins σ H s)(d:Zv H a):
  s.TypeIs (.ref a) "dict"/\(∀b,di a=.ref b->∃ob,s.heap.get? b=some ob/\ob.dict=none)/\(a==sysModules)=false:=by
 rcases d with⟨kvs,e⟩|⟨kvs,e⟩
 ·obtain⟨_,hd,vs,_,dd⟩:=wY I.hok e
  refine#[dd.typeIs,λb q=>?_,hd]
  cases q;obtain⟨ob,_,_,h1,h2,_⟩:=dd;exact#[ob,h1,h2.2.1]
 ·obtain⟨_,hd,xs,_,dd⟩:=yP I.hok e
  refine#[dd.typeIs,λb q=>?_,hd]
  cases q;obtain⟨ob,_,_,h1,h2,_⟩:=dd;exact#[ob,h1,h2.2.1]
section
variable{X:Cx}{pins:List (aF×Obj)}{σ:St}{H:Hp}{s:aL}{a:aF}{y d:V}{u r:aD}{o:Option V}{A:dE}{E:aD->aL->Prop}
theorem Ti(hu:A.units+1<cLine)(I:Inv X pins σ H s)(g:pD H a y o)(ry:RelV y u)(rd:RelV d r)(h:∀w' s',Inv X pins σ H s'->RelV (o.getD d) w'->Q w' s'):
  wpAny (model X.prog X.w) A (call (.builtin "dict.get") [.ref a,u,r]) Q E s:=by
 rcases g with⟨kvs,k,e,ey,l⟩|⟨kvs,k,b,e,ey,eb,l⟩
 ·subst ey
  obtain⟨z,hd,vs,rel,dd⟩:=wY I.hok e;refine Ad qV dd.typeIs Bz (AF _ _ _) (meets_dict_get_default _ a (qN ry) hd r) #[_,dd.mapOf,h _ _ (I.tok _) ?_]
  rw[l];exact(rel.val k).getD rd
 ·subst ey
  cases(show u=di b from ry)
  obtain⟨z,hd,xs,rel,dd⟩:=yP I.hok e;refine Ad qV dd.typeIs Bz (AF _ _ _) (meetsH_dict_get_default (tupleKind _) a b hd r) #[kZ hu,k,xs,v7 I.hok eb,dd,h _ _ (I.tok _) ?_]
  rw[l];exact(rel.val k).getD rd
end
def Tj(td ty tx:TE):TE:=λσ H Q=>td σ H λx H1=>∃a,x=.ref a/\Zv H1 a/\ty σ H1 λy H2=>tx σ H2 λz H3=>∃o,pD H3 a y o/\Q (o.getD z) H3
def Tn(td ty:TE):TE:=λσ H Q=>td σ H λx H1=>∃a,x=.ref a/\Zv H1 a/\ty σ H1 λy H2=>∃kvs k v,H2 a=some (.dK kvs)/\y=kV k/\ic kvs k=some v/\Q v (upd H2 a (.dK (AZ kvs k)))
section
variable{X:Cx}{o e f:bC}{apos jf:Pos}{td ty tx:TE}
theorem LC(hu:X.A.units+1<cLine)(ho:PE X o td)(he:PE X e ty)(hf:PE X f tx)(m:M2 X o "get" apos e f jf):PE X (.Call (.Attribute o "get" apos) [e,f] [] jf) (Tj td ty tx):=by
 intro pins s σ H Q I h;refine qX m.base m.few m.line pA qV PySem.F.type_dict_get (fP (ho pins s σ H _ I h) λu s1 #[x,H1,I1,rx,a,ex,d,q1]=>?_)
 subst ex;obtain rfl:u=di a:=rx;obtain⟨t1,t2,_⟩:=FW I1 d;refine#[t1,t2,?_]
 rw[m.trees];refine kN rfl (mE (iL (fP (he pins s1 σ H1 _ I1 q1) λiv s2 #[y,H2,I2,ry,q2]=>
  iL (fP (hf pins s2 σ H2 _ I2 q2) λfv s3 #[z,H3,I3,rz,ov,g,q3]=>o8 ?_))))
 exact Ti hu I3 g ry rz λw' s4 I4 sD=>#[_,H3,I4,sD,q3]
theorem LD(ho:PE X o td)(he:PE X e ty)(m:M1 X o "pop" apos e jf):PE X (.Call (.Attribute o "pop" apos) [e] [] jf) (Tn td ty):=by
 intro pins s σ H Q I h;refine qX m.base m.few m.line pA Dd PySem.F.type_dict_pop (fP (ho pins s σ H _ I h) λu s1 #[x,H1,I1,rx,a,ex,d,q1]=>?_)
 subst ex;obtain rfl:u=di a:=rx;obtain⟨t1,t2,_⟩:=FW I1 d;refine#[t1,t2,?_]
 rw[m.trees];refine kN rfl (mE (iL (fP (he pins s1 σ H1 _ I1 q1) λiv s2 #[y,H2,I2,ry,kvs,k,v,ea,ey,l,q2]=>o8 ?_)))
 subst ey;exact WO I2 ea ry l (.inl rfl) λw' s3 I3 sD=>#[v,_,I3,sD,q2]
end
section
variable{X:Cx}{pins:List (aF×Obj)}{σ:St}{H:Hp}{s:aL}{a:aF}{kvs:List (Key×V)}{A:dE}{E:aD->aL->Prop}
theorem LJ(I:Inv X pins σ H s)(e:Rd H a (.dK kvs))(h:∀p s',H p=none->Inv X pins σ (upd H p (.dK kvs)) s'->Q (.ref p) s'):wpAny (model X.prog X.w) A (call (.type "dict") [.ref a]) Q E s:=by
 obtain⟨z,hd,vs,rel,dd⟩:=wY I.hok e;refine kt_call_dict hd dd (by rw[<-rel.length];exact z) λh' B5 hs=>?_
 refine h _ _ (I.hok.fresh (aP _)) (I.laid (a:=s.heap.objs.size) (o:=.dK kvs) (t':=s.toks) (λb q hq=>?_) (aP _) (v8 z (beq_eq_false_iff_ne.mpr (bT (a7 I.big))) rel B5))
 exact(hs.2 b (a7 (aZ hq))).trans (aE _ hq)
end
section
variable{prog:bA}{w:cg}{A:dE}{E:aD->aL->Prop}{s:aL}
end
section
variable{prog:bA}{w:cg}{A:dE}{R:vR->aL->Prop}{I:aF}{fp wr:List aF}{G:Array sV->Array sV->Prop}{n:Nat}{P:Nat->aD->Prop}{St:Nat->aL->Prop}
theorem LK(W:WalksS prog w A.in1 I fp wr G n P St)(S:aF)(Tp:S∉fp)(T:Nat->cM->Prop)(keep:∀i h h',T i h->(∀b o,b∉wr->h.get? b=some o->h'.get? b=some o)->T i h')
  (add:∀i v (s:aL) (Q:Bool->aL->Prop) (E:aD->aL->Prop),i<n->P i v->T i s.heap->(∀h' tk b,s.toks<=tk->gw S s.heap h'->T (i+1) h'->Q b { s with heap:=h',toks:=tk })->wpAny (model prog w) A.in1 (setAdd S v) Q E s):
  ∀(k i:Nat)(s:aL),n-i=k->i<=n->St i s->T i s.heap->(∀s',Moved (S::wr) G s s'->T n s'.heap->R (.ok (.ret .none)) s')->
   codeAny (model prog w) A (.builtin "set.update.loop" #[[.ref S,.ref I],[]]) R s:=by
 have FX:∀b∈wr,b∈S::wr:=λb hb=>aT _ hb
 intro k
 induction k with
 |zero=>
  intro i s hk hi Dp hS hR;have hin:i=n:=∅
  subst hin;refine kS HD ?_
  exact aA (W.done s _ _ Dp λs' hm=>(bj (hR s' (hm.mono FX) (keep _ _ _ hS λb o hb e=>hm.heap b o hb e))))
 |succ k ih=>
  intro i s hk hi Dp hS hR;have mL:i<n:=∅
  refine kS HD ?_
  refine aA (W.item i s _ _ mL Dp λv s' hP Tq hm=>?_)
  refine aA (oq ?_)
  refine add i v s' _ _ mL hP (keep _ _ _ hS λb o hb e=>hm.heap b o hb e) λh' tk b QZ Tr hT=>?_
  refine bj #[yd F.plain_set_update_loop _,ih (i+1) _ ∅ mL (W.frame _ s' _ _ Tq QZ λb hb o e=>?_) hT λQ6 Ts Tt=>?_]
  ·rwa[Tr.2 b (λh:b=S=>Tp (by rw[<-h];exact hb))]
  ·refine hR Q6 (Moved.trans W.gtrans ((hm.mono FX).then_heap QZ λb o hb e=>?_) Ts) Tt
   rwa[Tr.2 b (λh:b=S=>hb (by rw[h];exact aM))]
end
section
variable{prog:bA}{w:cg}{A:dE}{E:aD->aL->Prop}{s:aL}
abbrev jg(led:Bool):Obj:={ cls:=.type "set",dict:=none,data:=.set #[] 0 (.fresh 0 0 led) }
end
end L2
namespace L2
open PySem
end L2
namespace L2
open PySem PySem.Spec PyProof.Rows
variable{a:aF}{b k1 k2:Bool}{op:Fh}{X:Cx}{env:Env}{e:bC}{o:HO}{H H' H0:Hp}{g:Int->Int->Int}{pins:List (aF×Obj)}{cl:List (Str×aF)}{elts:List bC}{cap:List Nat}{zs:List ae}{R:List ae->List ae->Prop}{own:List Str}{vs xs:List V}{r:List V->Hp->VK->Prop}{i n:Nat}{p p2 pos tp:Pos}{P:bA}{d:ae}{F:ae->Option ae}{K:ao}{sc:j'}{s:aL}{σ:St}{x:Str}{id:String}{w:cg}
abbrev O7:aD->aL->Prop:=λ_ _=>False
abbrev testsOf(ifs:List bC)(env:Env):Sem Bool:=
 forIn ifs true λc r=>if r=true then(do let ok <-isTrue c env (eval c env);pure (pT ok))else pure (pT r)
theorem JF{A:dE}{R:vR->aL->Prop}{elt tg iter:bC}{ifs:List bC}{it acc:aD}(J:Nat->aL->Prop)
  (turn:∀n s,J n s->wpAny (model P w) A (pyNext it) (λr s1=>match r with
   |none=>R (.ok .next) s1
   |some v=>wpAny (model P w) A (letOwnedTupleGo tg it v) (λ_ s2=>wpAny (model P w) A (assign tg env v) (λ_ s3=>
     wpAny (model P w) A (testsOf ifs env) (λok s4=>if ok=true then wpAny (model P w) A (eval elt env) (λx s5=>
       wpAny (model P w) A (call (.builtin "list.append") [acc,x]) (λ_ s6=>∃m,m<n/\J m s6) O7 s5) O7 s4
      else ∃m,m<n/\J m s4) O7 s3) O7 s2) O7 s1) O7 s)
  (h:J n s):codeAny (model P w) A (.compLoop (.ListComp elt [#[tg,iter,ifs,0]] sc pos) 0 it acc env) R s:=by
 refine codeAny_loop rfl J (λn s hJ=>?_) n h
 refine wpAny_noted ?_
 refine aA (yc (aA (gT (turn n s hJ) (λr s1 h1=>?_) λ_ _ f=>f.elim)))
 cases r with
 |none=>exact bj h1
 |some v=>
  refine aA (gT h1 (λ_ s2 h2=>?_) λ_ _ f=>f.elim)
  refine aA (gT h2 (λ_ s3 h3=>?_) λ_ _ f=>f.elim)
  refine aA (gT h3 (λok s4 h4=>?_) λ_ _ f=>f.elim)
  cases ok with
  |false=>exact bj #[rfl,h4]
  |true=>
   exact aA (aA (gT h4 (λx s5 h5=>(aA (gT h5 (λ_ s6 h6=>bj (bj #[rfl,h6])) λ_ _ f=>f.elim))) λ_ _ f=>f.elim))
def pF(env:Env):List (Str×ot)->List (Str×aF)->Option (List (Str×aF))
  | [],acc=>some acc
  | (n,k)::r,acc=>if(k==dX)=true then(match env.cells.lookup n with
      | some c=>pF env r ((n,c)::acc)
      | none=>none)else pF env r acc
theorem B7(env:Env):∀(names:List (Str×ot))(acc cl:List (Str×aF)),pF env names acc=some cl->
  (forIn names acc λ(x:Str×ot)(r:List (Str×aF))=>if(x.2==dX)=true then(do let c <-cellOf env x.1;pure (pT ((x.1,c)::r)))else pure (pT r):Sem (List (Str×aF)))=pure cl
 | [],acc,cl,h=>by
  simp[pF,gF]at h;subst h;rfl
 |(n,k)::r,acc,cl,h=>by
  rw[List.forIn_cons];unfold pF at h;by_cases hk:(k==dX)=true
  ·rw[qQ3 hk]at h
   rw[qQ3 (show((n,k).2==dX)=true from hk)]
   cases e:env.cells.lookup n with
   |none=>rw[e]at h;cases h
   |some c=>
    rw[e]at h;have e2:cellOf env (n,k).1=pure c:=by unfold cellOf;rw[show kj (n,k).1 env.cells=some c from e]
    rw[e2,pure_bind,pure_bind];exact B7 env r _ cl h
  ·rw[qQ2 hk]at h
   rw[qQ2 hk,pure_bind]
   exact B7 env r acc cl h
theorem Ia(h:pF env sc.names []=some cl):closureFor sc env=pure cl:=by
 unfold closureFor;have:=B7 env sc.names [] cl h;simp only[bind_pure];exact this
theorem va{env:Env}:∀{names:List (Str×ot)}{acc cl:List (Str×aF)},pF env names acc=some cl->(∀x c,acc.lookup x=some c->env.cells.lookup x=some c)->∀x c,cl.lookup x=some c->env.cells.lookup x=some c
 | [],acc,cl,h,ha=>by
  simp[pF,gF]at h;subst h;exact ha
 |(n,k)::r,acc,cl,h,ha=>by
  unfold pF at h;by_cases hk:(k==dX)=true
  ·rw[qQ3 hk]at h
   cases e:env.cells.lookup n with
   |none=>rw[e]at h;cases h
   |some c=>
    rw[e]at h;refine va h λx d hx=>?_
    rw[dN]at hx;cases Zw:x==n with
    |true=>
     rw[Zw]at hx;have:x=n:=by simpa using Zw
     subst this;rwa[e]
    |false=>rw[Zw]at hx;exact ha x d hx
  ·rw[qQ2 hk]at h
   exact va h ha
theorem vb{env:Env}:∀{names:List (Str×ot)}{acc cl:List (Str×aF)},pF env names acc=some cl->∀x,((x,dX)∈names\/∃c,acc.lookup x=some c)->∃c,cl.lookup x=some c
 | [],acc,cl,h,x,hx=>by
  simp[pF,gF]at h;subst h;rcases hx with hx|hx
  ·exact qQ7 hx (by simp)
  ·exact hx
 |(n,k)::r,acc,cl,h,x,hx=>by
  unfold pF at h;by_cases hk:(k==dX)=true
  ·rw[qQ3 hk]at h
   cases e:env.cells.lookup n with
   |none=>rw[e]at h;cases h
   |some c=>
    rw[e]at h;refine vb h x ?_
    rcases hx with hx|⟨d,hx⟩
    ·rcases ax.mp hx with hx|hx
     ·cases hx
      exact .inr #[c,by simp[dN]]
     ·exact .inl hx
    ·refine .inr ?_
     rw[dN];cases Zw:x==n with
     |true=>exact#[_,rfl]
     |false=>exact#[d,hx]
  ·rw[qQ2 hk]at h
   refine vb h x ?_
   rcases hx with hx|hx
   ·rcases ax.mp hx with hx|hx
    ·cases hx;exact qQ7 rfl hk
    ·exact .inl hx
   ·exact .inr hx
theorem vd{env:Env}:∀{names:List (Str×ot)}{x:Str},names.lookup x=some .free->
  (names.map λ(n,k)=>if(k==dX&&env.scope.kind == .function&&env.kindOf n==some .cell) then(n,k9) else(n,k)).lookup x=some .cell\/
   (names.map λ(n,k)=>if(k==dX&&env.scope.kind == .function&&env.kindOf n==some .cell) then(n,k9) else(n,k)).lookup x=some .free
 | [],x,h=>by simp at h
 |(n,k)::r,x,h=>by
  have ih:=@vd env r x;rw[ay]
  dsimp only
  by_cases hb:(k==dX&&env.scope.kind == .function&&env.kindOf n==some .cell)=true
  ·rw[qQ3 hb]
   cases hx:x==n with
   |true=>simp[dN,hx]
   |false=>
    simp only[dN,hx]at h ⊢;exact ih h
  ·rw[qQ2 hb]
   cases hx:x==n with
   |true=>
    simp[dN,hx]at h ⊢;exact .inr h
   |false=>
    simp only[dN,hx]at h ⊢;exact ih h
theorem w8{env:Env}:∀{names:List (Str×ot)}{x:Str},(∀y∈names,y.2≠k9)->
  ((names.map λ(n,k)=>if(k==dX&&env.scope.kind == .function&&env.kindOf n==some .cell) then(n,k9) else(n,k)).lookup x=some .cell\/
   (names.map λ(n,k)=>if(k==dX&&env.scope.kind == .function&&env.kindOf n==some .cell) then(n,k9) else(n,k)).lookup x=some .free)->(x,dX)∈names
 | [],x,_,h=>by simp at h
 |(n,k)::r,x,hc,h=>by
  have ih:=@w8 env r x λy hy=>hc y (aT _ hy)
  have WV:=hc (n,k) aM;rw[ay]at h
  dsimp only at h
  by_cases hb:(k==dX&&env.scope.kind == .function&&env.kindOf n==some .cell)=true
  ·have hk:k=dX:=by
    simp only[eD]at hb;simpa using hb.1.1
   rw[qQ3 hb]at h;cases hx:x==n with
   |true=>
    have:x=n:=by simpa using hx
    subst this;rw[hk];exact aM
   |false=>
    simp only[dN,hx]at h;exact aT _ (ih h)
  ·rw[qQ2 hb]at h
   cases hx:x==n with
   |true=>
    have:x=n:=by simpa using hx
    subst this;simp[dN,beq_self_eq_true,gF]at h;rcases h with h|h
    ·exact qQ7 h WV
    ·rw[h];exact aM
   |false=>
    simp only[dN,hx]at h;exact aT _ (ih h)
def gi(X:Cx)(sc:j')(N:List Str)(cl:List (Str×aF))(fp:List aF)(s:aL)(H:Hp):Cx where
 prog:=X.prog
 w:=X.w
 K:=X.K
 mg:=X.mg
 base:=X.base
 A:=X.A
 N:=N
 s₀:=s
 H₀:=H
 env:=compEnvC sc cl s.heap.objs.size X.env
 outer:=X.stack
 stack:=X.stack
 ex:=fp
 fn:=λ_=>false
 calm:=X.calm
 pn:=[]
 xe:=O7
structure j5(X:Cx)(sc:j')(own:List Str)(cap:List Nat)(N:List Str)(cl:List (Str×aF)):Prop where
 kind:sc.kind=.function
 LN:∀y∈sc.names,y.2≠k9
 loc:∀y∈sc.names,y.2=.local->sc.names.lookup y.1=some .local
 clos:pF X.env sc.names []=some cl
 names:N=own++cap.map λi=>X.N.getD i fw
 WW:∀i∈cap,i<X.N.length/\(X.env.kindOf (X.N.getD i fw)=some .cell\/X.env.kindOf (X.N.getD i fw)=some .free)/\sc.names.lookup (X.N.getD i fw)=some .free
def oY(own:List Str)(cap:List Nat)(σ:St):St:=aY own.length none++cap.map λi=>σ.getD i none
section
variable{X:Cx}{pins:List (aF×Obj)}{σ:St}{H:Hp}{s:aL}{sc:j'}{own N:List Str}{cap:List Nat}{cl:List (Str×aF)}{fp:List aF}{tg:bC}{J:It}{it:aF}{tn:Nat->cM->Prop}
theorem LV{h4:cM}{t4:Nat}(CS:j5 X sc own cap N cl)(I:Inv X pins σ H s)(T:Turn X.prog X.w X.K tg J fp it tn)(st:tn 0 s.heap)(hf:∀b∈fp,uj X pins H b)
  (D:aF)(hD:D=s.heap.objs.size)(s3:aL)(h3:s3={ s with heap:=s.heap.push { cls:=.type "list",dict:=none,data:=.seq ([]:List aD).toArray } })
  (FU:h4.Ns s3.heap.objs.size (λ_=>none))(hk:∀b o,s3.heap.get? b=some o->h4.get? b=some o):
  Inv (gi X sc N cl fp s3 (upd H D (.lst []))) [] (oY own cap σ) (upd H D (.lst [])) { s3 with heap:=h4,toks:=t4 }:=by
 subst hD;have k3:∀b o,s.heap.get? b=some o->s3.heap.get? b=some o:=λb o e=>by rw[h3];exact aE _ e
 have z3:s3.heap.objs.size=s.heap.objs.size+1:=by rw[h3];exact gG ..
 have I3:Inv X pins σ (upd H s.heap.objs.size (.lst [])) s3:=by
  rw[h3];exact I.laid (λb o e=>aE _ e) ∅ #[bx _,[],0,.nil,bq _ rfl]
 have O8:∀b∈fp,b<s.heap.objs.size:=λb hb=>by
  obtain⟨o,e,_⟩:=T.obj 0 _ st b hb;exact aZ e
 have O9:∀b,b<s.heap.objs.size->b≠s3.heap.objs.size:=λb hb=>by rw[z3];exact a7 ∅
 have qe:=va CS.clos λx c h=>by simp at h
 have ok:(gi X sc N cl fp s3 (upd H s.heap.objs.size (.lst []))).Ok:=by
  refine#[I.ok.mod,CS.kind,I.ok.glob,I.ok.blt,aP _,λx y c hx hy=>I.ok.inj x y c (qe x c hx) (qe y c hy),λx hx=>?_,λx c hx _=>qQ7 hx eS,I.ok.hd,I.ok.frames,.inl rfl,λb hb=>#[?_,λx c hx=>?_],λb o e=>?_,?_,λb o e hb=>?_,λb hb hs=>?_,?_,?_]
  ·exact vb CS.clos x (.inl (w8 CS.LN hx))
  ·exact O9 b (O8 b hb)
  ·exact(hf b hb).2.2.2.2.1 x c (qe x c hx)
  ·exact I3.bs b o e
  ·exact bQ I.ok.QP (bQ I.sz (by show s.heap.objs.size<=s3.heap.objs.size;rw[z3];exact ud _))
  ·rcases(hf b hb).2.2.2.1 with z|z
   ·exact I.ok.K3 b o e z
   ·exact qQ7 (bE (aZ (I.ok.bs b o e).1) z) ∅
  ·rcases ax.mp (I.BL b hs)with z|z
   ·exact(hf b hb).2.1 z
   ·exact(hf b hb).2.2.1 z
  ·exact I3.stack
  ·exact I3.HK
 have frC:∀b,s.heap.objs.size<b->(upd H s.heap.objs.size (.lst [])) b=none:=λb hb=>by
  rw[aO (ft hb)];exact I.hok.fresh ∅
 refine#[ok,?_,I3.bare,Un.kept hk,#[_,FU,λi x v e1 e2 e3=>?_],λx c hx=>?_,?_,λx c hx=>?_,λp hp=>qQ7 (show p∈([])from hp) (by simp),I3.hok.kept hk,?_]
 ·rfl
 ·have Tv:=e2
  have WX:N[i]?=some x:=e1;unfold oY at Tv;by_cases hi:i<own.length
  ·rw[bX ↑hi,dM]at Tv
   split at Tv<;>cases Tv
  ·rw[bS ↑(gE hi),cU,aG]at Tv
   rw[CS.names,bS ∅,aG]at WX
   cases ec:cap[i-own.length]? with
   |none=>rw[ec]at WX;cases WX
   |some j=>
    rw[ec]at WX Tv;have ex:X.N.getD j fw=x:=by simpa using WX
    have ev:σ.getD j none=some v:=by simpa using Tv
    obtain⟨hj,Dw,vf⟩:=CS.WW j (aQ ec);rw[ex]at Dw vf;obtain⟨m,hn,hl⟩:=I.loc;have hxj:X.N[j]?=some x:=by
     rw[<-ex,aI,au hj];rfl
    have hvj:σ[j]?=some (some v):=by
     have:j < σ.length:=by rw[I.len];exact hj
     rw[aI,au this]at ev
     rw[au this]
     exact qQ6 some ev
    obtain⟨u,r,l⟩:=hl j x v hxj hvj (by
     rcases Dw with z|z
     ·exact .inr (.inl z)
     ·exact .inr (.inr z))
    refine#[u,r,?_]
    rcases l with⟨k,_⟩|⟨k,c,e,z⟩
    ·rcases Dw with z|z<;>(rw[z]at k;cases k)
    ·obtain⟨c',ec'⟩:=vb CS.clos x (.inl (iw vf))
     have:c'=c:=by
      have:=qe x c' ec';rw[e]at this;exact(cD this).symm
     subst this;refine .inr #[?_,c',ec',?_]
     ·exact vd vf
     ·obtain⟨o,ho,hd⟩:=z
      exact#[o,hk _ _ (k3 _ _ ho),hd]
 ·obtain⟨v,o,ho,hd⟩:=I.cell x c (qe x c hx)
  exact#[v,o,hk _ _ (k3 _ _ ho),hd]
 ·exact frC _ (by show s.heap.objs.size<s3.heap.objs.size;rw[z3];exact Nat.lt_succ_self _)
 ·obtain⟨v,o,ho,hd⟩:=I.cell x c (qe x c hx)
  rw[aO (a7 (aZ ho))];exact I.pB x c (qe x c hx)
 ·show(oY own cap σ).length=N.length
  unfold oY;rw[CS.names];simp
theorem Inv.sG{h':cM}{t':Nat}{ch:List aF}(I:Inv X pins σ H s)(k:∀b o,b∉ch->s.heap.get? b=some o->h'.get? b=some o)(hf:∀b∈ch,uj X pins H b):Inv X pins σ H { s with heap:=h',toks:=t' }:=by
 have V5:∀b u,H b=some u->b∉ch:=λb u e z=>by rw[(hf b z).1]at e;cases e
 refine I.step (λb hb=>#[(hf b hb).2.2.2.1,(hf b hb).2.1,(hf b hb).2.2.2.2.1,(hf b hb).2.2.2.2.2]) (λb o _ _ hc e _=>k b o hc e) (λb o _ _ hc e _=>#[o.slots,k b o hc e]) (λ_ _ _ _ n=>n)
  (λb o hc e=>#[o,k b o hc e]) (λ_ _ e=>e) (λ_ _ _ e=>e) (λb ps e=>#[#[],by rw[e];simp]) (λm hm=>?_) (λb u e=>?_) I.bare
 ·obtain⟨o,es,ep,ho,r⟩:=hm
  exact#[o,es,ep,k _ o (λz=>(hf _ z).2.1 rfl) ho,r]
 ·refine(I.hok b u e).stay (λc v hc q=>k c v ?_ q) (λ_ q=>q) λ_ _ q=>q
  rcases hc with z|z
  ·rw[z];exact V5 b u e
  ·exact V5 c _ z
theorem Inv.track(I:Inv X pins σ H s)(f:uj X pins H a)(new:ia X.prog X.w (upd H a o) s.heap a o):Inv X pins σ (upd H a o) s:=by
 obtain⟨f0,f1,f2,f3,f4,f5⟩:=f;have ne:∀b u,H b=some u->b≠a:=λb u e=>bG e f0
 refine#[I.ok,I.os,I.bare,#[I.base.keep,I.base.slot,λb ob e n hx=>?_,I.base.there,λb xs e=>?_,λb ob u e=>?_,λb ps e=>?_],I.loc,I.cell,?_,λx c e=>?_,λp hp=>?_,λb u e=>?_,I.len]
 ·have nb:b≠a:=λz=>by
   subst z;rcases f3 with z|z
   ·exact hx z
   ·exact qQ7 (bE (aZ e) z) ∅
  rw[aO nb];exact I.base.free b ob e n hx
 ·have q:=I.base.tups b xs e
  rwa[aO (ne _ _ q)]
 ·have q:=I.base.vW b ob u e
  rwa[aO (ne _ _ q)]
 ·obtain⟨more,q⟩:=I.base.yF b ps e
  exact#[more,by rw[aO (ne _ _ q)];exact q]
 ·rw[aO (bT f1)]
  exact I.free
 ·rw[aO (f4 x c e)]
  exact I.pB x c e
 ·obtain⟨e,n,r⟩:=I.pin p hp
  exact#[e,by rw[aO (f5 p hp)];exact n,r]
 ·by_cases hb:b=a
  ·subst hb
   rw[bh]at e;cases e;exact new
  ·rw[aO hb]at e
   exact(I.hok b u e).stay (λ_ _ _ q=>q) (λc q=>by rw[aO (ne _ _ q)];exact q) λc xs q=>by rw[aO (ne _ _ q)];exact q
end
def WY(X:Cx)(ifs:List bC)(t:TT):Prop:=
 ∀(pins:List (aF×Obj))(s:aL)(σ:St)(H:Hp)(Q:Bool->Hp->Prop),Inv X pins σ H s->t σ H Q->wpAny (model X.prog X.w) X.A (testsOf ifs X.env) (TP X pins σ Q) X.xe s
def zaS:TT:=λ_ H Q=>Q true H
theorem O_:WY X [] zaS:=λ_ _ _ H _ I h=>wpAny_tests_nil #[H,I,h]
theorem Pa{c:bC}{t:TT}(h:PT X c t):WY X [c] t:=λpins s σ H Q I q=>wpAny_tests_one (h pins s σ H Q I q)
def v9(J:It)(g:TG)(tc:TT)(te:TE)(σ:St)(H:Hp)(Q:VK):Prop:=
 ∀D,H D=none->∃W:Nat->Nat->List V->St->Hp->Prop,(∃m,W 0 m [] σ (upd H D (.lst [])))/\∀i m ys σ' H',W i m ys σ' H'->
  (J.stop i H'/\Q (.ref D) H')\/(J.go i H'/\∀x H2,J.Wh i H' x H2->g x σ' H2 λσ3 H3=>tc σ3 H3 λb H4=>if b=true then te σ3 H4 λy H5=>
   H5 D=some (.lst ys)/\ys.length<sizeLine/\∃m',m'<m/\W (i+1) m' (ys ++ [y]) σ3 (upd H5 D (.lst (ys ++ [y])))else ∃m',m'<m/\W (i+1) m' ys σ3 H4)
def Q_(own:List Str)(cap:List Nat)(wi:TI)(g:TG)(tc:TT)(te:TE):TE:=λσ H Q=>wi σ H λJ H1=>v9 J g tc te (oY own cap σ) H1 Q
section
variable{X:Cx}{pins:List (aF×Obj)}{σ:St}{H:Hp}{s:aL}{sc:j'}{own N:List Str}{cap:List Nat}{cl:List (Str×aF)}{fp:List aF}{tg elt iter:bC}{ifs:List bC}{J:It}{it:aF}{tn:Nat->cM->Prop}{g:TG}{tc:TT}{te:TE}{wi:TI}{pos:Pos}
theorem A2{RR:aD->aF->vR->aL->Prop}{E:aD->aL->Prop}{Q:VK}(hc:X.calm=true)(CS:j5 X sc own cap N cl)(I:Inv X pins σ H s)(T:Turn X.prog X.w X.K tg J fp it tn)(st:tn 0 s.heap)(hf:∀b∈fp,uj X pins H b)
  (hg:∀f s3 H3,PG (gi X sc N cl f s3 H3) tg g)(ht:∀f s3 H3,WY (gi X sc N cl f s3 H3) ifs tc)(he:∀f s3 H3,PE (gi X sc N cl f s3 H3) elt te)
  (h:v9 J g tc te (oY own cap σ) H Q)
  (fin:∀D C H' s',Inv X pins σ H' s'->(∃m,s'.heap.Ns C m)->uj X pins H' C->Q (.ref D) H'->RR (.ref D) C (.ok .next) s'):
  wpAny (model X.prog X.w) X.A (newList []) (λacc s₃=>wpAny (model X.prog X.w) X.A (newFunctionEnv sc X.env.globals cl [] X.env.qual none .none (some X.env)) (λWZ s₄=>
   codeAny (model X.prog X.w) X.A (.compStart (.ListComp elt [#[tg,iter,ifs,0]] sc pos) 0 (.ref it) acc { WZ with scope:=relabel sc X.env }) (RR acc WZ.locals) s₄) E s₃) E s:=by
 refine fB (wpAny_newFunctionEnv CS.LN (λy hy=>qQ7 hy (by simp)) (λh4 FU Tr=>?_) CS.kind)
 have hD:=I.fresh;obtain⟨W,⟨m0,w0⟩,turn⟩:=h s.heap.objs.size hD
 generalize hs3:({ s with heap:=s.heap.push { cls:=.type "list",dict:=none,data:=.seq ([]).toArray } })=s3 at *
 have h3:=hs3.symm
 have z3:s3.heap.objs.size=s.heap.objs.size+1:=by rw[h3];exact gG ..
 have k3:∀b o,s.heap.get? b=some o->s3.heap.get? b=some o:=λb o e=>by rw[h3];exact aE _ e
 have k4:=λb o e=>Tr.extBut b o (a7 (aZ e)) (aE _ e)
 have O8:∀b∈fp,b<s.heap.objs.size:=λb hb=>by
  obtain⟨o,e,_⟩:=T.obj 0 _ st b hb;exact aZ e
 have Ic:=λt4=>
  LV (t4:=t4) CS I T st hf _ rfl s3 h3 ↑FU k4
 have st4:=T.keep _ _ _ st λb hb o e=>k4 b o (k3 b o e)
 have fr4:∀b∈fp,(upd H s.heap.objs.size (.lst [])) b=none:=λb hb=>by
  rw[aO (a7 (O8 b hb))];exact(hf b hb).1
 have stat:∀{H':Hp},(∀b∈fp,H' b=none)->∀b∈fp,uj (gi X sc N cl fp s3 (upd H s.heap.objs.size (.lst []))) [] H' b:=λ{H'}hn b hb=>by
  refine#[hn b hb,?_,λhs=>?_,.inl hb,λx c hx=>?_,λp hp=>qQ7 (show p∈([])from hp) (by simp)]
  ·show b≠s3.heap.objs.size
   rw[z3];exact a7 (k_ (O8 b hb))
  ·rcases ax.mp (I.BL b hs)with z|z
   ·exact(hf b hb).2.1 z
   ·exact(hf b hb).2.2.1 z
  ·exact(hf b hb).2.2.2.2.1 x c (va CS.clos (λx c h=>by simp at h) x c hx)
 have loop:∀s5:aL,(∃t4,s5={ s3 with heap:=h4,toks:=t4 })->codeAny (model X.prog X.w) X.A (.compLoop (.ListComp elt [#[tg,iter,ifs,0]] sc pos) 0 (.ref it) (.ref s.heap.objs.size) (compEnvC sc cl s3.heap.objs.size X.env))
   (RR (.ref s.heap.objs.size) s3.heap.objs.size) s5:=by
  rintro s5 ⟨t4,rfl⟩
  refine JF (λn s'=>∃i ys σ' H',Inv _ [] σ' H' s'/\tn i s'.heap/\(∀b∈fp,H' b=none)/\W i n ys σ' H') ?_
   #[0,[],_,_,Ic t4,st4,fr4,w0]
  rintro n s' ⟨i,ys,σ',H',I',yk,fr',w'⟩
  rcases turn i n ys σ' H' w' with⟨stop,q⟩|⟨go,step⟩
  ·refine fP (T.done (gi X sc N cl fp s3 _) rfl rfl rfl hc i [] s' σ' H' O7 I' (stat fr') yk stop) λr s6 #[hr,I6]=>?_
   subst hr;have bs:=I6.base;have un:Un (KS X.stack) fp H H' s.heap s6.heap:=by
    have neD:∀b o,s.heap.get? b=some o->b≠s.heap.objs.size:=λb o e=>a7 (aZ e)
    refine#[λb o e n hb hx=>bs.keep b o (k3 b o e) (by show upd H _ _ b=none;rw[aO (neD b o e)];exact n) hb hx,λb o e n hb hx=>bs.slot b o (k3 b o e) (by show upd H _ _ b=none;rw[aO (neD b o e)];exact n) hb hx,
     λb o e n hx=>bs.free b o (k3 b o e) (by show upd H _ _ b=none;rw[aO (neD b o e)];exact n) hx,λb o e hx=>bs.there b o (k3 b o e) hx,
     λb xs e=>bs.tups b xs (by show upd H _ _ b=_;rw[aO (bG e hD)];exact e),λb o u e=>bs.vW b o u (by show upd H _ _ b=_;rw[aO (bG e hD)];exact e),λb ps e=>bs.yF b ps (by show upd H _ _ b=_;rw[aO (bG e hD)];exact e)]
   have I7:=I.call' (by rw[I6.os];show s3.os=s.os;rw[h3]) un I6.hok I6.bare λb hb=>#[(hf b hb).2.2.2.1,(hf b hb).2.1,(hf b hb).2.2.2.2.1,(hf b hb).2.2.2.2.2]
   obtain⟨mC,nC,_⟩:=I6.loc;exact fin _ _ H' s6 I7 #[mC,nC] (I.vZ (by rw[z3];exact ud _) I6.free) q
  ·refine fP (T.item (gi X sc N cl fp s3 _) rfl rfl rfl hc i [] s' σ' H' O7 I' (stat fr') yk go) λr s6 #[u,hr,h6]=>?_
   subst hr;refine fP h6 λ_ s7 #[x,H7,I7,r7,y7,st7,fr7]=>?_
   have back:∀{σ8:St}{H8:Hp}{s8:aL},Inv (gi X sc N cl fp s3 (upd H s.heap.objs.size (.lst []))) ([]++BP fp s7.heap) σ8 H8 s8->tn (i+1) s8.heap/\∀b∈fp,H8 b=none:=λ{σ8 H8 s8}I8=>by
    refine#[T.keep _ _ _ st7 λb hb o e=>(I8.pin (b,o) (bu _ (bu _ (pZ hb e)))).1,λb hb=>?_]
    obtain⟨o,e,d⟩:=T.obj _ _ st7 b hb;exact(I8.pin (b,o) (bu _ (bu _ (pZ hb e)))).2.1
   refine fP (hg _ _ _ _ s7 σ' H7 x u _ (I7.pinned (stat fr7) (T.obj _ _ st7)) r7 (step x H7 y7)) λ_ s8 #[σ8,H8,I8,q8]=>?_
   refine fP (ht _ _ _ _ s8 σ8 H8 _ I8 q8) λok s9 #[H9,I9,q9]=>?_
   cases ok with
   |false=>
    obtain⟨m',hm,w9⟩:=q9;exact#[m',hm,i+1,ys,σ8,H9,I9.rE,(back I9).1,(back I9).2,w9]
   |true=>
    refine fP (he _ _ _ _ s9 σ8 H9 _ I9 q9) λxv s10 #[y,H10,I10,r10,Vn,hz,m',hm,w10]=>?_
    refine fP (lq _ s10 σ8 H10 (.ref s.heap.objs.size) [y] _ [xv] (λ_ xT=>xT=upd H10 s.heap.objs.size _) I10 rfl (.cons r10 .nil) #[_,ys,y,rfl,rfl,Vn,hz,rfl]) λ_ s11 #[_,H11,I11,_,e11]=>?_
    subst e11;exact#[m',hm,i+1,_,σ8,_,I11.rE,(back I11).1,(back I11).2,w10]
 exact codeAny_compStart_list (loop _ #[_,rfl]) (T.self _ 0 _ _ _ st4 (loop _ #[_,rfl]))
theorem Pb(hc:X.calm=true)(CS:j5 X sc own cap N cl)(hi:PI X tg iter wi)(hg:∀f s3 H3,PG (gi X sc N cl f s3 H3) tg g)(ht:∀f s3 H3,WY (gi X sc N cl f s3 H3) ifs tc)(he:∀f s3 H3,PE (gi X sc N cl f s3 H3) elt te)
  (hs:KW X iter:=by intro _;rfl):PE X (.ListComp elt [#[tg,iter,ifs,0]] sc pos) (Q_ own cap wi g tc te):=by
 intro pins s σ H Q I h;refine wpAny_comprehension_free rfl hs (Ia CS.clos) CS.kind CS.loc (fP (hi pins s σ H _ I h) λv s1 h1=>fP h1 λZm s2 h2=>?_)
 obtain⟨it,fp,tn,J,H2,e,I2,T,Wk,f2,q2⟩:=h2;subst e;refine A2 hc CS I2 T Wk f2 hg ht he q2 ?_
 intro D C H' s' I' #[m,hn] fC q;exact#[m,hn,λh' sb=>#[.ref D,H',I'.turned (λb o hb e=>(sb.2 b hb).trans e) fC.1 fC.2.1 fC.2.2.2.1 fC.2.2.2.2.1 fC.2.2.2.2.2,rfl,q]]
theorem uo{px tf:Pos}(hN:X.N.Nodup)(Tw:X.N[i]?=some x)(hx:Loc X.env.scope x)(hc:X.calm=true)(CS:j5 X sc own cap N cl)(hi:PI X tg iter wi)(hg:∀f s3 H3,PG (gi X sc N cl f s3 H3) tg g)
  (ht:∀f s3 H3,WY (gi X sc N cl f s3 H3) ifs tc)(he:∀f s3 H3,PE (gi X sc N cl f s3 H3) elt te)(oA:swapsWith (.ListComp elt [#[tg,iter,ifs,0]] sc pos) (some (.Name x px)) tf.line X.env=pure true:=by rfl)
  (hs:KW X iter:=by intro _;rfl)(hf:AJ X x:=by left):
  PS X (.Assign [.Name x px] (.ListComp elt [#[tg,iter,ifs,0]] sc pos) tf) (Wf (Q_ own cap wi g tc te) (AQ i)):=by
 intro pins s σ H D I h;rw[exec_Assign_Name_used _ _ _ _ oA];refine aA (yc (aA ?_))
 refine aA (gT (wpAny_comprehension_free rfl hs (Ia CS.clos) CS.kind CS.loc
  (fP (hi pins s σ H _ I h) λv s1 h1=>fP h1 λZm s2 h2=>?_)) (λ_ s' hq=>bj (bj hq)) λ_ _ e=>e)
 obtain⟨it,fp,tn,J,H2,e,I2,T,Wk,f2,q2⟩:=h2;subst e;refine A2 hc CS I2 T Wk f2 hg ht he q2 ?_
 intro D' C H' s' I' #[m,hn] fC q;refine wpAny_assign_Name (AK I' hN Tw hx (v:=.ref D') rfl (λQ6 I'' #[a,sb,ha]=>?_) hf)
 have Vi:C≠a:=by
  rcases ha with z|z
  ·rw[z];exact fC.2.1
  ·exact λy=>fC.2.2.2.2.1 x a z y.symm
 exact#[m,hn.sameBut sb Vi,λh' sb'=>#[_,H',I''.turned (λb o hb e=>(sb'.2 b hb).trans e) fC.1 fC.2.1 fC.2.2.2.1 fC.2.2.2.2.1 fC.2.2.2.2.2,q]]
end
def Ite(K:ao)(a:aF):It:=
 #[λi H=>∃xs x,jx K H a xs/\xs[i]?=some x,λi H v H'=>∃t x,v=.ref t/\H t=none/\H'=upd H t (.tup [.int i,x])/\∀xs,jx K H a xs->xs[i]?=some x,λi H=>∃xs,jx K H a xs/\xs.length<=i]
theorem JG{k}(a e it:aF)(Vo:e≠it):Turn P w K (.Tuple elts k tp) (Ite K a) [e,it] e (λi h=>(∃old,IsEnum h e it (i:Nat) old)/\h.IsListIter it a i) where
 mem:=by simp
 obj:=λi h st b hb=>by
  obtain⟨⟨old,he⟩,⟨o,ho,c,d⟩⟩:=st;rcases ax.mp hb with z|z
  ·subst z
   exact#[_,he,λv z=>by cases z]
  ·have z':b=it:=by simpa using z
   subst z';exact#[o,ho,λv z=>by rw[d]at z;cases z]
 keep:=λi h h' st kp=>#[let#[old,he]:=st.1;#[old,kp e (by simp) _ he],st.2.at λo q=>kp it (by simp) o q]
 item:=by
  intro X hP hw hK hc i pins s σ H E I hf st hg;subst hP hw hK;obtain⟨⟨old,he⟩,hit⟩:=st;obtain⟨xs,x,hq,hx⟩:=hg;obtain⟨its,rv,p,hz⟩:=I.list hq;obtain⟨u,hu,ru⟩:=rv.get hx;refine wpAny_pyNext_enum_item he hit p.isList ↑hu Vo λh1 N6 zaY Tx hz1 W1=>?_
  refine#[_,rfl,wpAny_letOwnedTupleGo_enum N6 λh2 Pg p9=>?_]
  have elt:=aZ he;have Zx:it<s.heap.objs.size:=by obtain⟨o,ho,_⟩:=_root_.id hit;exact aZ ho
  have k2:∀b o,b∉[e,it]->s.heap.get? b=some o->h2.get? b=some o:=λb o hb q=>by
   have n1:b≠e:=λz=>hb (by simp[z])
   exact(p9.2 b n1).trans (W1 b o n1 (λz=>hb (by simp[z])) q)
  have fT:uj X pins H s.heap.objs.size:=I.vZ (aP _) I.fresh;have I3:Inv X pins σ (upd H s.heap.objs.size (.tup [.int i,x])) { s with heap:=h2,toks:=s.toks+1 }:=
   (I.sG k2 hf).track fT #[by show 2<=sizeLine;rw[du];decide,_,.cons #[_,rfl] (.cons ru .nil),#[_,(p9.2 _ (ft elt)).trans Tx,rfl,_,rfl]]
  refine#[.ref s.heap.objs.size,_,I3,rfl,#[_,x,rfl,I.fresh,rfl,λys hy=>by rw[I.yG hy hq];exact hx],#[#[_,by simpa using Pg],zaY.at λo q=>(p9.2 it Vo.symm).trans q],λb hb=>?_]
  rcases ax.mp hb with z|z
  ·subst z
   rw[aO (a7 elt)];exact(hf b hb).1
  ·have z':b=it:=by simpa using z
   subst z';rw[aO (a7 Zx)];exact(hf b hb).1
 done:=by
  intro X hP hw hK hc i pins s σ H E I hf st hg;subst hP hw hK;obtain⟨⟨old,he⟩,hit⟩:=st;obtain⟨xs,hq,hx⟩:=hg;obtain⟨its,rv,p,hz⟩:=I.list hq;have hl:=rv.length;exact wpAny_pyNext_enum_end (I.ok.hd hc) he hit p.isList (by simp;omega) λh' eb=>#[rfl,I.sG (λb o hb q=>eb b o (λz=>hb (by simp[z])) q) hf]
 self:=λ_ _ _ _ _ st h=>let#[#[_,he],_]:=st;wpAny_pyIter_enum he h
def W3(K:ao)(ta:TA):TI:=λσ H R=>ta σ H λvs H1=>∃a,vs=[.ref a]/\(∃xs,jx K H1 a xs)/\R (Ite K a) H1
theorem Ph{a:bC}{ta:TA}{k}(hg:Gl X "enumerate")(hm:X.mg "enumerate"=none)(ha:PA X [a] ta)(hs:starEach [a] X.env=[(false,eval a X.env)]:=by rfl):
  PI X (.Tuple elts k tp) (.Call (.Name "enumerate" p) [a] [] pos) (W3 X.K ta):=by
 intro pins s σ H R I h;refine Call_ (vY I hg hm boot_enumerate (iA (fP (ha pos pins s σ H _ I h) λus s1 #[vs,H1,I1,r1,q1]=>?_) hs rfl))
 obtain⟨l,e,⟨xs,hq⟩,q⟩:=q1;subst e;obtain⟨u,rfl,rx⟩:=vals1 r1;cases rx;obtain⟨its,rv,pl,hz⟩:=I1.list hq;refine call_enumerate_list pl.isList λh' he hit BU hk=>wpAny_pyIter_enum he ?_
 refine#[_,_,_,_,H1,rfl,I1.kept hk,JG l _ _ (Nat.succ_ne_self _),#[#[_,he],hit],λb hb=>?_,q]
 rcases ax.mp hb with z|z
 ·subst z
  exact I1.vZ ∅ (I1.hok.fresh ∅)
 ·have z':b=s1.heap.objs.size:=by simpa using z
  subst z';exact I1.vZ ∅ I1.fresh
def oB:Key->ae
 | .inl i=>.int i
 | .inr x=>.str x
mutual
inductive Rep(K:ao)(H:Hp):V->ae->Prop
 |non:Rep K H .non .none
 |bl (b:Bool):Rep K H (.bl b) (.bool b)
 |int (i:Int):Rep K H (.int i) (.int i)
 |str (x:Str):Rep K H (.str x) (.str x)
 |lst {a:aF} {xs:List V} {ds:List ae}:jx K H a xs->b9 K H xs ds->Rep K H (.ref a) (.list ds)
 |tup {a:aF} {xs:List V} {ds:List ae}:oH K H a xs->b9 K H xs ds->Rep K H (.ref a) (.tuple ds)
 |dct {a:aF} {kvs:List (Key×V)} {ds:List (ae×ae)}:H a=some (.dK kvs)->ds.map (·.1)=kvs.map (λp=>oB p.1)->b9 K H (kvs.map (·.2)) (ds.map (·.2))->Rep K H (.ref a) (.dict ds)
 |Tz {a:aF} {kvs:List (List Key×V)} {ds:List (ae×ae)}:H a=some (.dT kvs)->ds.map (·.1)=kvs.map (λp=>fc (p.1.map oB))->b9 K H (kvs.map (·.2)) (ds.map (·.2))->Rep K H (.ref a) (.dict ((.none,.bool true)::ds))
 |obj {a C dx:aF} {fs:List (Str×V)} {ds:List (ae×ae)}:H a=some (.ins C dx fs)->qM K C->(∀f∈fs.map (·.1),eK K C f)->ds.map (·.1)=fs.map (λp=>aS p.1)->b9 K H (fs.map (·.2)) (ds.map (·.2))->Rep K H (.ref a) (.dict ((.none,.none)::ds))
 |TB {a:aF} {o:Obj} {kvs:List (Key×V)} {ds:List (ae×ae)}:H a=some (.tM o (.dK kvs))->ds.map (·.1)=kvs.map (λp=>oB p.1)->b9 K H (kvs.map (·.2)) (ds.map (·.2))->Rep K H (.ref a) (.dict ((.none,.int 1)::ds))
 |TF {a C dx:aF} {fs:List (Str×V)} {ds:List (ae×ae)}:H a=some (.ins C dx fs)->qM K C->(∀f∈fs.map (·.1),eK K C f)->ds.map (·.1)=fs.map (λp=>aS p.1)->b9 K H (fs.map (·.2)) (ds.map (·.2))->Rep K H (.ref a) (.dict ((.bool true,.int (Int.ofNat C))::ds))
inductive b9(K:ao)(H:Hp):List V->List ae->Prop
 |nil:b9 K H [] []
 |cons {x:V} {d:ae} {xs:List V} {ds:List ae}:Rep K H x d->b9 K H xs ds->b9 K H (x::xs) (d::ds)
end
theorem cK.pG(e:cK H H')(h:oH K H a xs):oH K H' a xs:=by
 rcases h with(h|⟨o,h⟩)|h
 ·exact .inl (.inl (e _ _ h))
 ·exact .inl (.inr #[o,e _ _ h])
 ·exact .inr h
theorem Rep.mono(s:cK H H'){v:V}(r:Rep K H v d):Rep K H' v d:=
 Rep.rec .non (λb=>.bl b) (λi=>.int i) (λx=>.str x) (λh _ t=>.lst (s.seq h) t) (λh _ t=>.tup (s.pG h) t) (λh k _ t=>.dct (s _ _ h) k t) (λh k _ t=>.Tz (s _ _ h) k t) (λh c n k _ t=>.obj (s _ _ h) c n k t) (λh k _ t=>.TB (s _ _ h) k t) (λh c n k _ t=>.TF (s _ _ h) c n k t) .nil (λ_ _ a t=>.cons a t) r
theorem b9.mono(s:cK H H'):∀{ds:List ae}{xs:List V},b9 K H xs ds->b9 K H' xs ds
 | [],_,r=>by cases r;exact .nil
 |d::ds,_,r=>by cases r with|cons a t=>exact .cons (a.mono s) (b9.mono s t)
section
variable{K:ao}{H:Hp}
theorem b9.length:∀{xs:List V}{ds:List ae},b9 K H xs ds->xs.length=ds.length
 | [],_,r=>by cases r;rfl
 |x::xs,_,r=>by cases r with|cons a t=>simp[b9.length t]
theorem b9.get:∀{xs:List V}{ds:List ae}{i:Nat}{d:ae},b9 K H xs ds->ds[i]?=some d->∃x,xs[i]?=some x/\Rep K H x d
 | [],_,_,_,r,e=>by cases r;simp at e
 |x::xs,_,i,d,r,e=>by
  cases r with
  |cons a t=>
   cases i with
   |zero=>simp at e;subst e;exact#[x,rfl,a]
   |succ i=>simpa using b9.get t ↑e
theorem b9.at{ds:List ae}{x:V}(r:b9 K H xs ds)(e:ds[i]?=some d)(h:xs[i]?=some x):Rep K H x d:=by
 obtain⟨y,h1,h2⟩:=r.get e;rw[h]at h1;cases h1;exact h2
theorem b9.append:∀{xs ys:List V}{ds es:List ae},b9 K H xs ds->b9 K H ys es->b9 K H (xs++ys) (ds++es)
 | [],_,_,_,r,s=>by cases r;exact s
 |x::xs,_,_,_,r,s=>by cases r with|cons a t=>exact .cons a (b9.append t s)
theorem b9.take:∀{xs:List V}{ds:List ae}(n:Nat),b9 K H xs ds->b9 K H (xs.take n) (ds.take n)
 |_,_,0,_=>by simpa using b9.nil
 | [],_,_+1,r=>by cases r;exact .nil
 |x::xs,_,n+1,r=>by cases r with|cons a t=>exact .cons a (b9.take n t)
theorem b9.drop:∀{xs:List V}{ds:List ae}(n:Nat),b9 K H xs ds->b9 K H (xs.drop n) (ds.drop n)
 |_,_,0,r=>r
 | [],_,_+1,r=>by cases r;exact .nil
 |x::xs,_,n+1,r=>by cases r with|cons a t=>exact b9.drop n t
end
mutual
theorem jR(I:Inv X pins σ H s):∀(d:ae){v:V}{u:aD},d.canLay0=true->Rep X.K H v d->RelV v u->∃as,Reads s.heap u d as
 | .none,_,_,_,r,q=>by cases r;cases q;exact#[_,.none]
 | .bool b,_,_,_,r,q=>by cases r;cases q;exact#[_,.bool b]
 | .int i,_,_,_,r,q=>by cases r;obtain⟨t,rfl⟩:=q;exact#[_,.int i t]
 | .str x,_,_,_,r,q=>by cases r;obtain⟨t,rfl⟩:=q;exact#[_,.str x t]
 | .list ds,_,_,hc,r,q=>by
  cases r with
  |lst h t=>
   cases q;obtain⟨its,rv,⟨o,n,e,c,_,dt⟩,_⟩:=I.list h;obtain⟨as,ra⟩:=oJ I ds hc t rv;exact#[_,.list e c dt ↑ra]
 | .tuple ds,_,_,hc,r,q=>by
  cases r with
  |tup h t=>
   cases q;obtain⟨its,rv,⟨o,e,c,n,dt⟩,_⟩:=I.tuple h;obtain⟨as,ra⟩:=oJ I ds hc t rv;exact#[_,.tuple e c dt ↑ra]
 | .dict _,_,_,hc,_,_=>by cases hc
theorem oJ(I:Inv X pins σ H s):∀(ds:List ae){xs:List V}{us:List aD},oW ds=true->b9 X.K H xs ds->dI xs us->∃as,ReadsAll s.heap us ds as
 | [],_,_,_,r,q=>by cases r;cases q;exact#[_,.nil]
 |d::ds,_,_,hc,r,q=>by
  have Vj:(d.canLay0&&oW ds)=true:=hc;rw[eD]at Vj;cases r with
  |cons a t=>
   cases q with
   |cons b w=>
    obtain⟨as,h1⟩:=jR I d Vj.1 a b;obtain⟨bs,h2⟩:=oJ I ds Vj.2 t w;exact#[_,.cons h1 h2]
end
def Lay(n:Nat)(d:ae):Prop:=d.canLay0=true/\d.depth<=n
inductive Slot where
 |un
 |val (d:ae)
 |own (ds:List ae)
 |ref (a:aF)
variable{δ δ':List Slot}
structure c6(H0 H cZ H':Hp):Prop where
 big:cK H H'
 e8:cK H0 cZ
 sub:cK cZ H'
 new:∀a,cZ a≠none->H0 a≠none\/H a=none
theorem c6.refl(s:cK H0 H):c6 H0 H H0 H:=#[cK.refl _,cK.refl _,s,λ_ h=>.inl h]
theorem cK.ne(s:cK H H')(h:H a≠none):H' a≠none:=by
 cases e:H a with
 |none=>exact qQ7 e h
 |some o=>rw[s a o e];simp
theorem c6.trans{A B C D E F:Hp}(x:c6 A B C D)(y:c6 C D E F):c6 A B E F:=
 #[x.big.trans y.big,x.e8.trans y.e8,y.sub,λa h=>(y.new a h).elim (x.new a) λz=>.inr (x.big.free z)]
theorem c6.laid(s:cK H0 H){p:aF}(h:H p=none):c6 H0 H (upd H0 p o) (upd H p o):=by
 refine#[λb u e=>?_,λb u e=>?_,λb u e=>?_,λb e=>?_]
 ·rwa[aO (bG e h)]
 ·rwa[aO (bG e (s.free h))]
 ·by_cases hb:b=p
  ·subst hb;rw[bh]at e ⊢;exact e
  ·rw[aO hb]at e ⊢;exact s b u e
 ·by_cases hb:b=p
  ·subst hb;exact .inr h
  ·rw[aO hb]at e;exact .inl e
theorem c6.loose(s:cK H0 H){p:aF}(h:H p=none):c6 H0 H H0 (upd H p o):=
 #[λb u e=>by rw[aO (bG e h)];exact e,cK.refl _,λb u e=>by rw[aO (bG (s b u e) h)];exact s b u e,λ_ e=>.inl e]
def LW(K:ao)(B H0 H:Hp):Slot->Option (Option V)->Prop
 | .un,_=>True
 | .val d,o=>∃v,o=some (some v)/\Rep K H0 v d
 | .own ds,o=>∃p xs,o=some (some (.ref p))/\H p=some (.lst xs)/\H0 p=none/\B p=none/\b9 K H0 xs ds
 | .ref a,o=>o=some (some (.ref a))
structure gy(K:ao)(B0 B H0 H:Hp)(σ:St)(δ:List Slot):Prop where
 ent:c6 B0 B H0 H
 len:σ.length=δ.length
 slot:∀(i:Nat)sl,δ[i]?=some sl->LW K B H0 H sl σ[i]?
 apart:∀(i j:Nat)ds es p,i≠j->δ[i]?=some (.own ds)->δ[j]?=some (.own es)->σ[i]?=some (some (.ref p))->σ[j]?≠some (some (.ref p))
section
variable{K:ao}{B0 B H0 H cZ H':Hp}{σ:St}{δ:List Slot}
theorem gy.sub(f:gy K B0 B H0 H σ δ):cK H0 H:=f.ent.sub
theorem gy.grow(f:gy K B0 B H0 H σ δ)(g:c6 H0 H cZ H'):gy K B0 B cZ H' σ δ:=by
 refine#[f.ent.trans g,f.len,λi sl e=>?_,f.apart]
 have q:=f.slot i sl e;cases sl with
 |un=>trivial
 |ref a=>exact q
 |val d=>obtain⟨v,h1,h2⟩:=q;exact#[v,h1,h2.mono g.e8]
 |own ds=>
  obtain⟨p,xs,h1,h2,h3,h4,h5⟩:=q;refine#[p,xs,h1,g.big _ _ h2,?_,h4,h5.mono g.e8]
  cases e2:cZ p with
  |none=>rfl
  |some o=>
   rcases g.new p (by rw[e2];simp)with z|z
   ·exact qQ7 h3 z
   ·rw[h2]at z;cases z
theorem gy.val(f:gy K B0 B H0 H σ δ)(h:δ[i]?=some (.val d)):∃v,σ[i]?=some (some v)/\Rep K H0 v d:=f.slot i _ h
theorem gy.set(f:gy K B0 B H0 H σ δ){v:V}(r:Rep K H0 v d):gy K B0 B H0 H (σ.set i (some v)) (δ.set i (.val d)):=by
 refine#[f.ent,by simp[f.len],λj sl e=>?_,λj k ds es p Ib e1 e2 e3=>?_]
 ·by_cases hj:j=i
  ·subst hj
   have hl:j < δ.length:=by
    have:=(aH.mp e).1
    simpa using this
   rw[bf hl]at e
   cases e;rw[bf (by rw[f.len];exact hl)]
   exact#[v,rfl,r]
  ·rw[a9 (bT hj)]at e
   rw[a9 (bT hj)]
   exact f.slot j sl e
 ·have nj:j≠i:=λz=>by
   subst z;have hl:j < δ.length:=by simpa using(aH.mp e1).1
   rw[bf hl]at e1;cases e1
  have nk:k≠i:=λz=>by
   subst z;have hl:k < δ.length:=by simpa using(aH.mp e2).1
   rw[bf hl]at e2;cases e2
  rw[a9 (bT nj)]at e1 e3
  rw[a9 (bT nk)]at e2 ⊢
  exact f.apart j k ds es p Ib e1 e2 e3
theorem gy.B8(f:gy K B0 B H0 H σ δ){ds:List ae}{p:aF}(h1:H p=some (.lst xs))(h2:H0 p=none)(h3:B p=none)(r:b9 K H0 xs ds)(hn:∀(j:Nat)es,δ[j]?=some (.own es)->σ[j]?≠some (some (.ref p))):
  gy K B0 B H0 H (σ.set i (some (.ref p))) (δ.set i (.own ds)):=by
 refine#[f.ent,by simp[f.len],λj sl e=>?_,λj k Pj es q Ib e1 e2 e3=>?_]
 ·by_cases hj:j=i
  ·subst hj
   have hl:j < δ.length:=by simpa using(aH.mp e).1
   rw[bf hl]at e
   cases e;rw[bf (by rw[f.len];exact hl)]
   exact#[p,xs,rfl,h1,h2,h3,r]
  ·rw[a9 (bT hj)]at e
   rw[a9 (bT hj)]
   exact f.slot j sl e
 ·have hlj:j < δ.length:=by simpa using(aH.mp e1).1
  have hlk:k < δ.length:=by simpa using(aH.mp e2).1
  by_cases nj:j=i
  ·subst nj
   rw[bf (by rw[f.len];exact hlj)]at e3
   cases e3;rw[a9 Ib]at e2 ⊢
   exact hn k es e2
  ·rw[a9 (bT nj)]at e1 e3
   by_cases nk:k=i
   ·subst nk
    rw[bf (by rw[f.len];exact hlk)]
    intro z;cases z;exact hn j Pj e1 e3
   ·rw[a9 (bT nk)]at e2 ⊢
    exact f.apart j k Pj es q Ib e1 e2 e3
theorem gy.push(f:gy K B0 B H0 H σ δ){ds:List ae}{p:aF}{y:V}(hi:δ[i]?=some (.own ds))(hp:σ[i]?=some (some (.ref p)))(h1:H p=some (.lst xs))(ry:Rep K H0 y d):
  gy K B0 B H0 (upd H p (.lst (xs ++ [y]))) σ (δ.set i (.own (ds ++ [d]))):=by
 obtain⟨p',xs',e1,e2,e3,e4,e5⟩:=f.slot i _ hi;rw[hp]at e1;cases e1;rw[h1]at e2;cases e2;have hl:=(aH.mp hi).1
 refine#[#[λb u e=>?_,f.ent.e8,λb u e=>?_,f.ent.new],by simp[f.len],λj sl e=>?_,λj k Pj es q Ib a1 a2 a3=>?_]
 ·have:b≠p:=bG e e4
  rw[aO this];exact f.ent.big b u e
 ·have:b≠p:=bG e e3
  rw[aO this];exact f.ent.sub b u e
 ·by_cases hj:j=i
  ·subst hj
   rw[bf hl]at e
   cases e;exact#[p,_,hp,bh,e3,e4,e5.append (.cons ry .nil)]
  ·rw[a9 (bT hj)]at e
   have q:=f.slot j sl e;cases sl with
   |un=>trivial
   |ref a=>exact q
   |val d=>exact q
   |own Pj=>
    obtain⟨p2,xs2,g1,g2,g3,g4,g5⟩:=q;have:p2≠p:=λz=>by subst z;exact f.apart i j ds Pj p2 (bT hj) hi e hp g1
    exact#[p2,xs2,g1,by rw[aO this];exact g2,g3,g4,g5]
 ·have c1:∃Vp,δ[j]?=some (.own Vp):=by
   by_cases hj:j=i
   ·subst hj;exact#[_,hi]
   ·rw[a9 (bT hj)]at a1;exact#[_,a1]
  have c2:∃Vp,δ[k]?=some (.own Vp):=by
   by_cases hk:k=i
   ·subst hk;exact#[_,hi]
   ·rw[a9 (bT hk)]at a2;exact#[_,a2]
  obtain⟨d1,c1⟩:=c1;obtain⟨d2,c2⟩:=c2;exact f.apart j k d1 d2 q Ib c1 c2 a3
theorem gy.freeze(f:gy K B0 B H0 H σ δ){ds:List ae}{p:aF}(hi:δ[i]?=some (.own ds))(hp:σ[i]?=some (some (.ref p)))(h1:H p=some (.lst xs)):
  gy K B0 B (upd H0 p (.lst xs)) H σ (δ.set i (.val (.list ds)))/\cK H0 (upd H0 p (.lst xs)):=by
 obtain⟨p',xs',e1,e2,e3,e4,e5⟩:=f.slot i _ hi;rw[hp]at e1;cases e1;rw[h1]at e2;cases e2;have hl:=(aH.mp hi).1
 have sm:cK H0 (upd H0 p (.lst xs)):=λb u e=>by rw[aO (bG e e3)];exact e
 refine#[#[#[f.ent.big,f.ent.e8.trans sm,λb u e=>?_,λb e=>?_],by simp[f.len],λj sl e=>?_,λj k Pj es q Ib a1 a2 a3=>?_],sm]
 ·by_cases hb:b=p
  ·subst hb;rw[bh]at e;rwa[<-e]
  ·rw[aO hb]at e;exact f.ent.sub b u e
 ·by_cases hb:b=p
  ·subst hb;exact .inr e4
  ·rw[aO hb]at e;exact f.ent.new b e
 ·by_cases hj:j=i
  ·subst hj
   rw[bf hl]at e
   cases e;exact#[_,hp,.lst (jx.of bh) (e5.mono sm)]
  ·rw[a9 (bT hj)]at e
   have q:=f.slot j sl e;cases sl with
   |un=>trivial
   |ref a=>exact q
   |val d=>obtain⟨v,g1,g2⟩:=q;exact#[v,g1,g2.mono sm]
   |own Pj=>
    obtain⟨p2,xs2,g1,g2,g3,g4,g5⟩:=q;have:p2≠p:=λz=>by subst z;exact f.apart i j ds Pj p2 (bT hj) hi e hp g1
    exact#[p2,xs2,g1,g2,by rw[aO this];exact g3,g4,g5.mono sm]
 ·have nj:j≠i:=λz=>by subst z;rw[bf hl]at a1;cases a1
  have nk:k≠i:=λz=>by subst z;rw[bf hl]at a2;cases a2
  rw[a9 (bT nj)]at a1
  rw[a9 (bT nk)]at a2
  exact f.apart j k Pj es q Ib a1 a2 a3
end
def cE(X:Cx)(e:bC):TE:=λσ H Q=>∀pins s,Inv X pins σ H s->wpAny (model X.prog X.w) X.A (eval e X.env) (EP X pins σ Q) X.xe s
def cT(X:Cx)(e:bC):TT:=λσ H Q=>∀pins s,Inv X pins σ H s->wpAny (model X.prog X.w) X.A (isTrue e X.env (eval e X.env)) (TP X pins σ Q) X.xe s
def cS(X:Cx)(st:e6):TS:=λD σ H=>∀pins s,Inv X pins σ H s->wpAny (model X.prog X.w) X.A (exec st X.env) (SP X pins D) X.xe s
def w_(X:Cx)(st:List e6):TS:=λD σ H=>∀pins s,Inv X pins σ H s->wpAny (model X.prog X.w) X.A (execs st X.env) (SP X pins D) X.xe s
theorem cB:PE X e (cE X e):=λpins s _ _ _ I h=>h pins s I
theorem oC:PT X e (cT X e):=λpins s _ _ _ I h=>h pins s I
theorem LX{e:e6}:PS X e (cS X e):=λpins s _ _ _ I h=>h pins s I
theorem j7{e:List e6}:Fu X e (w_ X e):=λpins s _ _ _ I h=>h pins s I
def VE(X:Cx)(e:bC)(δ:List Slot)(d:ae):Prop:=∀B0 B σ H0 H Q,gy X.K B0 B H0 H σ δ->(∀v cZ H',c6 H0 H cZ H'->Rep X.K cZ v d->Q v H')->cE X e σ H Q
def VO(X:Cx)(e:bC)(δ:List Slot)(ds:List ae):Prop:=∀B0 B σ H0 H Q,gy X.K B0 B H0 H σ δ->
 (∀p xs cZ H',c6 H0 H cZ H'->H p=none->cZ p=none->H' p=some (.lst xs)->b9 X.K cZ xs ds->Q (.ref p) H')->cE X e σ H Q
def VT(X:Cx)(e:bC)(δ:List Slot)(b:Bool):Prop:=∀B0 B σ H0 H Q,gy X.K B0 B H0 H σ δ->(∀cZ H',c6 H0 H cZ H'->Q b H')->cT X e σ H Q
def VA(X:Cx)(es:List bC)(δ:List Slot)(ds:List ae):Prop:=∃t,PA X es t/\∀B0 B σ H0 H Q,gy X.K B0 B H0 H σ δ->(∀vs cZ H',c6 H0 H cZ H'->b9 X.K cZ vs ds->Q vs H')->t σ H Q
theorem VE.of{t:TE}(h:PE X e t)(q:∀B0 B σ H0 H Q,gy X.K B0 B H0 H σ δ->(∀v cZ H',c6 H0 H cZ H'->Rep X.K cZ v d->Q v H')->t σ H Q):VE X e δ d:=
 λB0 B σ H0 H Q f k pins s I=>h pins s σ H Q I (q B0 B σ H0 H Q f k)
theorem VO.of{ds:List ae}{t:TE}(h:PE X e t)(q:∀B0 B σ H0 H Q,gy X.K B0 B H0 H σ δ->
  (∀p xs cZ H',c6 H0 H cZ H'->H p=none->cZ p=none->H' p=some (.lst xs)->b9 X.K cZ xs ds->Q (.ref p) H')->t σ H Q):VO X e δ ds:=
 λB0 B σ H0 H Q f k pins s I=>h pins s σ H Q I (q B0 B σ H0 H Q f k)
theorem VT.of{t:TT}(h:PT X e t)(q:∀B0 B σ H0 H Q,gy X.K B0 B H0 H σ δ->(∀cZ H',c6 H0 H cZ H'->Q b H')->t σ H Q):VT X e δ b:=
 λB0 B σ H0 H Q f k pins s I=>h pins s σ H Q I (q B0 B σ H0 H Q f k)
theorem VO.ve{ds:List ae}(h:VO X e δ ds):VE X e δ (.list ds):=λB0 B σ H0 H Q f k=>h B0 B σ H0 H Q f λp xs cZ H' g h1 h2 h3 r=>by
 have sm:cK cZ (upd cZ p (.lst xs)):=λb u e=>by rw[aO (bG e h2)];exact e
 refine k _ _ H' #[g.big,g.e8.trans sm,λb u e=>?_,λb e=>?_] (.lst (jx.of bh) (r.mono sm))
 ·by_cases hb:b=p
  ·subst hb;rw[bh]at e;rwa[<-e]
  ·rw[aO hb]at e;exact g.sub b u e
 ·by_cases hb:b=p
  ·subst hb;exact .inr h1
  ·rw[aO hb]at e;exact g.new b e
def A3(K:ao)(r:R2)(d1 d2 d:ae):Prop:=∀x y H0 H Q,cK H0 H->Rep K H0 x d1->Rep K H0 y d2->(∀v cZ H',c6 H0 H cZ H'->Rep K cZ v d->Q v H')->r x y H Q
section
variable{X:Cx}{a b c e:bC}{δ:List Slot}{d d1 d2 d3:ae}{pos:Pos}
theorem aj(i:Nat)(h:δ[i]?=some (.val d))(hN:ow X i x:=by ac_rfl):VE X (.Name x pos) δ d:=
 .of (ug hN) λB0 B σ H0 H Q f k=>let#[v,h1,h2]:=f.val h;#[v,h1,k v H0 H (.refl f.sub) h2]
theorem aJ{i:Int}{j}:VE X (.Constant (.int i) j pos) δ (.int i):=.of K4 λ_ _ _ _ _ _ f k=>k _ _ _ (.refl f.sub) (.int i)
theorem xg{i:Bool}{j}:VE X (.Constant (.bool i) j pos) δ (.bool i):=.of V7 λ_ _ _ _ _ _ f k=>k _ _ _ (.refl f.sub) (.bl i)
theorem eP{j}:VE X (.Constant .none j pos) δ .none:=.of K5 λ_ _ _ _ _ _ f k=>k _ _ _ (.refl f.sub) .non
theorem bw{i:Str}{j}:VE X (.Constant (.str i) j pos) δ (.str i):=.of SM λ_ _ _ _ _ _ f k=>k _ _ _ (.refl f.sub) (.str i)
theorem two_d{r:R2}(hd:A3 X.K r d1 d2 d)(h1:VE X a δ d1)(h2:VE X b δ d2):∀B0 B σ H0 H Q,gy X.K B0 B H0 H σ δ->(∀v cZ H',c6 H0 H cZ H'->Rep X.K cZ v d->Q v H')->Wm r (cE X a) (cE X b) σ H Q:=λB0 B σ H0 H Q f k=>
 h1 B0 B σ H0 H _ f λv H1 cV g1 r1=>h2 B0 B σ H1 cV _ (f.grow g1) λu H2 fS g2 r2=>hd v u H2 fS Q g2.sub (r1.mono g2.e8) r2 λw H3 xU g3 r3=>k w H3 xU ((g1.trans g2).trans g3) r3
theorem uq{op:Operator}{r:R2}(ho:rg X (binaryOp op) r)(hd:A3 X.K r d1 d2 d)(h1:VE X a δ d1)(h2:VE X b δ d2):VE X (.BinOp a op b pos) δ d:=.of (Dr ho cB cB) (two_d hd h1 h2)
theorem mM{r:R2}(ho:rg X (compareOp op) r)(hd:A3 X.K r d1 d2 d)(h1:VE X a δ d1)(h2:VE X b δ d2)(hm:behindInMarks op b=false):VE X (.Compare a [op] [b] pos) δ d:=.of (HQ ho cB cB hm) (two_d hd h1 h2)
theorem fY{r:R2}{k:Bool}(ho:rg X (compareOp op) r)(hd:A3 X.K r d1 d2 (.bool k))(h1:VE X a δ d1)(h2:VE X b δ d2)(hm:behindInMarks op b=false):VT X (.Compare a [op] [b] pos) δ k:=
 .of (HR ho cB cB hm) λB0 B σ H0 H Q f q=>two_d hd h1 h2 B0 B σ H0 H _ f λv cZ H' g r=>by cases r;exact#[_,rfl,q cZ H' g]
theorem FY{r:R2}(ho:N8 X r)(hd:A3 X.K r d1 d2 d)(h1:VE X a δ d1)(h2:VE X b δ d2)(hs:qc b:=by intro _ _;rfl):VE X (.Subscript a b pos) δ d:=.of (Q8 ho cB cB hs) (two_d hd h1 h2)
end
theorem W4(i j:Int):A3 K (N7 λi j=>.int (g i j)) (.int i) (.int j) (.int (g i j)):=λx y H0 H Q s r1 r2 k=>by cases r1;cases r2;exact#[_,_,rfl,rfl,k _ _ _ (.refl s) (.int _)]
theorem Al{g:Int->Int->Bool}(i j:Int):A3 K (N7 λi j=>.bl (g i j)) (.int i) (.int j) (.bool (g i j)):=λx y H0 H Q s r1 r2 k=>by cases r1;cases r2;exact#[_,_,rfl,rfl,k _ _ _ (.refl s) (.bl _)]
theorem TH{C:Int->Int->Prop}(i j:Int)(h:C i j):A3 K (rI C λi j=>.int (g i j)) (.int i) (.int j) (.int (g i j)):=λx y H0 H Q s r1 r2 k=>by cases r1;cases r2;exact#[_,_,rfl,rfl,h,k _ _ _ (.refl s) (.int _)]
def TJ(K:ao)(n:Nat)(g:ae->ae->Bool):R2:=λx y H Q=>∃dx dy,Rep K H x dx/\Rep K H y dy/\Lay n dx/\Lay n dy/\Q (.bl (g dx dy)) H
theorem LY(hu:X.A.units+n+2<cLine):rg X (compareOp .Eq) (TJ X.K n λx y=>cP x y):=by
 intro pins s σ H x y v u Q I rx ry #[dx,dy,r1,r2,l1,l2,q];obtain⟨as,ra⟩:=jR I dx l1.1 r1 rx;obtain⟨bs,rb⟩:=jR I dy l2.1 r2 ry;have h1:=l1.2;exact SeqAt.compareEq_reads ra rb l1.1 l2.1 ∅ #[.bl _,H,I,rfl,q]
theorem LZ(hu:X.A.units+n+2<cLine):rg X (compareOp .NotEq) (TJ X.K n λx y=>!cP x y):=by
 intro pins s σ H x y v u Q I rx ry #[dx,dy,r1,r2,l1,l2,q];obtain⟨as,ra⟩:=jR I dx l1.1 r1 rx;obtain⟨bs,rb⟩:=jR I dy l2.1 r2 ry;have h1:=l1.2;exact SeqAt.neOverData X.prog X.w X.A X.xe s v u dx dy as bs _ ra rb l1.1 l2.1 ∅ #[.bl _,H,I,rfl,q]
def vg(d:ae):ae->Bool
 | .list xs=>xs.any λy=>cP y d
 | .tuple xs=>xs.any λy=>cP y d
 |_=>false
def DG:ae->Bool
 | .list _=>true
 | .tuple _=>true
 |_=>false
def TK(K:ao)(n:Nat)(neg:Bool):R2:=λx y H Q=>∃dx dy,Rep K H x dx/\Rep K H y dy/\DG dy=true/\Lay n dx/\Lay n dy/\Q (.bl (if neg then !vg dx dy else vg dx dy)) H
theorem L0(hu:X.A.units+n+2<cLine):rg X (compareOp .In) (TK X.K n false):=by
 intro pins s σ H x y v u Q I rx ry #[dx,dy,r1,r2,hs,l1,l2,q];obtain⟨as,ra⟩:=jR I dx l1.1 r1 rx;obtain⟨bs,rb⟩:=jR I dy l2.1 r2 ry;have h1:=l1.2;cases dy with
 |list ys=>exact SeqAt.in_list_reads rb ra l2.1 l1.1 ∅ #[.bl _,H,I,rfl,q]
 |tuple ys=>exact SeqAt.in_tuple_reads rb ra l2.1 l1.1 ∅ #[.bl _,H,I,rfl,q]
 |_=>cases hs
theorem JH(hu:X.A.units+n+2<cLine):rg X (compareOp .NotIn) (TK X.K n true):=by
 intro pins s σ H x y v u Q I rx ry #[dx,dy,r1,r2,hs,l1,l2,q];obtain⟨as,ra⟩:=jR I dx l1.1 r1 rx;obtain⟨bs,rb⟩:=jR I dy l2.1 r2 ry;have h1:=l1.2;cases dy with
 |list ys=>exact SeqAt.notIn_list_reads rb ra l2.1 l1.1 ∅ #[.bl _,H,I,rfl,q]
 |tuple ys=>exact SeqAt.notIn_tuple_reads rb ra l2.1 l1.1 ∅ #[.bl _,H,I,rfl,q]
 |_=>cases hs
theorem Ie{g:ae->ae->Bool}{d1 d2:ae}(l1:Lay n d1)(l2:Lay n d2):A3 K (TJ K n g) d1 d2 (.bool (g d1 d2)):=λx y H0 H Q s r1 r2 k=>#[d1,d2,r1.mono s,r2.mono s,l1,l2,k _ _ _ (.refl s) (.bl _)]
theorem TL{neg:Bool}{d1 d2:ae}(hs:DG d2=true)(l1:Lay n d1)(l2:Lay n d2):A3 K (TK K n neg) d1 d2 (.bool (if neg then !vg d1 d2 else vg d1 d2)):=λx y H0 H Q s r1 r2 k=>
 #[d1,d2,r1.mono s,r2.mono s,hs,l1,l2,k _ _ _ (.refl s) (.bl _)]
theorem B9:A3 K (λx y H Q=>y=.non/\Q (.bl (!decide (x=.non))) H) d .none (.bool (match d with | .none=>false|_=>true)):=λx y H0 H Q s r1 r2 k=>by
 cases r2;refine#[rfl,k _ _ _ (.refl s) ?_]
 cases r1<;>exact .bl _
theorem za0{ds:List ae}{i:Int}(h:um ds i=some d):A3 K (Zt K) (.list ds) (.int i) d:=λx y H0 H Q s r1 r2 k=>by
 cases r2;cases r1 with
 |lst hq r=>
  rename_i p xs
  unfold um at h;cases e:Q7 ds.length i with
  |none=>rw[e]at h;cases h
  |some j=>
   rw[e]at h;obtain⟨v,hv,rv⟩:=r.get h;exact .inl #[p,xs,i,v,rfl,rfl,s.seq hq,by unfold um;rw[r.length,e];exact hv,k v _ _ (.refl s) rv]
theorem W5{ds:List ae}{i:Int}(h:um ds i=some d):A3 K (Zt K) (.tuple ds) (.int i) d:=λx y H0 H Q s r1 r2 k=>by
 cases r2;cases r1 with
 |tup hq r=>
  rename_i p xs
  unfold um at h;cases e:Q7 ds.length i with
  |none=>rw[e]at h;cases h
  |some j=>
   rw[e]at h;obtain⟨v,hv,rv⟩:=r.get h;exact .inr (.inl #[p,xs,i,v,rfl,rfl,s.pG hq,by unfold um;rw[r.length,e];exact hv,k v _ _ (.refl s) rv])
def W6(K:ao):R2:=λx y H Q=>∃l b xs zs,x=.ref l/\y=.ref b/\jx K H l xs/\jx K H b zs/\xs.length+zs.length<=sizeLine/\∀p,H p=none->Q (.ref p) (upd H p (.lst (xs++zs)))
theorem Pk:rg X (binaryOp .Add) (W6 X.K):=by
 intro pins s σ H x y v u Q I rx ry h;obtain⟨l,b,xs,zs,rfl,rfl,hl,hb,hz,q⟩:=h;cases rx;cases ry;obtain⟨its,r1,⟨⟨cls,dd,data,sl⟩,n,e1,c1,_,d1⟩,z1⟩:=I.list hl;obtain⟨oy,r2,⟨⟨zaE,Zo,data2,Zq⟩,n2,e2,c2,_,d2⟩,z2⟩:=I.list hb;subst c1 d1 c2 d2;have l1:=r1.length;have l2:=r2.length;refine concat_meets #[_,e1,rfl] #[_,e2,rfl] noFill_list_add seq_list_add PySem.F.slot_list_add PySem.F.entry_list_add (PySem.F.args_list_add_2 _ _) (list_addW l b its.toArray oy.toArray n n2 dd Zo sl Zq (by rw[bL,bL];omega)) #[e1,e2,?_]
 rw[show its.toArray++oy.toArray=(its++oy).toArray by simp]
 exact#[.ref _,_,I.WK (r1.append r2) (by rw[aV];omega),rfl,q _ I.fresh]
section
variable{X:Cx}{a b c e:bC}{es:List bC}{δ:List Slot}{d d1 d2 d3:ae}{ds:List ae}{pos:Pos}{i j:Int}{k:Nat}
theorem d_(h1:VE X a δ (.int i))(h2:VE X b δ (.int j)):VE X (.BinOp a .Add b pos) δ (.int (i+j)):=uq SY (W4 i j) h1 h2
theorem TN(h1:VE X a δ (.int i))(h2:VE X b δ (.int j)):VE X (.BinOp a .Sub b pos) δ (.int (i-j)):=uq S0 (W4 i j) h1 h2
theorem ur(h1:VE X a δ (.int i))(h2:VE X b δ (.int j))(h:Ox i j):VE X (.BinOp a .Mult b pos) δ (.int (i*j)):=uq S1 (TH i j h) h1 h2
theorem cO(h1:VE X a δ (.int i))(h2:VE X b δ (.int j))(h:0<j):VE X (.BinOp a .Mod b pos) δ (.int (i%j)):=uq S2 (TH i j h) h1 h2
theorem gj(h1:VE X a δ (.int i))(h2:VE X b δ (.int j))(h:Wo i j):VE X (.BinOp a .FloorDiv b pos) δ (.int (i/j)):=uq Oy (TH i j h) h1 h2
theorem W7(h1:VE X a δ (.int i))(h2:VE X b δ (.int j)):VE X (.Compare a [.LtE] [b] pos) δ (.bool (decide (i<=j))):=mM Ds (Al i j) h1 h2 (eu _)
theorem W8(h1:VE X a δ (.int i))(h2:VE X b δ (.int j)):VE X (.Compare a [.Gt] [b] pos) δ (.bool (decide (j<i))):=mM QX (Al i j) h1 h2 (eu _)
theorem W9(h1:VE X a δ (.int i))(h2:VE X b δ (.int j)):VE X (.Compare a [.GtE] [b] pos) δ (.bool (decide (j<=i))):=mM QY (Al i j) h1 h2 (eu _)
theorem A4(h1:VE X a δ (.int i))(h2:VE X b δ (.int j)):VT X (.Compare a [.Lt] [b] pos) δ (decide (i<j)):=fY Wp (Al i j) h1 h2 (eu _)
theorem Ig(h1:VE X a δ (.int i))(h2:VE X b δ (.int j)):VT X (.Compare a [.Gt] [b] pos) δ (decide (j<i)):=fY QX (Al i j) h1 h2 (eu _)
theorem Ra(h1:VE X a δ (.int i))(h2:VE X b δ (.int j)):VT X (.Compare a [.GtE] [b] pos) δ (decide (j<=i)):=fY QY (Al i j) h1 h2 (eu _)
theorem DH(hr:dB k X.A):X.A.units+20+2<cLine:=by have:=hr.un;omega
theorem fx(hr:dB k X.A)(l1:Lay 20 d1)(l2:Lay 20 d2)(h1:VE X a δ d1)(h2:VE X b δ d2):VT X (.Compare a [.Eq] [b] pos) δ (cP d1 d2):=fY (LY (DH hr)) (Ie l1 l2) h1 h2 (eu _)
theorem oK(hr:dB k X.A)(l1:Lay 20 d1)(l2:Lay 20 d2)(h1:VE X a δ d1)(h2:VE X b δ d2):VT X (.Compare a [.NotEq] [b] pos) δ (!cP d1 d2):=fY (LZ (DH hr)) (Ie l1 l2) h1 h2 (eu _)
theorem qO(hr:dB k X.A)(l1:Lay 20 d1)(l2:Lay 20 d2)(h1:VE X a δ d1)(h2:VE X b δ d2):VE X (.Compare a [.Eq] [b] pos) δ (.bool (cP d1 d2)):=mM (LY (DH hr)) (Ie l1 l2) h1 h2 (eu _)
theorem W_(hr:dB k X.A)(hs:DG d2=true)(l1:Lay 20 d1)(l2:Lay 20 d2)(h1:VE X a δ d1)(h2:VE X b δ d2)(hm:behindInMarks .In b=false:=by with_unfolding_all rfl):VT X (.Compare a [.In] [b] pos) δ (vg d1 d2):=fY (L0 (DH hr)) (TL hs l1 l2) h1 h2 hm
theorem L1(hr:dB k X.A)(hs:DG d2=true)(l1:Lay 20 d1)(l2:Lay 20 d2)(h1:VE X a δ d1)(h2:VE X b δ d2)(hm:behindInMarks .NotIn b=false:=by with_unfolding_all rfl):VT X (.Compare a [.NotIn] [b] pos) δ (!vg d1 d2):=fY (JH (DH hr)) (TL hs l1 l2) h1 h2 hm
theorem fk(h1:VE X a δ (.list ds))(h2:VE X b δ (.int i))(h:um ds i=some d)(hs:qc b:=by intro _ _;rfl):VE X (.Subscript a b pos) δ d:=FY B1 (za0 h) h1 h2 hs
theorem dq(h1:VE X a δ (.tuple ds))(h2:VE X b δ (.int i))(h:um ds i=some d)(hs:qc b:=by intro _ _;rfl):VE X (.Subscript a b pos) δ d:=FY B1 (W5 h) h1 h2 hs
theorem vh{ds:List ae}{p0 q: Pos}{c}(i j:Nat)(h:δ[i]?=some (.val (.tuple ds)))(hj:ds[j]?=some d)(hN:ow X i x:=by ac_rfl)(hs:qc (.Constant (.int (j:Int)) c q):=by intro _ _;rfl):VE X (.Subscript (.Name x p0) (.Constant (.int (j:Int)) c q) pos) δ d:=dq (aj i h hN) aJ (cz hj) hs
theorem rK:PT X e (λ_ _ _=>False):=λ_ _ _ _ _ _ h=>h.elim
theorem lr{k:Bool}(h:VT X a δ k):VT X (.UnaryOp .Not a pos) δ (!k):=.of (K8 oC) λB0 B σ H0 H Q f q=>h B0 B σ H0 H _ f q
theorem kx(h1:VT X a δ k1)(h2:k1=true->VT X b δ k2):VT X (.BoolOp .And [a,b] pos) δ (k1&&k2):=by
 cases k1 with
 |true=>
  exact .of (pw_and oC (pw_and1 oC)).pt λB0 B σ H0 H Q f q=>h1 B0 B σ H0 H _ f λH1 cV g=>by
   exact h2 rfl B0 B σ H1 cV _ (f.grow g) λH2 fS g2=>q H2 fS (g.trans g2)
 |false=>
  exact .of (pw_and oC (pw_and1 rK)).pt λB0 B σ H0 H Q f q=>h1 B0 B σ H0 H _ f λH1 cV g=>by
   exact q H1 cV g
theorem jS(h1:VT X a δ k1)(h2:k1=false->VT X b δ k2):VT X (.BoolOp .Or [a,b] pos) δ (k1||k2):=by
 cases k1 with
 |false=>
  exact .of (pw_or oC (pw_or1 oC)).pt λB0 B σ H0 H Q f q=>h1 B0 B σ H0 H _ f λH1 cV g=>by
   exact h2 rfl B0 B σ H1 cV _ (f.grow g) λH2 fS g2=>q H2 fS (g.trans g2)
 |true=>
  exact .of (pw_or oC (pw_or1 rK)).pt λB0 B σ H0 H Q f q=>h1 B0 B σ H0 H _ f λH1 cV g=>by
   exact q H1 cV g
theorem L3{k3: Bool}(h1:VT X a δ k1)(h2:k1=false->VT X b δ k2)(h3:k1=false->k2=false->VT X c δ k3):VT X (.BoolOp .Or [a,b,c] pos) δ (k1||(k2||k3)):=by
 cases k1 with
 |true=>
  exact .of (pw_or oC (pw_or rK (pw_or1 rK))).pt λB0 B σ H0 H Q f q=>h1 B0 B σ H0 H _ f λH1 cV g=>by
   exact q H1 cV g
 |false=>
  cases k2 with
  |true=>
   exact .of (pw_or oC (pw_or oC (pw_or1 rK))).pt λB0 B σ H0 H Q f q=>h1 B0 B σ H0 H _ f λH1 cV g=>by
    exact h2 rfl B0 B σ H1 cV _ (f.grow g) λH2 fS g2=>(q H2 fS (g.trans g2))
  |false=>
   exact .of (pw_or oC (pw_or oC (pw_or1 oC))).pt λB0 B σ H0 H Q f q=>h1 B0 B σ H0 H _ f λH1 cV g=>by
    exact h2 rfl B0 B σ H1 cV _ (f.grow g) λH2 fS g2=>(h3 rfl rfl B0 B σ H2 fS _ ((f.grow g).grow g2) λH3 xU g3=>q H3 xU ((g.trans g2).trans g3))
def za1:ae->Option Bool
 | .none=>some false
 | .bool b=>some b
 | .int i=>some (i != 0)
 | .list ds=>some (!ds.isEmpty)
 | .tuple ds=>some (!ds.isEmpty)
 |_=>none
theorem b9.empty{ds:List ae}(r:b9 K H xs ds):xs.isEmpty=ds.isEmpty:=by cases r<;>rfl
theorem eQ{t:Bool}(h:VE X a δ d)(ht:za1 d=some t)(he:∀whole,isTrue a X.env whole=(do let v <-whole;standAt a.pos;holding [v] (truthy v)):=by intro _;rfl):VT X a δ t:=
 .of (Ld cB he) λB0 B σ H0 H Q f q=>h B0 B σ H0 H _ f λv H1 cV g r=>by
  refine#[t,?_,q H1 cV g]
  cases r with
  |non=>cases ht;exact(rfl:false=false)
  |bl b=>cases ht;exact(rfl:t=t)
  |int i=>cases ht;exact(rfl:(i != 0)=(i != 0))
  |str x=>cases ht
  |lst hq r=>cases ht;exact .inl #[_,g.sub.seq hq,by rw[r.empty]]
  |tup hq r=>cases ht;exact .inr (.inl #[_,g.sub.pG hq,by rw[r.empty]])
  |dct _ _ _=>cases ht
  |Tz _ _ _=>cases ht
  |obj _ _ _ _ _=>cases ht
  |TF _ _ _ _ _=>cases ht
  |TB _ _ _=>cases ht
theorem wa{k:Bool}(h:VT X c δ k)(h1:k=true->VE X a δ d)(h2:k=false->VE X b δ d):VE X (.IfExp c a b pos) δ d:=
 .of (K_ oC cB cB) λB0 B σ H0 H Q f q=>h B0 B σ H0 H _ f λH1 cV g=>by
  cases k with
  |true=>
   exact h1 rfl B0 B σ H1 cV _ (f.grow g) λv H2 fS g2 r=>q v H2 fS (g.trans g2) r
  |false=>
   exact h2 rfl B0 B σ H1 cV _ (f.grow g) λv H2 fS g2 r=>q v H2 fS (g.trans g2) r
theorem aU:VA X [] δ []:=#[_,eV,λ_ _ _ _ _ _ f q=>q _ _ _ (.refl f.sub) .nil]
theorem aq(h:VE X e δ d)(hr:VA X es δ ds)(hs:kO X e es:=by rfl):VA X (e::es) δ (d::ds):=by
 obtain⟨t,p,ht⟩:=hr;exact#[_,cY cB p hs,λB0 B σ H0 H Q f q=>h B0 B σ H0 H _ f λv H1 cV g r=>ht B0 B σ H1 cV _ (f.grow g) λvs H2 fS g2 rs=>q _ _ _ (g.trans g2) (.cons (r.mono g2.e8) rs)]
theorem e9{x1}(h:VA X es δ ds)(hz:ds.length<=sizeLine:=by(simp only[dC];rw[du];decide)):VE X (.Tuple es x1 pos) δ (.tuple ds):=by
 obtain⟨t,p,ht⟩:=h;exact .of (FL p) λB0 B σ H0 H Q f q=>ht B0 B σ H0 H _ f λvs H1 cV g r=>#[by rw[r.length];exact hz,λa ha=>q _ _ _ (g.trans (.laid g.sub ha)) (.tup (oH.of bh) (r.mono (c6.laid g.sub ha).e8))]
theorem fE(h:VA X es δ ds)(hz:ds.length<=sizeLine:=by(simp only[dC];rw[du];decide)):VO X (.List es pos) δ ds:=by
 obtain⟨t,p,ht⟩:=h;exact .of (BW p) λB0 B σ H0 H Q f q=>ht B0 B σ H0 H _ f λvs H1 cV g r=>#[by rw[r.length];exact hz,λa ha=>q a vs H1 _ (g.trans (.loose g.sub ha)) (g.big.free ha) (g.sub.free ha) bh r]
def cutD{α:Type}(xs:List α)(lo hi:Option Int):List α:=(xs.drop (HT.oI xs.length 0 lo)).take (HT.oI xs.length xs.length hi-HT.oI xs.length 0 lo)
theorem b9.cut(r:b9 K H xs ds)(lo hi:Option Int):b9 K H (Jx xs lo hi) (cutD ds lo hi):=by
 unfold Jx cutD;rw[r.length];exact(r.drop _).take _
inductive tQ(X:Cx)(δ:List Slot):Option bC->Option Int->Prop
 |no:tQ X δ none none
 |yes {e:bC} {i:Int}:VE X e δ (.int i)->tQ X δ (some e) (some i)
theorem tQ.ok{o:Option bC}{p:Option Int}(h:tQ X δ o p):∃t,PO X o t/\∀B0 B σ H0 H Q,gy X.K B0 B H0 H σ δ->(∀cZ H',c6 H0 H cZ H'->Q p H')->t σ H Q:=by
 cases h with
 |no=>exact#[_,OO,λ_ _ _ _ _ _ f q=>q _ _ (.refl f.sub)]
 |yes h=>exact#[_,OQ cB,λB0 B σ H0 H Q f q=>h B0 B σ H0 H _ f λv H1 cV g r=>by cases r;exact#[_,rfl,q _ _ g]]
theorem jh{lo hi:Option bC}{l u:Option Int}(h:VE X a δ (.list ds))(hl:tQ X δ lo l)(hh:tQ X δ hi u):VO X (.Subscript a (.Slice lo hi none p2) pos) δ (cutD ds l u):=by
 obtain⟨tl,pl,ql⟩:=hl.ok;obtain⟨th,ph,qh⟩:=hh.ok;refine .of (yN OW cB pl ph) λB0 B σ H0 H Q f q=>h B0 B σ H0 H _ f λv H1 cV g r=>ql B0 B σ H1 cV _ (f.grow g) λH2 fS g2=>qh B0 B σ H2 fS _ ((f.grow g).grow g2) λH3 xU g3=>?_
 cases r with
 |lst hq r=>
  refine#[_,_,rfl,g3.sub.seq ((g2.e8.trans g3.e8).seq hq),λp hp=>?_]
  have gg:=(g.trans g2).trans g3;exact q p _ H3 _ (gg.trans (.loose g3.sub hp)) (gg.big.free hp) (g3.sub.free hp) bh ((r.mono (g2.e8.trans g3.e8)).cut l u)
theorem wc{lo hi:Option bC}{l u:Option Int}(h:VE X a δ (.tuple ds))(hl:tQ X δ lo l)(hh:tQ X δ hi u)(hw:¬(HT.oI ds.length 0 l=0/\HT.oI ds.length ds.length u=ds.length)):
  VE X (.Subscript a (.Slice lo hi none p2) pos) δ (.tuple (cutD ds l u)):=by
 obtain⟨tl,pl,ql⟩:=hl.ok;obtain⟨th,ph,qh⟩:=hh.ok;refine .of (yN S8 cB pl ph) λB0 B σ H0 H Q f q=>h B0 B σ H0 H _ f λv H1 cV g r=>ql B0 B σ H1 cV _ (f.grow g) λH2 fS g2=>qh B0 B σ H2 fS _ ((f.grow g).grow g2) λH3 xU g3=>?_
 cases r with
 |tup hq r=>
  exact#[_,_,rfl,g3.sub.pG ((g2.e8.trans g3.e8).pG hq),by rw[r.length];exact hw,λp hp=>(q _ _ _ (((g.trans g2).trans g3).trans (.laid g3.sub hp)) (.tup (oH.of bh) (((r.mono (g2.e8.trans g3.e8)).cut l u).mono (c6.laid g3.sub hp).e8)))]
def nR(K:ao)(r:List V->Hp->VK->Prop)(ds:List ae)(d:ae):Prop:=∀vs H0 H Q,cK H0 H->b9 K H0 vs ds->(∀v cZ H',c6 H0 H cZ H'->Rep K cZ v d->Q v H')->r vs H Q
def xh(K:ao)(r:List V->Hp->VK->Prop)(ds es:List ae):Prop:=∀vs H0 H Q,cK H0 H->b9 K H0 vs ds->
 (∀p xs cZ H',c6 H0 H cZ H'->H p=none->cZ p=none->H' p=some (.lst xs)->b9 K cZ xs es->Q (.ref p) H')->r vs H Q
theorem ji(hc:g8 X (.builtin id) r)(hd:nR X.K r ds d)(ha:VA X (e::es) δ ds)(hm:X.mg x=none)(hv:bootBuiltins x=some (.builtin id))(hg:Gl X x:=by rfl)(hn:x≠"__name__":=by decide)(sZ:vX x:=by decide)
  (he:kO X e es:=by rfl)(mX:rC X pos es:=by rfl):VE X (.Call (.Name x p) (e::es) [] pos) δ d:=by
 obtain⟨t,pa,ht⟩:=ha;exact .of (rG hc hg hm hv pa hn sZ he mX) λB0 B σ H0 H Q f q=>ht B0 B σ H0 H _ f λvs H1 cV g r=>hd vs H1 cV Q g.sub r λv H2 fS g2 r2=>q v H2 fS (g.trans g2) r2
theorem yR(hc:g8 X (.builtin id) r)(hd:xh X.K r ds zs)(ha:VA X (e::es) δ ds)(hm:X.mg x=none)(hv:bootBuiltins x=some (.builtin id))(hg:Gl X x:=by rfl)(hn:x≠"__name__":=by decide)(sZ:vX x:=by decide)
  (he:kO X e es:=by rfl)(mX:rC X pos es:=by rfl):VO X (.Call (.Name x p) (e::es) [] pos) δ zs:=by
 obtain⟨t,pa,ht⟩:=ha;exact .of (rG hc hg hm hv pa hn sZ he mX) λB0 B σ H0 H Q f q=>ht B0 B σ H0 H _ f λvs H1 cV g r=>hd vs H1 cV Q g.sub r λv xs H2 fS g2 a1 a2 a3 a4=>q v xs H2 fS (g.trans g2) (g.big.free a1) a2 a3 a4
theorem jC(hc:g8 X (.type id) r)(hd:nR X.K r ds d)(ha:VA X (e::es) δ ds)(hm:X.mg x=none)(hv:bootBuiltins x=some (.type id))(hg:Gl X x:=by rfl)(hn:x≠"__name__":=by decide)(sZ:vX x:=by decide)
  (he:kO X e es:=by rfl)(mX:rC X pos es:=by rfl):VE X (.Call (.Name x p) (e::es) [] pos) δ d:=by
 obtain⟨t,pa,ht⟩:=ha;exact .of (sE hc hg hm hv pa hn sZ he mX) λB0 B σ H0 H Q f q=>ht B0 B σ H0 H _ f λvs H1 cV g r=>hd vs H1 cV Q g.sub r λv H2 fS g2 r2=>q v H2 fS (g.trans g2) r2
theorem lu(hc:g8 X (.type id) r)(hd:xh X.K r ds zs)(ha:VA X (e::es) δ ds)(hm:X.mg x=none)(hv:bootBuiltins x=some (.type id))(hg:Gl X x:=by rfl)(hn:x≠"__name__":=by decide)(sZ:vX x:=by decide)
  (he:kO X e es:=by rfl)(mX:rC X pos es:=by rfl):VO X (.Call (.Name x p) (e::es) [] pos) δ zs:=by
 obtain⟨t,pa,ht⟩:=ha;exact .of (sE hc hg hm hv pa hn sZ he mX) λB0 B σ H0 H Q f q=>ht B0 B σ H0 H _ f λvs H1 cV g r=>hd vs H1 cV Q g.sub r λv xs H2 fS g2 a1 a2 a3 a4=>q v xs H2 fS (g.trans g2) (g.big.free a1) a2 a3 a4
theorem b9.one(r:b9 K H vs [d]):∃v,vs=[v]/\Rep K H v d:=by
 cases r with|cons a t=>cases t;exact#[_,rfl,a]
theorem b9.two(r:b9 K H vs [d1,d2]):∃v w,vs=[v,w]/\Rep K H v d1/\Rep K H w d2:=by
 cases r with|cons a t=>cases t with|cons b t=>cases t;exact#[_,_,rfl,a,b]
theorem W':nR K (λxs H Q=>∃p ys,xs=[.ref p]/\(jx K H p ys\/oH K H p ys)/\Q (.int ys.length) H) [.list ds] (.int ds.length):=λvs H0 H Q s r k=>by
 obtain⟨v,rfl,r1⟩:=r.one;cases r1 with|lst hq r=>exact#[_,_,rfl,.inl (s.seq hq),k _ _ _ (.refl s) (by rw[r.length];exact .int _)]
theorem TQ:nR K (λxs H Q=>∃p ys,xs=[.ref p]/\(jx K H p ys\/oH K H p ys)/\Q (.int ys.length) H) [.tuple ds] (.int ds.length):=λvs H0 H Q s r k=>by
 obtain⟨v,rfl,r1⟩:=r.one;cases r1 with|tup hq r=>exact#[_,_,rfl,.inr (s.pG hq),k _ _ _ (.refl s) (by rw[r.length];exact .int _)]
theorem L4:xh K (λxs H Q=>∃p ys,xs=[.ref p]/\(jx K H p ys\/oH K H p ys)/\∀l,H l=none->Q (.ref l) (upd H l (.lst ys))) [.list ds] ds:=λvs H0 H Q s r k=>by
 obtain⟨v,rfl,r1⟩:=r.one;cases r1 with|lst hq r=>exact#[_,_,rfl,.inl (s.seq hq),λl hl=>k l _ H0 _ (.loose s hl) hl (s.free hl) bh r]
theorem yn:nR K (λxs H Q=>∃p ys,xs=[.ref p]/\((jx K H p ys/\∀l,H l=none->Q (.ref l) (upd H l (.tup ys)))\/(oH K H p ys/\Q (.ref p) H))) [.list ds] (.tuple ds):=λvs H0 H Q s r k=>by
 obtain⟨v,rfl,r1⟩:=r.one;cases r1 with|lst hq r=>exact#[_,_,rfl,.inl #[s.seq hq,λl hl=>k _ _ _ (.laid s hl) (.tup (oH.of bh) (r.mono (c6.laid s hl).e8))]]
theorem ie(h:VE X a δ (.list ds))(hm:X.mg "len"=none)(hg:Gl X "len":=by rfl)(hs:kO X a []:=by rfl):VE X (.Call (.Name "len" p) [a] [] pos) δ (.int ds.length):=ji u6 W' (aq h aU hs) hm sY hg (he:=hs)
theorem ky(h:VE X a δ (.tuple ds))(hm:X.mg "len"=none)(hg:Gl X "len":=by rfl)(hs:kO X a []:=by rfl):VE X (.Call (.Name "len" p) [a] [] pos) δ (.int ds.length):=ji u6 TQ (aq h aU hs) hm sY hg (he:=hs)
theorem mN{d1 d2:List ae}(h1:VE X a δ (.list d1))(h2:VE X b δ (.list d2))(hz:d1.length+d2.length<=sizeLine):VO X (.BinOp a .Add b pos) δ (d1++d2):=by
 refine .of (Dr Pk cB cB) λB0 B σ H0 H Q f q=>h1 B0 B σ H0 H _ f λv H1 cV g1 r1=>h2 B0 B σ H1 cV _ (f.grow g1) λu H2 fS g2 r2=>?_
 cases r1 with
 |lst hq r1=>
  cases r2 with
  |lst Fb r2=>
   have gg:=g1.trans g2;exact#[_,_,_,_,rfl,rfl,g2.sub.seq (g2.e8.seq hq),g2.sub.seq Fb,by rw[r1.length,r2.length];exact hz,λp hp=>(q p _ H2 _ (gg.trans (.loose g2.sub hp)) (gg.big.free hp) (g2.sub.free hp) bh ((r1.mono g2.e8).append r2))]
end
inductive FZ where
 |one (i:Nat)
 |tup (is:List Nat)
variable{tgt:FZ}
def F0:List Nat->QV
 | []=>Wb
 |i::r=>QW (AQ i) (F0 r)
def L5(K:ao):FZ->TG
 | .one i=>AQ i
 | .tup is=>Wc K is.length (F0 is)
def qf:List Nat->List ae->List Slot->List Slot
 |i::r,d::ds,δ=>qf r ds (δ.set i (.val d))
 |_,_,δ=>δ
def Am:FZ->ae->List Slot->Option (List Slot)
 | .one i,d,δ=>some (δ.set i (.val d))
 | .tup is,.tuple ds,δ=>if ds.length=is.length then some (qf is ds δ)else none
 |_,_,_=>none
section
variable{K:ao}{B0 B H0 H:Hp}
theorem DJ:∀{is:List Nat}{xs:List V}{ds:List ae}{σ:St}{δ:List Slot}{Q:St->Hp->Prop},gy K B0 B H0 H σ δ->b9 K H0 xs ds->ds.length=is.length->(∀σ',gy K B0 B H0 H σ' (qf is ds δ)->Q σ' H)->F0 is xs σ H Q
 | [],xs,ds,σ,δ,Q,f,r,hl,q=>by
  have:ds=[]:=mV hl;subst this;cases r;exact#[rfl,q σ f]
 |i::is,xs,ds,σ,δ,Q,f,r,hl,q=>by
  cases r with
  |nil=>cases hl
  |cons a t=>exact#[_,_,rfl,DJ (f.set a) t ↑hl q]
theorem wg{v:V}{Q:St->Hp->Prop}(f:gy K B0 B H0 H σ δ)(r:Rep K H0 v d)(h:Am tgt d δ=some δ')(q:∀σ',gy K B0 B H0 H σ' δ'->Q σ' H):L5 K tgt v σ H Q:=by
 cases tgt with
 |one i=>cases h;exact q _ (f.set r)
 |tup is=>
  cases r with
  |tup hq r=>
   rename_i ds
   have h':(if ds.length=is.length then some (qf is ds δ)else none)=some δ':=h
   by_cases hl:ds.length=is.length
   ·rw[qQ3 hl]at h'
    cases h';exact#[_,_,rfl,f.sub.pG hq,by rw[r.length,hl],DJ f r hl q]
   ·rw[qQ2 hl]at h';cases h'
  |_=>cases h
end
def ItD(K:ao)(J:It)(H0:Hp)(ds:List ae):Prop:=∀cZ H',cK H0 cZ->cK cZ H'->∀i,(i<ds.length->J.go i H')/\(ds.length<=i->J.stop i H')/\
 ∀x xT d,ds[i]?=some d->J.Wh i H' x xT->∃Xa,c6 cZ H' Xa xT/\Rep K Xa x d
def VI(X:Cx)(tg iter:bC)(δ:List Slot)(ds:List ae):Prop:=∃wi,PI X tg iter wi/\∀B0 B σ H0 H R,gy X.K B0 B H0 H σ δ->(∀J cZ H',c6 H0 H cZ H'->ItD X.K J cZ ds->R J H')->wi σ H R
def DK(ds:List ae):List ae:=ds.zipIdx.map λp=>.tuple [.int p.2,p.1]
theorem dw(ds:List ae):(DK ds).length=ds.length:=by simp[DK]
theorem jD{ds:List ae}(h:(DK ds)[i]?=some d):∃x,ds[i]?=some x/\d=.tuple [.int i,x]:=by
 unfold DK at h;rw[aG,jH]at h
 cases e:ds[i]? with
 |none=>rw[e]at h;simp at h
 |some x=>rw[e]at h;simp at h;exact#[x,rfl,h.symm]
def ik(n:Nat):List ae:=(aX n).map λ(i:Nat)=>.int (i:Int)
section
variable{X:Cx}{tg a b:bC}{δ:List Slot}{ds:List ae}{pos:Pos}
theorem dY(h:VE X a δ (.list ds)):VI X tg a δ ds:=#[_,HP cB,λB0 B σ H0 H R f q=>h B0 B σ H0 H _ f λv H1 cV g r=>by
 cases r with
 |lst hq r=>
  refine#[_,rfl,#[_,g.sub.seq hq],q _ H1 cV g λHa Hb s1 s2 i=>?_]
  have hl:=r.length;have hS:=(s1.trans s2).seq hq;refine#[λhi=>?_,λhi=>#[_,hS,∅],λx xT d hd #[e,y]=>?_]
  ·obtain⟨x,hx,_⟩:=r.get (i:=i) (d:=ds[i]) (by simp[hi])
   exact#[_,x,hS,hx]
  ·subst e
   exact#[Ha,.refl s2,(r.mono s1).at hd (y _ hS)]]
theorem yS(h:VE X a δ (.tuple ds)):VI X tg a δ ds:=#[_,SW cB,λB0 B σ H0 H R f q=>h B0 B σ H0 H _ f λv H1 cV g r=>by
 cases r with
 |tup hq r=>
  refine#[_,rfl,#[_,g.sub.pG hq],q _ H1 cV g λHa Hb s1 s2 i=>?_]
  have hl:=r.length;have hS:=(s1.trans s2).pG hq;refine#[λhi=>?_,λhi=>#[_,hS,∅],λx xT d hd #[e,y]=>?_]
  ·obtain⟨x,hx,_⟩:=r.get (i:=i) (d:=ds[i]) (by simp[hi])
   exact#[_,x,hS,hx]
  ·subst e
   exact#[Ha,.refl s2,(r.mono s1).at hd (y _ hS)]]
theorem nS{n:Int}(h:VE X a δ (.int n))(hm:X.mg "range"=none)(h1:-(2^62)<=n)(h2:n<2^62)(hg:Gl X "range":=by rfl)(hs:starEach [a] X.env=[(false,eval a X.env)]:=by rfl):VI X tg (.Call (.Name "range" p) [a] [] pos) δ (ik n.toNat):=
 #[_,Jm hg hm (cY cB eV hs) hs,λB0 B σ H0 H R f q=>h B0 B σ H0 H _ f λv H1 cV g r=>by
  cases r;refine#[n,rfl,h1,h2,q _ H1 cV g λHa Hb s1 s2 i=>#[λhi=>(show i<n.toNat from by simpa[ik]using hi),λhi=>(show n.toNat<=i from by simpa[ik]using hi),λx xT d hd #[e,y]=>?_]]
  subst e;subst y;unfold ik at hd;rw[aG]at hd
  have hi:i<n.toNat:=by
   rcases lb i n.toNat with z|z
   ·exact z
   ·rw[eO ↑z]at hd;cases hd
  rw[fu hi]at hd
  cases hd;exact#[Ha,.refl s2,by rw[Int.zero_add];exact .int _]]
theorem oM{k}(h:VE X a δ (.list ds))(hm:X.mg "enumerate"=none)(hg:Gl X "enumerate":=by rfl)(hs:starEach [a] X.env=[(false,eval a X.env)]:=by rfl):VI X (.Tuple elts k tp) (.Call (.Name "enumerate" p) [a] [] pos) δ (DK ds):=
 #[_,Ph hg hm (cY cB eV hs) hs,λB0 B σ H0 H R f q=>h B0 B σ H0 H _ f λv H1 cV g r=>by
  cases r with
  |lst hq r=>
   refine#[_,rfl,#[_,g.sub.seq hq],q _ H1 cV g λHa Hb s1 s2 i=>?_]
   have hl:=r.length;have hS:=(s1.trans s2).seq hq;refine#[λhi=>?_,λhi=>#[_,hS,by rw[dw]at hi;omega],λx xT d hd #[t,y,e1,e2,e3,e4]=>?_]
   ·rw[dw]at hi
    obtain⟨x,hx,_⟩:=r.get (i:=i) (d:=ds[i]) (by simp[hi])
    exact#[_,x,hS,hx]
   ·obtain⟨z,hz,rfl⟩:=jD hd
    subst e1;subst e3;refine#[_,.laid s2 e2,.tup (oH.of bh) (.cons (.int _) (.cons ?_ .nil))]
    exact((r.mono s1).at hz (e4 _ hS)).mono (c6.laid s2 e2).e8]
end
def cTs(X:Cx)(ifs:List bC):TT:=λσ H Q=>∀pins s,Inv X pins σ H s->wpAny (model X.prog X.w) X.A (testsOf ifs X.env) (TP X pins σ Q) X.xe s
def N_(X:Cx)(ifs:List bC)(δ:List Slot)(b:Bool):Prop:=∀B0 B σ H0 H Q,gy X.K B0 B H0 H σ δ->(∀cZ H',c6 H0 H cZ H'->Q b H')->cTs X ifs σ H Q
theorem m_:N_ X [] δ true:=λ_ _ _ _ _ _ f q pins s I=>O_ pins s _ _ _ I (q _ _ (.refl f.sub))
theorem ng{c:bC}(h:VT X c δ b):N_ X [c] δ b:=λB0 B σ H0 H Q f q pins s I=>Pa oC pins s σ H Q I (h B0 B σ H0 H Q f q)
def Xb:Slot->Slot
 | .val d=>.val d
 |_=>.un
def nT(own:List Str)(cap:List Nat)(δ:List Slot):List Slot:=aY own.length .un++cap.map λi=>Xb (δ.getD i .un)
section
variable{K:ao}{B0 B H0 H:Hp}{σ:St}{δ:List Slot}
theorem gy.comp(f:gy K B0 B H0 H σ δ)(own:List Str)(cap:List Nat):gy K B0 B H0 H (oY own cap σ) (nT own cap δ):=by
 have noOwn:∀(i:Nat)ds,(nT own cap δ)[i]?≠some (.own ds):=λi ds e=>by
  unfold nT at e;by_cases hi:i<own.length
  ·rw[bX ↑hi,dM]at e
   split at e<;>cases e
  ·rw[bS ↑(gE hi),aG]at e
   cases q:cap[i-(aY own.length Slot.un).length]? with
   |none=>rw[q]at e;cases e
   |some j=>
    rw[q]at e;simp only[jW,gF]at e
    revert e
    cases δ.getD j .un<;>(intro e;cases e)
 refine#[f.ent,by simp[oY,nT],λi sl e=>?_,λi j ds es p _ a1=>qQ7 a1 (noOwn i ds)]
 unfold nT at e;unfold oY;by_cases hi:i<own.length
 ·rw[bX ↑hi,dM]at e
  split at e<;>cases e<;>trivial
 ·rw[bS ↑(gE hi),aG,cU]at e
  rw[bS ↑(gE hi),aG,cU]
  cases q:cap[i-own.length]? with
  |none=>rw[q]at e;cases e
  |some j=>
   rw[q]at e;simp only[jW,gF]at e ⊢;cases w:δ[j]? with
   |none=>rw[aI,w]at e;subst e;trivial
   |some V4=>
    rw[aI,w]at e
    cases V4 with
    |un=>subst e;trivial
    |ref a=>subst e;trivial
    |own ds=>subst e;trivial
    |val d=>
     subst e;obtain⟨v,h1,h2⟩:=f.slot j _ w;exact#[v,by rw[aI,h1];rfl,h2]
theorem gy.forget(f:gy K B0 B H0 H σ δ)(hl:δ'.length=δ.length)(h:∀(i:Nat)sl,δ'[i]?=some sl->sl=.un\/δ[i]?=some sl):gy K B0 B H0 H σ δ':=by
 refine#[f.ent,by rw[hl];exact f.len,λi sl e=>?_,λi j ds es p yj a1 a2 a3=>?_]
 ·rcases h i sl e with rfl|z
  ·trivial
  ·exact f.slot i sl z
 ·rcases h i _ a1 with z|z
  ·cases z
  ·rcases h j _ a2 with y|y
   ·cases y
   ·exact f.apart i j ds es p yj z y a3
theorem gy.touch{D:aF}(f:gy K B0 B H0 H σ δ)(h0:H0 D=none)(hB:B D=none)(hn:∀(i:Nat)ds,δ[i]?≠some (.own ds)):gy K B0 B H0 (upd H D o) σ δ:=by
 refine#[#[λb u e=>by rw[aO (bG e hB)];exact f.ent.big b u e,f.ent.e8,λb u e=>by rw[aO (bG e h0)];exact f.ent.sub b u e,f.ent.new],f.len,λi sl e=>?_,f.apart]
 have q:=f.slot i sl e;cases sl with
 |un=>trivial
 |ref a=>exact q
 |val d=>exact q
 |own ds=>exact qQ7 e (hn i ds)
end
theorem tR:∀(is:List Nat)(ds:List ae)(δ:List Slot),(qf is ds δ).length=δ.length
 | [],_,_=>rfl
 |_::_,[],_=>rfl
 |i::is,d::ds,δ=>by
  show(qf is ds (δ.set i _)).length=_
  rw[tR];simp
theorem yT:∀(is:List Nat)(ds:List ae)(δ:List Slot)(j:Nat),j∉is->(qf is ds δ)[j]?=δ[j]?
 | [],_,_,_,_=>rfl
 |_::_,[],_,_,_=>rfl
 |i::is,d::ds,δ,j,h=>by
  show(qf is ds (δ.set i _))[j]?=_
  rw[yT is ds _ j λz=>h (aT _ z),a9 (λ(z:i=j)=>h (by rw[z];exact aM))]
def yU(n:Nat):FZ->Bool
 | .one i=>decide (i<n)
 | .tup is=>is.all λi=>decide (i<n)
theorem comp_back(ht:yU own.length tgt=true)(h:Am tgt d (nT own cap δ)=some δ'):
  δ'.length=(nT own cap δ).length/\∀(i:Nat)sl,(nT own cap δ)[i]?=some sl->sl=.un\/δ'[i]?=some sl:=by
 have low:∀(i:Nat)sl,i<own.length->(nT own cap δ)[i]?=some sl->sl=.un:=λi sl hi e=>by
  unfold nT at e;rw[bX ↑hi,dM]at e
  split at e<;>cases e<;>rfl
 cases tgt with
 |one i=>
  cases h;refine#[by simp,λj sl e=>?_]
  have hi:i<own.length:=by simpa[yU]using ht
  by_cases hj:j<own.length
  ·exact .inl (low j sl hj e)
  ·exact .inr ((a9 ∅).trans e)
 |tup is=>
  cases d with
  |tuple ds=>
   have h':(if ds.length=is.length then some (qf is ds _)else none)=some δ':=h
   by_cases hl:ds.length=is.length
   ·rw[qQ3 hl]at h'
    cases h';refine#[tR _ _ _,λj sl e=>?_]
    by_cases hj:j<own.length
    ·exact .inl (low j sl hj e)
    ·refine .inr ?_
     rw[yT _ _ _ _ λz=>hj ?_]
     ·exact e
     ·have:=dO.mp ht j z
      simpa using this
   ·rw[qQ2 hl]at h';cases h'
  |_=>cases h
theorem oN(i:Nat)(ds:List ae):(nT own cap δ)[i]?≠some (.own ds):=λe=>by
 unfold nT at e;by_cases hi:i<own.length
 ·rw[bX ↑hi,dM]at e
  split at e<;>cases e
 ·rw[bS ↑(gE hi),aG]at e
  cases q:cap[i-(aY own.length Slot.un).length]? with
  |none=>rw[q]at e;cases e
  |some j=>
   rw[q]at e;simp only[jW,gF]at e
   revert e
   cases δ.getD j .un<;>(intro e;cases e)
section
variable{X:Cx}{sc:j'}{own N:List Str}{cap:List Nat}{cl:List (Str×aF)}{tg elt iter:bC}{ifs:List bC}{δ:List Slot}{ds:List ae}{pos:Pos}{tgt:FZ}
def yV(X:Cx)(sc:j')(own:List Str)(cap:List Nat)(N:List Str)(cl:List (Str×aF))(tgt:FZ)(elt:bC)(ifs:List bC)(δ:List Slot)(F:ae->Option ae)(d:ae):Prop:=
 ∃δ',Am tgt d (nT own cap δ)=some δ'/\(∀f s3 H3,N_ (gi X sc N cl f s3 H3) ifs δ' (F d).isSome)/\∀r,F d=some r->∀f s3 H3,VE (gi X sc N cl f s3 H3) elt δ' r
theorem Fc{N: List Str}{elt:bC}{r: ae}(h1:Am tgt d (nT own cap δ)=some δ')(h2:F d=some r)(h3:∀f s3 H3,VE (gi X sc N cl f s3 H3) elt δ' r):yV X sc own cap N cl tgt elt [] δ F d:=
 #[δ',h1,λf s3 H3=>by rw[h2];exact m_,λr' e f s3 H3=>by rw[h2]at e;cases e;exact h3 f s3 H3]
def teC(X:Cx)(sc:j')(N:List Str)(cl:List (Str×aF))(elt:bC):TE:=λσ H Q=>∀f s3 H3,cE (gi X sc N cl f s3 H3) elt σ H Q
def Xc(X:Cx)(sc:j')(N:List Str)(cl:List (Str×aF))(ifs:List bC):TT:=λσ H Q=>∀f s3 H3,cTs (gi X sc N cl f s3 H3) ifs σ H Q
theorem rL(ht:yU own.length tgt=true)(hz:ds.length<=sizeLine)(step:∀d∈ds,yV X sc own cap N cl tgt elt ifs δ F d){J:It}{B0 B: Hp}{Q:VK}(f:gy X.K B0 B H0 H σ δ)(it:ItD X.K J H0 ds)
  (q:∀p xs cZ H',c6 H0 H cZ H'->H p=none->cZ p=none->H' p=some (.lst xs)->b9 X.K cZ xs (ds.filterMap F)->Q (.ref p) H'):
  v9 J (L5 X.K tgt) (Xc X sc N cl ifs) (teC X sc N cl elt) (oY own cap σ) H Q:=by
 intro D hD;have hBD:=f.ent.big.free hD;refine#[λi m ys σ' H'=>i<=ds.length/\m=ds.length-i/\ys.length<=i/\∃Ha,c6 H0 H Ha H'/\gy X.K B0 B Ha H' σ' _/\Ha D=none/\H' D=some (.lst ys)/\b9 X.K Ha ys ((ds.take i).filterMap F),
  #[_,bx _,rfl,aP _,H0,.loose f.sub hD,(f.comp own cap).touch (f.sub.free hD) hBD oN,f.sub.free hD,bh,by simpa using b9.nil],?_]
 rintro i m ys σ' H' ⟨hi,rfl,hy,Ha,g,fa,hDa,Vn,rs⟩
 obtain⟨i1,i2,i3⟩:=it Ha H' g.e8 g.sub i;by_cases mL:i<ds.length
 ·refine .inr #[i1 mL,λx H2 y=>?_]
  have hd:ds[i]?=some ds[i]:=by simp[mL]
  obtain⟨Hb,g2,rx⟩:=i3 x H2 ds[i] hd y;obtain⟨δ',e1,e2,e3⟩:=step ds[i] (dP mL);obtain⟨k1,k2⟩:=comp_back ht e1;have noD:∀{Hx Hy:Hp},c6 Ha H' Hx Hy->Hx D=none:=λ{Hx Hy}gg=>by
   cases e:Hx D with
   |none=>rfl
   |some o=>
    rcases gg.new D (by rw[e];simp)with z|z
    ·exact qQ7 hDa z
    ·rw[Vn]at z;cases z
  have tk:(ds.take (i+1)).filterMap F=(ds.take i).filterMap F++(F ds[i]).toList:=by
   rw[ck,hd,Fk];cases eF:F ds[i]<;>simp[fq,eF]
  refine wg (fa.grow g2) rx e1 λσ3 f3=>?_
  intro fp s3 H3;refine e2 fp s3 H3 B0 B σ3 Hb H2 _ f3 λHc H4 g4=>?_
  have Xd:=g2.trans g4;cases eF:F ds[i] with
  |none=>
   refine#[_,∅,mL,rfl,∅,Hc,g.trans Xd,(f3.grow g4).forget k1.symm k2,noD Xd,Xd.big _ _ Vn,?_]
   rw[tk,eF];simpa using rs.mono Xd.e8
  |some r=>
   intro fp' s3' xU;refine e3 r eF fp' s3' xU B0 B σ3 Hc H4 _ (f3.grow g4) λw Hd H5 g5 r5=>?_
   have Oa:=Xd.trans g5;have hD5:=noD Oa;refine#[Oa.big _ _ Vn,∅,_,∅,mL,rfl,by simp;omega,Hd,?_,((f3.grow g4).grow g5 |>.forget k1.symm k2).touch hD5 hBD oN,hD5,bh,?_]
   ·have gg:=g.trans Oa
    exact#[λb u e=>by rw[aO (bG e hD)];exact gg.big b u e,gg.e8,λb u e=>by rw[aO (bG e hD5)];exact gg.sub b u e,gg.new]
   ·rw[tk,eF]
    exact(rs.mono Oa.e8).append (.cons r5 .nil)
 ·have e:i=ds.length:=∅
  subst e;refine .inl #[i2 ∅,q D ys Ha H' g hD hDa Vn ?_]
  simpa using rs
theorem eB(hc:X.calm=true)(CS:j5 X sc own cap N cl)(hi:VI X tg iter δ ds)(hg:∀f s3 H3,PG (gi X sc N cl f s3 H3) tg (L5 X.K tgt))(ht:yU own.length tgt=true)(hz:ds.length<=sizeLine)
  (step:∀d∈ds,yV X sc own cap N cl tgt elt ifs δ F d)(hs:KW X iter:=by intro _;rfl):VO X (.ListComp elt [#[tg,iter,ifs,0]] sc pos) δ (ds.filterMap F):=by
 obtain⟨wi,pi,qi⟩:=hi;exact .of (Pb (tc:=Xc X sc N cl ifs) (te:=teC X sc N cl elt) hc CS pi hg (λf s3 H3 pins s σ H Q I h=>h f s3 H3 pins s I) (λf s3 H3 pins s σ H Q I h=>h f s3 H3 pins s I) hs) λB0 B σ H0 H Q f q=>(qi B0 B σ H0 H _ f λJ H1 cV g it=>(rL ht hz step (f.grow g) it λp xs Ha Hb g2 a1 a2 a3 a4=>q p xs Ha Hb (g.trans g2) (g.big.free a1) a2 a3 a4))
end
inductive Out where
 |nx (δ:List Slot)|bk (δ:List Slot)|ct (δ:List Slot)
 |rt (d:ae)|ro (ds:List ae)|r2 (ds:List ae) (d:ae)|ru (U:Hp->V->Hp->Hp->Prop)
def rM(K:ao)(B0 B H0:Hp)(D:Ends):Out->Prop
 | .nx δ=>∀σ' cZ H',cK H0 cZ->gy K B0 B cZ H' σ' δ->D.nx σ' H'
 | .bk δ=>∀σ' cZ H',cK H0 cZ->gy K B0 B cZ H' σ' δ->D.bk σ' H'
 | .ct δ=>∀σ' cZ H',cK H0 cZ->gy K B0 B cZ H' σ' δ->D.ct σ' H'
 | .rt d=>∀v cZ H',c6 B0 B cZ H'->Rep K cZ v d->D.rt v H'
 | .ro ds=>∀p xs cZ H',c6 B0 B cZ H'->B p=none->cZ p=none->H' p=some (.lst xs)->b9 K cZ xs ds->D.rt (.ref p) H'
 | .r2 ds d=>∀t p xs v cZ H',c6 B0 B cZ H'->B p=none->cZ p=none->H' p=some (.lst xs)->b9 K cZ xs ds->B t=none->cZ t=none->H' t=some (.tup [.ref p,v])->Rep K cZ v d->D.rt (.ref t) H'
 | .ru U=>∀v cZ H',c6 B0 B cZ H'->U B v cZ H'->D.rt v H'
def L6:Out->Bool
 | .rt _=>true | .ro _=>true | .r2 _ _=>true | .ru _=>true|_=>false
theorem rM.mono{B0 B cZ: Hp}{D:Ends}(s:cK H0 cZ):∀{o:Out},rM K B0 B H0 D o->rM K B0 B cZ D o
 | .nx _,h=>λσ a b s' f=>h σ a b (s.trans s') f
 | .bk _,h=>λσ a b s' f=>h σ a b (s.trans s') f
 | .ct _,h=>λσ a b s' f=>h σ a b (s.trans s') f
 | .rt _,h=>h
 | .ro _,h=>h
 | .r2 _ _,h=>h
 | .ru _,h=>h
theorem rM.ret{B0 B cZ: Hp}{D D':Ends}(e:D.rt=D'.rt):∀{o:Out},L6 o=true->rM K B0 B H0 D o->rM K B0 B cZ D' o
 | .rt _,_,h=>by unfold rM at *;rw[<-e];exact h
 | .ro _,_,h=>by unfold rM at *;rw[<-e];exact h
 | .r2 _ _,_,h=>by unfold rM at *;rw[<-e];exact h
 | .ru _,_,h=>by unfold rM at *;rw[<-e];exact h
 | .nx _,z,_=>by cases z
 | .bk _,z,_=>by cases z
 | .ct _,z,_=>by cases z
def VS(X:Cx)(st:e6)(δ:List Slot)(o:Out):Prop:=∀B0 B σ H0 H D,gy X.K B0 B H0 H σ δ->rM X.K B0 B H0 D o->cS X st D σ H
def xV(X:Cx)(st:List e6)(δ:List Slot)(o:Out):Prop:=∀B0 B σ H0 H D,gy X.K B0 B H0 H σ δ->rM X.K B0 B H0 D o->w_ X st D σ H
section
variable{X:Cx}{st:e6}{rest body orelse:List e6}{δ δ':List Slot}{o:Out}{a b c e:bC}{d:ae}{ds:List ae}{pos px:Pos}{x:Str}
theorem bB:xV X [] δ (.nx δ):=λ_ _ σ H0 H _ f ok pins s I=>HN pins s σ H _ I (ok σ H0 H (cK.refl _) f)
theorem aK(h1:VS X st δ (.nx δ'))(h2:xV X rest δ' o):xV X (st::rest) δ o:=λB0 B σ H0 H D f ok pins s I=>
 kr LX j7 pins s σ H D I (h1 B0 B σ H0 H _ f λσ' Ha Hb sm f'=>h2 B0 B σ' Ha Hb D f' (ok.mono sm))
theorem dz(h1:VS X st δ o)(hr:L6 o=true):xV X (st::rest) δ o:=λB0 B σ H0 H D f ok pins s I=>
 kr LX jA pins s σ H D I (h1 B0 B σ H0 H _ f (rM.ret (by rfl) hr ok))
theorem bp(h1:VS X st δ o):xV X [st] δ o:=λB0 B σ H0 H D f ok pins s I=>BO LX pins s σ H D I (h1 B0 B σ H0 H D f ok)
theorem df(i:Nat)(h:VE X e δ d)(hN:X.N.Nodup)(hi:X.N[i]?=some x:=by rfl)(hx:Loc X.env.scope x:=by left)(hs:uX X pos e (.Name x px):=by rfl)(hf:AJ X x:=by left):
  VS X (.Assign [.Name x px] e pos) δ (.nx (δ.set i (.val d))):=λB0 B σ H0 H D f ok pins s I=>
 ui hN hi hx cB hs hf pins s σ H D I (h B0 B σ H0 H _ f λv H1 cV g r=>ok _ H1 cV g.e8 ((f.grow g).set r))
theorem nh(i:Nat)(h:VO X e δ ds)(hN:X.N.Nodup)(hi:X.N[i]?=some x:=by rfl)(hx:Loc X.env.scope x:=by left)(hs:uX X pos e (.Name x px):=by rfl)(hf:AJ X x:=by left):
  VS X (.Assign [.Name x px] e pos) δ (.nx (δ.set i (.own ds))):=λB0 B σ H0 H D f ok pins s I=>
 ui hN hi hx cB hs hf pins s σ H D I (h B0 B σ H0 H _ f λp xs H1 cV g h1 h2 h3 r=>ok _ H1 cV g.e8 ((f.grow g).B8 h3 h2 (f.ent.big.free h1) r λj es e2 e3=>by
  obtain⟨p',xs',g1,g2,_⟩:=f.slot j _ e2;rw[e3]at g1;cases g1;rw[h1]at g2;cases g2))
theorem dU(h:VT X c δ true)(h1:xV X body δ o):VS X (.If c body orelse pos) δ o:=λB0 B σ H0 H D f ok pins s I=>
 wU oC j7 jA pins s σ H D I (h B0 B σ H0 H _ f λH1 cV g=>Te (h1 B0 B σ H1 cV D (f.grow g) (ok.mono g.e8)))
theorem bP(h:VT X c δ false)(h1:xV X orelse δ o):VS X (.If c body orelse pos) δ o:=λB0 B σ H0 H D f ok pins s I=>
 wU oC jA j7 pins s σ H D I (h B0 B σ H0 H _ f λH1 cV g=>Ls (h1 B0 B σ H1 cV D (f.grow g) (ok.mono g.e8)))
theorem Xe{k:Bool}(h:VT X c δ k)(h1:k=true->xV X body δ o)(h2:k=false->xV X orelse δ o):VS X (.If c body orelse pos) δ o:=by
 cases k with
 |true=>exact dU h (h1 rfl)
 |false=>exact bP h (h2 rfl)
theorem b_(h:VE X e δ d):VS X (.Return (some e) pos) δ (.rt d):=λB0 B σ H0 H D f ok pins s I=>uh cB pins s σ H D I (h B0 B σ H0 H _ f λv H1 cV g r=>ok v H1 cV (f.ent.trans g) r)
theorem yo(h:VO X e δ ds):VS X (.Return (some e) pos) δ (.ro ds):=λB0 B σ H0 H D f ok pins s I=>uh cB pins s σ H D I (h B0 B σ H0 H _ f λp xs H1 cV g a1 a2 a3 a4=>ok p xs H1 cV (f.ent.trans g) (f.ent.big.free a1) a2 a3 a4)
theorem B_(i:Nat)(h:δ[i]?=some (.own ds))(hN:ow X i x:=by ac_rfl):
  VS X (.Return (some (.Name x px)) pos) δ (.ro ds):=λB0 B σ H0 H D f ok pins s I=>uh (ug hN) pins s σ H D I (by
 obtain⟨p,xs,h1,h2,h3,h4,h5⟩:=f.slot i _ h;exact#[_,h1,ok p xs H0 H f.ent h4 h3 h2 h5])
theorem jE(i:Nat){ap:Pos}{p0:Pos}(hi:δ[i]?=some (.own ds))(h:VE X e δ d)(hz:ds.length<sizeLine)(hN:ow X i x:=by ac_rfl)
  (hs:kO X e []:=by rfl)(gA:uS X (.Name x p0) "append":=by rfl)
  (lj:Ft X px [e]:=by rfl)
  (hline:(ap.endLine==px.line)=true:=by rfl)(fD:rC X px []:=by rfl)(oA:QO X pos (.Call (.Attribute (.Name x p0) "append" ap) [e] [] px):=by rfl):
  VS X (.Expr (.Call (.Attribute (.Name x p0) "append" ap) [e] [] px) pos) δ (.nx (δ.set i (.own (ds ++ [d])))):=λB0 B σ H0 H D f ok pins s I=>by
 refine lL (rH dH fK fL lq (ug hN) (cY cB eV hs) gA lj hline hs fD) oA pins s σ H D I ?_
 obtain⟨p,xs,h1,h2,h3,h4,h5⟩:=f.slot i _ hi;refine#[_,h1,.inl #[rfl,_,jx.of h2],?_]
 refine h B0 B σ H0 H _ f λv H1 cV g r=>?_
 refine#[p,xs,v,rfl,rfl,g.big _ _ h2,by rw[h5.length];exact hz,ok σ H1 _ g.e8 ((f.grow g).push hi h1 (g.big _ _ h2) r)]
theorem gZ(i:Nat)(hi:δ[i]?=some (.own ds))(h:xV X rest (δ.set i (.val (.list ds))) o):xV X rest δ o:=λB0 B σ H0 H D f ok=>by
 obtain⟨p,xs,h1,h2,h3,h4,h5⟩:=f.slot i _ hi;obtain⟨f',sm⟩:=f.freeze hi h1 h2;exact h B0 B σ _ H D f' (ok.mono sm)
def Fd:List Slot->List Slot->Prop
 | [],[]=>True
 |a::l,b::m=>(b=.un\/a=b)/\Fd l m
 |_,_=>False
theorem Fd.len:∀{l m:List Slot},Fd l m->m.length=l.length
 | [],[],_=>rfl
 |_::_,_::_,h=>by simp[Fd.len h.2]
 | [],_::_,h=>h.elim
 |_::_,[],h=>h.elim
theorem Fd.at:∀{l m:List Slot},Fd l m->∀(i:Nat)sl,m[i]?=some sl->sl=.un\/l[i]?=some sl
 | [],[],_,_,_,e=>by simp at e
 |a::l,b::m,h,0,sl,e=>by
  simp at e;subst e;rcases h.1 with z|z
  ·exact .inl z
  ·exact .inr (by simp[z])
 |a::l,b::m,h,i+1,sl,e=>by simpa using Fd.at h.2 i sl ↑e
 | [],_::_,h,_,_,_=>h.elim
 |_::_,[],h,_,_,_=>h.elim
theorem iV{δ2:List Slot}(h:xV X rest δ (.nx δ'))(hf:Fd δ' δ2):xV X rest δ (.nx δ2):=λB0 B σ H0 H D f ok=>h B0 B σ H0 H D f λσ' Ha Hb sm f'=>ok σ' Ha Hb sm (f'.forget hf.len hf.at)
theorem mO{tg iter:bC}(hp:pS (model X.prog X.w) X.A X.env X.xe)(hc:X.calm=true)(hi:VI X tg iter δ ds)(hg:PG X tg (L5 X.K tgt))(δs:Nat->List Slot)(m:Nat)(h0:δs 0=δ)(hm:m<=ds.length)
  (step:∀k d,k<m->ds[k]?=some d->∃δ',Am tgt d (δs k)=some δ'/\xV X body δ' (.nx (δs (k+1))))
  (fin:(m=ds.length/\o=.nx (δs m))\/∃d δ',ds[m]?=some d/\Am tgt d (δs m)=some δ'/\L6 o=true/\xV X body δ' o)
  (hs:KW X iter:=by intro _;rfl):VS X (.For tg iter body [] pos) δ o:=λB0 B σ H0 H D f ok pins s I=>by
 obtain⟨wi,pi,qi⟩:=hi;refine BQ hp hc pi hg j7 hs pins s σ H D I ?_
 refine qi B0 B σ H0 H _ f λJ H1 cV g it=>?_
 refine#[λi mm σ' H'=>i<=m/\mm=m+1-i/\∃Ha,cK H1 Ha/\gy X.K B0 B Ha H' σ' (δs i),#[m+1,bx _,rfl,H1,cK.refl _,by rw[h0];exact f.grow g],?_]
 rintro i mm σ' H' ⟨hi,rfl,Ha,sm,fa⟩
 obtain⟨i1,i2,i3⟩:=it Ha H' sm fa.sub i;by_cases mL:i<m
 ·refine .inr #[i1 ∅,λσ'' xT=>∃Hb,cK H1 Hb/\gy X.K B0 B Hb xT σ'' (δs (i+1)),λσ'' xT #[Hb,z1,z2]=>#[_,∅,mL,rfl,Hb,z1,z2],λv H2 y=>?_]
  have hd:ds[i]?=some (ds[i]'∅):=by simp
  obtain⟨Hb,g2,rx⟩:=i3 v H2 _ hd y;obtain⟨δ',e1,e2⟩:=step i _ mL hd;exact wg (fa.grow g2) rx e1 λσ3 f3=>(e2 B0 B σ3 Hb H2 _ f3 λσ4 Hc H4 s4 f4=>#[Hc,(sm.trans g2.e8).trans s4,f4])
 ·have e:i=m:=∅
  subst e;rcases fin with⟨e1,e2⟩|⟨d,δ',hd,e1,hr,e2⟩
  ·subst e2
   exact .inl #[i2 ∅,ok σ' Ha H' (g.e8.trans sm) fa]
  ·have Pm:=(aH.mp hd).1
   refine .inr #[i1 Pm,λ_ _=>False,λ_ _ z=>z.elim,λv H2 y=>?_]
   obtain⟨Hb,g2,rx⟩:=i3 v H2 _ hd y;exact wg (fa.grow g2) rx e1 λσ3 f3=>(e2 B0 B σ3 Hb H2 _ f3 (rM.ret (D:=D) (by rfl) hr ok))
end
def gu(K:ao)(R:List ae->ae->Prop):Sp:=λvs H Q _=>∃H0 ds d,cK H0 H/\b9 K H0 vs ds/\R ds d/\∀v cZ H',c6 H0 H cZ H'->Rep K cZ v d->Q v H'
def F1(K:ao)(R:List ae->List ae->Prop):Sp:=λvs H Q _=>∃H0 ds es,cK H0 H/\b9 K H0 vs ds/\R ds es/\
 ∀p xs cZ H',c6 H0 H cZ H'->H p=none->cZ p=none->H' p=some (.lst xs)->b9 K cZ xs es->Q (.ref p) H'
def bD(P:bA)(w:cg)(K:ao)(mg:Str->Option aD)(base:cM)(k:Nat)(x:Str)(ps:List Str)(sp:Sp):Prop:=
 ∃f fd,dW P w K mg base gS k f fd ps sp/\mg x=some (.ref f)/\eI K (.ref f)=true/\Binds K fd ps []
section
variable{X:Cx}{x:Str}{e:bC}{es:List bC}{δ:List Slot}{ds zs:List ae}{d:ae}{p pos:Pos}{k:Nat}{ps:List Str}
theorem bK{R:List ae->ae->Prop}(C:bD X.prog X.w X.K X.mg X.base k x ps (gu X.K R))(hr:dB k X.A)(ha:VA X (e::es) δ ds)(hp:R ds d)(hg:Gl X x:=by rfl)(sZ:vX x:=by decide)
  (he:kO X e es:=by rfl)(mX:rC X pos es:=by rfl):VE X (.Call (.Name x p) (e::es) [] pos) δ d:=by
 obtain⟨f,fd,F,hm,hk,hb⟩:=C;obtain⟨t,pa,qa⟩:=ha;exact .of (uZ F hr hg hm hk hb .nil tN pa sZ he mX) λB0 B σ H0 H Q fr q=>qa B0 B σ H0 H _ fr λvs H1 cV g1 rs=>by
  rw[cy];exact#[H1,ds,d,g1.sub,rs,hp,λv H2 fS g2 r=>q v H2 fS (g1.trans g2) r]
theorem oO(C:bD X.prog X.w X.K X.mg X.base k x ps (F1 X.K R))(hr:dB k X.A)(ha:VA X (e::es) δ ds)(hp:R ds zs)(hg:Gl X x:=by rfl)(sZ:vX x:=by decide)
  (he:kO X e es:=by rfl)(mX:rC X pos es:=by rfl):VO X (.Call (.Name x p) (e::es) [] pos) δ zs:=by
 obtain⟨f,fd,F,hm,hk,hb⟩:=C;obtain⟨t,pa,qa⟩:=ha;exact .of (uZ F hr hg hm hk hb .nil tN pa sZ he mX) λB0 B σ H0 H Q fr q=>qa B0 B σ H0 H _ fr λvs H1 cV g1 rs=>by
  rw[cy];exact#[H1,ds,zs,g1.sub,rs,hp,λv xs H2 fS g2 a1 a2 a3 a4=>q v xs H2 fS (g1.trans g2) (g1.big.free a1) a2 a3 a4]
end
def oZ(N:List Str)(ds:List ae):List Slot:=ds.map .val++aY (N.length-ds.length) .un
theorem gy.start{N:List Str}{ds:List ae}(s:cK H0 H)(r:b9 K H0 vs ds):gy K H0 H H0 H (start N vs) (oZ N ds):=by
 have hl:=r.length;refine#[.refl s,by simp[L2.start,oZ,hl],λi sl e=>?_,λi j a b p _ e=>?_]
 ·unfold oZ at e
  unfold L2.start;by_cases hi:i<ds.length
  ·rw[bX ↑hi,aG]at e
   have hd:ds[i]?=some ds[i]:=by simp[hi]
   rw[hd]at e;cases e;obtain⟨v,h1,h2⟩:=r.get hd;exact#[v,by rw[bX (by simp;omega),aG,h1];rfl,h2]
  ·rw[bS ↑(gE hi),dM]at e
   split at e<;>cases e
   trivial
 ·unfold oZ at e
  by_cases hi:i<ds.length
  ·rw[bX ↑hi,aG]at e
   have hd:ds[i]?=some ds[i]:=by simp[hi]
   rw[hd]at e;cases e
  ·rw[bS ↑(gE hi),dM]at e
   split at e<;>cases e
section
variable{P:bA}{w:cg}{K:ao}{mg:Str->Option aD}{base:cM}{x qual:Str}{st:e6}{f:aF}{fd:eU}{N ps:List Str}{k:Nat}
abbrev xi(P:bA)(w:cg)(K:ao)(mg:Str->Option aD)(base:cM)(N:List Str)(qual:Str)(st:e6)(f:aF)(k:Nat)(ds:List ae)(o:Out):Prop:=
 ∀e7 A outer s H E,dB k (A.deeper (envOfC qual (a_ st) s.heap.objs.size f e7))->xV (lU gS P w K mg base N qual (a_ st) f e7 A outer s H E).xQ (jB st) (oZ N ds) o
theorem iY{R:List ae->ae->Prop}(F:jQ K x qual st f fd)(S:cn N ps (a_ st))(hl:∀ds d,R ds d->ds.length=ps.length)(hb:∀ds d,R ds d->xi P w K mg base N qual st f k ds (.rt d)):dW P w K mg base gS (k+1) f fd ps (gu K R):=by
 refine F.ok S (λvs H Q E h=>?_) (λe7 A outer s H vs Q E hr h=>?_)
 ·obtain⟨H0,ds,d,_,r,hp,_⟩:=h
  rw[r.length,hl ds d hp]
 ·obtain⟨H0,ds,d,sm,r,hp,q⟩:=h
  exact#[_,j7,hb ds d hp e7 A outer s H E hr H0 H _ H0 H _ (.start sm r) q]
theorem JK(F:jQ K x qual st f fd)(S:cn N ps (a_ st))(hl:∀ds d,R ds d->ds.length=ps.length)(hb:∀ds d,R ds d->xi P w K mg base N qual st f k ds (.ro d)):dW P w K mg base gS (k+1) f fd ps (F1 K R):=by
 refine F.ok S (λvs H Q E h=>?_) (λe7 A outer s H vs Q E hr h=>?_)
 ·obtain⟨H0,ds,d,_,r,hp,_⟩:=h
  rw[r.length,hl ds d hp]
 ·obtain⟨H0,ds,d,sm,r,hp,q⟩:=h
  exact#[_,j7,hb ds d hp e7 A outer s H E hr H0 H _ H0 H _ (.start sm r) q]
end
end L2
namespace L2.Srt
open PySem PySem.W PyProof.Rows
section
variable{N:Nat}{lt:Nat->Nat->Bool}
end
end L2.Srt
namespace L2
open PySem PySem.Spec PyProof.Rows PySem.W
section
variable{P:bA}{w:cg}{A:dE}{E:aD->aL->Prop}{s:aL}
end
theorem b9.ints{K:ao}{H:Hp}:∀{ns:List Int}{xs:List V},b9 K H xs (ns.map .int)->xs=ns.map V.int
 | [],_,r=>by cases r;rfl
 |n::ns,_,r=>by cases r with|cons a t=>cases a;rw[ay,b9.ints t]
theorem dI.getD:∀{xs:List V}{us:List aD}(i:Nat),dI xs us->RelV (xs.getD i .non) (us.getD i qS)
 |_,_,_,.nil=>by simp;rfl
 |_,_,0,.cons r _=>by simpa using r
 |_,_,i+1,.cons _ t=>by simpa using dI.getD i t
end L2
namespace L2
open PySem PySem.Spec PyProof.Rows
variable{l:aF}{kb:Bool}{X:Cx}{c:bC}{h:cM}{H:Hp}{rest:List bC}{ns:List Int}{ds:List ae}{δ:List Slot}{n:Nat}{P:bA}{K:ao}{w:cg}
section
variable{X:Cx}{a b c e:bC}{es:List bC}{δ:List Slot}{d d1 d2 d3:ae}{ds:List ae}{pos:Pos}{k:Nat}
def A5:ae->Bool
 | .none=>true
 | .bool _=>true
 | .int _=>true
 | .str _=>true
 |_=>false
theorem Rep.JL{H': Hp}{v:V}(r:Rep K H v d)(h:A5 d=true):Rep K H' v d:=by
 cases r with
 |non=>exact .non
 |bl b=>exact .bl b
 |int i=>exact .int i
 |str x=>exact .str x
 |_=>cases h
def tyD:ae->Option String
 | .none=>some "NoneType"
 | .bool _=>some "bool"
 | .int _=>some "int"
 | .str _=>some "str"
 | .list _=>some "list"
 | .tuple _=>some "tuple"
 |_=>none
theorem Xf{t tn:String}(ht:tyD d=some t)(hk:cA X.K (.type t) (.type tn)=some kb):g8 X (.builtin "isinstance") (λxs H Q=>∃x,xs=[x,.ty tn]/\Rep X.K H x d/\Q (.bl kb) H):=by
 intro pins s σ H xs us Q I r h;obtain⟨x,rfl,rx,q⟩:=h;obtain⟨u,w',rfl,r1,r2⟩:=vals2 r;cases r2;have fin:∀tk,EP X pins σ Q _ { s with toks:=tk }:=λtk=>#[.bl kb,H,I.tok tk,rfl,q]
 cases rx with
 |non=>cases ht;cases r1;exact iM PySem.W.kitx_none I.yg fj hk (λz=>nomatch z) fin
 |bl b=>cases ht;cases r1;exact iM PySem.W.kitx_bool I.yg fj hk (λz=>nomatch z) fin
 |int i=>cases ht;obtain⟨t,rfl⟩:=r1;exact iM PySem.W.kitx_int I.yg fj hk (λz=>nomatch z) fin
 |str y=>cases ht;obtain⟨t,rfl⟩:=r1;exact iM PySem.W.kitx_str I.yg fj hk (λz=>nomatch z) fin
 |lst hq rs=>
  cases ht;cases r1;obtain⟨its,_,⟨o,n,e,c,_⟩,_⟩:=I.list hq;exact iM PySem.W.kitx_list I.yg #[o,e,c] hk (λz=>nomatch z) fin
 |tup hq rs=>
  cases ht;cases r1;obtain⟨its,_,⟨o,e,c,_⟩,_⟩:=I.tuple hq;exact iM PySem.W.kitx_tuple I.yg #[o,e,c] hk (λz=>nomatch z) fin
 |dct _ _ _=>cases ht
 |Tz _ _ _=>cases ht
 |obj _ _ _ _ _=>cases ht
 |TF _ _ _ _ _=>cases ht
 |TB _ _ _=>cases ht
theorem jK{x:Str}{t tn:String}{p p2:Pos}(h:VE X a δ d)(ht:tyD d=some t)(hk:cA X.K (.type t) (.type tn)=some kb)(hb:bootBuiltins x=some (.type tn))(m1:X.mg "isinstance"=none)(m2:X.mg x=none)(hv:bootBuiltins "isinstance"=some (.builtin "isinstance"))
  (hg:Gl X "isinstance":=by rfl)(Ob:Gl X x:=by rfl)(hn:x≠"__name__":=by decide)(sZ:vX x:=by decide)(hs:starEach [a,.Name x p2] X.env=(false,eval a X.env)::starEach [.Name x p2] X.env:=by rfl)(p9:starEach [.Name x p2] X.env=(false,eval (.Name x p2) X.env)::starEach [] X.env:=by rfl)
  (mX:rC X pos [.Name x p2]:=by rfl):VE X (.Call (.Name "isinstance" p) [a,.Name x p2] [] pos) δ (.bool kb):=
 .of (rG (Xf ht hk) hg m1 hv (cY cB (cY (HM Ob m2 hb (v:=.ty tn) rfl hn sZ) eV p9) hs) ⋯ ⋯ hs mX) λB0 B σ H0 H Q f q=>h B0 B σ H0 H _ f λv H1 cV g r=>#[v,rfl,r.mono g.sub,q _ H1 cV g (.bl _)]
theorem za3{A:dE}{E:aD->aL->Prop}{s:aL}{vs:List aD}{Q:aD->aL->Prop}(hh:A.handled=none)(hl:s.heap.IsList l vs.toArray)(hi:wQ vs ns)(DM:ns≠[])
  (h:∀h' M (t:Tok) tk,(∀b o,s.heap.get? b=some o->h'.get? b=some o)->M∈ns->(∀z,z∈ns->z<=M)->Q (.int M t) { s with heap:=h',toks:=tk }):wpAny (model P w) A (call (.builtin "max") [.ref l]) Q E s:=by
 obtain⟨xs,ex⟩:=hi.allInts.items;have FU:ns=xs.toList.map (·.1):=by rw[<-hi.numsOf,<-nums_intItems,<-ex]
 have hz:0<xs.size:=by
  rcases vS xs.size with z|z
  ·exfalso
   apply DM;rw[FU,Array.eq_empty_of_size_eq_zero z];rfl
  ·exact z
 rw[ex]at hl;refine max_intList hh hl hz λv h' tk hv hk=>?_
 obtain⟨t,rfl⟩:=intItems_at hv;obtain⟨g1,g2⟩:=argBest_gt (numAt xs) (xs.size-1);refine h h' _ t tk hk ?_ λz hzm=>?_
 ·rw[FU,numAt_eq]
  exact getD_mem (by rw[ai,cH];omega)
 ·rw[FU]at hzm
  obtain⟨j,hj,rfl⟩:=mem_getD hzm;rw[ai,cH]at hj;rw[<-numAt_eq];exact g2 j ∅
theorem JM(hc:X.calm=true):g8 X (.builtin "max") (λxs H Q=>∃p ns,xs=[.ref p]/\jx X.K H p (ns.map V.int)/\ns≠[]/\∀M,M∈ns->(∀z,z∈ns->z<=M)->Q (.int M) H):=by
 intro pins s σ H xs us Q I r h;obtain⟨p,ns,rfl,hq,DM,q⟩:=h;obtain⟨u,rfl,rx⟩:=vals1 r;cases rx;obtain⟨its,rv,pl,hz⟩:=I.list hq;exact za3 (I.ok.hd hc) pl.isList (intsAre_of rv) DM λh' M t tk hk h1 h2=>#[.int M,H,I.kept hk,#[_,rfl],q M h1 h2]
theorem Xg{M:Int}(h1:M∈ns)(h2:∀z,z∈ns->z<=M):nR K (λxs H Q=>∃p ns,xs=[.ref p]/\jx K H p (ns.map V.int)/\ns≠[]/\∀M,M∈ns->(∀z,z∈ns->z<=M)->Q (.int M) H) [.list (ns.map .int)] (.int M):=λvs H0 H Q s r q=>by
 obtain⟨v,rfl,r1⟩:=r.one;cases r1 with
 |lst hq rs=>
  have e:=rs.ints;subst e;refine#[_,ns,rfl,s.seq hq,(λz=>by rw[z]at h1;cases h1),λM' g1 g2=>q _ _ _ (.refl s) ?_]
  have:M'=M:=Ae (h2 M' g1) (g2 M h1);rw[this];exact .int _
end
section
variable{X:Cx}{sc:j'}{own N:List Str}{cap:List Nat}{cl:List (Str×aF)}{tg elt iter:bC}{ifs:List bC}{δ:List Slot}{ds:List ae}{pos px tf:Pos}{tgt:FZ}{x:Str}
theorem Ih(i:Nat){F:ae->Option ae}(hc:X.calm=true)(CS:j5 X sc own cap N cl)(hi:VI X tg iter δ ds)(hg:∀f s3 H3,PG (gi X sc N cl f s3 H3) tg (L5 X.K tgt))(ht:yU own.length tgt=true)(hz:ds.length<=sizeLine)
  (step:∀d∈ds,yV X sc own cap N cl tgt elt ifs δ F d)(hN:X.N.Nodup)(Tw:X.N[i]?=some x:=by rfl)(hx:Loc X.env.scope x:=by left)
  (oA:swapsWith (.ListComp elt [#[tg,iter,ifs,0]] sc pos) (some (.Name x px)) tf.line X.env=pure true:=by rfl)(hs:KW X iter:=by intro _;rfl)(hf:AJ X x:=by left):
  VS X (.Assign [.Name x px] (.ListComp elt [#[tg,iter,ifs,0]] sc pos) tf) δ (.nx (δ.set i (.own (ds.filterMap F)))):=λB0 B σ H0 H D f ok pins s I=>by
 obtain⟨wi,pi,qi⟩:=hi;refine uo (tc:=Xc X sc N cl ifs) (te:=teC X sc N cl elt) hN Tw hx hc CS pi hg (λf s3 H3 pins s σ H Q I h=>h f s3 H3 pins s I) (λf s3 H3 pins s σ H Q I h=>h f s3 H3 pins s I) oA hs hf pins s σ H D I ?_
 refine qi B0 B σ H0 H _ f λJ H1 cV g it=>?_
 refine rL ht hz step (f.grow g) it λp xs Ha Hb g2 a1 a2 a3 a4=>?_
 have gg:=g.trans g2;have hp:=g.big.free a1;refine ok _ Ha Hb gg.e8 ((f.grow gg).B8 a3 a2 (f.ent.big.free hp) a4 λj es e2 e3=>?_)
 obtain⟨p',xs',g1,g2',_⟩:=f.slot j _ e2;rw[e3]at g1;cases g1;rw[hp]at g2';cases g2'
end
theorem VT.to{k k':Bool}(h:VT X c δ k')(e:k'=k):VT X c δ k:=e▸h
theorem VE.to{k k':ae}(h:VE X c δ k')(e:k'=k):VE X c δ k:=e▸h
theorem VO.to{k k':List ae}(h:VO X c δ k')(e:k'=k):VO X c δ k:=e▸h
theorem cu(n:Nat)(i:Int):Lay n (.int i):=#[rfl,bx _]
theorem bH{x:Str}(h:cw (.str x)=true):Lay n (.str x):=#[h,bx _]
theorem F2:∀{ds:List ae},(∀d∈ds,Lay n d)->oW ds=true/\ae.depthAll ds<=n
 | [],_=>#[rfl,bx _]
 |d::ds,h=>by
  obtain⟨h1,h2⟩:=F2 λe he=>h e (aT _ he)
  obtain⟨h3,h4⟩:=h d aM;refine#[by simp[oW,h1,h3],?_]
  show max d.depth (ae.depthAll ds)<=n;omega
theorem yp(h:∀d∈ds,Lay n d):Lay (n+1) (.list ds):=by
 obtain⟨h1,h2⟩:=F2 h;exact#[h1,Nat.succ_le_succ h2]
theorem Ii(h:∀d∈ds,Lay n d):Lay (n+1) (.tuple ds):=by
 obtain⟨h1,h2⟩:=F2 h;exact#[h1,Nat.succ_le_succ h2]
theorem filterMap_some{α β:Type}{F:α->Option β}{g:α->β}:∀{l:List α},(∀a∈l,F a=some (g a))->l.filterMap F=l.map g
 | [],_=>rfl
 |a::l,h=>by
  rw[ef (h a aM),ay,filterMap_some λb hb=>h b (aT _ hb)]
def Rb:Slot->Bool
 | .own _=>true
 |_=>false
def noOwn(δ:List Slot):Bool:=δ.all λs=>!Rb s
theorem iN(h:noOwn δ=true)(i:Nat)(ds:List ae):δ[i]?≠some (.own ds):=λe=>by
 have:=dO.mp h _ (aQ e);cases this
section
variable{K:ao}{B0 B H0 H cZ H' C0 C Ha Hb:Hp}{σ σ':St}{δ δ':List Slot}
theorem gy.uv(f:gy K B0 B H0 H σ δ){i:Nat}{v:V}{sl:Slot}(hs:LW K B H0 H sl (some (some v)))(hn:Rb sl=false):gy K B0 B H0 H (σ.set i (some v)) (δ.set i sl):=by
 refine#[f.ent,by simp[f.len],λj V4 e=>?_,λj k ds es p Ib e1 e2 e3=>?_]
 ·by_cases hj:j=i
  ·subst hj
   have hl:j < δ.length:=by simpa using(aH.mp e).1
   rw[bf hl]at e
   cases e;rwa[bf (by rw[f.len];exact hl)]
  ·rw[a9 (bT hj)]at e
   rw[a9 (bT hj)]
   exact f.slot j V4 e
 ·have nj:j≠i:=λz=>by
   subst z;have hl:j < δ.length:=by simpa using(aH.mp e1).1
   rw[bf hl]at e1;cases e1;cases hn
  have nk:k≠i:=λz=>by
   subst z;have hl:k < δ.length:=by simpa using(aH.mp e2).1
   rw[bf hl]at e2;cases e2;cases hn
  rw[a9 (bT nj)]at e1 e3
  rw[a9 (bT nk)]at e2 ⊢
  exact f.apart j k ds es p Ib e1 e2 e3
theorem gy.re(f:gy K B0 B H0 H σ δ)(hn:noOwn δ=true)(g:c6 C0 C H0 H):gy K C0 C H0 H σ δ:=by
 refine#[g,f.len,λi sl e=>?_,f.apart]
 have q:=f.slot i sl e;cases sl with
 |own ds=>exact qQ7 e (iN hn i ds)
 |_=>exact q
theorem c6.still(g:c6 H0 H Ha Hb){p:aF}{o:HO}(h0:H0 p=none)(h:H p=some o):Ha p=none:=by
 cases e:Ha p with
 |none=>rfl
 |some u=>
  rcases g.new p (by rw[e];simp)with z|z
  ·exact qQ7 h0 z
  ·rw[h]at z;cases z
theorem c6.far(s:cK H0 H)(b:cK H Hb):c6 H0 H H0 Hb:=#[b,cK.refl _,s.trans b,λ_ z=>.inl z]
end
section
variable{X:Cx}{st:e6}{rest body orelse:List e6}{δ δ':List Slot}{o:Out}{a b c e arg:bC}{d d1 d2 da:ae}{ds zs:List ae}{pos px py:Pos}{x y:Str}
theorem eZ(n:Nat):(ik n).length=n:=by simp[ik]
theorem TR(i j:Nat){pt Fy:Pos}{kt k2}(h1:VE X a δ d1)(h2:VE X b δ d2)(hc:X.calm=true)(hN:X.N.Nodup)(yj:i≠j)(hi:X.N[i]?=some x:=by rfl)(hj:X.N[j]?=some y:=by rfl)(hx:X.env.scope.names.lookup x=some .local:=by rfl)(hy:X.env.scope.names.lookup y=some .local:=by rfl)
  (hw:swappedStores [.Tuple [.Name x px,.Name y py] kt pt] (.Tuple [a,b] k2 Fy) X.env=pure (some [x,y]):=by rfl)(hs:swapsWithSole [.Tuple [.Name x px,.Name y py] kt pt] (.Tuple [a,b] k2 Fy) pos.line X.env=pure false:=by rfl)
  (Rc:kO X a [b]:=by rfl)(p9:kO X b []:=by rfl):
  VS X (.Assign [.Tuple [.Name x px,.Name y py] kt pt] (.Tuple [a,b] k2 Fy) pos) δ (.nx ((δ.set i (.val d1)).set j (.val d2))):=λB0 B σ H0 H D f ok pins s I=>by
 obtain⟨t,pa,qa⟩:=aq h1 (aq h2 aU p9) Rc;refine La hc hN hi hj yj hx hy pa hw hs pins s σ H D I (qa B0 B σ H0 H _ f λvs H1 cV g rs=>?_)
 obtain⟨v,w,rfl,r1,r2⟩:=rs.two;exact#[v,w,rfl,ok _ H1 cV g.e8 (((f.grow g).set r1).set r2)]
end
section
variable{K:ao}{B0 B H0 H cZ H' C0 C Ha Hb:Hp}{σ σ':St}{δ δ':List Slot}{a:aF}{ps:List aF}{gs:List (List ae)}
end
section
variable{X:Cx}{B0 B H0 H cZ H' Ha Hb:Hp}{σ σ':St}{D:Ends}{st:e6}{rest body orelse:List e6}{δ δ':List Slot}{a:aF}{ps:List aF}{gs:List (List ae)}{e c tg iter:bC}{d:ae}{ds:List ae}{pos px tf:Pos}{x y:Str}
def Ends.tail(D:Ends)(u:St->Hp->Prop):Ends:={ D with nx:=u }
theorem bM(h:cS X st (D.tail λσ H=>w_ X rest D σ H) σ H):w_ X (st::rest) D σ H:=λpins s I=>kr LX j7 pins s σ H D I h
theorem cx(h:cS X st D σ H):w_ X [st] D σ H:=λpins s I=>BO LX pins s σ H D I h
end
section
variable{X:Cx}{sc:j'}{own N:List Str}{cap:List Nat}{cl:List (Str×aF)}{tg iter:bC}{δ:List Slot}{ds:List ae}{pos px tf lp:Pos}{tgt:FZ}{x:Str}{B0 B H0 H:Hp}{σ:St}{D:Ends}
end
section
variable{X:Cx}{B0 B H0 H:Hp}{σ:St}{D:Ends}{δ:List Slot}{a:aF}{ps:List aF}{gs:List (List ae)}{pos px:Pos}{x:Str}
end
theorem DN{α:Type}(l:List α)(n:Nat):cutD l none (some (n:Int))=l.take n:=by
 unfold cutD;rw[HT.Dx,HT.p_,kT,Nat.sub_zero];by_cases h:n<=l.length
 ·rw[nM h]
 ·rw[Nat.min_eq_right ∅,c0 ∅,c0 ∅]
theorem Ij:Lay 20 (.list []):=yp λd hd=>by cases hd
structure Nm(mg:Str->Option aD):Prop where
 len:mg "len"=none
 Pn:mg "enumerate"=none
 srt:mg "sorted"=none
 max:mg "max"=none
 min:mg "min"=none
 rng:mg "range"=none
 sum:mg "sum"=none
 DP:mg "isinstance"=none
 tup:mg "tuple"=none
 lst:mg "list"=none
 int:mg "int"=none
 bool:mg "bool"=none
section
variable{P:bA}{w:cg}{A:dE}{R:vR->aL->Prop}{it S:aF}{fp wr:List aF}{n:Nat}{V:Nat->aD->Prop}{St:Nat->cM->Prop}{Kp:cM->Prop}{bt:Nat->Nat->Bool}
end
section
variable{P:bA}{w:cg}{A:dE}{E:aD->aL->Prop}{s:aL}
end
section
variable{X:Cx}
end
def JN(l:aF)(n:Nat):cM->Prop:=λh=>∃o es ep t,h.get? l=some o/\o.ExactSet/\o.data=.set es ep t/\t.fits es.size=true/\es.size=n
theorem JN.ok(x:JN l n h):ia P w H h l (.ext (JN l n)):=by
 refine#[x,?_,λh1 h2 y k=>?_]
 ·obtain⟨o,_,_,_,e,_⟩:=x
  exact#[o,e]
 ·obtain⟨o,es,ep,t,e,r⟩:=y
  exact#[o,es,ep,t,k o e,r]
section
variable{X:Cx}
def dd:List Str->List Str->List Str
 |acc,[]=>acc
 |acc,x::l=>dd (if decide (x∈acc)=true then acc else acc ++ [x]) l
theorem A6:∀(l:List Str)(acc m:List Str),dd acc (l++m)=dd (dd acc l) m
 | [],_,_=>rfl
 |x::l,acc,m=>A6 l _ m
theorem wj:∀(l acc:List Str),(dd acc l).length<=acc.length+l.length
 | [],_=>aP _
 |x::l,acc=>by
  have:=wj l (if decide (x∈acc)=true then acc else acc ++ [x])
  unfold dd
  split at this
  ·rename_i h;rw[qQ3 h];simp;omega
  ·rename_i h;rw[qQ2 h];simp at this ⊢;omega
theorem DQ:∀{l acc:List Str},(acc++l).Nodup->dd acc l=acc++l
 | [],acc,_=>by rw[cy];rfl
 |x::l,acc,h=>by
  unfold dd;have hx:=λz=>by
   rw[cF]at h;exact h.2.2 x z x aM rfl
  rw[qQ2 ↑hx,DQ ↑h]
  simp
theorem A7:∀{ss:List Str}{its:List aD},dI (ss.map V.str) its->∀(i:Nat)v,its[i]?=some v->∃x t,ss[i]?=some x/\v=.str x t
 | [],_,r,i,v,e=>by cases r;simp at e
 |x::ss,_,r,i,v,e=>by
  cases r with
  |cons a t=>
   cases i with
   |zero=>obtain⟨t,rfl⟩:=a;simp at e;exact#[x,t,rfl,e.symm]
   |succ i=>simpa using A7 t i v ↑e
theorem SetOf.za5{S:Str->Bool}(x:h.SetOf (strKind P w) l S n):JN l n h:=by
 obtain⟨o,es,ep,t,ho,hex,hd,_,_,_,hf,hn⟩:=x;exact#[o,es,ep,t,ho,hex,hd,hf,hn]
theorem An:g8 X (.builtin "len") (λxs H Q=>∃p n,xs=[.ref p]/\H p=some (.ext (JN p n))/\n<10000/\Q (.int n) H):=by
 intro pins s σ H xs us Q I r h;obtain⟨p,n,rfl,hp,hn,q⟩:=h;obtain⟨u,rfl,rx⟩:=vals1 r;cases rx;obtain⟨⟨o,es,ep,t,ho,hex,hd,hf,hz⟩,_⟩:=I.hok p _ hp;exact call_len_set ho hex hd hf ∅ #[.int n,H,I.tok _,#[_,by rw[hz]],q]
end
section
variable{X:Cx}{a b c e:bC}{δ:List Slot}{d d1 d2 d3:ae}{ds:List ae}{pos p p2 Ao:Pos}{k:Nat}
theorem b9.strs:∀{ss:List Str}{xs:List V},b9 K H xs (ss.map .str)->xs=ss.map V.str
 | [],_,r=>by cases r;rfl
 |x::ss,_,r=>by cases r with|cons a t=>cases a;rw[b9.strs t];rfl
theorem yW:PE X e (λ_ _ _=>False):=λ_ _ _ _ _ _ h=>h.elim
theorem iG{op}(h:VE X a δ d):VE X (.BoolOp op [a] pos) δ d:=.of (K9 cB) λB0 B σ H0 H Q f q=>h B0 B σ H0 H Q f q
theorem jL{k1 k2:Bool}(h1:VE X a δ (.bool k1))(h2:k1=true->VE X (.BoolOp .And (b::rest) pos) δ (.bool k2)):VE X (.BoolOp .And (a::b::rest) pos) δ (.bool (k1&&k2)):=by
 cases k1 with
 |true=>
  refine .of (Fw cB cB) λB0 B σ H0 H Q f q=>h1 B0 B σ H0 H _ f λv H1 cV g r=>?_
  cases r;exact#[true,rfl,(h2 rfl B0 B σ H1 cV _ (f.grow g) λu H2 fS g2 r2=>q u H2 fS (g.trans g2) r2)]
 |false=>
  refine .of (Fw cB yW) λB0 B σ H0 H Q f q=>h1 B0 B σ H0 H _ f λv H1 cV g r=>?_
  cases r;exact#[false,rfl,(q _ H1 cV g (.bl false))]
theorem vi{k1 k2:Bool}(h1:VE X a δ (.bool k1))(h2:k1=false->VE X (.BoolOp .Or (b::rest) pos) δ (.bool k2)):VE X (.BoolOp .Or (a::b::rest) pos) δ (.bool (k1||k2)):=by
 cases k1 with
 |false=>
  refine .of (QT cB cB) λB0 B σ H0 H Q f q=>h1 B0 B σ H0 H _ f λv H1 cV g r=>?_
  cases r;exact#[false,rfl,(h2 rfl B0 B σ H1 cV _ (f.grow g) λu H2 fS g2 r2=>q u H2 fS (g.trans g2) r2)]
 |true=>
  refine .of (QT cB yW) λB0 B σ H0 H Q f q=>h1 B0 B σ H0 H _ f λv H1 cV g r=>?_
  cases r;exact#[true,rfl,(q _ H1 cV g (.bl true))]
theorem TV{n:Int}(h1:VO X a δ ds)(h2:VE X b δ (.int n))(hn:-1000<=n/\n<=1000)(hz:ds.length<=100):VO X (.BinOp a .Mult b pos) δ (aY n.toNat ds).flatten:=by
 refine .of (Dr Tb cB cB) λB0 B σ H0 H Q f q=>h1 B0 B σ H0 H _ f λp xs H1 cV g1 a1 a2 a3 a4=>h2 B0 B σ H1 cV _ (f.grow g1) λu H2 fS g2 r2=>?_
 cases r2;have gg:=g1.trans g2;have hl:=a4.length;have h63:(1000:Int)<2^63:=⋯
 refine#[p,n,xs,rfl,rfl,g2.big _ _ a3,∅,∅,?_,λl Xh=>?_]
 ·rw[du,hl]
  have:n.toNat<=1000:=∅
  have:=iC hz this;omega
 ·refine q l _ H2 _ (gg.trans (.loose g2.sub Xh)) (gg.big.free Xh) (g2.sub.free Xh) bh ?_
  have rs:=a4.mono g2.e8;have go:∀m,b9 X.K H2 (aY m xs).flatten (aY m ds).flatten:=by
   intro m
   induction m with
   |zero=>exact .nil
   |succ m ih=>rw[dJ,eJ,dJ,eJ];exact rs.append ih
  exact go _
def qP:List Bool->Bool:=λl=>l.all id
theorem rN(hc:X.calm=true):g8 X (.builtin "all") (λxs H Q=>∃p bs,xs=[.ref p]/\jx X.K H p (bs.map V.bl)/\Q (.bl (qP bs)) H):=by
 intro pins s σ H xs us Q I r h;obtain⟨p,bs,rfl,hq,q⟩:=h;obtain⟨u,rfl,rx⟩:=vals1 r;cases rx;obtain⟨its,rv,pl,hz⟩:=I.list hq;have hl:=rv.length;simp only[ai]at hl;refine call_all_walkS (my pl.isList ?_)
 have Vq:∀(i:Nat)v,its.toArray[i]?=some v->v=.bool _:=λi v hv=>by
  have Oz:its[i]?=some v:=by simpa using hv
  have e:=rv.getD i;have e2:its.getD i qS=v:=by rw[aI,Oz];rfl
  have hi:i<bs.length:=by have:=(aH.mp Oz).1;omega
  have e3:(bs.map V.bl).getD i .non=.bl (bs.getD i false):=by
   rw[aI,aG,aI,au hi];rfl
  rwa[e2,e3]at e
 refine#[_,_,_,_,_,_,_,λi=>bs.getD i false,rfl,(Walks.list (by simp[I.ok.hd hc]) _ p (a7 (aZ pl.isList.choose_spec.1)) its.toArray).toS,#[#[_,bq _ rfl,rfl,rfl],pl.isList.push _],?_,λs' hm=>?_]
 ·intro i v Q' E' s' hv q'
  rw[Vq i v hv];exact eR q'
 ·have ea:(aX its.toArray.size).all (λi=>bs.getD i false)=qP bs:=by
   rw[bL,<-hl];unfold qP;rw[eA,dO,dO]
   constructor
   ·intro h x hx
    obtain⟨i,hi⟩:=Fm.mp hx;have:=h i (bW.mpr (aH.mp hi).1)
    rwa[aI,hi]at this
   ·intro h i hi
    have hi:=bW.mp hi;rw[aI,au hi]
    exact h _ (dP hi)
  rw[ea];obtain⟨h',g',d',A8,Vk⟩:=s';have eg:=hm.gens;have ed:=hm.drawn;have eo:=hm.os;subst eg;subst ed;subst eo;refine#[.bl _,H,I.kept λb o e=>hm.heap b o ?_ (aE _ e),rfl,q]
  have:=aZ e;simp;exact a7 this
theorem b9.bls:∀{bs:List Bool}{xs:List V},b9 K H xs (bs.map .bool)->xs=bs.map V.bl
 | [],_,r=>by cases r;rfl
 |x::ss,_,r=>by cases r with|cons a t=>cases a;rw[b9.bls t];rfl
theorem DS{bs:List Bool}:nR K (λxs H Q=>∃p bs,xs=[.ref p]/\jx K H p (bs.map V.bl)/\Q (.bl (qP bs)) H) [.list (bs.map .bool)] (.bool (qP bs)):=λvs H0 H Q s r q=>by
 obtain⟨v,rfl,r1⟩:=r.one;cases r1 with
 |lst hq rs=>
  have e:=rs.bls;subst e;exact#[_,bs,rfl,s.seq hq,q _ _ _ (.refl s) (.bl _)]
theorem Rf(hr:dB k X.A)(hs:DG d2=true)(l1:Lay 20 d1)(l2:Lay 20 d2)(h1:VE X a δ d1)(h2:VE X b δ d2)(hm:behindInMarks .In b=false:=by with_unfolding_all rfl):VE X (.Compare a [.In] [b] pos) δ (.bool (vg d1 d2)):=mM (L0 (DH hr)) (TL hs l1 l2) h1 h2 hm
theorem L7(hr:dB k X.A)(l1:Lay 20 d1)(l2:Lay 20 d2)(h1:VE X a δ d1)(h2:VE X b δ d2):VE X (.Compare a [.NotEq] [b] pos) δ (.bool (!cP d1 d2)):=mM (LZ (DH hr)) (Ie l1 l2) h1 h2 (eu _)
end
end L2
namespace L2
open PySem PySem.Spec PyProof.Rows PySem.Builtin PySem.Builtin.Str
variable{i n:Int}{ap:Pos}{K:ao}
section
variable{X:Cx}
def TX:V->List V->Hp->VK->Prop:=λx vs H Q=>∃z y,x=.str z/\vs=[.str y]/\(y.length==0)=false/\z.length+2<=sizeLine/\∀l,H l=none->Q (.ref l) (upd H l (.lst ((cC z y).map V.str)))
theorem vj:∀(l:List (Str×Tok)),dI ((l.map (·.1)).map V.str) (strValues l)
 | []=>.nil
 |(x,t)::l=>.cons #[t,rfl] (vj l)
theorem split_len{z y:Str}(hz:z.length+2<=sizeLine):(cC z y).length<=sizeLine/\(partsBetween z (occurrences z y 0 z.length (z.length+1)) y.length).length<=sizeLine:=by
 have e1:=De z y 0 z.length (z.length+1);have e2:(partsBetween z (occurrences z y 0 z.length (z.length+1)) y.length).length<=sizeLine:=by rw[xI];omega
 refine#[?_,e2]
 unfold cC
 split
 ·show 1<=sizeLine;omega
 ·split
  ·show 1<=sizeLine;omega
  ·exact e2
theorem L8:Vm X "str.split" TX:=by
 intro pins s σ H x vs v us Q I rx rv h;obtain⟨z,y,rfl,rfl,hy,hz,q⟩:=h;obtain⟨t,rfl⟩:=rx;obtain⟨u,rfl,ru⟩:=rv.one;obtain⟨tu,rfl⟩:=ru;obtain⟨sl,sp⟩:=split_len hz;have fin:∀(l:List (Str×Tok))(k:Nat),l.map (·.1)=cC z y->EP X pins σ Q _ { s with heap:=s.heap.push { cls:=.type "list",data:=.seq (strValues l).toArray },toks:=k }:=λl k e=>by
  refine#[.ref s.heap.objs.size,_,I.laid (λb o e=>aE _ e) ∅ (show ia X.prog X.w _ _ _ (.lst ((cC z y).map V.str)) from#[by rw[ai];exact sl,strValues l,0,by rw[<-e];exact vj l,bq _ rfl]),rfl,q _ (I.hok.fresh ∅)]
 cases h1:(decide (z.length<y.length)||decide (strKind z<strKind y)) with
 |true=>exact iB Af (uc _ _ _) yC (xJ _ _) (meets_str_split_cannot_occur z y t tu h1) (fin [(z,t)] s.toks (by unfold cC;rw[qQ3 h1];rfl))
 |false=>
  cases hf:(occurrences z y 0 z.length _).isEmpty with
  |true=>exact iB Af (uc _ _ _) yC (xJ _ _) (meets_str_split_not_found z y t tu h1 hy hf) (fin [(z,t)] s.toks (by unfold cC;rw[qQ2 (by rw[h1];decide),qQ3 hf];rfl))
  |false=>
   refine iB Af (uc _ _ _) yC (xJ _ _) (meets_str_split_sep z y t tu h1 hy hf ∅ sp) ?_
   rw[strsFrom_eq];exact fin (numbered s.toks _) _ ((numbered_texts _ _).trans (by unfold cC;rw[qQ2 (by rw[h1];decide),qQ2 (by rw[hf];decide)]))
def rJoin(K:ao):V->List V->Hp->VK->Prop:=λx vs H Q=>∃y p zs,x=.str y/\vs=[.ref p]/\(jx K H p (zs.map V.str)\/oH K H p (zs.map V.str))/\(zs.map (·.length)).sum+zs.length*y.length<=16777216/\Q (.str (cX y zs)) H
theorem yX:∀{zs:List Str}{us:List aD},dI (zs.map V.str) us->StrsAre us zs
 | [],_,r=>by cases r;exact .nil
 |z::zs,_,r=>by cases r with|cons a t=>obtain⟨tk,rfl⟩:=a;exact .cons z tk (yX t)
theorem Pp:Vm X "str.join" (rJoin X.K):=by
 intro pins s σ H x vs v us Q I rx rv h;obtain⟨y,p,zs,rfl,rfl,hq,hz,q⟩:=h;obtain⟨t,rfl⟩:=rx;obtain⟨u,rfl,ru⟩:=rv.one;cases ru;have e:Txt.join y zs=cX y zs:=StrLaws.glued_eq_join y zs;rcases hq with hq|hq
 ·obtain⟨its,r,pl,_⟩:=I.list hq
  exact join_list pl.isList ↑(yX r) hz λt' k=>#[.str _,H,I.tok k,#[t',by rw[e]],q]
 ·obtain⟨its,r,pl,_⟩:=I.tuple hq
  exact join_tuple pl ↑(yX r) hz λt' k=>#[.str _,H,I.tok k,#[t',by rw[e]],q]
theorem Ap:g8 X (.type "int") (λxs H Q=>∃x n,xs=[.str x]/\intText? x=some n/\x.length<=640/\Q (.int n) H):=by
 intro pins s σ H xs us Q I r h;obtain⟨x,n,rfl,hn,hl,q⟩:=h;obtain⟨u,rfl,t,rfl⟩:=vals1 r;exact PySem.W.KIN.call_text hn hl #[.int n,H,I.tok _,#[_,rfl],q]
def jF(x:Str):Nat->Str
 |0=>fw
 |n+1=>x++jF x n
theorem Ik(x:Str):∀(n:Nat)(acc:Array Nat),(aY n x.cps).foldl (· ++ ·) acc=acc++(jF x n).cps
 |0,acc=>by show acc=acc ++ #[];simp
 |n+1,acc=>by
  rw[dJ,nH,Ik x n];show acc++x.cps++(jF x n).cps=acc++(x.cps++(jF x n).cps);rw[Array.append_assoc]
theorem Il(x:Str):∀n,(jF x n).length=n*x.length
 |0=>by show(fw).length=_;simp[fw,Str.length]
 |n+1=>by
  show(x++jF x n).length=_
  rw[cq,Il x n,xG,Nat.add_comm]
theorem Pq:rg X (binaryOp .Mult) (λx y H Q=>∃z n,x=.str z/\y=.int n/\0<=n/\n<=1000/\z.length<=1000/\Q (.str (jF z n.toNat)) H):=by
 intro pins s σ H x y v u Q I rx ry h;obtain⟨z,n,rfl,rfl,h0,h1,hz,q⟩:=h;obtain⟨t,rfl⟩:=rx;obtain⟨t',rfl⟩:=ry;have h63:1000<2^63:=⋯
 have e63:2^63=9223372036854775808:=⋯
 refine PySem.P.mul_str (by rw[qQ0 ∅,qQ0 ∅];rfl) (λha _=>?_) (λ_ _=>?_) ?_
 ·have:(2^63-1)/n>=1000:=by
   rw[ge_iff_le,Int.le_ediv_iff_mul_le ∅]
   omega
  omega
 ·unfold tooLong
  rw[qQ0];rw[du];have:z.length*n.toNat<=1000*1000:=iC hz ∅
  omega
 ·by_cases hn:n<1
  ·rw[qQ3 hn]
   have:n.toNat=0:=∅
   rw[this]at q;exact#[⋯,.str _,H,I.tok _,#[_,rfl],q]
  ·rw[qQ2 hn]
   by_cases hc:(n==1||z.length==0)=true
   ·rw[qQ3 hc]
    have e:jF z n.toNat=z:=by
     rw[z8]at hc;rcases hc with hc|hc
     ·have:n=1:=by simpa using hc
      subst this;cases z with|mk c=>show(#[c ++ #[]]:Str)=#[c];simp
     ·have hz0:z.length=0:=by simpa using hc
      have:z=fw:=by cases z with|mk c=>simp[Str.length]at hz0;simp[fw,hz0]
      subst this;have:∀m,jF fw m=fw:=by
       intro m
       induction m with
       |zero=>rfl
       |succ m ih=>show fw++jF fw m=_;rw[ih];rfl
      exact this _
    rw[e]at q;exact#[.str _,H,I.tok _,#[_,rfl],q]
   ·rw[qQ2 hc]
    have e:(#[(aY n.toNat z.cps).foldl (· ++ ·) #[]])=jF z n.toNat:=by rw[Ik];simp
    rw[e];refine#[?_,.str _,H,I.tok _,#[_,rfl],q]
    rw[Il,du];have:n.toNat*z.length<=1000*1000:=iC ∅ hz
    omega
def Its(x:Str):It:=#[λi _=>i<x.cps.size,λi H v H'=>H'=H/\∃c,x.cps[i]?=some c/\v=.str #[(bN [c])],λi _=>x.cps.size<=i]
theorem L9{P:bA}{w:cg}{tg:bC}(it:aF)(x:Str)(t:Tok){ty:String}(hty:ty="str_ascii_iterator"\/ty="str_iterator"):Turn P w K tg (Its x) [it] it (λi h=>h.IsStrIter it ty x t i) where
 mem:=by simp
 obj:=λi h st b hb=>by
  have e:b=it:=by simpa using hb
  subst e;obtain⟨o,e,c,d⟩:=st;exact#[o,e,λv z=>by rw[d]at z;cases z]
 keep:=λi h h' st k=>let#[o,e,r]:=st;#[o,k it (by simp) o e,r]
 item:=by
  intro X hP hw hK hc i pins s σ H E I hf st hg;subst hP hw hK;obtain⟨f0,f1,f2,f3,f4,f5⟩:=hf it (by simp)
  have fin:∀v h' tk,SignAt x i v->h'.IsStrIter it ty x t (i+1)->(∀b o,b∉[it]->s.heap.get? b=some o->h'.get? b=some o)->∃u,some v=some u/\wpAny (model X.prog X.w) X.A (letOwnedTupleGo tg (.ref it) u) (λ_ s2=>∃y H',Inv X pins σ H' s2/\RelV y u/\(Its x).Wh i H y H'/\s2.heap.IsStrIter it ty x t (i+1)/\∀b∈[it],H' b=none) E { s with heap:=h',toks:=tk }:=by
   intro v h' tk hv yk kk;obtain⟨c,u,hcu,rfl⟩:=hv;have I1:Inv X pins σ H { s with heap:=h',toks:=tk }:=I.turned (λb o hb e=>kk b o ↑hb e) f0 f1 f3 f4 f5
   obtain⟨o,e,cc,d⟩:=id yk;exact#[_,rfl,Dq e cc d (by rcases hty with rfl|rfl<;>decide) #[.str #[(bN [c])],H,I1,#[u,rfl],#[rfl,c,hcu,rfl],yk,λb hb=>(hf b hb).1]]
  rcases hty with rfl|rfl
  ·exact(Walks.strAscii (I.ok.hd hc) it x t).item i s _ _ hg st λv h' tk hv yk kk=>fin v h' tk hv yk kk
  ·exact(Walks.strWide (I.ok.hd hc) it x t).item i s _ _ hg st λv h' tk hv yk kk=>fin v h' tk hv yk kk
 done:=by
  intro X hP hw hK hc i pins s σ H E I hf st hg;subst hP hw hK;obtain⟨f0,f1,f2,f3,f4,f5⟩:=hf it (by simp)
  have hge:=hg;rcases hty with rfl|rfl
  ·exact wpAny_pyNext_ascii_end (I.ok.hd hc) st (by simp;exact hge) λh' eb=>#[rfl,I.turned (λb o hb e=>eb b o hb e) f0 f1 f3 f4 f5]
  ·exact wpAny_pyNext_wide_end (I.ok.hd hc) st (by simp;exact hge) λh' eb=>#[rfl,I.turned (λb o hb e=>eb b o hb e) f0 f1 f3 f4 f5]
 self:=λ_ _ _ _ _ st h=>by
  rcases hty with rfl|rfl
  ·exact wpAny_pyIter_striter_ascii st h
  ·exact wpAny_pyIter_striter_wide st h
def za7(tl:TE):TI:=λσ H R=>tl σ H λv H1=>∃x,v=.str x/\R (Its x) H1
theorem TY{tg l:bC}{tl:TE}(hl:PE X l tl):PI X tg l (za7 tl):=by
 intro pins s σ H R I h;refine fP (hl pins s σ H _ I h) λv s1 #[y,H1,I1,r1,q1]=>?_
 obtain⟨x,e,q⟩:=q1;subst e;obtain⟨t,rfl⟩:=r1;have go:∀ty,(ty="str_ascii_iterator"\/ty="str_iterator")->∀o:Obj,o.cls=.type ty->o.data=.fields (bN [.str x t,.int 0 0])->o.isFreed=false->PIE X pins σ tg R _ { s1 with heap:=s1.heap.push o }:=λty hty o c d fr=>
  #[s1.heap.objs.size,_,_,_,H1,rfl,I1.kept λb o e=>aE _ e,L9 _ x t hty,#[o,bq _ fr,c,d],λb hb=>by
   have e:b=s1.heap.objs.size:=by simpa using hb
   subst e;exact I1.vZ ∅ (I1.hok.fresh ∅),q]
 cases ha:x.cps.all (·<128)
 ·exact wpAny_pyIter_wide ha (go "str_iterator" (.inr rfl) _ rfl rfl rfl)
 ·exact wpAny_pyIter_ascii ha (go "str_ascii_iterator" (.inl rfl) _ rfl rfl rfl)
end
section
variable{X:Cx}{tg a b c e:bC}{es:List bC}{δ:List Slot}{d d1 d2 d3:ae}{ds:List ae}{pos p p2 Ao:Pos}{k:Nat}{x y z:Str}
def rO(x:Str):List ae:=x.cps.toList.map λc=>.str #[(bN [c])]
theorem T1(h:VE X a δ (.str x)):VI X tg a δ (rO x):=#[_,TY cB,λB0 B σ H0 H R f q=>h B0 B σ H0 H _ f λv H1 cV g r=>by
 cases r;have hl:(rO x).length=x.cps.size:=by unfold rO;rw[ai,cH]
 refine#[x,rfl,q _ H1 cV g λHa Hb s1 s2 i=>#[λhi=>(show i<x.cps.size by omega),λhi=>(show x.cps.size<=i by omega),λv xT d hd #[e,c,hc,ev]=>?_]]
 subst e;subst ev;unfold rO at hd;rw[aG,lI,hc]at hd
 cases hd;exact#[Ha,.refl s2,.str _]]
theorem odS(h:x.length+y.length<=sizeLine):A3 K (λx y H Q=>∃i j,x=.str i/\y=.str j/\i.length+j.length<=sizeLine/\Q (.str (i++j)) H) (.str x) (.str y) (.str (x++y)):=λv u H0 H Q s r1 r2 k=>by cases r1;cases r2;exact#[_,_,rfl,rfl,h,k _ _ _ (.refl s) (.str _)]
theorem hV(h1:VE X a δ (.str x))(h2:VE X b δ (.str y))(h:x.length+y.length<=sizeLine):VE X (.BinOp a .Add b pos) δ (.str (x++y)):=uq FG (odS h) h1 h2
theorem T2(h0:0<=n)(h1:n<=1000)(hz:x.length<=1000):A3 K (λx y H Q=>∃z n,x=.str z/\y=.int n/\0<=n/\n<=1000/\z.length<=1000/\Q (.str (jF z n.toNat)) H) (.str x) (.int n) (.str (jF x n.toNat)):=λv u H0 H Q s r1 r2 k=>by cases r1;cases r2;exact#[_,_,rfl,rfl,h0,h1,hz,k _ _ _ (.refl s) (.str _)]
theorem Im(h1:VE X a δ (.str x))(h2:VE X b δ (.int n))(h0:0<=n)(hn:n<=1000)(hz:x.length<=1000):VE X (.BinOp a .Mult b pos) δ (.str (jF x n.toNat)):=uq Pq (T2 h0 hn hz) h1 h2
theorem Xi{c:Nat}(hz:x.length<=sizeLine)(h:um x.cps.toList i=some c):A3 K (Zt K) (.str x) (.int i) (.str #[(bN [c])]):=λv u H0 H Q s r1 r2 k=>by
 cases r1;cases r2;exact .inr (.inr #[x,i,c,rfl,rfl,hz,h,k _ _ _ (.refl s) (.str _)])
theorem Ca{c:Nat}(h1:VE X a δ (.str x))(h2:VE X b δ (.int i))(hz:x.length<=sizeLine)(h:um x.cps.toList i=some c)(hs:qc b:=by intro _ _;rfl):VE X (.Subscript a b pos) δ (.str #[(bN [c])]):=FY B1 (Xi hz h) h1 h2 hs
def DT(x y:Str):Bool:=!(occurrences y x 0 y.length 1).isEmpty
theorem Xj:A3 K (λx y H Q=>∃i j,x=.str i/\y=.str j/\Q (.bl (!(occurrences j i 0 j.length 1).isEmpty)) H) (.str x) (.str y) (.bool (DT x y)):=λv u H0 H Q s r1 r2 k=>by cases r1;cases r2;exact#[_,_,rfl,rfl,k _ _ _ (.refl s) (.bl _)]
theorem T3(h1:VE X a δ (.str x))(h2:VE X b δ (.str y))(hm:behindInMarks .In b=false:=by with_unfolding_all rfl):VE X (.Compare a [.In] [b] pos) δ (.bool (DT x y)):=mM Jo Xj h1 h2 hm
theorem T4(hz:x.length<=sizeLine):nR K (λxs H Q=>∃z,xs=[.str z]/\z.length<=sizeLine/\Q (.int z.length) H) [.str x] (.int x.length):=λvs H0 H Q s r k=>by
 obtain⟨v,rfl,r1⟩:=r.one;cases r1;exact#[x,rfl,hz,k _ _ _ (.refl s) (.int _)]
theorem Io(h:VE X a δ (.str x))(hz:x.length<=sizeLine)(hm:X.mg "len"=none)(hg:Gl X "len":=by rfl)(hs:kO X a []:=by rfl):VE X (.Call (.Name "len" p) [a] [] pos) δ (.int x.length):=ji B3 (T4 hz) (aq h aU hs) hm sY hg (he:=hs)
theorem T5(h:i.natAbs.log2<1920):nR K (λxs H Q=>∃i,xs=[.int i]/\i.natAbs.log2<1920/\Q (.str (toString i)) H) [.int i] (.str (toString i)):=λvs H0 H Q s r k=>by
 obtain⟨v,rfl,r1⟩:=r.one;cases r1;exact#[i,rfl,h,k _ _ _ (.refl s) (.str _)]
theorem T6(h:intText? x=some n)(hl:x.length<=640):nR K (λxs H Q=>∃x n,xs=[.str x]/\intText? x=some n/\x.length<=640/\Q (.int n) H) [.str x] (.int n):=λvs H0 H Q s r k=>by
 obtain⟨v,rfl,r1⟩:=r.one;cases r1;exact#[x,n,rfl,h,hl,k _ _ _ (.refl s) (.int _)]
theorem sH(h:VE X a δ (.int i))(hl:i.natAbs.log2<1920)(hm:X.mg "str"=none)(hg:Gl X "str":=by rfl)(hs:kO X a []:=by rfl):VE X (.Call (.Name "str" p) [a] [] pos) δ (.str (toString i)):=jC BR (T5 hl) (aq h aU hs) hm rfl hg (he:=hs)
theorem Pr(h:VE X a δ (.str x))(hn:intText? x=some n)(hl:x.length<=640)(hm:X.mg "int"=none)(hg:Gl X "int":=by rfl)(hs:kO X a []:=by rfl):VE X (.Call (.Name "int" p) [a] [] pos) δ (.int n):=jC Ap (T6 hn hl) (aq h aU hs) hm rfl hg (he:=hs)
theorem rP(h1:VE X a δ (.str x))(h2:VE X b δ (.str y))(hy:(y.length==0)=false)(hz:x.length+2<=sizeLine)
  (hs:kO X b []:=by rfl)(gA:uS X a "split":=by rfl)
  (lj:Ft X pos [b]:=by rfl)
  (hline:(ap.endLine==pos.line)=true:=by rfl)(fD:rC X pos []:=by rfl):VO X (.Call (.Attribute a "split" ap) [b] [] pos) δ ((cC x y).map .str):=
 .of (rH BD PySem.F.slot_str_split PySem.F.type_str_split L8 cB (cY cB eV hs) gA lj hline hs fD) λB0 B σ H0 H Q f q=>h1 B0 B σ H0 H _ f λv H1 cV g r1=>by
  cases r1;refine#[rfl,h2 B0 B σ H1 cV _ (f.grow g) λu H2 fS g2 r2=>?_]
  cases r2;refine#[x,y,rfl,rfl,hy,hz,λl hl=>?_]
  have gg:=g.trans g2;refine q l _ H2 _ (gg.trans (.loose g2.sub hl)) (gg.big.free hl) (g2.sub.free hl) bh ?_
  have go:∀l:List Str,b9 X.K H2 (l.map V.str) (l.map aS):=by
   intro l
   induction l with
   |nil=>exact .nil
   |cons z l ih=>exact .cons (.str z) ih
  exact go _
theorem sI{zs:List Str}(h1:VE X a δ (.str y))(h2:VE X b δ (.list (zs.map .str)))(hz:(zs.map (·.length)).sum+zs.length*y.length<=16777216)
  (hs:kO X b []:=by rfl)(gA:uS X a "join":=by rfl)
  (lj:Ft X pos [b]:=by rfl)
  (hline:(ap.endLine==pos.line)=true:=by rfl)(fD:rC X pos []:=by rfl):VE X (.Call (.Attribute a "join" ap) [b] [] pos) δ (.str (cX y zs)):=
 .of (rH BD PySem.F.slot_str_join PySem.F.type_str_join Pp cB (cY cB eV hs) gA lj hline hs fD) λB0 B σ H0 H Q f q=>h1 B0 B σ H0 H _ f λv H1 cV g r1=>by
  cases r1;refine#[rfl,h2 B0 B σ H1 cV _ (f.grow g) λu H2 fS g2 r2=>?_]
  cases r2 with
  |lst hq rs=>
   have e:=rs.strs;subst e;exact#[y,_,zs,rfl,rfl,.inl (g2.sub.seq hq),hz,q _ H2 fS (g.trans g2) (.str _)]
end
end L2
namespace L2
open PySem PySem.Spec PyProof.Rows
variable{a it l l1 l2:aF}{items xs ys:Array aD}{X:Cx}{h:cM}{H:Hp}{pins:List (aF×Obj)}{elts:List bC}{ds:List ae}{i:Nat}{d:Option ae}{o:Option V}{tp:Pos}{K:ao}{s:aL}{x:aD}{Q:aD->aL->Prop}
def kP(kvs:List (Str×ae)):ae:=.dict (kvs.map λp=>(.str p.1,p.2))
def L_(kvs:List ((Str×Str)×ae)):ae:=.dict ((.none,.bool true)::kvs.map λp=>(.tuple [.str p.1.1,.str p.1.2],p.2))
def Pt(fs:List (Str×ae)):ae:=.dict ((.none,.none)::fs.map λp=>(.str p.1,p.2))
def iT{κ:Type}[DecidableEq κ](kvs:List (κ×ae))(k:κ):Option ae:=(kvs.find? λp=>decide (p.1=k)).map (·.2)
theorem fy{κ:Type}[DecidableEq κ]{p:κ×ae}{r:List (κ×ae)}{k:κ}(e:p.1=k):iT (p::r) k=some p.2:=by simp[iT,cI,e]
theorem cL{κ:Type}[DecidableEq κ]{p:κ×ae}{r:List (κ×ae)}{k:κ}(e:¬p.1=k):iT (p::r) k=iT r k:=by simp[iT,cI,e]
def DU(K:ao)(H:Hp):Option V->Option ae->Prop
 |none,none=>True
 |some v,some d=>Rep K H v d
 |_,_=>False
theorem DU.some_of{d:ae}(h:DU K H o (some d)):∃v,o=some v/\Rep K H v d:=by
 cases o with
 |none=>exact h.elim
 |some v=>exact#[v,rfl,h]
theorem DU.isSome(h:DU K H o d):o.isSome=d.isSome:=by
 cases o<;>cases d<;>first|rfl|exact h.elim
theorem DU.getD{v:V}{e:ae}(h:DU K H o d)(r:Rep K H v e):Rep K H (o.getD v) (d.getD e):=by
 cases o<;>cases d<;>first|exact r|exact h|exact h.elim
section
variable{K:ao}{H:Hp}{v:V}
theorem Rep.pH{kvs:List (Str×ae)}(r:Rep K H v (kP kvs)):∃a ws,v=.ref a/\H a=some (.dK ws)/\ws.map (·.1)=kvs.map (λp=>(bo p.1:Key))/\b9 K H (ws.map (·.2)) (kvs.map (·.2)):=by
 unfold kP at r
 generalize e:kvs.map (λp=>(aS p.1,p.2))=ds at r
 cases r with
 |dct h k t=>
  rename_i a ws
  refine#[a,ws,rfl,h,?_,?_]
  ·have k2:ws.map (λp=>oB p.1)=kvs.map λp=>aS p.1:=by rw[<-k,<-e,aB];rfl
   clear k t h e
   induction ws generalizing kvs with
   |nil=>cases kvs with|nil=>rfl|cons p l=>simp at k2
   |cons q ws ih=>
    cases kvs with
    |nil=>simp at k2
    |cons p l=>
     rw[ay,ay]at k2 ⊢
     injection k2 with h1 h2
     rw[ih h2]
     congr 1
     cases eq:q.1 with
     |inl i=>rw[eq]at h1;cases h1
     |inr x=>rw[eq]at h1;injection h1 with h1;rw[h1]
  ·rwa[<-e,aB]at t
 |Tz _ _ _=>cases kvs with|nil=>simp at e|cons p l=>simp at e
 |obj _ _ _ _ _=>cases kvs with|nil=>simp at e|cons p l=>simp at e
 |TF _ _ _ _ _=>cases kvs with|nil=>simp at e|cons p l=>simp at e
 |TB _ _ _=>cases kvs with|nil=>simp at e|cons p l=>simp at e
theorem wm:∀{kvs:List (Str×ae)}{ws:List (Key×V)},ws.map (·.1)=kvs.map (λp=>(bo p.1:Key))->b9 K H (ws.map (·.2)) (kvs.map (·.2))->∀k,DU K H (ic ws (bo k)) (iT kvs k)
 | [],ws,e,_,k=>by
  have:ws=[]:=by simpa using e
  subst this;exact fj
 |p::kvs,ws,e,r,k=>by
  cases ws with
  |nil=>simp at e
  |cons q ws=>
   rw[ay,ay]at e r
   injection e with e1 e2
   cases r with
   |cons r1 r2=>
    by_cases h:p.1=k
    ·rwa[fy h,lV (by rw[e1,h])]
    ·rw[cL h,ku (λz=>h (by rw[e1]at z;injection z))];exact wm e2 r2 k
def Aq(p:Str×Str):List Key:=[.inr p.1,.inr p.2]
theorem DV{p q:Str×Str}(e:Aq p=Aq q):p=q:=by
 injection e with e1 e2
 injection e2 with e2 _
 injection e1 with e1
 injection e2 with e2
 exact Prod.ext e1 e2
theorem Rep.Ma{kvs:List ((Str×Str)×ae)}(r:Rep K H v (L_ kvs)):∃a ws,v=.ref a/\H a=some (.dT ws)/\ws.map (·.1)=kvs.map (λp=>Aq p.1)/\b9 K H (ws.map (·.2)) (kvs.map (·.2)):=by
 unfold L_ at r
 generalize e:kvs.map (λp=>(fc [.str p.1.1,.str p.1.2],p.2))=ds at r
 cases r with
 |dct h k t=>
  rename_i a ws
  exfalso
  cases ws with
  |nil=>simp at k
  |cons q ws=>
   rw[ay,ay]at k
   injection k with k1 _
   cases eq:q.1 with
   |inl i=>rw[eq]at k1;cases k1
   |inr x=>rw[eq]at k1;cases k1
 |Tz h k t=>
  rename_i a ws
  refine#[a,ws,rfl,h,?_,?_]
  ·have k2:ws.map (λp=>fc (p.1.map oB))=kvs.map λp=>fc [.str p.1.1,.str p.1.2]:=by rw[<-k,<-e,aB];rfl
   clear k t h e
   induction ws generalizing kvs with
   |nil=>cases kvs with|nil=>rfl|cons p l=>simp at k2
   |cons q ws ih=>
    cases kvs with
    |nil=>simp at k2
    |cons p l=>
     rw[ay,ay]at k2 ⊢
     injection k2 with h1 h2
     rw[ih h2]
     congr 1
     injection h1 with h1
     have one:∀(k:Key)(x:Str),oB k=.str x->k=.inr x:=λk x h=>by
      cases k with
      |inl i=>cases h
      |inr y=>injection h with h;rw[h]
     cases e0:q.1 with
     |nil=>rw[e0]at h1;cases h1
     |cons k1 l1=>
      rw[e0]at h1
      injection h1 with g1 g2
      cases l1 with
      |nil=>cases g2
      |cons k2 l2=>
       injection g2 with g2 g3
       have:l2=[]:=by simpa using g3
       subst this;rw[one k1 _ g1,one k2 _ g2];rfl
  ·rwa[<-e,aB]at t
theorem Mb:∀{kvs:List ((Str×Str)×ae)}{ws:List (List Key×V)},ws.map (·.1)=kvs.map (λp=>Aq p.1)->b9 K H (ws.map (·.2)) (kvs.map (·.2))->∀k,DU K H (ic ws (Aq k)) (iT kvs k)
 | [],ws,e,_,k=>by
  have:ws=[]:=by simpa using e
  subst this;exact fj
 |p::kvs,ws,e,r,k=>by
  cases ws with
  |nil=>simp at e
  |cons q ws=>
   rw[ay,ay]at e r
   injection e with e1 e2
   cases r with
   |cons r1 r2=>
    by_cases h:p.1=k
    ·rwa[fy h,lV (by rw[e1,h])]
    ·rw[cL h,ku (λz=>h (DV (e1.symm.trans z)))];exact Mb e2 r2 k
theorem Rep.Md{fs:List (Str×ae)}(r:Rep K H v (Pt fs)):∃a C dx ws,v=.ref a/\H a=some (.ins C dx ws)/\qM K C/\(∀f∈ws.map (·.1),eK K C f)/\ws.map (·.1)=fs.map (·.1)/\b9 K H (ws.map (·.2)) (fs.map (·.2)):=by
 unfold Pt at r
 generalize e:fs.map (λp=>(aS p.1,p.2))=ds at r
 cases r with
 |dct h k t=>
  rename_i a ws
  exfalso
  cases ws with
  |nil=>simp at k
  |cons q ws=>
   rw[ay,ay]at k
   injection k with k1 _
   cases eq:q.1 with
   |inl i=>rw[eq]at k1;cases k1
   |inr x=>rw[eq]at k1;cases k1
 |obj h c nn k t=>
  rename_i a C dx ws
  refine#[a,C,dx,ws,rfl,h,c,nn,?_,?_]
  ·have k2:ws.map (λp=>aS p.1)=fs.map λp=>aS p.1:=by rw[<-k,<-e,aB];rfl
   clear k t h e nn
   induction ws generalizing fs with
   |nil=>cases fs with|nil=>rfl|cons p l=>simp at k2
   |cons q ws ih=>
    cases fs with
    |nil=>simp at k2
    |cons p l=>
     rw[ay,ay]at k2 ⊢
     injection k2 with h1 h2
     injection h1 with h1
     rw[ih h2,h1]
  ·rwa[<-e,aB]at t
theorem F3:∀{fs:List (Str×ae)}{ws:List (Str×V)},ws.map (·.1)=fs.map (·.1)->b9 K H (ws.map (·.2)) (fs.map (·.2))->∀k d,iT fs k=some d->∃u,ws.lookup k=some u/\k∈ws.map (·.1)/\Rep K H u d
 | [],ws,e,_,k,d,h=>by cases h
 |p::fs,ws,e,r,k,d,h=>by
  cases ws with
  |nil=>simp at e
  |cons q ws=>
   obtain⟨q1,q2⟩:=q
   injection e with e1 e2
   have e1:q1=p.1:=e1;cases r with
   |cons r1 r2=>
    by_cases hk:p.1=k
    ·rw[fy hk]at h
     cases h;refine#[q2,?_,?_,r1]
     ·rw[dN,e1,hk];simp
     ·rw[ay,e1,hk];exact aM
    ·rw[cL hk]at h
     obtain⟨u,h1,h2,h3⟩:=F3 e2 r2 k d h;refine#[u,?_,aT _ h2,h3]
     rw[dN];have:(k==q1)=false:=by rw[beq_eq_false_iff_ne,e1];exact λz=>hk z.symm
     rwa[this]
end
section
variable{X:Cx}{a b c e:bC}{δ:List Slot}{d d1 d2 d3:ae}{ds:List ae}{pos ap:Pos}{k:Nat}{kvs fs:List (Str×ae)}{tvs:List ((Str×Str)×ae)}{x y z:Str}
theorem Fe(hr:dB k X.A):X.A.units+1<cLine:=by have:=hr.un;omega
theorem lz{f:Str}(h:VE X a δ (Pt fs))(hf:iT fs f=some d)(hb:uS X a f:=by rfl):VE X (.Attribute a f pos) δ d:=
 .of (mK cB hb) λB0 B σ H0 H Q fr q=>h B0 B σ H0 H _ fr λv H1 cV g r=>by
  obtain⟨p,C,dx,ws,rfl,hp,cl,nn,ke,rs⟩:=r.Md;obtain⟨u,h1,h2,h3⟩:=F3 ke rs f d hf;exact#[p,C,dx,ws,u,rfl,g.sub _ _ hp,cl,nn f h2,h1,q u H1 cV g h3]
theorem fN(hr:dB k X.A)(h1:VE X a δ (kP kvs))(h2:VE X b δ (.str x))(hx:iT kvs x=some d)(hs:FV b:=by intro _ _;rfl):VE X (.Subscript a b pos) δ d:=
 .of (ym (Fe hr) cB cB hs) λB0 B σ H0 H Q fr q=>h1 B0 B σ H0 H _ fr λv H1 cV g r=>h2 B0 B σ H1 cV _ (fr.grow g) λu H2 fS g2 r2=>by
  obtain⟨p,ws,rfl,hp,ke,rs⟩:=r.pH;cases r2;have o:=wm ke rs x;rw[hx]at o;obtain⟨w,hw,sD⟩:=o.some_of;refine#[p,w,rfl,?_,q w H2 fS (g.trans g2) (sD.mono g2.e8)]
  rw[<-hw];exact pD.k (k:=.inr x) (g2.sub _ _ (g2.e8 _ _ hp))
theorem F4(hr:dB k X.A)(h2:VE X b δ (.str x))(h1:VE X a δ (kP kvs))(hm:behindInMarks .In a=false:=by with_unfolding_all rfl):VE X (.Compare b [.In] [a] pos) δ (.bool (iT kvs x).isSome):=
 .of (Fv (Lw (Fe hr) cB cB) hm) λB0 B σ H0 H Q fr q=>h2 B0 B σ H0 H _ fr λu H1 cV g r2=>h1 B0 B σ H1 cV _ (fr.grow g) λv H2 fS g2 r=>by
  obtain⟨p,ws,rfl,hp,ke,rs⟩:=r.pH;cases r2;refine#[p,_,rfl,pD.k (k:=.inr x) (g2.sub _ _ hp),q _ H2 fS (g.trans g2) ?_]
  rw[(wm ke rs x).isSome];exact .bl _
theorem JQ(hr:dB k X.A)(h2:VE X b δ (.str x))(h1:VE X a δ (kP kvs))(hm:behindInMarks .NotIn a=false:=by with_unfolding_all rfl):VE X (.Compare b [.NotIn] [a] pos) δ (.bool (!(iT kvs x).isSome)):=
 .of (Fv (A1 (Fe hr) cB cB) hm) λB0 B σ H0 H Q fr q=>h2 B0 B σ H0 H _ fr λu H1 cV g r2=>h1 B0 B σ H1 cV _ (fr.grow g) λv H2 fS g2 r=>by
  obtain⟨p,ws,rfl,hp,ke,rs⟩:=r.pH;cases r2;refine#[p,_,rfl,pD.k (k:=.inr x) (g2.sub _ _ hp),q _ H2 fS (g.trans g2) ?_]
  rw[(wm ke rs x).isSome];exact .bl _
theorem Pu{x1}(hr:dB k X.A)(h1:VE X a δ (.str x))(h2:VE X b δ (.str y))(h3:VE X c δ (L_ tvs))(hm:behindInMarks .In c=false:=by with_unfolding_all rfl)
  (hs:kO X a [b]:=by rfl)(p9:kO X b []:=by rfl):VE X (.Compare (.Tuple [a,b] x1 tp) [.In] [c] pos) δ (.bool (iT tvs (x,y)).isSome):=
 .of (Fv (Lw (Fe hr) (FL (cY cB (cY cB eV p9) hs)) cB) hm) λB0 B σ H0 H Q fr q=>h1 B0 B σ H0 H _ fr λv H1 cV g r1=>h2 B0 B σ H1 cV _ (fr.grow g) λu H2 fS g2 r2=>by
  cases r1;cases r2;refine#[by show 2<=sizeLine;rw[du];decide,λt ht=>?_]
  have g3:=(g.trans g2).trans (c6.loose (o:=HO.tup [.str x,.str y]) g2.sub ht);refine h3 B0 B σ H2 _ _ (fr.grow g3) λv H4 H4' g4 r=>?_
  obtain⟨p,ws,rfl,hp,ke,rs⟩:=r.Ma;refine#[p,_,rfl,pD.t (k:=Aq (x,y)) (g4.sub _ _ hp) (g4.big _ _ bh),q _ H4 H4' (g3.trans g4) ?_]
  rw[(Mb ke rs (x,y)).isSome];exact .bl _
end
section
variable{prog:bA}{w:cg}{A:dE}{E:aD->aL->Prop}{s:aL}
theorem F5(hit:s.heap.IsTupleIter it l i)(hl:s.heap.IsTuple l items)(hx:items[i]?=some x)
  (hQ:∀h',h'.IsTupleIter it l (i+1)->gw it s.heap h'->Q x { s with heap:=h' }):wpAny (model prog w) A (iD (.ref it)) Q E s:=by
 obtain⟨o,ho,hc,hd⟩:=_root_.id hit;obtain⟨ol,Oc,F6,nl,F7⟩:=hl;refine aA (iS hit.typeIs jP (j9 jP hit.typeIs Df ?_ (BF _)))
 show wpAny _ _ (field _ 0 >>= _) _ _ s;refine aA (fh ho hd rfl ?_)
 refine aA (fh ho hd rfl ?_)
 refine aA (gW Oc F7 ?_)
 simp[dS,hx];refine aA (wpAny_setField ho hd (by simp) (bj #[x,rfl,bj (hQ _ ?_ (Ag ..))]))
 refine#[_,cM.get?_update_self _ ho (Obj.isFreed_of_fields (Obj.data_mapFields hd _)),(Obj.cls_mapFields ..).trans hc,?_]
 rw[Obj.data_mapFields hd];simp[rawInt]
theorem JR(hh:A.handled=none)(hit:s.heap.IsTupleIter it l i)(hl:s.heap.IsTuple l items)(hx:items[i]?=none)
  (hE:∀h' e,cM.ExtBut it s.heap h'->(∃o,h'.get? e=some o/\o.cls=.type "StopIteration")->E (.ref e) { s with heap:=h' }):wpAny (model prog w) A (iD (.ref it)) Q E s:=by
 obtain⟨o,ho,hc,hd⟩:=_root_.id hit;obtain⟨ol,Oc,F6,nl,F7⟩:=hl;refine aA (iS hit.typeIs jP (j9 jP hit.typeIs Df ?_ (BF _)))
 show wpAny _ _ (field _ 0 >>= _) _ _ s;refine aA (fh ho hd (x:=.ref l) rfl ?_)
 refine aA (fh ho hd rfl ?_)
 refine aA (gW Oc F7 ?_)
 simp[dS,hx];refine aA (ua (aA (wpAny_setField ho hd (by simp) ?_)))
 refine aA ?_
 refine aA (fB ?_ (by size_fits))
 refine aA (wpAny_of_eq (by first|rfl|(simp;rfl)) ?_)
 refine fB ?_ (by size_fits)
 simp only[raiseNew];refine aA (wpAny_handled ?_)
 first|rw[show A.in1.handled=none from hh]|rw[hh]
 exact aA (bj (wpAny_throw (hE _ _ (((Ag ..).extBut.push _).push _) #[_,bq _ rfl,rfl])))
end
inductive F8 where|lst|tup
variable{k k1 k2:F8}
def qg(k:F8)(h:cM)(l:aF)(xs:Array aD):Prop:=match k with | .lst=>h.IsList l xs | .tup=>h.IsTuple l xs
def wo(k:F8)(h:cM)(i l:aF)(n:Nat):Prop:=match k with | .lst=>h.IsListIter i l n | .tup=>h.IsTupleIter i l n
theorem wo.at{h': cM}{i: aF}{n:Nat}(x:wo k h i l n)(e:∀o,h.get? i=some o->h'.get? i=some o):wo k h' i l n:=by
 cases k with
 |lst=>obtain⟨o,a,r⟩:=x;exact(#[o,e o a,r])
 |tup=>obtain⟨o,a,r⟩:=x;exact(#[o,e o a,r])
theorem qg.at{h': cM}(x:qg k h l xs)(e:∀o,h.get? l=some o->h'.get? l=some o):qg k h' l xs:=by
 cases k with
 |lst=>obtain⟨o,a,r⟩:=x;exact(#[o,e o a,r])
 |tup=>obtain⟨o,a,r⟩:=x;exact(#[o,e o a,r])
theorem wo.get{i: aF}{n:Nat}(x:wo k h i l n):∃o,h.get? i=some o/\∀v,o.data≠.cell v:=by
 cases k with
 |lst=>obtain⟨o,a,_,d⟩:=x;exact#[o,a,λv z=>by rw[d]at z;cases z]
 |tup=>obtain⟨o,a,_,d⟩:=x;exact#[o,a,λv z=>by rw[d]at z;cases z]
theorem qg.get(x:qg k h l xs):∃o,h.get? l=some o:=by
 cases k with
 |lst=>obtain⟨o,a,_⟩:=x;exact#[o,a]
 |tup=>obtain⟨o,a,_⟩:=x;exact#[o,a]
section
variable{prog:bA}{w:cg}{A:dE}{E:aD->aL->Prop}{s:aL}
theorem next_item(hit:wo k s.heap it l i)(hl:qg k s.heap l items)(hx:items[i]?=some x)
  (hQ:∀h',wo k h' it l (i+1)->gw it s.heap h'->Q x { s with heap:=h' }):wpAny (model prog w) A (iD (.ref it)) Q E s:=by
 cases k with
 |lst=>exact wpAny_nextOf_list_item hit hl hx hQ
 |tup=>exact F5 hit hl hx hQ
theorem next_end(hh:A.handled=none)(hit:wo k s.heap it l i)(hl:qg k s.heap l items)(hx:items[i]?=none)
  (hE:∀h' e,cM.ExtBut it s.heap h'->(∃o,h'.get? e=some o/\o.cls=.type "StopIteration")->E (.ref e) { s with heap:=h' }):wpAny (model prog w) A (iD (.ref it)) Q E s:=by
 cases k with
 |lst=>exact wpAny_nextOf_list_end hh hit hl hx hE
 |tup=>exact JR hh hit hl hx hE
structure Zp(k1 k2:F8)(h:cM)(z TI TO i1 i2 l1 l2:aF)(f0:aD)(a b:aD)(n1 n2:Nat)(xs ys:Array aD):Prop where
 hz:IsZip h z TI TO f0
 hTI:Fo h TI (.ref i1) (.ref i2)
 hTO:Fo h TO a b
 h1:wo k1 h i1 l1 n1
 h2:wo k2 h i2 l2 n2
 s1:qg k1 h l1 xs
 s2:qg k2 h l2 ys
theorem JT{z TI TO i1 i2: aF}{n1 n2:Nat}{y a b: aD}{Q:Option aD->aL->Prop}(D:ZipApart z TI TO i1 i2 l1 l2)(Z:Zp k1 k2 s.heap z TI TO i1 i2 l1 l2 .none a b n1 n2 xs ys)(hx:xs[n1]?=some x)(hy:ys[n2]?=some y)
  (hQ:∀h',Zp k1 k2 h' z TI TO i1 i2 l1 l2 (rawInt s.heap.objs.size) x y (n1+1) (n2+1) xs ys->Fo h' s.heap.objs.size x y->(∀c o,c≠z->c≠TO->c≠i1->c≠i2->s.heap.get? c=some o->h'.get? c=some o)->Q (some (.ref s.heap.objs.size)) { s with heap:=h' }):
  wpAny (model prog w) A (pyNext (.ref z)) Q E s:=by
 obtain⟨hz,hTI,hTO,h1,h2,s1,s2⟩:=Z;have hT:s.TypeIs (.ref z) "zip":=#[_,hz,rfl];unfold pyNext;refine aA (wpAny_attempt (iS hT tH (j9 tH hT F.entry_zip_next ?_ (F.args_zip_next_1 _))))
 show wpAny _ _ (field (.ref z) 2 >>= _) _ _ _;refine aA (fh hz rfl rfl ?_)
 refine aA (fh hz rfl rfl (aA (gW hTI rfl ?_)))
 refine aA ?_
 refine aA (fh hz rfl rfl (bj ?_))
 simp only[if_true];refine aA (ua (aA (fh hz rfl rfl (aA (jd hz (by simp) λha Rg sa=>?_)))))
 replace Rg:IsZip ha z TI TO .ellipsis:=Rg
 refine aA ?_
 refine aA (aA (ye ?_))
 refine aA (next_item (h1.at λo e=>sa.extBut _ o D.i1z e) (s1.at λo e=>sa.extBut _ o D.l1z e) hx λhb h1b sb=>bj ?_)
 have tb:=sb.extBut _ _ D.TOi1 (sa.extBut _ _ D.TOz hTO);refine aA (gW tb rfl (aA (vT tb λhc tc sc=>?_)))
 replace tc:Fo hc TO x b:=tc
 refine aA (wpAny_letGo (bj (aA (aA (ye ?_)))))
 refine aA (next_item (h2.at λo e=>sc.extBut _ o D.TOi2.symm (sb.extBut _ o D.i12.symm (sa.extBut _ o D.i2z e))) (s2.at λo e=>sc.extBut _ o D.l2TO (sb.extBut _ o D.l2i1 (sa.extBut _ o D.l2z e))) hy λhd h2d sd=>bj ?_)
 have td:=sd.extBut _ _ D.TOi2 tc;refine aA (gW td rfl (aA (vT td λhe te se=>?_)))
 replace te:Fo he TO x y:=te
 refine aA (wpAny_letGo (bj (bj (aA (gW te rfl (aA (wpAny_newTuple ?_)))))))
 have BU:he.objs.size=s.heap.objs.size:=by rw[se.1,sd.1,sc.1,sb.1,sa.1]
 have kp:∀c o,c≠z->c≠TO->c≠i1->c≠i2->s.heap.get? c=some o->he.get? c=some o:=λc o c1 c2 c3 c4 e=>se.extBut _ _ c2 (sd.extBut _ _ c4 (sc.extBut _ _ c2 (sb.extBut _ _ c3 (sa.extBut _ _ c1 e))))
 have ze:=se.extBut _ _ D.TOz.symm (sd.extBut _ _ D.i2z.symm (sc.extBut _ _ D.TOz.symm (sb.extBut _ _ D.i1z.symm Rg)));have h1e:=h1b.at λo e=>se.extBut _ o D.TOi1.symm (sd.extBut _ o D.i12 (sc.extBut _ o D.TOi1.symm e))
 refine aA ?_
 have zf:IsZip (he.push { cls:=.type "tuple",data:=.seq (bN [x,y]) }) z TI TO .ellipsis:=aE _ ze
 refine aA (jd zf (by simp) λhg zg sg=>?_)
 replace zg:IsZip hg z TI TO (rawInt he.objs.size):=zg
 refine jd zg (by simp) λhi zi si=>?_
 replace zi:IsZip hi z TI TO (rawInt he.objs.size):=zi
 have up:∀c o,c≠z->he.get? c=some o->hi.get? c=some o:=λc o c1 e=>si.extBut _ _ c1 (sg.extBut _ _ c1 (aE _ e))
 have ti:=si.extBut _ _ (ft (aZ ze)) (sg.extBut _ _ (ft (aZ ze)) (bq _ rfl))
 rw[BU]at zi ti;refine bj #[_,rfl,?_]
 rw[BU];refine bj (hQ hi #[zi,up _ _ D.TIz (kp _ _ D.TIz D.TITO D.TIi1 D.TIi2 hTI),up _ _ D.TOz te,h1e.at λo e=>up _ o D.i1z e,(h2d.at λo e=>se.extBut _ o D.TOi2.symm e).at λo e=>up _ o D.i2z e,s1.at λo e=>up _ o D.l1z (kp _ o D.l1z D.l1TO D.l1i1 D.l1i2 e),s2.at λo e=>up _ o D.l2z (kp _ o D.l2z D.l2TO D.l2i1 D.l2i2 e)] ti λc o c1 c2 c3 c4 e=>up c o c1 (kp c o c1 c2 c3 c4 e))
theorem Mf{z TI TO i1 i2: aF}{n1 n2:Nat}{a b:aD}{Q:Option aD->aL->Prop}(hh:A.handled=none)(D:ZipApart z TI TO i1 i2 l1 l2)(Z:Zp k1 k2 s.heap z TI TO i1 i2 l1 l2 .none a b n1 n2 xs ys)(Pw:xs[n1]?=none\/ys[n2]?=none)
  (hQ:∀h',(∀c o,c≠z->c≠TO->c≠i1->c≠i2->s.heap.get? c=some o->h'.get? c=some o)->Q none { s with heap:=h' }):wpAny (model prog w) A (pyNext (.ref z)) Q E s:=by
 obtain⟨hz,hTI,hTO,h1,h2,s1,s2⟩:=Z;have hT:s.TypeIs (.ref z) "zip":=#[_,hz,rfl];have fin:∀h' e,(∀c o,c≠z->c≠TO->c≠i1->c≠i2->s.heap.get? c=some o->h'.get? c=some o)->(∃o,h'.get? e=some o/\o.cls=.type "StopIteration")->wpAny (model prog w) A (do if <-isInstance (.ref e) (.type "StopIteration")then pure none else throw (.ref e)) Q E { s with heap:=h' }:=by
  intro h' e hk #[o,ho,hc];exact aA (wpAny_isInstance #[o,ho,hc] isSubtype_stop (bj (hQ _ hk)))
 refine aA (wpAny_attempt (iS hT tH (j9 tH hT F.entry_zip_next ?_ (F.args_zip_next_1 _))))
 show wpAny _ _ (field _ 2 >>= _) _ _ _;refine aA (fh hz rfl rfl ?_)
 refine aA (fh hz rfl rfl (aA (gW hTI rfl ?_)))
 refine aA ?_
 refine aA (fh hz rfl rfl (bj ?_))
 simp only[if_true];refine aA (ua (aA (fh hz rfl rfl (aA (jd hz (by simp) λha Rg sa=>?_)))))
 replace Rg:IsZip ha z TI TO .ellipsis:=Rg
 refine aA ?_
 refine aA (aA (ye ?_))
 cases hx:xs[n1]? with
 |none=>
  refine aA (next_end hh (h1.at λo e=>sa.extBut _ o D.i1z e) (s1.at λo e=>sa.extBut _ o D.l1z e) hx λhb e sb he=>?_)
  obtain⟨oe,T7,K0⟩:=he;have zb:=sb _ _ D.i1z.symm Rg;have ne:e≠z:=λx=>by subst x;rw[zb]at T7;cases T7;simp at K0
  exact jd zb (by simp) λhc _ sc=>fin hc e (λc o c1 _ c3 _ x=>sc.extBut _ _ c1 (sb _ _ c3 (sa.extBut _ _ c1 x))) #[oe,sc.extBut _ _ ne T7,K0]
 |some x=>
  have hy:ys[n2]?=none:=by
   rcases Pw with h|h
   ·rw[hx]at h;cases h
   ·exact h
  refine aA (next_item (h1.at λo e=>sa.extBut _ o D.i1z e) (s1.at λo e=>sa.extBut _ o D.l1z e) hx λhb h1b sb=>bj ?_)
  have tb:=sb.extBut _ _ D.TOi1 (sa.extBut _ _ D.TOz hTO);refine aA (gW tb rfl (aA (vT tb λhc tc sc=>?_)))
  refine aA (wpAny_letGo (bj (aA (aA (ye ?_)))))
  refine aA (next_end hh (h2.at λo e=>sc.extBut _ o D.TOi2.symm (sb.extBut _ o D.i12.symm (sa.extBut _ o D.i2z e))) (s2.at λo e=>sc.extBut _ o D.l2TO (sb.extBut _ o D.l2i1 (sa.extBut _ o D.l2z e))) hy λhd e sd he=>?_)
  obtain⟨oe,T7,K0⟩:=he;have zd:=sd _ _ D.i2z.symm (sc.extBut _ _ D.TOz.symm (sb.extBut _ _ D.i1z.symm Rg));have ne:e≠z:=λx=>by subst x;rw[zd]at T7;cases T7;simp at K0
  exact jd zd (by simp) λhg _ sg=>fin hg e (λc o c1 c2 c3 c4 x=>sg.extBut _ _ c1 (sd _ _ c4 (sc.extBut _ _ c2 (sb.extBut _ _ c3 (sa.extBut _ _ c1 x))))) #[oe,sg.extBut _ _ ne T7,K0]
def rQ(k:F8)(l:aF):Obj:=match k with | .lst=>{ cls:=.type "list_iterator",data:=.fields (bN [.ref l,.int 0 0]) } | .tup=>{ cls:=.type "tuple_iterator",data:=.fields (bN [.ref l,.int 0 0]) }
theorem Ip(hl:qg k s.heap l xs)(h:Q (.ref s.heap.objs.size) { s with heap:=s.heap.push (rQ k l) }):wpAny (model prog w) A (pyIter (.ref l)) Q E s:=by
 cases k with
 |lst=>exact my hl h
 |tup=>exact yA hl h
def F9(k1 k2:F8)(h:cM)(l1 l2:aF):cM:=(h.push (rQ k1 l1)).push (rQ k2 l2)
def zH5(k1 k2:F8)(h:cM)(l1 l2:aF):cM:=(((F9 k1 k2 h l1 l2).push { cls:=.type "tuple",data:=.seq (bN [.ref h.objs.size,.ref (h.push (rQ k1 l1)).objs.size]) }).push { cls:=.type "tuple",data:=.seq (bN [.none,.none]) }).push
 { cls:=.type "zip",data:=.fields (bN [.none,.bool false,.bool false,.ref (F9 k1 k2 h l1 l2).objs.size,.ref ((F9 k1 k2 h l1 l2).push { cls:=.type "tuple",data:=.seq (bN [.ref h.objs.size,.ref (h.push (rQ k1 l1)).objs.size]) }).objs.size]) }
theorem qg.push(x:qg k h l xs)(o:Obj):qg k (h.push o) l xs:=x.at λ_ e=>aE _ e
theorem Gb(k1 k2:F8)(l1 l2:aF)(xs ys:Array aD):Meets (qY.«zip.__new__» #[[.type "zip",.ref l1,.ref l2],[]]) (λ_ R s=>qg k1 s.heap l1 xs/\qg k2 s.heap l2 ys/\
  R (.ok (.ret (.ref (((F9 k1 k2 s.heap l1 l2).push { cls:=.type "tuple",data:=.seq (bN [.ref s.heap.objs.size,.ref (s.heap.push (rQ k1 l1)).objs.size]) }).push { cls:=.type "tuple",data:=.seq (bN [.none,.none]) }).objs.size))) { s with heap:=zH5 k1 k2 s.heap l1 l2 }):=
 .of_wp λprog w A R s h=>by
  obtain⟨hp,g,d,tk,os⟩:=s;obtain⟨Od,Oe,h⟩:=h;have FX:=sub_zip;have a2:qg k2 (aL.heap #[hp.push (rQ k1 l1),g,d,tk,os]) l2 ys:=Oe.push _
  wp_walk using Ip Od,Ip a2
  exact#[_,rfl,h]
theorem DW{i: aF}(e:h.get? i=some (rQ k l)):wo k h i l 0:=by
 cases k with
 |lst=>exact(#[_,e,rfl,rfl])
 |tup=>exact(#[_,e,rfl,rfl])
theorem yZ(k:F8)(l:aF):(rQ k l).isFreed=false:=by cases k<;>rfl
theorem JV(Od:qg k1 s.heap l1 xs)(Oe:qg k2 s.heap l2 ys)
  (h:∀h',Zp k1 k2 h' (s.heap.objs.size+4) (s.heap.objs.size+2) (s.heap.objs.size+3) s.heap.objs.size (s.heap.objs.size+1) l1 l2 .none .none .none 0 0 xs ys->(∀c o,s.heap.get? c=some o->h'.get? c=some o)->Q (.ref (s.heap.objs.size+4)) { s with heap:=h' }):
  wpAny (model prog w) A (call (.type "zip") [.ref l1,.ref l2]) Q E s:=by
 refine callType_new F.called_zip ⋯ (F.typeCall_zip_2 _ _) (F.newCall_zip_2 _ _) (λobj=>F.args_object_init_3 obj _ _) F.entry_zip_new (Gb k1 k2 l1 l2 xs ys) #[Od,Oe,?_]
 have z1:(s.heap.push (rQ k1 l1)).objs.size=s.heap.objs.size+1:=gG ..;have z2:(F9 k1 k2 s.heap l1 l2).objs.size=s.heap.objs.size+2:=by unfold F9;rw[gG,z1]
 generalize hT:({ cls:=.type "tuple",data:=.seq (bN [.ref s.heap.objs.size,.ref (s.heap.push _).objs.size]) }:Obj)=tI
 generalize hT2:({ cls:=.type "tuple",data:=.seq (bN [.none,.none]) }:Obj)=tO
 have z3:((F9 k1 k2 s.heap l1 l2).push tI).objs.size=s.heap.objs.size+3:=by rw[gG,z2]
 have z4:(((F9 k1 k2 s.heap l1 l2).push tI).push tO).objs.size=s.heap.objs.size+4:=by rw[gG,z3]
 have fI:tI.isFreed=false:=by rw[<-hT];rfl
 have fO:tO.isFreed=false:=by rw[<-hT2];rfl
 have eq:zH5 k1 k2 s.heap l1 l2=(((F9 k1 k2 s.heap l1 l2).push tI).push tO).push { cls:=.type "zip",data:=.fields (bN [.none,.bool false,.bool false,.ref (s.heap.objs.size+2),.ref (s.heap.objs.size+3)]) }:=by
  unfold zH5;rw[hT,hT2,z2,z3]
 rw[eq,z4];have g5:((((F9 k1 k2 s.heap l1 l2).push tI).push tO).push { cls:=.type "zip",data:=.fields (bN [.none,.bool false,.bool false,.ref (s.heap.objs.size+2),.ref (s.heap.objs.size+3)]) }).get? (s.heap.objs.size+4)=some { cls:=.type "zip",data:=.fields (bN [.none,.bool false,.bool false,.ref (s.heap.objs.size+2),.ref (s.heap.objs.size+3)]) }:=by
  rw[<-z4];exact bq _ rfl
 have up3:∀c o,((F9 k1 k2 s.heap l1 l2).push tI).get? c=some o->((((F9 k1 k2 s.heap l1 l2).push tI).push tO).push { cls:=.type "zip",data:=.fields (bN [.none,.bool false,.bool false,.ref (s.heap.objs.size+2),.ref (s.heap.objs.size+3)]) }).get? c=some o:=λc o e=>aE _ (aE _ e)
 have Xk:=λc o e=>up3 c o (aE _ e)
 have up0:∀c o,s.heap.get? c=some o->(F9 k1 k2 s.heap l1 l2).get? c=some o:=λc o e=>aE _ (aE _ e)
 refine#[#[_,g5,rfl],h _ #[g5,?_,?_,?_,?_,?_,?_] λc o e=>Xk c o (up0 c o e)]
 ·refine up3 _ _ ?_
  rw[<-z2];have:=bq (F9 k1 k2 s.heap l1 l2) fI
  rw[this,<-hT,z1]
 ·refine aE _ ?_
  rw[<-z3];have:=bq ((F9 k1 k2 s.heap l1 l2).push tI) fO
  rw[this,<-hT2]
 ·exact DW (Xk _ _ (aE _ (bq _ (yZ k1 l1))))
 ·refine DW (Xk _ _ ?_)
  have:=bq (s.heap.push (rQ k1 l1)) (yZ k2 l2)
  rwa[z1]at this
 ·exact Od.at λo e=>Xk _ o (up0 _ o e)
 ·exact Oe.at λo e=>Xk _ o (up0 _ o e)
end
def Iq(k:F8)(K:ao)(H:Hp)(a:aF)(xs:List V):Prop:=match k with | .lst=>jx K H a xs | .tup=>oH K H a xs
theorem Inv.sq{σ:St}{xs:List V}(I:Inv X pins σ H s)(h:Iq k X.K H a xs):∃its,dI xs its/\qg k s.heap a its.toArray/\xs.length<=sizeLine:=by
 cases k with
 |lst=>obtain⟨its,r,p,z⟩:=I.list h;exact#[its,r,p.isList,z]
 |tup=>obtain⟨its,r,p,z⟩:=I.tuple h;exact#[its,r,p,z]
theorem Inv.Mh{σ:St}{xs ys:List V}(I:Inv X pins σ H s)(h:Iq k X.K H a xs)(h':Iq k X.K H a ys):xs=ys:=by
 cases k with
 |lst=>exact I.yG h h'
 |tup=>exact I.AO h h'
theorem cK.Rh{H': Hp}{xs:List V}(e:cK H H')(h:Iq k K H a xs):Iq k K H' a xs:=by
 cases k with
 |lst=>exact e.seq h
 |tup=>exact e.pG h
def Itz(k1 k2:F8)(K:ao)(a b:aF):It:=
 #[λi H=>∃xs x ys y,Iq k1 K H a xs/\xs[i]?=some x/\Iq k2 K H b ys/\ys[i]?=some y,
  λi H v H'=>∃t x y,v=.ref t/\H t=none/\H'=upd H t (.tup [x,y])/\(∀xs,Iq k1 K H a xs->xs[i]?=some x)/\∀ys,Iq k2 K H b ys->ys[i]?=some y,
  λi H=>∃xs ys,Iq k1 K H a xs/\Iq k2 K H b ys/\(xs.length<=i\/ys.length<=i)]
theorem Mj{P:bA}{w:cg}{kk}{z TI TO i1 i2: aF}(D:ZipApart z TI TO i1 i2 l1 l2):
  Turn P w K (.Tuple elts kk tp) (Itz k1 k2 K l1 l2) [z,TI,TO,i1,i2] z (λi h=>IsZip h z TI TO .none/\Fo h TI (.ref i1) (.ref i2)/\(∃a b,Fo h TO a b)/\wo k1 h i1 l1 i/\wo k2 h i2 l2 i) where
 mem:=by simp
 obj:=λi h st b hb=>by
  obtain⟨hz,hTI,⟨a,c,hTO⟩,h1,h2⟩:=st;simp[ax,a8,or_false]at hb;rcases hb with rfl|rfl|rfl|rfl|rfl
  ·exact#[_,hz,λv z=>by cases z]
  ·exact#[_,hTI,λv z=>by cases z]
  ·exact#[_,hTO,λv z=>by cases z]
  ·exact h1.get
  ·exact h2.get
 keep:=λi h h' st kp=>by
  obtain⟨hz,hTI,⟨a,c,hTO⟩,h1,h2⟩:=st;exact#[kp z (by simp) _ hz,kp TI (by simp) _ hTI,#[a,c,kp TO (by simp) _ hTO],h1.at λo e=>kp i1 (by simp) o e,h2.at λo e=>kp i2 (by simp) o e]
 item:=by
  intro X hP hw hK hc i pins s σ H E I hf st hg;subst hP hw hK;obtain⟨hz,hTI,⟨a,c,hTO⟩,h1,h2⟩:=st;obtain⟨xs,x,ys,y,JW,hx,Fb,hy⟩:=hg;obtain⟨its,rv,p1,_⟩:=I.sq JW;obtain⟨jts,Vr,p2,_⟩:=I.sq Fb;obtain⟨u,hu,ru⟩:=rv.get hx;obtain⟨u2,hu2,Xl⟩:=Vr.get hy;refine JT D #[hz,hTI,hTO,h1,h2,p1,p2] ↑hu ↑hu2 λha Z ht hk=>?_
  obtain⟨az,aTI,aTO,a1,a2,_,_⟩:=Z;refine#[_,rfl,wpAny_letOwnedTupleGo_zip az λhb bz sb=>?_]
  have zlt:=aZ hz;have k2:∀b o,b∉[z,TI,TO,i1,i2]->s.heap.get? b=some o->hb.get? b=some o:=λb o nb q=>by
   have n1:b≠z:=λe=>nb (by simp[e])
   have n4:b≠i2:=λe=>nb (by simp[e])
   exact(sb.2 b n1).trans (hk b o n1 (λe=>nb (by simp[e])) (λe=>nb (by simp[e])) n4 q)
  have fT:uj X pins H s.heap.objs.size:=I.vZ (aP _) I.fresh;have I3:Inv X pins σ (upd H s.heap.objs.size (.tup [x,y])) { s with heap:=hb,toks:=s.toks }:=
   (I.sG k2 hf).track fT #[by show 2<=sizeLine;rw[du];decide,_,.cons ru (.cons Xl .nil),#[_,(sb.2 _ (ft zlt)).trans ht,rfl,_,rfl]]
  have up:∀b o,b≠z->ha.get? b=some o->hb.get? b=some o:=λb o nb q=>(sb.2 b nb).trans q
  refine#[.ref s.heap.objs.size,_,I3,rfl,#[_,x,y,rfl,I.fresh,rfl,λzs hy'=>by rw[I.Mh hy' JW];exact hx,λzs hy'=>by rw[I.Mh hy' Fb];exact hy],#[bz,up _ _ D.TIz aTI,#[_,_,up _ _ D.TOz aTO],a1.at λo q=>up _ o D.i1z q,a2.at λo q=>up _ o D.i2z q],λb T8=>?_]
  have mL:b<s.heap.objs.size:=by
   simp[ax,a8,or_false]at T8;rcases T8 with rfl|rfl|rfl|rfl|rfl
   ·exact zlt
   ·exact aZ hTI
   ·exact aZ hTO
   ·obtain⟨o,q,_⟩:=h1.get;exact aZ q
   ·obtain⟨o,q,_⟩:=h2.get;exact aZ q
  rw[aO (a7 mL)];exact(hf b T8).1
 done:=by
  intro X hP hw hK hc i pins s σ H E I hf st hg;subst hP hw hK;obtain⟨hz,hTI,⟨a,c,hTO⟩,h1,h2⟩:=st;obtain⟨xs,ys,JW,Fb,hx⟩:=hg;obtain⟨its,rv,p1,_⟩:=I.sq JW;obtain⟨jts,Vr,p2,_⟩:=I.sq Fb;have e1:=rv.length;have e2:=Vr.length;refine Mf (I.ok.hd hc) D #[hz,hTI,hTO,h1,h2,p1,p2] ?_ λh' hk=>#[rfl,I.sG (λb o hb q=>hk b o (λe=>hb (by simp[e])) (λe=>hb (by simp[e])) (λe=>hb (by simp[e])) (λe=>hb (by simp[e])) q) hf]
  rcases hx with hx|hx
  ·left;simp;omega
  ·right;simp;omega
 self:=λ_ _ _ _ _ st h=>wpAny_pyIter_zip st.1 h
def zbd(k1 k2:F8)(K:ao)(ta:TA):TI:=λσ H R=>ta σ H λvs H1=>∃a b,vs=[.ref a,.ref b]/\(∃xs,Iq k1 K H1 a xs)/\(∃ys,Iq k2 K H1 b ys)/\R (Itz k1 k2 K a b) H1
theorem boot_zip:bootBuiltins "zip"=some (.type "zip"):=rfl
theorem T9{a b:bC}{ta:TA}{p pos: Pos}{kk}(k1 k2:F8)(hg:Gl X "zip")(hm:X.mg "zip"=none)(ha:PA X [a,b] ta)(hs:starEach [a,b] X.env=[(false,eval a X.env),(false,eval b X.env)]:=by rfl)(p9:starEach [b] X.env=[(false,eval b X.env)]:=by rfl):
  PI X (.Tuple elts kk tp) (.Call (.Name "zip" p) [a,b] [] pos) (zbd k1 k2 X.K ta):=by
 intro pins s σ H R I h;refine Call_ (vY I hg hm boot_zip (iA (fP (ha pos pins s σ H _ I h) λus s1 #[vs,H1,I1,r1,q1]=>?_) (by rw[hs,p9]) (by rw[p9];rfl)))
 obtain⟨l1,l2,e,⟨xs,JW⟩,⟨ys,Fb⟩,q⟩:=q1;subst e;obtain⟨u,u2,rfl,rx,rx2⟩:=vals2 r1;cases rx;cases rx2;obtain⟨its,rv,p1,_⟩:=I1.sq JW;obtain⟨jts,Vr,p2,_⟩:=I1.sq Fb;obtain⟨o1,e1⟩:=p1.get;obtain⟨o2,e2⟩:=p2.get;have Zy:=aZ e1;have Zz:=aZ e2;refine JV p1 p2 λh' Z hk=>wpAny_pyIter_zip Z.hz ?_
 have D:ZipApart (s1.heap.objs.size+4) (s1.heap.objs.size+2) (s1.heap.objs.size+3) s1.heap.objs.size (s1.heap.objs.size+1) l1 l2:=by
  constructor
  ·exact a7 ∅
  ·exact a7 ∅
  ·exact a7 ∅
  ·exact a7 ∅
  ·exact a7 ∅
  ·exact ft ∅
  ·exact ft ∅
  ·exact ft ∅
  ·exact ft ∅
  ·exact a7 ∅
  ·exact a7 (bE Zy ∅)
  ·exact a7 (bE Zy ∅)
  ·exact a7 Zy
  ·exact a7 (bE Zy ∅)
  ·exact a7 (bE Zz ∅)
  ·exact a7 (bE Zz ∅)
  ·exact a7 Zz
  ·exact a7 (bE Zz ∅)
 refine#[_,_,_,_,H1,rfl,I1.kept (t':=s1.toks) hk,Mj D,#[Z.hz,Z.hTI,#[_,_,Z.hTO],Z.h1,Z.h2],λb hb=>?_,q]
 have hle:s1.heap.objs.size<=b:=by
  simp[ax,a8,or_false]at hb;rcases hb with rfl|rfl|rfl|rfl|rfl
  ·exact mH _ _
  ·exact mH _ _
  ·exact mH _ _
  ·exact aP _
  ·exact mH _ _
 exact I1.vZ hle (I1.hok.fresh hle)
def y0(ds es:List ae):List ae:=(ds.zip es).map λp=>.tuple [p.1,p.2]
theorem xj(ds es:List ae):(y0 ds es).length=min ds.length es.length:=by simp[y0]
theorem Ml{es: List ae}{d:ae}(h:(y0 ds es)[i]?=some d):∃x y,ds[i]?=some x/\es[i]?=some y/\d=.tuple [x,y]:=by
 unfold y0 at h;rw[aG]at h
 cases e:(ds.zip es)[i]? with
 |none=>rw[e]at h;cases h
 |some p=>
  rw[e]at h;cases h;rw[BG]at e
  exact#[_,_,e.1,e.2,rfl]
def T_(k:F8)(ds:List ae):ae:=match k with | .lst=>.list ds | .tup=>.tuple ds
theorem Rep.Rh{v:V}(r:Rep K H v (T_ k ds)):∃a xs,v=.ref a/\Iq k K H a xs/\b9 K H xs ds:=by
 cases k with
 |lst=>cases(show Rep K H v (.list ds)from r)with|lst h t=>exact#[_,_,rfl,h,t]
 |tup=>cases(show Rep K H v (.tuple ds)from r)with|tup h t=>exact#[_,_,rfl,h,t]
theorem Gc{a b:bC}{δ:List Slot}{es: List ae}{p pos: Pos}{kk}(k1 k2:F8)(h1:VE X a δ (T_ k1 ds))(h2:VE X b δ (T_ k2 es))(hm:X.mg "zip"=none)(hg:Gl X "zip":=by rfl)(hs:kO X a [b]:=by rfl)(p9:kO X b []:=by rfl)(hn:starEach [] X.env=[]:=by rfl):
  VI X (.Tuple elts kk tp) (.Call (.Name "zip" p) [a,b] [] pos) δ (y0 ds es):=
 #[_,T9 k1 k2 hg hm (cY cB (cY cB eV p9) hs) (by rw[hs,p9,hn]) (by rw[p9,hn]),λB0 B σ H0 H R f q=>h1 B0 B σ H0 H _ f λv H1 cV g r1=>h2 B0 B σ H1 cV _ (f.grow g) λu H2 fS g2 r2=>by
  obtain⟨a1,xs,rfl,JW,Xm⟩:=r1.Rh;obtain⟨a2,ys,rfl,Fb,Ri⟩:=r2.Rh;have Xm:=Xm.mono g2.e8;have JW:=g2.e8.Rh JW;refine#[a1,a2,rfl,#[_,g2.sub.Rh JW],#[_,g2.sub.Rh Fb],q _ H2 fS (g.trans g2) λHa Hb s1 s2 i=>?_]
  have l1:=Xm.length;have l2:=Ri.length;have Vs:=(s1.trans s2).Rh JW;have hS2:=(s1.trans s2).Rh Fb;refine#[λhi=>?_,λhi=>#[_,_,Vs,hS2,by rw[xj]at hi;omega],λx xT d hd #[t,x1,y1,e1,e2,e3,e4,e5]=>?_]
  ·rw[xj]at hi
   obtain⟨x,hx,_⟩:=Xm.get (i:=i) (d:=ds[i]'∅) (by simp)
   obtain⟨y,hy,_⟩:=Ri.get (i:=i) (d:=es[i]'∅) (by simp)
   exact#[_,x,_,y,Vs,hx,hS2,hy]
  ·obtain⟨dx,dy,hx,hy,rfl⟩:=Ml hd
   subst e1;subst e3;refine#[_,.laid s2 e2,.tup (oH.of bh) (.cons ?_ (.cons ?_ .nil))]
   ·exact((Xm.mono s1).at hx (e4 _ Vs)).mono (c6.laid s2 e2).e8
   ·exact((Ri.mono s1).at hy (e5 _ hS2)).mono (c6.laid s2 e2).e8]
end L2
namespace L2
open PySem PySem.Spec PyProof.Rows
open AutoSeq1 (wpAny_loadPart')
theorem JX(l:aF)(items:Array aD)(n:Nat)(dd:Option aF)(sl:Array (Option aD))(x:aD)(e:aD->Bool)(i j:Nat)(t:Tok)(yj:i<=j)(hj:j<items.size)(Ua:(j:Int)<2^63-1)
  (hit:e items[j]=true)(HX:∀m (hm:m<items.size),i<=m->m<j->e items[m]=false):
  Meets (qY.«list.index» #[[.ref l,x,.int i t],[]])
   (λA R s=>s.heap.get? l=some { cls:=.type "list",dict:=dd,data:=.seq items n,slots:=sl }/\(∀y,y∈items->SeqAt.EqAt A.in1 s y x (e y))/\R (.ok (.ret (.int j s.toks))) { s with toks:=s.toks+1 }):=by
 intro prog w A R s h;obtain⟨hp,g,d,tk,os⟩:=s;obtain⟨hl,he,h⟩:=h
 wp_walk using eG hl
 have a1:((λi:Int=>if i<0 then max 0 (i+(items.size:Int))else i) ((some (i:Int)).getD 0))=((i:Nat):Int):=by
  show(if(i:Int)<0 then max 0 ((i:Int)+(items.size:Int)) else(i:Int))=_
  rw[qQ2 ∅]
 have a2:((λi:Int=>if i<0 then max 0 (i+(items.size:Int))else i) ((none:Option Int).getD (2^63-1)))=2^63-1:=by simp
 rw[a1,a2];exact#[yd rm _,kS PySem.MeetsSeq.entry_index_loop (by
  rw[dE.under_plainId rm _];exact SeqAt.index_loopAt l items n dd sl x e (2^63-1) j hj Ua hit _ i rfl yj HX prog w A R _ #[hl,he,h])]
section
variable{X:Cx}{a b c e:bC}{es:List bC}{δ:List Slot}{d d1 d2 d3:ae}{ds:List ae}{pos:Pos}{k:Nat}
def Px(K:ao)(n:Nat):V->List V->Hp->VK->Prop:=λx vs H Q=>∃p ds y d i j,x=.ref p/\vs=[y,.int ((i:Nat):Int)]/\Rep K H (.ref p) (.list ds)/\Rep K H y d/\Lay n (.list ds)/\Lay n d/\i<=j/\(∃h:j<ds.length,cP ds[j] d=true)/\
 (∀m (h:m<ds.length),i<=m->m<j->cP ds[m] d=false)/\Q (.int j) H
theorem JY{n:Nat}(hu:X.A.units+n+2<cLine):Vm X "list.index" (Px X.K n):=by
 intro pins s σ H x vs v us Q I rx rv h;obtain⟨p,ds,y,d,i,j,rfl,rfl,r1,r2,l1,l2,yj,⟨hj,hit⟩,HX,q⟩:=h;cases rx;obtain⟨u,u2,rfl,ru,Xl⟩:=vals2 rv;obtain⟨t2,rfl⟩:=Xl;obtain⟨bs,rb⟩:=jR I d l2.1 r2 ru;cases r1 with
 |lst hq rs=>
  obtain⟨its,rvs,⟨⟨cls,dd,data,sl⟩,m,eo,ec,_,ed⟩,hz⟩:=I.list hq;simp only at ec ed;subst ec ed;obtain⟨as,ra⟩:=oJ I ds l1.1 rs rvs;have hl:=rvs.length;have Oe:=rs.length;have rd:∀i (h1:i<its.length) (h2:i<ds.length),vU s.heap its[i]=ds[i]:=λi h1 h2=>by
   have e1:(its.map (vU s.heap))[i]?=some (vU s.heap its[i]):=by simp[h1]
   rw[SeqAt.readsAll_map ds its as l1.1 ra]at e1;rw[au h2]at e1
   exact(cD e1).symm
  have h1:=l2.2;have hn:=uk;have zgY:=du;refine iB F.slot_list_index #[_,eo,rfl] F.entry_list_index (F.args_list_index_3 _ _ _) (JX p its.toArray m dd sl u (λy=>cP (vU s.heap y) d) i j t2 yj (by simp;omega) ∅ ?_ ?_) #[eo,?_,?_]
  ·have:=rd j ∅ hj
   simp;rwa[this]
  ·intro i' hi zbf zbg
   have:=rd i' hi ∅
   simp;rw[this];exact HX i' ∅ zbf zbg
  ·exact SeqAt.items_eqAt ↑ra rb l1.1 l2.1 ∅
  ·exact#[.int j,H,I.tok _,#[_,rfl],q]
theorem JZ{i j:Nat}{ap:Pos}(hr:dB k X.A)(h1:VE X a δ (.list ds))(h2:VE X b δ d)(h3:VE X c δ (.int (i:Nat)))(l1:Lay 20 (.list ds))(l2:Lay 20 d)(yj:i<=j)(hj:∃h:j<ds.length,cP ds[j] d=true)(HX:∀m (h:m<ds.length),i<=m->m<j->cP ds[m] d=false)
  (hs:kO X b [c]:=by rfl)(p9:kO X c []:=by rfl)(gA:uS X a "index":=by rfl)
  (lj:Ft X pos [b,c]:=by rfl)
  (hline:(ap.endLine==pos.line)=true:=by rfl)(fD:rC X pos [c]:=by rfl):VE X (.Call (.Attribute a "index" ap) [b,c] [] pos) δ (.int j):=
 .of (rH dH PySem.F.slot_list_index PySem.F.type_list_index (JY (DH hr)) cB (cY cB (cY cB eV p9) hs) gA lj hline hs fD) λB0 B σ H0 H Q f q=>h1 B0 B σ H0 H _ f λv H1 cV g r1=>by
  cases r1 with
  |lst hq rs=>
   refine#[.inl #[rfl,_,g.sub.seq hq],h2 B0 B σ H1 cV _ (f.grow g) λu H2 fS g2 r2=>h3 B0 B σ H2 fS _ ((f.grow g).grow g2) λu3 H3 xU g3 r3=>?_]
   cases r3;have gg:=g2.trans g3;exact#[_,ds,u,d,i,j,rfl,rfl,.lst (gg.sub.seq (gg.e8.seq hq)) (rs.mono (gg.e8.trans gg.sub)),(r2.mono g3.e8).mono g3.sub,l1,l2,yj,hj,HX,q _ H3 xU (g.trans gg) (.int _)]
theorem yq{d1 d2:List ae}(h1:VE X a δ (.tuple d1))(h2:VE X b δ (.tuple d2))(hn:d1≠[])(hz:d1.length+d2.length<=sizeLine):VE X (.BinOp a .Add b pos) δ (.tuple (d1++d2)):=by
 refine .of (Dr OS cB cB) λB0 B σ H0 H Q f q=>h1 B0 B σ H0 H _ f λv H1 cV g1 r1=>h2 B0 B σ H1 cV _ (f.grow g1) λu H2 fS g2 r2=>?_
 cases r1 with
 |tup hq r1=>
  cases r2 with
  |tup Fb r2=>
   have gg:=g1.trans g2;have e1:=r1.length;have hx:∀xs:List V,xs.length=d1.length->xs≠[]:=λxs h z=>by rw[z]at h;exact hn (mV h.symm)
   refine#[_,_,_,_,rfl,rfl,g2.sub.pG (g2.e8.pG hq),g2.sub.pG Fb,hx _ e1,by rw[e1,r2.length];exact hz,λhy=>?_,λ_ p hp=>q _ _ _ (gg.trans (.laid g2.sub hp)) (.tup (oH.of bh) (((r1.mono g2.e8).append r2).mono (c6.laid g2.sub hp).e8))]
   subst hy;cases r2;rw[cy]at q;exact q _ H2 fS gg (.tup (g2.e8.pG hq) (r1.mono g2.e8))
end
end L2
namespace L2
open PySem PySem.Spec PyProof.Rows
variable{a p:aF}{H:Hp}{kvs:List (Key×V)}{as:List aF}{xs:List V}{i j:Nat}{pt:Pos}{P:bA}{d:ae}{K:ao}{tgt:FZ}{Q:aD->aL->Prop}{w:cg}
def Mm(K:ao)(b:aF)(ws:List Str):Prop:=∃(o:Obj)(its:Array aD)(n:Nat),K.lookup b=some o/\o.cls=.type "tuple"/\o.data=.seq its n/\its.size<=sizeLine/\dI (ws.map V.str) its.toList
inductive GE(pr:Bx)(K:ao):List sX->List (Str×List Str)->Prop
 |nil:GE pr K [] []
 |cons {h:Int} {k:Str} {t:Tok} {b:aF} {ws:List Str} {es:List sX} {kvs:List (Str×List Str)}:h=ae.keyHash pr k->Mm K b ws->GE pr K es kvs->GE pr K (⟨h,.str k t,.ref b⟩::es) ((k,ws)::kvs)
structure GD(pr:Bx)(K:ao)(a:aF)(kvs:List (Str×List Str)):Prop where
 nm:(a==sysModules)=false
 nd:(kvs.map (·.1)).Nodup
 ob:∃o es ep,K.lookup a=some o/\o.ExactDict/\o.data=.dict es ep/\GE pr K es.toList kvs
def jJ(kvs:List (Str×List Str))(k:Str):Option (List Str):=(kvs.find? λp=>decide (p.1=k)).map (·.2)
theorem GE.pairs{P:bA}{w:cg}{K:ao}:∀{es:List sX}{kvs:List (Str×List Str)},GE w.params K es kvs->∃vs:List (Key×aD),Pairs (ei P w) es vs/\vs.map (·.1)=kvs.map (λp=>(bo p.1:Key))/\
  (∀e∈es,∃k,(ei P w).is k e.key=true/\e.hash=(ei P w).hash k)/\∀k,match jJ kvs k with|none=>valueAt vs (bo k)=none|some ws=>∃b,valueAt vs (bo k)=some (.ref b)/\Mm K b ws
 |_,_,.nil=>#[[],.nil,rfl,λe h=>by(cases h),λk=>rfl]
 |_,_,@GE.cons _ _ hh k t b ws es kvs e kt r=>by
  obtain⟨vs,h1,h2,h3,h4⟩:=GE.pairs r;refine#[(.inr k,.ref b)::vs,.cons (rB P w k t) rfl h1,by rw[ay,ay,h2],λx hx=>?_,λj=>?_]
  ·rcases ax.mp hx with rfl|hx
   ·exact#[.inr k,rB P w k t,by rw[e];rfl]
   ·exact h3 x hx
  ·by_cases hj:k=j
   ·subst hj
    have:jJ ((k,ws)::kvs) k=some ws:=by simp[jJ,cI]
    rw[this];exact#[b,by simp[valueAt,cI],kt]
   ·have:jJ ((k,ws)::kvs) j=jJ kvs j:=by simp[jJ,cI,hj]
    rw[this];have e2:valueAt ((bo k,di b)::vs) (bo j)=valueAt vs (bo j):=by
     have:¬(bo k:Key)=bo j:=λz=>hj (by injection z)
     simp[valueAt,cI,this]
    rw[e2];exact h4 j
theorem GD.dict{h:cM}{kvs:List (Str×List Str)}(g:GD w.params K a kvs)(Sy:K.In h):∃vs:List (Key×aD),h.DictOf (ei P w) a vs/\∀k,match jJ kvs k with|none=>valueAt vs (bo k)=none|some ws=>∃b,valueAt vs (bo k)=some (.ref b)/\Mm K b ws:=by
 obtain⟨o,es,ep,h1,h2,h3,h4⟩:=g.ob;obtain⟨vs,p1,p2,p3,p4⟩:=h4.pairs;refine#[vs,#[o,es,ep,Sy a o h1,h2,h3,λe he=>p3 e ↑he,p1,?_],p4]
 rw[p2];have nd:=g.nd
 induction kvs with
 |nil=>exact kR
 |cons p l ih=>
  rw[ay,bY]at nd ⊢;refine#[λz=>nd.1 ?_,?_]
  ·obtain⟨q,hq,e⟩:=av.mp z
   injection e with e
   exact av.mpr #[q,hq,e]
  ·have go:∀l:List (Str×List Str),(l.map (·.1)).Nodup->(l.map λp=>(bo p.1:Key)).Nodup:=by
    intro l
    induction l with
    |nil=>intro _;exact kR
    |cons p l ih=>
     intro nd;rw[ay,bY]at nd ⊢;refine#[λz=>nd.1 ?_,ih nd.2]
     obtain⟨q,hq,e⟩:=av.mp z
     injection e with e
     exact av.mpr #[q,hq,e]
   exact go l nd.2
section
variable{X:Cx}{a b c e:bC}{δ:List Slot}{pos p:Pos}{k:Nat}{x y:Str}{kvs:List (Str×List Str)}{ws:List Str}{g:aF}
theorem sJ:∀l:List Str,b9 K H (l.map V.str) (l.map aS)
 | []=>.nil
 |z::l=>.cons (.str z) (sJ l)
theorem Ir(hm:X.mg x=some (.ref g))(G:GD X.w.params X.K g kvs)(h:VE X b δ (.str y))(hk:jJ kvs y=some ws)(hg:Gl X x:=by rfl)(hs:FV b:=by intro _ _;rfl)(hd:vX x:=by decide):VE X (.Subscript (.Name x p) b pos) δ (.tuple (ws.map .str)):=by
 have pe:PE X (.Subscript (.Name x p) b pos) (λσ H Q=>cE X b σ H λv H1=>v=.str y/\∀q,Mm X.K q ws->Q (.ref q) H1):=by
  intro pins s σ H Q I hw;refine H_ zZ.lookup hs (fP (yi hg hm (v:=.ref g) rfl hd pins s σ H (λv H'=>v=.ref g/\H'=H) I #[rfl,rfl]) λu s1 #[vx,H1,I1,rx,ex,eH]=>?_)
  subst ex eH;obtain rfl:u=di g:=rx;refine fP (hw pins s1 I1) λiv s2 #[v,H2,I2,rv,ev,q]=>?_
  subst ev;obtain⟨vs,dd,hv⟩:=G.dict I2.yg;have hv:=hv y;rw[hk]at hv;obtain⟨bb,hb,kt⟩:=hv;exact#[dd.typeIs,wpAny_getItem_of (qN (k:=.inr y) rv) dd.mapOf hb (#[.ref bb,H2,I2.tok _,rfl,q bb kt])]
 exact .of pe λB0 B σ H0 H Q f q=>h B0 B σ H0 H _ f λv H1 cV g1 r=>by
  cases r;exact#[rfl,λb' hb=>q _ H1 cV g1 (.tup (.inr hb) (sJ ws))]
theorem A9(hm:X.mg x=some (.ref g))(G:GD X.w.params X.K g kvs)(h:VE X b δ (.str y))(hg:Gl X x:=by rfl)(hd:vX x:=by decide)(hmk:behindInMarks .NotIn (.Name x p)=false:=by with_unfolding_all rfl):VT X (.Compare b [.NotIn] [.Name x p] pos) δ (!(jJ kvs y).isSome):=by
 have pc:PC X .NotIn b (.Name x p) (λσ H Q=>cE X b σ H λv H1=>v=.str y/\Q (.bl (!(jJ kvs y).isSome)) H1):=by
  intro pins s σ H Q I hw;refine fP (hw pins s I) λiv s1 #[v,H1,I1,rv,ev,q]=>?_
  subst ev;refine fP (yi hg hm (v:=.ref g) rfl hd pins s1 σ H1 (λv H'=>v=.ref g/\H'=H1) I1 #[rfl,rfl]) λu s2 #[vx,H2,I2,rx,ex,eH]=>?_
  subst ex eH;obtain rfl:u=di g:=rx;obtain⟨vs,dd,hv⟩:=G.dict I2.yg;have hv:=hv y;refine wpAny_notIn_of (qN (k:=.inr y) rv) G.nm dd.mapOf ?_
  have e:(valueAt vs (bo y)).isSome=(jJ kvs y).isSome:=by
   cases el:jJ kvs y with
   |none=>rw[el]at hv;rw[hv];rfl
   |some ws=>rw[el]at hv;obtain⟨bb,hb,_⟩:=hv;rw[hb];rfl
  rw[e];exact#[.bl _,H2,I2.tok _,rfl,q]
 exact .of (K7 pc hmk) λB0 B σ H0 H Q f q=>h B0 B σ H0 H _ f λv H1 cV g1 r=>by
  cases r;exact#[rfl,_,rfl,q H1 cV g1]
end
section
variable{X:Cx}{a b c e:bC}{δ:List Slot}{d d1 d2:ae}{ds:List ae}{pos px py p:Pos}{x y:Str}{k:Nat}{kvs:List (Str×ae)}
theorem Ub:Zr X (λx lo hi H Q=>∃z,x=.str z/\z.length<=sizeLine/\Q (.str (mJ z lo hi)) H):=by
 intro pins s σ H x v vl vu lo hi sl Q I rx hs pl pu h;obtain⟨z,rfl,hz,q⟩:=h;obtain⟨t,rfl⟩:=rx;refine#["str",_,PySem.F.slot_str_getitem.lookup,uc _ _ _,?_]
 have fin:∀(l u:Option (Int×Tok)),l.map (·.1)=lo->u.map (·.1)=hi->s.heap.IsSlice sl l u none->wpAny (model X.prog X.w) X.A (getItem (.str z t) (.ref sl)) (EP X pins σ Q) X.xe s:=by
  intro l u e1 e2 hl;subst e1 e2;exact wpAny_getItem_str_slice hl rfl (post_val_or_str #[bQ (Fp z _ _) hz,λt' k=>(#[.str (mJ z _ _),H,I.tok _,#[t',rfl],q])])
 obtain⟨os,h1,h2,h3⟩:=hs;cases pl with
 |none=>cases pu with
  |none=>exact fin none none rfl rfl #[os,h1,h2,h3]
  |int j t2=>exact fin none (some (j,t2)) rfl rfl #[os,h1,h2,h3]
 |int i t1=>cases pu with
  |none=>exact fin (some (i,t1)) none rfl rfl #[os,h1,h2,h3]
  |int j t2=>exact fin (some (i,t1)) (some (j,t2)) rfl rfl #[os,h1,h2,h3]
theorem A_{lo hi:Option bC}{l u:Option Int}{p2:Pos}(h:VE X a δ (.str x))(hz:x.length<=sizeLine)(hl:tQ X δ lo l)(hh:tQ X δ hi u):VE X (.Subscript a (.Slice lo hi none p2) pos) δ (.str (mJ x l u)):=by
 obtain⟨tl,pl,ql⟩:=hl.ok;obtain⟨th,ph,qh⟩:=hh.ok;refine .of (yN Ub cB pl ph) λB0 B σ H0 H Q f q=>h B0 B σ H0 H _ f λv H1 cV g r=>ql B0 B σ H1 cV _ (f.grow g) λH2 fS g2=>qh B0 B σ H2 fS _ ((f.grow g).grow g2) λH3 xU g3=>?_
 cases r;exact#[x,rfl,hz,q _ _ _ ((g.trans g2).trans g3) (.str _)]
inductive VP(X:Cx)(δ:List Slot):List (Option bC)->List bC->List (Str×ae)->Prop
 |nil:VP X δ [] [] []
 |cons {k v:bC} {ks vs} {x:Str} {d:ae} {r}:VE X k δ (.str x)->VE X v δ d->VP X δ ks vs r->VP X δ (some k::ks) (v::vs) ((x,d)::r)
theorem VP.ok{keys vals}(h:VP X δ keys vals kvs):keys.all (·.isSome)=true/\keys.length=vals.length/\keys.length=kvs.length/\∃JB,WT X pos keys vals JB/\∀B0 B σ H0 H Q,gy X.K B0 B H0 H σ δ->
  (∀cZ H' (ws:List (Key×V)),c6 H0 H cZ H'->ws.map (·.1)=kvs.map (λp=>(bo p.1:Key))->b9 X.K cZ (ws.map (·.2)) (kvs.map (·.2))->Q (ws.map λkv=>(kV kv.1,kv.2)) H')->B6 JB σ H Q:=by
 induction h with
 |nil=>exact#[rfl,rfl,rfl,[],O5,λB0 B σ H0 H Q f q=>q _ _ [] (.refl f.sub) rfl .nil]
 | @cons k v ks vs x d r hk hv _ ih=>
  obtain⟨a1,a2,a3,JB,pp,ht⟩:=ih;refine#[by simpa using a1,by simp[a2],by simp[a3],_,Lz cB cB pp,λB0 B σ H0 H Q f q=>?_]
  refine hk B0 B σ H0 H _ f λu H1 cV g1 r1=>hv B0 B σ H1 cV _ (f.grow g1) λw H2 fS g2 r2=>?_
  cases r1;exact ht B0 B σ H2 fS _ ((f.grow g1).grow g2) λH3 xU ws g3 e1 rs=>(q H3 xU ((bo x,w)::ws) ((g1.trans g2).trans g3) (by simp[e1]) (.cons (r2.mono g3.e8) rs))
theorem Py:∀{kvs:List (Key×V)}{k:Key}{v:V},k∉kvs.map (·.1)->putK kvs k v=kvs ++ [(k,v)]:=by
 intro kvs k v h;unfold putK
 first
  |(rw[qQ2];simpa using h)
  |(simp at h;simp[h])
theorem Ba:∀{more kvs:List (Key×V)},((kvs++more).map (·.1)).Nodup->rJ kvs more=kvs++more
 | [],kvs,_=>by simp[rJ]
 |p::more,kvs,h=>by
  show rJ (putK kvs p.1 p.2) more=_;have hp:=λz=>by
   rw[aN,ay]at h;exact(cF.mp h).2.2 _ z _ (aM) rfl
  rw[Py hp,Ba ↑h]
  simp
theorem Iu{keys vals}(h:VP X δ keys vals kvs)(hn:(kvs.map (·.1)).Nodup)(h0:kvs≠[])(h15:kvs.length<=15):VE X (.Dict keys vals pos) δ (kP kvs):=by
 obtain⟨a1,a2,a3,JB,pp,ht⟩:=h.ok;refine .of (O6 pp a1 a2 (λz=>h0 (List.length_eq_zero_iff.mp (by rw[<-a3,z];rfl))) ∅) λB0 B σ H0 H Q f q=>λp hp=>?_
 refine ht B0 B σ H0 _ _ (f.grow (.loose f.sub hp)) λH1 cV ws g e1 rs=>?_
 have wl:ws.length=kvs.length:=by have:=qQ6 dC e1;simpa using this
 refine#[(g.big _ _ (bh)),ws,rfl,∅,?_]
 rw[Ba (by
  rw[gU,e1];have:(kvs.map λp=>(bo p.1:Key))=(kvs.map (·.1)).map bo:=by rw[aB];rfl
  rw[this];exact mW _ (λa b hab z=>hab (j0 z)) hn),gU]
 refine q _ (upd H1 p (.dK ws)) _ #[λb u eb=>?_,λb u eb=>?_,λb u eb=>?_,λb eb=>?_] ?_
 ·have hb:=bG eb hp
  rw[aO hb];exact g.big _ _ ((aO hb).trans eb)
 ·have hb:=bG eb (f.sub.free hp)
  rw[aO hb];exact g.e8 _ _ eb
 ·by_cases hb:b=p
  ·subst hb;rw[bh]at eb ⊢;exact eb
  ·rw[aO hb]at eb ⊢;exact g.sub _ _ eb
 ·by_cases hb:b=p
  ·subst hb;exact .inr hp
  ·rw[aO hb]at eb
   rcases g.new b eb with z|z
   ·exact .inl z
   ·rw[aO hb]at z;exact .inr z
 ·refine .dct bh ?_ ?_
  ·rw[aB]
   have:ws.map (λp=>oB p.1)=(ws.map (·.1)).map oB:=by rw[aB];rfl
   rw[this,e1,aB];rfl
  ·rw[aB]
   refine(rs.mono λb u eb=>?_)
   rwa[aO (bG eb (g.still (f.sub.free hp) bh))]
theorem Mp{ap:Pos}(hr:dB k X.A)(h3:VE X c δ (kP kvs))(h1:VE X a δ (.str x))(h4:VE X e δ d)(m:M2 X c "get" ap a e pos:=by exact#[rfl,rfl,rfl,rfl]):VE X (.Call (.Attribute c "get" ap) [a,e] [] pos) δ ((iT kvs x).getD d):=
 .of (LC (Fe hr) cB cB cB m) λB0 B σ H0 H Q fr q=>h3 B0 B σ H0 H _ fr λv H1 cV g r=>by
  obtain⟨p,ws,rfl,hp,ke,rs⟩:=r.pH;refine#[p,rfl,.inl #[ws,.inl (g.sub _ _ hp)],?_]
  refine h1 B0 B σ H1 cV _ (fr.grow g) λv H2 fS g2 r1=>h4 B0 B σ H2 fS _ ((fr.grow g).grow g2) λu H3 xU g3 r2=>?_
  cases r1;have gg:=g2.trans g3;exact#[_,.inl #[ws,bo x,.inl (gg.big _ _ (g.sub _ _ hp)),rfl,rfl],q _ H3 xU (g.trans gg) ((wm ke (rs.mono gg.e8) x).getD r2)]
theorem Uc(i j:Int):nR K (λxs H Q=>∃i j,xs=[.int i,.int j]/\Q (.int (if j<i then j else i)) H) [.int i,.int j] (.int (if j<i then j else i)):=λvs H0 H Q s r q=>by
 obtain⟨v,u,rfl,r1,r2⟩:=r.two;cases r1;cases r2;exact#[i,j,rfl,q _ _ _ (.refl s) (.int _)]
end
section
variable{X:Cx}{a b c e e1 e2:bC}{δ:List Slot}{d d1 d2:ae}{ds Vp ds2:List ae}{pos px py p:Pos}{x y:Str}{k:Nat}
theorem Pz(i j:Nat){Fy: Pos}{kt k2}(h1:VO X a δ Vp)(h2:VO X b δ ds2)(hc:X.calm=true)(hN:X.N.Nodup)(yj:i≠j)(hi:X.N[i]?=some x:=by rfl)(hj:X.N[j]?=some y:=by rfl)(hx:X.env.scope.names.lookup x=some .local:=by rfl)(hy:X.env.scope.names.lookup y=some .local:=by rfl)
  (hw:swappedStores [.Tuple [.Name x px,.Name y py] kt pt] (.Tuple [a,b] k2 Fy) X.env=pure (some [x,y]):=by rfl)(hs:swapsWithSole [.Tuple [.Name x px,.Name y py] kt pt] (.Tuple [a,b] k2 Fy) pos.line X.env=pure false:=by rfl)
  (Rc:kO X a [b]:=by rfl)(p9:kO X b []:=by rfl):
  VS X (.Assign [.Tuple [.Name x px,.Name y py] kt pt] (.Tuple [a,b] k2 Fy) pos) δ (.nx ((δ.set i (.own Vp)).set j (.own ds2))):=λB0 B σ H0 H D f ok pins s I=>by
 refine La hc hN hi hj yj hx hy (cY cB (cY cB eV p9) Rc) hw hs pins s σ H D I ?_
 refine h1 B0 B σ H0 H _ f λp xs H1 cV g a1 a2 a3 a4=>h2 B0 B σ H1 cV _ (f.grow g) λq ys H2 fS g2 b1 b2 b3 b4=>?_
 have gg:=g.trans g2;have npq:p≠q:=λz=>by rw[z,b1]at a3;cases a3
 have f1:=(f.grow gg).B8 (i:=i) (g2.big _ _ a3) (g2.still a2 a3) (f.ent.big.free a1) (a4.mono g2.e8) λj es e2 e3=>by
  obtain⟨p',xs',g1,g2,_⟩:=f.slot j _ e2;rw[e3]at g1;cases g1;rw[a1]at g2;cases g2
 refine#[_,_,rfl,ok _ H2 fS gg.e8 (f1.B8 b3 b2 ((f.grow g).ent.big.free b1) b4 λj es e2 e3=>?_)]
 by_cases hji:j=i
 ·subst hji
  have hl:j < σ.length:=by
   have:=(aH.mp e3).1
   simpa using this
  rw[bf hl]at e3
  cases e3;exact npq rfl
 ·rw[a9 (bT hji)]at e2 e3
  obtain⟨p',xs',z1,z2,_⟩:=(f.grow g).slot j _ e2;rw[e3]at z1;cases z1;rw[b1]at z2;cases z2
end
section
variable{X:Cx}{K:ao}{B0 B H0 H cZ H' C0 C Ha Hb:Hp}{σ σ':St}{δ δ':List Slot}{a:aF}{ps:List aF}{gs:List (List ae)}
end
section
variable{X:Cx}{B0 B H0 H cZ H' Ha Hb:Hp}{σ σ':St}{D:Ends}{st:e6}{rest body orelse:List e6}{δ δ':List Slot}{a:aF}{ps:List aF}{gs:List (List ae)}{e c tg iter e1 e2 ea:bC}{d:ae}{ds:List ae}{pos px tf:Pos}{x y:Str}
def rR{α:Type}(l:List α)(i:Nat)(y:α):List α:=l.take i++y::l.drop i
def PB:V->List V->Hp->VK->Prop:=λx vs H Q=>∃(l:aF)(xs:List V)(j:Int)(y:V),x=.ref l/\vs=[.int j,y]/\H l=some (.lst xs)/\0<=j/\j<=xs.length/\xs.length<sizeLine/\Q .non (upd H l (.lst (rR xs j.toNat y)))
theorem dI.ins{us:List aD}{y:V}{u:aD}(r:dI xs us)(ru:RelV y u)(i:Nat):dI (rR xs i y) (rR us i u):=(r.take i).append (.cons ru (r.drop i))
theorem J0:Vm X "list.insert" PB:=by
 intro pins s σ H x vs v us Q I rx rv h;obtain⟨l,xs,j,y,rfl,rfl,hH,h0,hi,hz,q⟩:=h;cases rx;obtain⟨u1,u2,rfl,ru1,Xl⟩:=rv.two;obtain⟨t,rfl⟩:=ru1;obtain⟨z,its,n,r,hl,e⟩:=I.OX hH;have Lq:mr j=true:=by
  have:=du;unfold mr;simp;omega
 refine iB F.slot_list_insert #[_,e,rfl] F.entry_list_insert (F.args_list_insert_3 _ _ _) (PySem.AutoSeq1.list_insert_list_int_val_1 l its.toArray n j t u2 (by rw[Lq];decide) (by rw[bL];omega)) #[e,?_]
 refine#[.non,_,I.Ta hH e ?_ (r.ins Xl j.toNat) ?_,rfl,q]
 ·show(its.toArray.extract 0 (if j<0 then(j+its.toArray.size).toNat else min j.toNat its.toArray.size)).push u2++its.toArray.extract (if j<0 then(j+its.toArray.size).toNat else min j.toNat its.toArray.size)=_
  rw[qQ2 ∅,bL,nM ∅]
  unfold rR;apply Array.toList_inj.mp;simp;rw[c0 (by simp)]
 ·unfold rR
  rw[aV,bR,bJ,cN];omega
theorem b9.ins{v:V}(r:b9 K H xs ds)(rv:Rep K H v d)(i:Nat):b9 K H (rR xs i v) (rR ds i d):=(r.take i).append (.cons rv (r.drop i))
end
section
variable{X:Cx}{a b c:bC}{δ:List Slot}{d1 d2 d3:ae}{pos px py pz:Pos}{x y z:Str}
theorem b9.three{vs:List V}(r:b9 K H vs [d1,d2,d3]):∃v w u,vs=[v,w,u]/\Rep K H v d1/\Rep K H w d2/\Rep K H u d3:=by
 cases r with|cons a t=>cases t with|cons b t=>cases t with|cons c t=>cases t;exact#[_,_,_,rfl,a,b,c]
theorem PD(i j k:Nat){Fy: Pos}{kt k2}(h1:VE X a δ d1)(h2:VE X b δ d2)(h3:VE X c δ d3)(hc:X.calm=true)(hN:X.N.Nodup)(yj:i≠j)(hik:i≠k)(Ib:j≠k)(hi:X.N[i]?=some x:=by rfl)(hj:X.N[j]?=some y:=by rfl)(hk:X.N[k]?=some z:=by rfl)(hx:X.env.scope.names.lookup x=some .local:=by rfl)(hy:X.env.scope.names.lookup y=some .local:=by rfl)(hz:X.env.scope.names.lookup z=some .local:=by rfl)
  (hw:swappedStores [.Tuple [.Name x px,.Name y py,.Name z pz] kt pt] (.Tuple [a,b,c] k2 Fy) X.env=pure (some [x,y,z]):=by rfl)(hs:swapsWithSole [.Tuple [.Name x px,.Name y py,.Name z pz] kt pt] (.Tuple [a,b,c] k2 Fy) pos.line X.env=pure false:=by rfl)
  (Rc:kO X a [b,c]:=by rfl)(p9:kO X b [c]:=by rfl)(hs3:kO X c []:=by rfl):
  VS X (.Assign [.Tuple [.Name x px,.Name y py,.Name z pz] kt pt] (.Tuple [a,b,c] k2 Fy) pos) δ (.nx (((δ.set i (.val d1)).set j (.val d2)).set k (.val d3))):=λB0 B σ H0 H D f ok pins s I=>by
 obtain⟨t,ha,qa⟩:=aq h1 (aq h2 (aq h3 aU hs3) p9) Rc;have h:=qa B0 B σ H0 H (λvs H1=>∃v w u,vs=[v,w,u]/\D.nx (((σ.set i (some v)).set j (some w)).set k (some u)) H1) f λvs H1 cV g rs=>by
  obtain⟨v,w,u,rfl,r1,r2,r3⟩:=rs.three;exact#[v,w,u,rfl,ok _ H1 cV g.e8 ((((f.grow g).set r1).set r2).set r3)]
 refine aA (yc ?_)
 rw[hs];refine aA (bj ?_)
 refine aA (Tuple_ (fP (ha _ pins s σ H _ I h) λus s1 #[vs,H1,I1,r1,q1]=>?_))
 obtain⟨v,w,u,e1,q1⟩:=q1;subst e1;obtain⟨u1,u2,u3,rfl,rv,sD,ru⟩:∃u1 u2 u3,us=[u1,u2,u3]/\RelV v u1/\RelV w u2/\RelV u u3:=by
  cases r1 with
  |cons p q=>
   cases q with
   |cons p' q'=>
    cases q' with
    |cons p2 q2=>
     cases q2;exact#[_,_,_,rfl,p,p',p2]
 refine fB ?_ (by show 3<=sizeLine;decide)
 have I2:Inv X pins σ H1 { s1 with heap:=s1.heap.push { cls:=.type "tuple",data:=.seq [u1,u2,u3].toArray } }:=I1.kept λb o e=>aE _ e
 rw[hw];refine aA (bj ?_)
 refine aA (ua (aA (unpackItems_tuple (items:=(bN [u1,u2,u3])) (I.ok.hd hc) (tF s1.heap _) λh' hx'=>?_)))
 refine aA (ja (pX (nQ (I2.kept (t':=s1.toks) λb o e=>hx' b o (a7 (aZ e)) e) hN hk (.inl hz) ru (λs2 I4=>?_) (.inr hz))))
 refine ja (pX (nQ I4 hN hj (.inl hy) sD (λs3 I5=>?_) (.inr hy)))
 refine ja (pX (nQ I5 hN hi (.inl hx) rv (λs4 I6=>Ab (bj ?_)) (.inr hx)))
 have e:((σ.set k (some u)).set j (some w)).set i (some v)=((σ.set i (some v)).set j (some w)).set k (some u):=by
  rw[uU _ _ (bT Ib),uU _ _ (bT hik),uU _ _ (bT yj)]
 rw[e]at I6;exact#[_,H1,I6,q1]
theorem vk{k:Bool}(h:VE X a δ (.bool k)):VE X (.UnaryOp .Not a pos) δ (.bool (!k)):=.of (SQ cB) λB0 B σ H0 H Q f q=>h B0 B σ H0 H _ f λv H1 cV g r=>by
 cases r;exact#[k,rfl,q _ H1 cV g (.bl _)]
theorem vm{st:List e6}{o:Out}(h:∀B0 B σ H0 H D,gy X.K B0 B H0 H σ δ->rM X.K B0 B H0 D o->w_ X st D σ H):xV X st δ o:=h
end
section
variable{X:Cx}{a:bC}{δ:List Slot}{pos p:Pos}{x:Str}{ds:List ae}
theorem Ar:g8 X (.type "str") (λxs H Q=>∃x,xs=[.str x]/\Q (.str x) H):=by
 intro pins s σ H xs us Q I r h;obtain⟨x,rfl,q⟩:=h;obtain⟨u,rfl,t,rfl⟩:=vals1 r;exact PySem.P.str_of_str #[.str x,H,I,#[t,rfl],q]
theorem Ud:nR K (λxs H Q=>∃x,xs=[.str x]/\Q (.str x) H) [.str x] (.str x):=λvs H0 H Q s r k=>by
 obtain⟨v,rfl,r1⟩:=r.one;cases r1;exact#[x,rfl,k _ _ _ (.refl s) (.str _)]
theorem PF(h:VE X a δ (.str x))(hm:X.mg "str"=none)(hg:Gl X "str":=by rfl)(hs:kO X a []:=by rfl):VE X (.Call (.Name "str" p) [a] [] pos) δ (.str x):=jC Ar Ud (aq h aU hs) hm rfl hg (he:=hs)
theorem PH:xh K (λxs H Q=>∃p ys,xs=[.ref p]/\(jx K H p ys\/oH K H p ys)/\∀l,H l=none->Q (.ref l) (upd H l (.lst ys))) [.tuple ds] ds:=λvs H0 H Q s r q=>by
 obtain⟨v,rfl,r1⟩:=r.one;cases r1 with
 |tup hq rs=>
  exact#[_,_,rfl,.inr (s.pG hq),λl hl=>(q l _ H0 _ (.loose s hl) hl (s.free hl) bh rs)]
end
section
variable{prog:bA}{w:cg}{A:dE}{E:aD->aL->Prop}{s:aL}
theorem As{l:aF}{items:Array aD}(hh:A.handled=none)(hl:s.heap.IsTuple l items)(T:Nat->cM->Prop)
  (t0:∀led h',h'.get? s.heap.objs.size=some (jg led)->(∀b o,s.heap.get? b=some o->h'.get? b=some o)->T 0 h')
  (keep:∀i h h',T i h->(∀b o,b≠s.heap.objs.size+1->h.get? b=some o->h'.get? b=some o)->T i h')
  (add:∀i v (s':aL) (Q:Bool->aL->Prop) (E:aD->aL->Prop),i<items.size->items[i]?=some v->T i s'.heap->(∀h' tk b,s'.toks<=tk->gw s.heap.objs.size s'.heap h'->T (i+1) h'->Q b { s' with heap:=h',toks:=tk })->wpAny (model prog w) A.in1.in1.in1 (setAdd s.heap.objs.size v) Q E s')
  (h:∀(h':cM)(tk:Nat),T items.size h'->(∀b o,b<s.heap.objs.size->s.heap.get? b=some o->h'.get? b=some o)->Q (.ref s.heap.objs.size) { s with heap:=h',toks:=tk }):
  wpAny (model prog w) A (call (.type "set") [.ref l]) Q E s:=by
 obtain⟨c,tl,zg3⟩:=jX.mro;have zes:=jX.made;have FX:=jX.sub;refine wpAny_call (codeAny_of_tree ?_)
 show wpAny _ _ (callAny (.type "set") _) _ _ _;refine bj #[Code.quiet_builtin _ ∎,kS F.entry_type_call ?_]
 rw[dE.under_plain (weight_type_call_type "set" [.ref l] []) rfl];have h1:=jX.notType;have h2:=jX.canCreate;have hct:=F.typeCall_set_1 (.ref l)
 repeat (any_goals (first|assumption|wp_step))
 refine pw (code_set_new_1 (.ref l) (E:=E) (Q₁:=λobj s₁=>∃led:Bool,obj=.ref s.heap.objs.size/\s₁={ s with heap:=s.heap.push (jg led) }) λled=>#[led,rfl,rfl]) λr s₁ hr=>?_
 cases r with
 |error e=>exact hr
 |ok fl=>
  cases fl with
  |ret obj=>
   obtain⟨led,rfl,rfl⟩:=hr;have hS:(s.heap.push (jg led)).get? s.heap.objs.size=some (jg led):=bq _ rfl
   have hT:aL.TypeIs { s with heap:=s.heap.push (jg led) } (.ref s.heap.objs.size) "set":=#[_,hS,rfl]
   have hli:=jX.init.lookup;have hbi:=jX.init.bind (.ref s.heap.objs.size)
   repeat (any_goals (first|assumption|wp_step))
   refine pw (codeAny_call_builtin (R:=wants (λr s₂=>r=.none/\∃h' tk,s₂={ s with heap:=h',toks:=tk }/\T items.size h'/\(∀b o,b<s.heap.objs.size->s.heap.get? b=some o->h'.get? b=some o)) E) jX.init.plain F.entry_set_init (check_set_init_1 hT ?_)) λr₂ s₂ hr₂=>?_
   ·obtain⟨ol,Oc,F6,nl,F7⟩:=hl
    obtain⟨zbj,Rj,Xn,Mq⟩:=ol;simp only at F6 F7;subst F6;subst F7;have zbk:(s.heap.push (jg led)).get? l=some { cls:=.type "tuple",dict:=Rj,data:=.seq items nl,slots:=Mq }:=aE _ Oc
    have zg4:=F.sub_tuple_set;have zg5:=F.sub_tuple_frozenset;have DM:(qU "tuple"==qU "dict")=false:=⋯
    have Od:(s.heap.push (jg led)).IsTuple l items:=#[_,zbk,rfl,nl,rfl];unfold qY.«set.__init__» noKeywords qY.Frozenset.updateFrom
    generalize hPI:pyIter=PI
    wp_walk
    subst hPI;refine yA Od ?_
    refine aA (wpAny_runValue ?_)
    have Xo:l<s.heap.objs.size:=aZ Oc;have hh3:A.in1.in1.in1.handled=none:=by simp[hh]
    have BX:(s.heap.push (jg led)).objs.size=s.heap.objs.size+1:=gG _ _;have zbl:l≠(s.heap.push (jg led)).objs.size:=by rw[BX];exact a7 (k_ Xo)
    have Tp:s.heap.objs.size∉[(s.heap.push (jg led)).objs.size,l]:=by
     rw[BX];simp only[ax,aW,a8,or_false,not_or];exact#[a7 (Nat.lt_succ_self _),ft Xo]
    refine LK ((Walks.tuple hh3 _ l zbl items).toS) s.heap.objs.size Tp T (λi h h' t k=>keep i h h' t λb o hb e=>k b o ?_ e) (λi v s' Q E hi hv t q=>add i v s' Q E hi hv t q) (items.size-0) 0 _ ∅ (bx _)
     #[#[_,bq _ rfl,rfl,rfl],(Od.push _)] ?hS0 ?hR
    ·rw[BX]
     intro z;rw[aW]at z;exact hb z
    case hS0=>
     exact t0 led _ (aE _ hS) λb o e=>aE _ (aE _ e)
    case hR=>
     intro s' hm Xp;obtain⟨h',g',d',A8,Vk⟩:=s';have eg:g'=s.gens:=hm.gens;have ed:d'=s.drawn:=hm.drawn;have eo:Vk=s.os:=hm.os;subst eg;subst ed;subst eo;show wpAny _ _ _ _ _ _;refine bj ?_
     show wpAny _ _ (ret qS) _ _ _;refine bj #[rfl,h',A8,rfl,Xp,λb o hb e=>?_]
     have hb1:b≠s.heap.objs.size:=a7 hb;have Vt:b≠(s.heap.push (jg led)).objs.size:=by rw[BX];exact a7 (k_ hb)
     exact hm.heap b o (by simp only[ax,aW,a8,or_false,not_or];exact#[hb1,Vt]) (aE _ (aE _ e))
   ·cases r₂ with
    |error e=>exact hr₂
    |ok fl₂=>
     cases fl₂ with
     |ret r=>
      obtain⟨rfl,h',tk,rfl,Xp,ZC⟩:=hr₂
      repeat (any_goals (first|assumption|wp_step))
      exact h _ _ Xp ZC
     |_=>exact hr₂.elim
  |_=>exact hr.elim
end
section
variable{X:Cx}{a b c e:bC}{δ:List Slot}{d d1 d2:ae}{ds:List ae}{pos p p2 Ao:Pos}{k:Nat}
def Ue(K:ao):List V->Hp->VK->Prop:=λxs H Q=>∃(a:aF)(ss:List Str),xs=[.ref a]/\oH K H a (ss.map V.str)/\ss.length<4000/\∀l,H l=none->Q (.ref l) (upd H l (.ext (JN l (dd [] ss).length)))
theorem y6(hc:X.calm=true):g8 X (.type "set") (Ue X.K):=by
 intro pins s σ H xs us Q I r h;obtain⟨a,ss,rfl,hq,h4,q⟩:=h;obtain⟨u,rfl,rx⟩:=vals1 r;cases rx;obtain⟨its,rv,pl,hz⟩:=I.tuple hq;have Xq:=rv.length;simp only[ai]at Xq;have BU:its.toArray.size=ss.length:=by simp;omega
 refine As (I.ok.hd hc) pl (λi h=>(∀b o,s.heap.get? b=some o->h.get? b=some o)/\h.SetOf (strKind X.prog X.w) s.heap.objs.size (λk=>decide (k∈dd [] (ss.take i))) (dd [] (ss.take i)).length) (λled h' e k=>?_) (λi h h' #[k1,T] k=>?_) (λi v s' Q' E' hi hv #[k1,T] q'=>?_) (λh' tk #[k1,T] _=>?_)
 ·have n0:dd [] (ss.take 0)=[]:=by rw[tJ];rfl
  refine#[k,?_]
  rw[n0];refine#[_,#[],0,_,e,#[rfl,rfl,rfl],rfl,(λe he=>by cases he),(λk=>#[λz=>by simp at z,λ#[e,he,_]=>by cases he]),(by show 0<scanBound;unfold scanBound;omega),rfl,rfl]
 ·refine#[λb o e=>k b o ?_ (k1 b o e),?_]
  ·have:=aZ e
   exact a7 (k_ this)
  ·obtain⟨o,es,ep,t,ho,rest⟩:=T
   exact#[o,es,ep,t,k _ _ ∅ ho,rest]
 ·rw[BU]at hi
  obtain⟨x,t,hx,rfl⟩:=A7 rv i v ↑hv;have his:(strKind X.prog X.w).is x (.str x t)=true:=by show uO x (.str x t)=true;simp[uO]
  have hle:=wj (ss.take i) [];simp[dA,rn,bJ]at hle;have Og:ss.take (i+1)=ss.take i ++ [x]:=by rw[ck,hx];rfl
  refine oq (aA ((strKind X.prog X.w).pyHash his ?_))
  refine wpAny_setAddHashed_of his rfl T (by unfold scanBound;omega) λh' sb T'=>q' h' _ _ (ud _) sb #[λb o e=>?_,?_]
  ·have hb:=aZ e
   rw[sb.2 b (a7 hb)];exact k1 b o e
  ·have ed:dd [] (ss.take (i+1))=if decide (x∈dd [] (ss.take i))=true then dd [] (ss.take i)else dd [] (ss.take i) ++ [x]:=by rw[Og,A6];rfl
   rw[ed];by_cases hm:decide (x∈dd [] (ss.take i))=true
   ·rw[qQ3 hm]at T' ⊢
    refine SetOf_congr T' (λk=>?_) rfl
    by_cases hk:k=x
    ·subst hk;rw[hm];rfl
    ·simp[hk]
   ·rw[qQ2 hm]at T' ⊢
    refine SetOf_congr T' (λk=>?_) (by simp)
    rw[eA];simp
 ·rw[BU,c9]at T
  exact#[.ref s.heap.objs.size,_,I.laid k1 ∅ (SetOf.za5 T).ok,rfl,q _ (I.hok.fresh ∅)]
theorem DX{ss:List Str}(h:VE X a δ (.tuple (ss.map .str)))(hl:ss.length<4000)(hc:X.calm=true)(m1:X.mg "len"=none)(m2:X.mg "set"=none)(hg:Gl X "len":=by rfl)(Ob:Gl X "set":=by rfl)
  (hs:kO X a []:=by rfl)(p9:starEach [.Call (.Name "set" p2) [a] [] Ao] X.env=(false,eval (.Call (.Name "set" p2) [a] [] Ao) X.env)::starEach [] X.env:=by rfl)(mX:rC X Ao []:=by rfl)(zbm:rC X pos []:=by rfl):
  VE X (.Call (.Name "len" p) [.Call (.Name "set" p2) [a] [] Ao] [] pos) δ (.int (dd [] ss).length):=
 .of (rG An hg m1 sY (cY (sE (y6 hc) Ob m2 (by rfl) (cY cB eV hs) ⋯ ⋯ hs mX) eV p9) ⋯ ⋯ p9 zbm) λB0 B σ H0 H Q f q=>h B0 B σ H0 H _ f λv H1 cV g r=>by
  cases r with
  |tup hq rs=>
   have e:=rs.strs;subst e;have:=wj ss [];exact#[_,ss,rfl,g.sub.pG hq,hl,λl Xh=>#[l,_,rfl,bh,by simp at this;omega,q _ H1 _ (g.trans (.loose g.sub Xh)) (.int _)]]
def Bb:List Bool->Bool:=λl=>l.any id
theorem Mr(hc:X.calm=true):g8 X (.builtin "any") (λxs H Q=>∃p bs,xs=[.ref p]/\jx X.K H p (bs.map V.bl)/\Q (.bl (Bb bs)) H):=by
 intro pins s σ H xs us Q I r h;obtain⟨p,bs,rfl,hq,q⟩:=h;obtain⟨u,rfl,rx⟩:=vals1 r;cases rx;obtain⟨its,rv,pl,hz⟩:=I.list hq;have hl:=rv.length;simp only[ai]at hl;refine call_any_walkS (my pl.isList ?_)
 have Vq:∀(i:Nat)v,its.toArray[i]?=some v->v=.bool _:=λi v hv=>by
  have Oz:its[i]?=some v:=by simpa using hv
  have e:=rv.getD i;have e2:its.getD i qS=v:=by rw[aI,Oz];rfl
  have hi:i<bs.length:=by have:=(aH.mp Oz).1;omega
  have e3:(bs.map V.bl).getD i .non=.bl (bs.getD i false):=by
   rw[aI,aG,aI,au hi];rfl
  rwa[e2,e3]at e
 refine#[_,_,_,_,_,_,_,λi=>bs.getD i false,rfl,(Walks.list (by simp[I.ok.hd hc]) _ p (a7 (aZ pl.isList.choose_spec.1)) its.toArray).toS,#[#[_,bq _ rfl,rfl,rfl],pl.isList.push _],?_,λs' hm=>?_]
 ·intro i v Q' E' s' hv q'
  rw[Vq i v hv];exact eR q'
 ·have ea:(aX its.toArray.size).any (λi=>bs.getD i false)=Bb bs:=by
   rw[bL,<-hl];unfold Bb;rw[eA,jO,jO]
   constructor
   ·rintro⟨i,hi,h⟩
    have hi:=bW.mp hi;rw[aI,au hi]at h
    exact#[_,dP hi,h]
   ·rintro⟨x,hx,h⟩
    obtain⟨i,hi⟩:=Fm.mp hx;refine#[i,bW.mpr (aH.mp hi).1,?_]
    rwa[aI,hi]
  rw[ea];obtain⟨h',g',d',A8,Vk⟩:=s';have eg:=hm.gens;have ed:=hm.drawn;have eo:=hm.os;subst eg;subst ed;subst eo;refine#[.bl _,H,I.kept λb o e=>hm.heap b o ?_ (aE _ e),rfl,q]
  have:=aZ e;simp;exact a7 this
theorem Xr{bs:List Bool}:nR K (λxs H Q=>∃p bs,xs=[.ref p]/\jx K H p (bs.map V.bl)/\Q (.bl (Bb bs)) H) [.list (bs.map .bool)] (.bool (Bb bs)):=λvs H0 H Q s r q=>by
 obtain⟨v,rfl,r1⟩:=r.one;cases r1 with
 |lst hq rs=>
  have e:=rs.bls;subst e;exact#[_,bs,rfl,s.seq hq,q _ _ _ (.refl s) (.bl _)]
theorem wq:fillsNumberSlot (.type "tuple") "mul"=pure false:=
 PySem.fillsNumberSlot_seq Ah.lookup ∎ F.slot_tuple_rmul.lookup ∎
theorem Cb:seqRepeat? (.type "tuple")=pure (some (.builtin "tuple.__mul__")):=by
 unfold seqRepeat?
 rfl
theorem y_(i:Int)(t:Tok)(l:aF)(items:Array aD)(n:Nat)(dd:Option aF)(sl:Array (Option aD)):
  Meets (qY.«int.__rmul__» #[[.int i t,.ref l],[]]) (λ_ R s=>s.heap.get? l=some { cls:=.type "tuple",dict:=dd,data:=.seq items n,slots:=sl }/\R (.ok (.ret aD.notImplemented)) s):=
 .of_wp λprog w A R s h=>by obtain⟨hp,g,d,tk,os⟩:=s;obtain⟨hl,h⟩:=h;wp_walk;exact#[_,rfl,h]
theorem Au(l:aF)(items:Array aD)(n:Nat)(dd:Option aF)(sl:Array (Option aD))(t:Tok):
  Meets (qY.«tuple.__mul__» #[[.ref l,.int 1 t],[]]) (λ_ R s=>s.heap.get? l=some { cls:=.type "tuple",dict:=dd,data:=.seq items n,slots:=sl }/\R (.ok (.ret (.ref l))) s):=
 .of_wp λprog w A R s h=>by
  obtain⟨hp,g,d,tk,os⟩:=s;obtain⟨hl,h⟩:=h;have f1:=HF;have f2:=z_;have c1:(items.isEmpty||(1:Int)==1)=true:=by simp
  wp_walk using eG hl
  exact#[_,rfl,h]
theorem za(l:aF)(its:List aD)(n:Nat)(dd:Option aF)(sl:Array (Option aD))(k:Int)(t:Tok)(hk:2<=k)(hk2:k<2^63)(DM:its≠[])(BU:its.length*k.toNat<=sizeLine):
  Meets (qY.«tuple.__mul__» #[[.ref l,.int k t],[]]) (λ_ R s=>s.heap.get? l=some { cls:=.type "tuple",dict:=dd,data:=.seq its.toArray n,slots:=sl }/\R (.ok (.ret (.ref s.heap.objs.size))) { s with heap:=s.heap.push { cls:=qU "tuple",data:=Data.seq (aY k.toNat its).flatten.toArray } }):=
 .of_wp λprog w A R s h=>by
  obtain⟨hp,g,d,tk,os⟩:=s;obtain⟨hl,h⟩:=h;have f1:=HF;have f2:=z_;have Xs:its.toArray.isEmpty=false:=by cases its with|nil=>exact qQ7 rfl DM|cons _ _=>rfl
  have zha:its.toArray.size*k.toNat<=sizeLine:=by rw[bL];exact BU
  have Xt:AA (λx1 x2=>x1++x2) #[] (aY k.toNat its.toArray)=(aY k.toNat its).flatten.toArray:=by
   have:=foldl_rep its k.toNat [];rw[gU]at this;exact this
  generalize hI:its.toArray=items at *
  have hc1:¬(items.isEmpty||k==1)=true:=by rw[Xs];simp;omega
  have hc2:¬(decide (k<=0)||items.isEmpty)=true:=by rw[Xs];simp;omega
  have hmul:(items.size:Int)*k=((items.size*k.toNat:Nat):Int):=by rw[Int.natCast_mul,Int.toNat_of_nonneg ∅]
  have hsl:(sizeLine:Int)<=(2^63-1)/8:=⋯
  have hc3:¬((items.size:Int)*k>(2^63-1)/8):=by rw[hmul];omega
  wp_walk using eG hl
  refine kU (qQ0 (by simp;omega)) ?_
  wp_walk using eG hl
  refine kU (qQ0 hc1) ?_
  wp_walk using eG hl
  refine kU (qQ0 hc2) ?_
  wp_walk using eG hl
  refine kU (qQ0 hc3) ?_
  wp_walk using eG hl
  refine kU (qQ0 (by unfold qY.Tuple.tupleTooMany;rw[hmul];simp only[gt_iff_lt,decide_eq_true_eq];omega)) ?_
  wp_walk using eG hl
  rw[Xt];refine kU (qQ0 ?_) ?_
  ·rw[bL,len_rep]
   have:items.size=its.length:=by rw[<-hI,bL]
   rw[Fj];omega
  wp_walk
  exact#[_,rfl,h]
def Xu(K:ao):R2:=λx y H Q=>∃a k xs,x=.ref a/\y=.int k/\oH K H a xs/\1<=k/\k<2^63/\xs≠[]/\xs.length*k.toNat<=sizeLine/\(k=1->Q (.ref a) H)/\(k≠1->∀p,H p=none->Q (.ref p) (upd H p (.tup (aY k.toNat xs).flatten)))
theorem PJ:rg X (binaryOp .Mult) (Xu X.K):=by
 intro pins s σ H x y v u Q I rx ry h;obtain⟨a,k,xs,rfl,rfl,ha,h1,h2,hx,hz,q1,q2⟩:=h;cases rx;obtain⟨t,rfl⟩:=ry;obtain⟨its,r1,p1,_⟩:=I.tuple ha;obtain⟨⟨cls,dd,data,sl⟩,ho,hc,n,hd⟩:=id p1;subst hc hd;refine HC ⋯ #[_,ho,rfl] (λs'=>yB s' k t) wq F.fills_int_mul tG Cb F.slot_int_index.lookup
  (iB tG (yB s k t) F.entry_int_rmul (F.args_int_rmul_2 _ _) (y_ k t a its.toArray n dd sl) #[ho,rfl,#[_,ho,rfl],?_])
 by_cases hk:k=1
 ·subst hk
  exact iB Ah #[_,ho,rfl] F.entry_tuple_mul (F.args_tuple_mul_2 _ _) (Au a its.toArray n dd sl t) #[ho,.ref a,H,I,rfl,q1 rfl]
 ·refine iB Ah #[_,ho,rfl] F.entry_tuple_mul (F.args_tuple_mul_2 _ _) (za a its n dd sl k t ∅ h2 (λz=>hx (r1.yl.mp z)) (by rw[<-r1.length];exact hz)) #[ho,?_]
  refine#[.ref s.heap.objs.size,_,I.laid (λb ob q=>aE _ q) ∅ ?_,rfl,q2 hk _ (I.hok.fresh ∅)]
  exact#[by rw[len_rep,Fj];exact hz,_,r1.rep k.toNat,tF _ _]
theorem PK{n:Int}(h1:VE X a δ (.tuple ds))(h2:VE X b δ (.int n))(hn:1<=n)(Zn:n<=1000)(hz:ds.length<=100)(DM:ds≠[]):VE X (.BinOp a .Mult b pos) δ (.tuple (aY n.toNat ds).flatten):=by
 refine .of (Dr PJ cB cB) λB0 B σ H0 H Q f q=>h1 B0 B σ H0 H _ f λv H1 cV g1 r1=>h2 B0 B σ H1 cV _ (f.grow g1) λu H2 fS g2 r2=>?_
 cases r2;cases r1 with
 |tup hq rs=>
  rename_i ad xs
  have gg:=g1.trans g2;have hl:=rs.length
  have Ri:=rs.mono g2.e8;have go:∀m,b9 X.K H2 (aY m xs).flatten (aY m ds).flatten:=by
   intro m
   induction m with
   |zero=>exact .nil
   |succ m ih=>rw[dJ,eJ,dJ,eJ];exact Ri.append ih
  refine#[_,n,_,rfl,rfl,g2.sub.pG (g2.e8.pG hq),hn,∅,λz=>?_,?_,λe=>?_,λ_ p hp=>?_]
  ·rw[z]at hl
   exact DM (mV hl.symm)
  ·rw[du,hl]
   have:n.toNat<=1000:=∅
   have:=iC hz this;omega
  ·refine q _ H2 fS gg ?_
   have e2:(aY n.toNat ds).flatten=ds:=by rw[e];simp
   rw[e2];exact .tup (g2.e8.pG hq) Ri
  ·exact q _ _ _ (gg.trans (.laid g2.sub hp)) (.tup (oH.of bh) ((go _).mono (c6.laid g2.sub hp).e8))
end
def jM(as:List aF)(H H0:Hp):Hp:=λq=>if q∈as then H q else H0 q
theorem hX{H0: Hp}{q:aF}(h:q∈as):jM as H H0 q=H q:=qQ3 h
theorem lX{H0: Hp}{q:aF}(h:q∉as):jM as H H0 q=H0 q:=qQ2 h
abbrev OR:=Hp->Hp->List aF->Prop
def cj(R:OR):Prop:=∀H0 H Ha Hb as,R H0 H as->cK H0 Ha->(∀a∈as,Hb a=H a)->R Ha Hb as
structure OF(K:ao)(B0 B:Hp)(R:OR)(H0 H:Hp)(σ:St)(δ:List Slot):Prop where
 fr:gy K B0 B H0 H σ δ
 no:noOwn δ=true
 ex:∃as:List aF,(∀a∈as,H0 a=none/\B a=none/\H a≠none)/\R H0 H as
section
variable{K:ao}{B0 B H0 H cZ H' C0 C Ha Hb:Hp}{σ σ':St}{δ δ':List Slot}{R R':OR}
theorem cK.eq{H': Hp}(s:cK H H')(h:H a≠none):H' a=H a:=by
 cases e:H a with
 |none=>exact qQ7 e h
 |some o=>exact s a o e
theorem OF.go(m:cj R)(G:OF K B0 B R H0 H σ δ)(f':gy K H0 H Ha Hb σ' δ')(hn:noOwn δ'=true):OF K B0 B R Ha Hb σ' δ':=by
 obtain⟨as,h1,h2⟩:=G.ex;refine#[f'.re hn (G.fr.ent.trans f'.ent),hn,as,λa ha=>?_,m _ _ _ _ _ h2 f'.ent.e8 λa ha=>f'.ent.big.eq (h1 a ha).2.2]
 obtain⟨z1,z2,z3⟩:=h1 a ha;cases e:H a with
 |none=>exact qQ7 e z3
 |some o=>exact#[f'.ent.still z1 e,z2,f'.ent.big.ne z3]
theorem OF.from(G:OF K B0 B R H0 H σ δ)(g:c6 C0 B H0 H):OF K C0 B R H0 H σ δ:=#[G.fr.re G.no g,G.no,G.ex]
theorem OF.own(G:OF K B0 B R H0 H σ δ):gy K H0 H H0 H σ δ:=G.fr.re G.no (.refl G.fr.sub)
theorem OF.forget(m:cj R)(G:OF K B0 B R H0 H σ δ)(hf:Fd δ δ')(hn:noOwn δ'=true):OF K B0 B R H0 H σ δ':=G.go m (G.own.forget hf.len hf.at) hn
theorem OF.imp(G:OF K B0 B R H0 H σ δ)(h:∀as,R H0 H as->R' H0 H as):OF K B0 B R' H0 H σ δ:=by
 obtain⟨as,h1,h2⟩:=G.ex;exact#[G.fr,G.no,as,h1,h as h2]
theorem jl(sb:cK H0 H):cK H0 (jM as H H0):=λb u e=>by
 by_cases hb:b∈as
 ·rw[hX hb];exact sb b u e
 ·rwa[lX hb]
theorem vn(sb:cK H0 H):cK (jM as H H0) H:=λb u e=>by
 by_cases hb:b∈as
 ·rwa[hX hb]at e
 ·rw[lX hb]at e;exact sb b u e
theorem OF.Xv(G:OF K B0 B R H0 H σ δ)(hi:δ[i]?=some (.ref p))(hR:∀Ha Hb as,cK Ha Hb->R Ha Hb as->Rep K (jM as Hb Ha) (.ref p) d):∃as,(∀a∈as,H0 a=none/\B a=none/\H a≠none)/\R H0 H as/\gy K (jM as H H0) H (jM as H H0) H σ (δ.set i (.val d)):=by
 obtain⟨as,h1,h2⟩:=G.ex;have sm:=jl (as:=as) G.fr.sub;have hs:=G.fr.slot i _ hi;have f0:gy K (jM as H H0) H (jM as H H0) H σ δ:=by
  refine#[.refl (vn G.fr.sub),G.fr.len,λi sl e=>?_,G.fr.apart]
  have q:=G.fr.slot i sl e;cases sl with
  |un=>trivial
  |ref _=>exact q
  |val d=>obtain⟨v,g1,g2⟩:=q;exact#[v,g1,g2.mono sm]
  |own ds=>exact qQ7 e (iN G.no i ds)
 have f1:=f0.uv (i:=i) (sl:=.val d) #[_,rfl,hR H0 H as G.fr.sub h2] rfl;have e:σ.set i (some (.ref p))=σ:=by
  apply je;intro j;by_cases h:j=i
  ·subst h;rw[bf (aH.mp hs).1,hs]
  ·rw[a9 (bT h)]
 rw[e]at f1;exact#[as,h1,h2,f1]
theorem OF.look(G:OF K B0 B R H0 H σ δ)(hi:δ[i]?=some (.ref p))(hR:∀Ha Hb as,cK Ha Hb->R Ha Hb as->Rep K (jM as Hb Ha) (.ref p) d):∃C0,gy K C0 H C0 H σ (δ.set i (.val d)):=
 let#[_,_,_,f]:=G.Xv hi hR;#[_,f]
theorem OF.rep(G:OF K B0 B R H0 H σ δ)(hR:∀Ha Hb as,cK Ha Hb->R Ha Hb as->Rep K (jM as Hb Ha) (.ref p) d):∃Ha,c6 B0 B Ha H/\Rep K Ha (.ref p) d:=by
 obtain⟨as,h1,h2⟩:=G.ex;refine#[_,#[G.fr.ent.big,G.fr.ent.e8.trans (jl G.fr.sub),vn G.fr.sub,λb e=>?_],hR H0 H as G.fr.sub h2]
 by_cases hb:b∈as
 ·exact .inr (h1 b hb).2.1
 ·rw[lX hb]at e;exact G.fr.ent.new b e
end
section
variable{X:Cx}{B0 B H0 H cZ H' Ha Hb:Hp}{σ σ':St}{D:Ends}{st:e6}{rest body orelse:List e6}{δ δ':List Slot}{a p:aF}{e c tg iter:bC}{d dp:ae}{ds:List ae}{pos px tf:Pos}{x y:Str}{R:OR}
theorem Cd(m:cj R)(G:OF X.K B0 B R H0 H σ δ)(h:VS X st δ (.nx δ'))(hn:noOwn δ'=true)(q:∀σ' cZ H',OF X.K B0 B R cZ H' σ' δ'->D.nx σ' H'):cS X st D σ H:=
 h H0 H σ H0 H D G.own λσ' Ha Hb sm f'=>q σ' Ha Hb (G.go m f' hn)
theorem Ug(m:cj R)(G:OF X.K B0 B R H0 H σ δ)(i j:Nat)(hi:δ[i]?=some (.ref p))(hR:∀Ha Hb as,cK Ha Hb->R Ha Hb as->Rep X.K (jM as Hb Ha) (.ref p) dp)(h:VE X e (δ.set i (.val dp)) d)(hs:A5 d=true)(hn:noOwn (δ.set j (.val d))=true)(q:∀σ' cZ H',OF X.K B0 B R cZ H' σ' (δ.set j (.val d))->D.nx σ' H')(hN:X.N.Nodup)
  (hj:X.N[j]?=some y:=by rfl)(hx:Loc X.env.scope y:=by left)(oA:uX X pos e (.Name y px):=by rfl)(hf:AJ X y:=by left):
  cS X (.Assign [.Name y px] e pos) D σ H:=λpins s I=>by
 refine ui hN hj hx cB oA hf pins s σ H D I ?_
 obtain⟨C0,f1⟩:=G.look hi hR;refine h C0 H σ C0 H _ f1 λv C1 H1 g1 r=>?_
 have G1:=G.go m (G.own.grow (.far G.fr.sub g1.big)) G.no;exact q _ H0 H1 (G1.go m (G1.own.uv #[_,rfl,r.JL hs] rfl) hn)
section
variable{X:Cx}{B0 B H0 H:Hp}{σ:St}{D:Ends}{body:List e6}{tg iter:bC}{ds:List ae}{pos:Pos}
theorem Ms(Rs:Nat->OR)(δs:Nat->List Slot)(m:∀k,cj (Rs k))(G:OF X.K B0 B (Rs 0) H0 H σ (δs 0))(hp:pS (model X.prog X.w) X.A X.env X.xe)(hc:X.calm=true)(hi:VI X tg iter (δs 0) ds)(hg:PG X tg (L5 X.K tgt))
  (step:∀k d,ds[k]?=some d->∃δ',Am tgt d (δs k)=some δ'/\noOwn δ'=true/\∀(D:Ends)C0 σ' cZ H',OF X.K C0 B (Rs k) cZ H' σ' δ'->(∀σ2 Ha Hb,OF X.K C0 B (Rs (k+1)) Ha Hb σ2 (δs (k+1))->D.nx σ2 Hb)->w_ X body D σ' H')
  (q:∀σ2 Ha Hb,OF X.K B0 B (Rs ds.length) Ha Hb σ2 (δs ds.length)->D.nx σ2 Hb)
  (hs:KW X iter:=by intro _;rfl):cS X (.For tg iter body [] pos) D σ H:=λpins s I=>by
 obtain⟨wi,pi,qi⟩:=hi;refine BQ hp hc pi hg j7 hs pins s σ H D I ?_
 refine qi H0 H σ H0 H _ G.own λJ H1 cV g it=>?_
 have G1:=G.go (m 0) (G.own.grow g) G.no;refine#[λi mm σ' H'=>i<=ds.length/\mm=ds.length-i/\∃Ha,OF X.K H1 B (Rs i) Ha H' σ' (δs i),#[_,bx _,rfl,H1,G1.from #[G1.fr.ent.big,cK.refl _,G1.fr.sub,λ_ z=>.inl z]],?_]
 rintro i mm σ' H' ⟨hi,rfl,Ha,Ga⟩
 obtain⟨i1,i2,i3⟩:=it Ha H' Ga.fr.ent.e8 Ga.fr.sub i;by_cases mL:i<ds.length
 ·have hd:ds[i]?=some ds[i]:=by simp[mL]
  obtain⟨δ',e1,e2,e3⟩:=step i _ hd;refine .inr #[i1 mL,λσ'' xT=>∃Hb,_,λσ'' xT #[Hb,z]=>#[_,∅,mL,rfl,Hb,z],λv H2 y=>?_]
  obtain⟨Hb,g2,rx⟩:=i3 v H2 _ hd y;exact wg (Ga.own.grow g2) rx e1 λσ3 f3=>(e3 _ H1 σ3 Hb H2 (Ga.go (m i) f3 e2) λσ2 Hc Hd z=>#[Hc,z])
 ·have e:i=ds.length:=∅
  subst e;refine .inl #[i2 ∅,q σ' Ha H' (Ga.from #[Ga.fr.ent.big,G1.fr.ent.e8.trans Ga.fr.ent.e8,Ga.fr.sub,λb z=>?_])]
  rcases Ga.fr.ent.new b z with z|z
  ·exact G1.fr.ent.new b z
  ·exact .inr z
end
theorem vo(Rs:Nat->OR)(m:∀k,cj (Rs k))(G:OF X.K B0 B (Rs 0) H0 H σ δ)(hp:pS (model X.prog X.w) X.A X.env X.xe)(hc:X.calm=true)(hi:VI X tg iter δ ds)(hg:PG X tg (L5 X.K tgt))
  (step:∀k d,ds[k]?=some d->∃δ',Am tgt d δ=some δ'/\noOwn δ'=true/\∀(D:Ends)C0 σ' cZ H',OF X.K C0 B (Rs k) cZ H' σ' δ'->(∀σ2 Ha Hb,OF X.K C0 B (Rs (k+1)) Ha Hb σ2 δ->D.nx σ2 Hb)->w_ X body D σ' H')
  (q:∀σ2 Ha Hb,OF X.K B0 B (Rs ds.length) Ha Hb σ2 δ->D.nx σ2 Hb)
  (hs:KW X iter:=by intro _;rfl):cS X (.For tg iter body [] pos) D σ H:=Ms Rs (λ_=>δ) m G hp hc hi hg step q hs
theorem Rk(G:OF X.K B0 B R H0 H σ δ)(i:Nat)(hi:δ[i]?=some (.ref p))(hR:∀Ha Hb as,cK Ha Hb->R Ha Hb as->Rep X.K (jM as Hb Ha) (.ref p) d)(q:∀v cZ H',c6 B0 B cZ H'->Rep X.K cZ v d->D.rt v H')
  (hN:ow X i x:=by ac_rfl):
  cS X (.Return (some (.Name x px)) pos) D σ H:=λpins s I=>uh (ug hN) pins s σ H D I (by
 obtain⟨Ha,g,r⟩:=G.rep hR;exact#[_,G.fr.slot i _ hi,q _ Ha H g r])
def Mt(K:ao)(S:Type)(PR:aF->S->OR)(ok:S->ae->S->Prop):Sp:=λvs H Q _=>∃(H0:Hp)(p:aF)(v:V)(as:List aF)(s s':S)(d:ae),vs=[.ref p,v]/\cK H0 H/\Rep K H0 v d/\(∀a∈as,H0 a=none/\H a≠none)/\PR p s H0 H as/\ok s d s'/\
 ∀(cZ H':Hp)(as':List aF),cK H0 cZ->cK cZ H'->(∀a,cZ a≠none->H0 a≠none\/H a=none)->(∀a∈as',cZ a=none/\H' a≠none/\(a∈as\/H a=none))->(∀b o,H b=some o->b∉as->H' b=some o)->PR p s' cZ H' as'->Q .non H'
theorem Xw{S:Type}{PR:aF->S->OR}{ok:S->ae->S->Prop}{k:Nat}{f:Str}{ps:List Str}{p0 p1 pc:Pos}{s s':S}(C:bD X.prog X.w X.K X.mg X.base k f ps (Mt X.K S PR ok))(hr:dB k X.A)(G:OF X.K B0 B (PR p s) H0 H σ δ)(m:cj (PR p s))(i:Nat)(hi:δ[i]?=some (.ref p))(h:VE X e δ d)(hok:ok s d s')
  (q:∀cZ H',OF X.K B0 B (PR p s') cZ H' σ δ->D.nx σ H')
  (hN:ow X i x:=by ac_rfl)
  (hg:Gl X f:=by rfl)(sZ:vX f:=by decide)(he:starEach [.Name x p0,e] X.env=(false,eval (.Name x p0) X.env)::starEach [e] X.env:=by rfl)(Pg:kO X e []:=by rfl)(mX:rC X pc [e]:=by rfl)
  (oA:QO X pos (.Call (.Name f p1) [.Name x p0,e] [] pc):=by rfl):
  cS X (.Expr (.Call (.Name f p1) [.Name x p0,e] [] pc) pos) D σ H:=λpins s0 I=>by
 obtain⟨fa,fd,F,hm,hk,hb⟩:=C;refine lL (uZ F hr hg hm hk hb .nil tN (cY (ug hN) (cY cB eV Pg) he) sZ he mX) oA pins s0 σ H D I ?_
 refine#[_,G.fr.slot i _ hi,?_]
 refine h H0 H σ H0 H _ G.own λv H1 cV g r=>?_
 have G1:=G.go m (G.own.grow g) G.no;obtain⟨as,h1,h2⟩:=G1.ex;refine#[H1,p,v,as,s,s',d,rfl,G1.fr.sub,r,λa ha=>#[(h1 a ha).1,(h1 a ha).2.2],h2,hok,λcZ H' as' a1 a2 a3 a4 a5 a6=>?_]
 have hB:∀b,B b≠none->b∉as:=λb hb z=>hb (h1 b z).2.1
 refine q cZ H' #[#[#[λb u e=>a5 b u (G1.fr.ent.big b u e) (hB b (by rw[e];simp)),G1.fr.ent.e8.trans a1,a2,λb z=>?_],G1.fr.len,λj sl e=>?_,G1.fr.apart],G.no,as',λa ha=>?_,a6]
 ·rcases a3 b z with z|z
  ·exact G1.fr.ent.new b z
  ·exact .inr (G1.fr.ent.big.free z)
 ·have qq:=G1.fr.slot j sl e
  cases sl with
  |un=>trivial
  |ref _=>exact qq
  |val d=>obtain⟨v,g1,g2⟩:=qq;exact#[v,g1,g2.mono a1]
  |own ds=>exact qQ7 e (iN G.no j ds)
 ·obtain⟨z1,z2,z3⟩:=a4 a ha
  refine#[z1,?_,z2]
  rcases z3 with z3|z3
  ·exact(h1 a z3).2.1
  ·exact G1.fr.ent.big.free z3
end
theorem wt{α:Type}{g:α->ae}:∀{l:List α}{cs:List aF},cs.length=l.length->(∀(i:Nat)c q,cs[i]?=some c->l[i]?=some q->Rep K H (.ref c) (g q))->b9 K H (cs.map V.ref) (l.map g)
 | [],[],_,_=>.nil
 | [],_::_,h,_=>by cases h
 |_::_,[],h,_=>by cases h
 |q::l,c::cs,h,k=>.cons (k 0 c q rfl rfl) (wt ↑h λi c' q' e1 e2=>k (i+1) c' q' ↑e1 ↑e2)
section
variable{K:ao}{B0 B H0 H Ha Hb:Hp}{σ:St}{δ:List Slot}{R R':OR}
theorem OF.put(G:OF K B0 B R H0 H σ δ)(m:cj R)(g:c6 H0 H Ha Hb){x:aF}{o:HO}(hR:∀as,R Ha Hb as->x∈as/\∃as',(∀a∈as',a∈as)/\R' Ha (upd Hb x o) as'):OF K B0 B R' Ha (upd Hb x o) σ δ:=by
 have G1:=G.go m (G.own.grow g) G.no;obtain⟨as,h1,h2⟩:=G1.ex;obtain⟨hx,as',hs,r'⟩:=hR as h2;obtain⟨z1,z2,z3⟩:=h1 x hx;refine#[G1.fr.touch z1 z2 (iN G1.no),G1.no,as',λb hb=>?_,r']
 obtain⟨w1,w2,w3⟩:=h1 b (hs b hb);refine#[w1,w2,?_]
 by_cases e:b=x
 ·subst e;rw[bh];exact nofun
 ·rwa[aO e]
end
section
variable{K:ao}{B0 B H0 H:Hp}{σ:St}{δ:List Slot}{R:OR}{d:ae}{p:aF}
theorem OF.done(G:OF K B0 B R H0 H σ δ)(hi:δ[i]?=some (.ref p))(hR:∀Ha Hb as,cK Ha Hb->R Ha Hb as->Rep K (jM as Hb Ha) (.ref p) d):∃Ha,cK H0 Ha/\gy K B0 B Ha H σ (δ.set i (.val d)):=by
 obtain⟨as,h1,h2⟩:=G.ex;have sm:=jl (as:=as) G.fr.sub;have hs:=G.fr.slot i _ hi;have f0:gy K B0 B (jM as H H0) H σ δ:=by
  refine#[#[G.fr.ent.big,G.fr.ent.e8.trans sm,vn G.fr.sub,λb e=>?_],G.fr.len,λi sl e=>?_,G.fr.apart]
  ·by_cases hb:b∈as
   ·exact .inr (h1 b hb).2.1
   ·rw[lX hb]at e;exact G.fr.ent.new b e
  have q:=G.fr.slot i sl e;cases sl with
  |un=>trivial
  |ref _=>exact q
  |val d=>obtain⟨v,g1,g2⟩:=q;exact#[v,g1,g2.mono sm]
  |own ds=>exact qQ7 e (iN G.no i ds)
 have f1:=f0.uv (i:=i) (sl:=.val d) #[_,rfl,hR H0 H as G.fr.sub h2] rfl;have e:σ.set i (some (.ref p))=σ:=by
  apply je;intro j;by_cases h:j=i
  ·subst h;rw[bf (aH.mp hs).1,hs]
  ·rw[a9 (bT h)]
 rw[e]at f1;exact#[_,sm,f1]
end
def LL(K:ao)(a:aF)(ps:List aF)(gs:List (List ae)):OR:=λH0 H as=>as=a::ps/\(a::ps).Nodup/\H a=some (.lst (ps.map V.ref))/\ps.length=gs.length/\∀(i:Nat)p ds,ps[i]?=some p->gs[i]?=some ds->∃xs,H p=some (.lst xs)/\b9 K H0 xs ds
section
variable{K:ao}{B0 B H0 H:Hp}{σ:St}{δ:List Slot}{a:aF}{ps:List aF}{gs:List (List ae)}
theorem LL.mono:cj (LL K a ps gs):=by
 rintro H0 H Ha Hb as ⟨rfl,nd,h1,h2,h3⟩ sm hb
 refine#[rfl,nd,by rw[hb a (by simp)];exact h1,h2,λi p ds e1 e2=>?_]
 obtain⟨xs,y1,y2⟩:=h3 i p ds e1 e2;exact#[xs,by rw[hb p (by simp[aQ e1])];exact y1,y2.mono sm]
theorem LL.rep(Ha Hb:Hp)(as:List aF)(s:cK Ha Hb)(h:LL K a ps gs Ha Hb as):Rep K (jM as Hb Ha) (.ref a) (.list (gs.map .list)):=by
 obtain⟨rfl,nd,h1,h2,h3⟩:=h;refine .lst (jx.of ((hX (by simp)).trans h1)) (wt h2 λi c q e1 e2=>?_)
 obtain⟨xs,y1,y2⟩:=h3 i c q e1 e2;exact .lst (jx.of (by rw[hX (by simp[aQ e1])];exact y1)) (y2.mono (jl s))
theorem LL.row{Ha Hb Hc Hd:Hp}{l':List ae}(h:LL K a ps gs Ha Hb as)(hp:ps[j]?=some p)(sm:cK Ha Hc)(hk:∀x∈a::ps,x≠p->Hd x=Hb x)(hx:Hd p=some (.lst xs))(r:b9 K Hc xs l'):LL K a ps (gs.set j l') Hc Hd (a::ps):=by
 obtain⟨e,nd,h1,h2,h3⟩:=h;have n:=bY.mp nd;have ZD:a≠p:=λz=>n.1 (by rw[z];exact aQ hp)
 refine#[rfl,nd,by rw[hk a (by simp) ZD];exact h1,by rw[nJ];exact h2,λi q ds e1 e2=>?_]
 by_cases hi:i=j
 ·subst hi
  rw[hp]at e1;cases e1;have hl:i<gs.length:=by rw[<-h2];exact(aH.mp hp).1
  rw[bf hl]at e2
  cases e2;exact#[xs,hx,r]
 ·rw[a9 (bT hi)]at e2
  have hq:q≠p:=λz=>hi ((wR (aH.mp e1).1 n.2).mp (by rw[e1,hp,z]))
  obtain⟨ys,y1,y2⟩:=h3 i q ds e1 e2;exact#[ys,by rw[hk q (by simp[aQ e1]) hq];exact y1,y2.mono sm]
end
section
variable{X:Cx}{sc:j'}{own N:List Str}{cap:List Nat}{cl:List (Str×aF)}{tg iter:bC}{δ:List Slot}{ds:List ae}{pos px tf lp:Pos}{tgt:FZ}{x:Str}{B0 B H0 H:Hp}{σ:St}{D:Ends}
theorem PL(i:Nat)(f:gy X.K B0 B H0 H σ δ)(HX:noOwn δ=true)(hc:X.calm=true)(CS:j5 X sc own cap N cl)(hi:VI X tg iter δ ds)(hg:∀f s3 H3,PG (gi X sc N cl f s3 H3) tg (L5 X.K tgt))(ht:yU own.length tgt=true)(hz:ds.length<=sizeLine)
  (step:∀d∈ds,∃δ',Am tgt d (nT own cap δ)=some δ')(hN:X.N.Nodup)(q:∀σ' a ps cZ H',OF X.K B0 B (LL X.K a ps (aY ds.length [])) cZ H' σ' (δ.set i (.ref a))->D.nx σ' H')(hn:∀a,noOwn (δ.set i (.ref a))=true)(Tw:X.N[i]?=some x:=by rfl)(hx:Loc X.env.scope x:=by left)
  (oA:swapsWith (.ListComp (.List [] lp) [#[tg,iter,[],0]] sc pos) (some (.Name x px)) tf.line X.env=pure true:=by rfl)(hs:KW X iter:=by intro _;rfl)(hf:AJ X x:=by left):
  cS X (.Assign [.Name x px] (.ListComp (.List [] lp) [#[tg,iter,[],0]] sc pos) tf) D σ H:=λpins s I=>by
 obtain⟨wi,pi,qi⟩:=hi;refine uo (tc:=Xc X sc N cl []) (te:=teC X sc N cl _) hN Tw hx hc CS pi hg (λf s3 H3 pins s σ H Q I h=>h f s3 H3 pins s I) (λf s3 H3 pins s σ H Q I h=>h f s3 H3 pins s I) oA hs hf pins s σ H D I ?_
 refine qi B0 B σ H0 H _ f λJ H1 cV g it=>?_
 have f1:=f.grow g;intro L hL;have hBL:=f1.ent.big.free hL;refine#[λi m ys σ' H'=>i<=ds.length/\m=ds.length-i/\∃Ha ps,c6 H1 cV Ha H'/\gy X.K B0 B Ha H' σ' _/\Ha L=none/\ys=ps.map V.ref/\H' L=some (.lst ys)/\L∉ps/\ps.Nodup/\ps.length=i/\∀p∈ps,B p=none/\Ha p=none/\H' p=some (.lst []),
  #[_,bx _,rfl,H1,[],.loose f1.sub hL,(f1.comp own cap).touch (f1.sub.free hL) hBL oN,f1.sub.free hL,rfl,bh,by simp,by simp,rfl,λp hp=>by cases hp],?_]
 rintro n m ys σ' H' ⟨hn1,rfl,Ha,ps,g1,fa,hLa,rfl,Xx,hLp,Vu,mX,Uh⟩
 obtain⟨i1,i2,i3⟩:=it Ha H' g1.e8 g1.sub n;by_cases mL:n<ds.length
 ·refine .inr #[i1 mL,λv H2 y=>?_]
  obtain⟨Hb,g2,rx⟩:=i3 v H2 ds[n] (by simp[mL]) y;obtain⟨δ',e1⟩:=step ds[n] (dP mL);obtain⟨k1,k2⟩:=comp_back ht e1;refine wg (fa.grow g2) rx e1 λσ3 f3=>?_
  intro fp s3 H3;refine m_ B0 B σ3 Hb H2 _ f3 λHc H4 g4=>?_
  intro fp' s3' xU;refine (fE aU) B0 B σ3 Hc H4 _ (f3.grow g4) λp xs Hd H5 g5 a1 a2 a3 a4=>?_
  cases a4;have Oa:=(g2.trans g4).trans g5;have hL5:=Oa.still hLa Xx;have nLp:L≠p:=λz=>by
   have:=(g2.trans g4).big _ _ Xx;rw[z,a1]at this;cases this
  refine#[Oa.big _ _ Xx,by rw[ai,mX];omega,_,∅,mL,rfl,Hd,ps ++ [p],?_,((f3.grow g4).grow g5 |>.forget k1.symm k2).touch hL5 hBL oN,hL5,by simp,bh,by simp[hLp,nLp],?_,by simp[mX],λp' hp'=>?_]
  ·have gg:=g1.trans Oa
   exact#[λb u e=>by rw[aO (bG e hL)];exact gg.big b u e,gg.e8,λb u e=>by rw[aO (bG e hL5)];exact gg.sub b u e,gg.new]
  ·rw[cF]
   refine#[Vu,by simp,λb hb c hc=>?_]
   simp only[aW]at hc;subst hc;intro z;subst z;have:=(g2.trans g4).big _ _ (Uh b hb).2.2;rw[a1]at this;cases this
  ·rcases aR.mp hp' with h|h
   ·obtain⟨h1,h2,h3⟩:=Uh p' h
    exact#[h1,Oa.still h2 h3,by rw[aO (λz=>hLp (by rw[<-z];exact h))];exact Oa.big _ _ h3]
   ·simp only[aW]at h
    subst h;exact#[((f3.grow g4).ent.big.free a1),a2,by rw[aO (bT nLp)];exact a3]
 ·have e:n=ds.length:=∅
  subst e;refine .inl #[i2 ∅,q _ L ps Ha H' ?_]
  refine#[(f.grow (g.trans g1)).uv rfl rfl,hn L,_,λz hz=>?_,rfl,bY.mpr #[hLp,Vu],Xx,by simp[mX],λj p es e1 e2=>?_]
  ·rcases ax.mp hz with rfl|hz
   ·exact#[hLa,hBL,by rw[Xx];exact nofun]
   ·obtain⟨h1,h2,h3⟩:=Uh z hz
    exact#[h2,h1,by rw[h3];exact nofun]
  ·obtain⟨h1,h2,h3⟩:=Uh p (aQ e1)
   rw[dM]at e2
   split at e2<;>cases e2
   exact#[[],h3,.nil]
end
section
variable{X:Cx}{B0 B H0 H:Hp}{σ:St}{D:Ends}{δ:List Slot}{a:aF}{ps:List aF}{gs:List (List ae)}{e1 e2 ea:bC}{d:ae}{ds:List ae}{pos px:Pos}{x:Str}{R:OR}{rest:List e6}
theorem J1(G:OF X.K B0 B (LL X.K a ps gs) H0 H σ δ)(ig:Nat){m: Nat}{p0 p4 ap:Pos}(ZE:δ[ig]?=some (.ref a))(ha:VE X ea δ (.int j))(hp:ps[j]?=some p)(hg:gs[j]?=some ds)(h1:VE X e1 (δ.set ig (.val (.list (gs.map .list)))) (.int m))(hm:m<=ds.length)(h2:VE X e2 δ d)(hz:ds.length<sizeLine)
  (q:∀σ' cZ H',OF X.K B0 B (LL X.K a ps (gs.set j (rR ds m d))) cZ H' σ' δ->D.nx σ' H')(hig:ow X ig x:=by ac_rfl)(mX:qc ea:=by intro _ _;rfl)
  (hs:kO X e1 [e2]:=by rfl)(p9:kO X e2 []:=by rfl)(gA:uS X (.Subscript (.Name x p0) ea p4) "insert":=by rfl)
  (lj:Ft X px [e1,e2]:=by rfl)
  (hline:(ap.endLine==px.line)=true:=by rfl)(fD:rC X px [e2]:=by rfl)(oA:swapsWith (.Call (.Attribute (.Subscript (.Name x p0) ea p4) "insert" ap) [e1,e2] [] px) none pos.line X.env=pure false:=by rfl):
  cS X (.Expr (.Call (.Attribute (.Subscript (.Name x p0) ea p4) "insert" ap) [e1,e2] [] px) pos) D σ H:=λpins s I=>by
 refine lL (rH dH PySem.F.slot_list_insert PySem.F.type_list_insert J0 (Q8 B1 (ug hig) cB mX) (cY cB (cY cB eV p9) hs) gA lj hline hs fD) oA pins s σ H D I ?_
 refine#[_,G.fr.slot ig _ ZE,?_]
 refine ha H0 H σ H0 H _ G.own λv H1 cV g r=>?_
 cases r;have G1:=G.go LL.mono (G.own.grow g) G.no;obtain⟨_,_,_,_,c1,c2,c3⟩:=G1.ex;obtain⟨xs,y1,y2⟩:=c3 j p ds hp hg;refine .inl #[a,_,_,.ref p,rfl,rfl,jx.of c1,cz (by rw[aG,hp];rfl),.inl #[rfl,_,jx.of y1],?_]
 obtain⟨C0,ff⟩:=G1.look ZE LL.rep;refine h1 C0 cV σ C0 cV _ ff λv Hb H2 g2 r2=>?_
 cases r2;have G2:=G1.go LL.mono (G1.own.grow (.far G1.fr.sub g2.big)) G1.no;refine h2 H1 H2 σ H1 H2 _ G2.own λv H3 xU g3 r3=>?_
 refine#[p,xs,m,v,rfl,rfl,g3.big _ _ (g2.big _ _ y1),∅,by rw[y2.length];omega,by rw[y2.length];exact hz,q σ H3 _ (G2.put LL.mono g3 λas' hL=>?_)]
 have e:=hL.1;subst e;exact#[aT _ (aQ hp),_,λ_ z=>z,LL.row hL hp (cK.refl _) (λz _ hz=>aO hz) bh ((y2.mono g3.e8).ins r3 m)]
theorem Ui(G:OF X.K B0 B R H0 H σ δ){ig:Nat}{o:Out}(ZE:δ[ig]?=some (.ref a))(hR:∀Ha Hb as,cK Ha Hb->R Ha Hb as->Rep X.K (jM as Hb Ha) (.ref a) d)(h:xV X rest (δ.set ig (.val d)) o)(q:∀Ha,cK H0 Ha->rM X.K B0 B Ha D o):w_ X rest D σ H:=by
 obtain⟨Ha,sm,ff⟩:=G.done ZE hR;exact h B0 B σ Ha H D ff (q Ha sm)
end
section
variable{X:Cx}{pins:List (aF×Obj)}{σ:St}{H:Hp}{s:aL}{a:aF}{kvs:List (Key×V)}{k:Key}{d:V}{u r:aD}{A:dE}{E:aD->aL->Prop}
theorem Mu(I:Inv X pins σ H s)(e:H a=some (.dK kvs))(ry:RelV (kV k) u)(rd:RelV d r)(hl:kvs.length<sizeLine)(h1:∀v w' s',ic kvs k=some v->Inv X pins σ H s'->RelV v w'->Q w' s')
  (h2:∀s',ic kvs k=none->Inv X pins σ (upd H a (.dK (putK kvs k d))) s'->Q r s'):wpAny (model X.prog X.w) A (call (.builtin "dict.setdefault") [.ref a,u,r]) Q E s:=by
 obtain⟨z,hd,vs,rel,dd⟩:=wZ I.hok e;have rv:=rel.val k;refine Ad xK dd.typeIs PySem.F.entry_dict_setdefault (PySem.F.args_dict_setdefault_3 _ _ _) (kt_meets_setdefault _ a (qN ry) hd r) #[vs,dd,by rw[<-rel.length];exact z,λv hv=>?_,λhn h' B5 hs=>?_]
 ·rw[hv]at rv
  cases ev:ic kvs k with
  |none=>rw[ev]at rv;exact rv.elim
  |some w=>rw[ev]at rv;exact h1 w v _ ev (I.tok _) rv
 ·have Oe:(putK kvs k d).length<=sizeLine:=by have:=lW kvs k d;omega
  have he:∃q,h'.get? a=some q:=let#[q,_,_,hq,_]:=B5;#[q,hq];rw[hn]at rv;refine h2 _ ?_ (u_ I (by rw[e];exact fj) hs he (v8 Oe hd (rel.put k rd) B5))
  cases ev:ic kvs k with
  |none=>rfl
  |some w=>rw[ev]at rv;exact rv.elim
end
def Xy(td ty tx:TE):TE:=λσ H Q=>td σ H λx H1=>∃a,x=.ref a/\Zv H1 a/\ty σ H1 λy H2=>tx σ H2 λz H3=>∃kvs k,H3 a=some (.dK kvs)/\y=kV k/\kvs.length<sizeLine/\
 (∀v,ic kvs k=some v->Q v H3)/\(ic kvs k=none->Q z (upd H3 a (.dK (putK kvs k z))))
section
variable{X:Cx}{o e f:bC}{apos jf:Pos}{td ty tx:TE}
theorem PN(ho:PE X o td)(he:PE X e ty)(hf:PE X f tx)(m:M2 X o "setdefault" apos e f jf):PE X (.Call (.Attribute o "setdefault" apos) [e,f] [] jf) (Xy td ty tx):=by
 intro pins s σ H Q I h;refine qX m.base m.few m.line pA xK PySem.F.type_dict_setdefault (fP (ho pins s σ H _ I h) λu s1 #[x,H1,I1,rx,a,ex,d,q1]=>?_)
 subst ex;obtain rfl:u=di a:=rx;obtain⟨t1,t2,_⟩:=FW I1 d;refine#[t1,t2,?_]
 rw[m.trees];refine kN rfl (mE (iL (fP (he pins s1 σ H1 _ I1 q1) λiv s2 #[y,H2,I2,ry,q2]=>
  iL (fP (hf pins s2 σ H2 _ I2 q2) λfv s3 #[z,H3,I3,rz,kvs,k,ea,ey,hl,q3,q4]=>o8 ?_))))
 subst ey;exact Mu I3 ea ry rz hl (λv w' s' ev I4 sD=>#[v,H3,I4,sD,q3 v ev]) λs' ev I4=>#[z,_,I4,rz,q4 ev]
end
section
variable{X:Cx}{B0 B H0 H:Hp}{σ:St}{D:Ends}{st:e6}{rest body orelse:List e6}{δ δ':List Slot}{a p C dx:aF}{e c ek ev:bC}{d:ae}{pos px po ps pa pc:Pos}{x y fl:Str}{fs:List (Str×V)}{k:Nat}
theorem Xz(f:gy X.K B0 B H0 H σ δ)(h:VS X st δ (.nx δ'))(q:∀σ' Ha Hb,cK H0 Ha->gy X.K B0 B Ha Hb σ' δ'->D.nx σ' Hb):cS X st D σ H:=h B0 B σ H0 H D f q
theorem Rm(f:gy X.K B0 B H0 H σ δ)(h:VT X c δ true)(q:∀Ha Hb,c6 H0 H Ha Hb->w_ X body D σ Hb):cS X (.If c body orelse pos) D σ H:=λpins s I=>
 wU oC j7 jA pins s σ H D I (h B0 B σ H0 H _ f λH1 cV g=>Te (q H1 cV g))
theorem XA(f:gy X.K B0 B H0 H σ δ)(h:VT X c δ false)(q:∀Ha Hb,c6 H0 H Ha Hb->w_ X orelse D σ Hb):cS X (.If c body orelse pos) D σ H:=λpins s I=>
 wU oC jA j7 pins s σ H D I (h B0 B σ H0 H _ f λH1 cV g=>Ls (q H1 cV g))
theorem Uj(i:Nat){fi:aF}{fd:eU}{ps':List Str}{sp:Sp}{p0 pk:Pos}(M:Mk X.K C fi)(F:dW X.prog X.w X.K X.mg X.base gS j fi fd ps' sp)(hr:dB (j+1) X.A)(hm:X.mg x=some (.ref C))(hb:Binds X.K fd ps' [])
  (q:∀p dx E,H p=none->H dx=none->dx≠p->sp [.ref p] (upd (upd H dx (.own p)) p (.ins C dx [])) (λv H2=>v=.non/\D.nx (σ.set i (some (.ref p))) H2) E)
  (hN:X.N.Nodup)(hi:X.N[i]?=some y:=by rfl)(hx:Loc X.env.scope y:=by left)(hs:uX X pos (.Call (.Name x p0) [] [] pk) (.Name y px):=by rfl)(hf:AJ X y:=by left)
  (hg:Gl X x:=by rfl)(sZ:vX x:=by decide):cS X (.Assign [.Name y px] (.Call (.Name x p0) [] [] pk) pos) D σ H:=λpins s I=>by
 exact ui hN hi hx (Lk M F hr hg hm hb .nil tN sZ) hs hf pins s σ H D I (λp dx h1 h2 h3=>q p dx _ h1 h2 h3)
theorem Rn(f:gy X.K B0 B H0 H σ δ)(hr:dB k X.A)(i:Nat)(hi:δ[i]?=some (.ref p))(ins:H p=some (.ins C dx fs))(cl:qM X.K C)(na:eK X.K C fl)(lk:fs.lookup fl=some (.ref a))(hd:H a=some (.dK kvs))(hk:VE X ek δ (.str y))(hv:VE X ev δ d)(hl:kvs.length<sizeLine)
  (q:∀v Ha Hb,c6 H0 H Ha Hb->Rep X.K Ha v d->D.nx σ (upd Hb a (.dK (putK kvs (bo y) v))))
  (hN:ow X i x:=by ac_rfl)
  (hb:uS X (.Name x px) fl:=by rfl)(hs:uX X pos ev (.Subscript (.Attribute (.Name x px) fl po) ek ps):=by rfl):
  cS X (.Assign [.Subscript (.Attribute (.Name x px) fl po) ek ps] ev pos) D σ H:=λpins s I=>by
 refine sF (Fe hr) (mK (ug hN) hb) cB cB hs pins s σ H D I ?_
 refine hv B0 B σ H0 H _ f λv H1 cV g1 r1=>?_
 refine#[_,f.slot i _ hi,p,C,dx,fs,_,rfl,g1.big _ _ ins,cl,na,lk,?_]
 refine hk B0 B σ H1 cV _ (f.grow g1) λu H2 fS g2 r2=>?_
 cases r2;exact#[a,_,rfl,xS.k (k:=bo y) (g2.big _ _ (g1.big _ _ hd)) hl,q v H2 fS (g1.trans g2) (r1.mono g2.e8)]
theorem Uk(f:gy X.K B0 B H0 H σ δ)(hr:dB k X.A)(i:Nat){kvs:List (List Key×V)}{e1 e2:bC}{z1 z2:Str}{x1}(hi:δ[i]?=some (.ref p))(ins:H p=some (.ins C dx fs))(cl:qM X.K C)(na:eK X.K C fl)(lk:fs.lookup fl=some (.ref a))(hd:H a=some (.dT kvs))(W1:VE X e1 δ (.str z1))(hk2:VE X e2 δ (.str z2))(hv:VE X ev δ d)(hl:kvs.length<sizeLine)
  (q:∀v t Ha Hb,c6 H0 H Ha Hb->Hb t=none->Rep X.K Ha v d->D.nx σ (upd (upd Hb t (.tup [.str z1,.str z2])) a (.dT (putK kvs (Aq (z1,z2)) v))))
  (hN:ow X i x:=by ac_rfl)
  (hb:uS X (.Name x px) fl:=by rfl)(hs:uX X pos ev (.Subscript (.Attribute (.Name x px) fl po) (.Tuple [e1,e2] x1 pt) ps):=by rfl)
  (Rc:kO X e1 [e2]:=by rfl)(p9:kO X e2 []:=by rfl):
  cS X (.Assign [.Subscript (.Attribute (.Name x px) fl po) (.Tuple [e1,e2] x1 pt) ps] ev pos) D σ H:=λpins s I=>by
 refine sF (Fe hr) (mK (ug hN) hb) (FL (cY cB (cY cB eV p9) Rc)) cB hs pins s σ H D I ?_
 refine hv B0 B σ H0 H _ f λv H1 cV g1 r1=>?_
 refine#[_,f.slot i _ hi,p,C,dx,fs,_,rfl,g1.big _ _ ins,cl,na,lk,?_]
 refine W1 B0 B σ H1 cV _ (f.grow g1) λu H2 fS g2 r2=>?_
 cases r2;refine hk2 B0 B σ H2 fS _ ((f.grow g1).grow g2) λu H3 xU g3 r3=>?_
 cases r3;have gg:=(g1.trans g2).trans g3;refine#[by show 2<=sizeLine;rw[du];decide,λt ht=>?_]
 exact#[a,_,rfl,xS.t ((aO (bG (gg.big _ _ hd) ht)).trans (gg.big _ _ hd)) bh hl,q v t H3 xU gg ht ((r1.mono g2.e8).mono g3.e8)]
theorem DY(f:gy X.K B0 B H0 H σ δ)(i:Nat)(hi:δ[i]?=some (.ref p))(ins:H p=some (.ins C dx fs))(cl:qM X.K C)(na:eK X.K C fl)(lk:fs.lookup fl=some (.ref a))(hd:H a=some (.lst xs))(hv:VE X e δ d)(hl:xs.length<sizeLine)
  (q:∀v Ha Hb,c6 H0 H Ha Hb->Rep X.K Ha v d->D.nx σ (upd Hb a (.lst (xs ++ [v]))))
  (hN:ow X i x:=by ac_rfl)
  (hb:uS X (.Name x px) fl:=by rfl)(gA:uS X (.Attribute (.Name x px) fl po) "append":=by rfl)
  (hs:kO X e []:=by rfl)
  (lj:Ft X pc [e]:=by rfl)
  (hline:(pa.endLine==pc.line)=true:=by rfl)(fD:rC X pc []:=by rfl)(oA:swapsWith (.Call (.Attribute (.Attribute (.Name x px) fl po) "append" pa) [e] [] pc) none pos.line X.env=pure false:=by rfl):
  cS X (.Expr (.Call (.Attribute (.Attribute (.Name x px) fl po) "append" pa) [e] [] pc) pos) D σ H:=λpins s I=>by
 refine lL (rH dH fK fL lq (mK (ug hN) hb) (cY cB eV hs) gA lj hline hs fD) oA pins s σ H D I ?_
 exact#[_,f.slot i _ hi,p,C,dx,fs,_,rfl,ins,cl,na,lk,.inl #[rfl,_,jx.of hd],(hv B0 B σ H0 H _ f λv H1 cV g1 r1=>(#[a,xs,v,rfl,rfl,g1.big _ _ hd,hl,q v H1 cV g1 r1]))]
theorem Mv(f:gy X.K B0 B H0 H σ δ)(i:Nat){pl Vv Vw:Pos}(hi:δ[i]?=some (.ref p))(ins:H p=some (.ins C dx fs))(cl:qM X.K C)(na:eK X.K C fl)(lk:fs.lookup fl=some (.ref a))(hd:H a=some (.dK kvs))(hk:VE X ek δ (.str y))(hv:VE X e δ d)(hl:kvs.length<sizeLine)(HX:noOwn δ=true)(ha0:H0 a=none)
  (hc:∀v,ic kvs (bo y)=some v->∃c xs,v=.ref c/\H c=some (.lst xs)/\xs.length<sizeLine)
  (q1:∀c xs v t Ha Hb,ic kvs (bo y)=some (.ref c)->H c=some (.lst xs)->H t=none->c6 H0 H Ha Hb->Ha t=none->Rep X.K Ha v d->D.nx σ (upd Hb c (.lst (xs ++ [v]))))
  (q2:∀v c Ha Hb,ic kvs (bo y)=none->H c=none->cK H0 Ha->cK Ha Hb->(∀b,Ha b≠none->H0 b≠none\/H b=none)->(∀b o,H b=some o->b≠a->Hb b=some o)->Hb a=some (.dK (putK kvs (bo y) (.ref c)))->Hb c=some (.lst [])->Ha c=none->Ha a=none->Rep X.K Ha v d->D.nx σ (upd Hb c (.lst [v])))
  (hN:ow X i x:=by ac_rfl)
  (hb:uS X (.Name x px) fl:=by rfl)(m:M2 X (.Attribute (.Name x px) fl po) "setdefault" Vv ek (.List [] pl) Vw:=by exact#[rfl,rfl,rfl,rfl])
  (gA:attributeBase (.Call (.Attribute (.Attribute (.Name x px) fl po) "setdefault" Vv) [ek,.List [] pl] [] Vw) "append" X.env (eval (.Call (.Attribute (.Attribute (.Name x px) fl po) "setdefault" Vv) [ek,.List [] pl] [] Vw) X.env)=eval (.Call (.Attribute (.Attribute (.Name x px) fl po) "setdefault" Vv) [ek,.List [] pl] [] Vw) X.env:=by rfl)
  (hs:kO X e []:=by rfl)
  (lj:Ft X pc [e]:=by rfl)
  (hline:(pa.endLine==pc.line)=true:=by rfl)(fD:rC X pc []:=by rfl)(oA:swapsWith (.Call (.Attribute (.Call (.Attribute (.Attribute (.Name x px) fl po) "setdefault" Vv) [ek,.List [] pl] [] Vw) "append" pa) [e] [] pc) none pos.line X.env=pure false:=by rfl):
  cS X (.Expr (.Call (.Attribute (.Call (.Attribute (.Attribute (.Name x px) fl po) "setdefault" Vv) [ek,.List [] pl] [] Vw) "append" pa) [e] [] pc) pos) D σ H:=λpins s I=>by
 refine lL (rH dH fK fL lq (PN (mK (ug hN) hb) cB (BW eV) m) (cY cB eV hs) gA lj hline hs fD) oA pins s σ H D I ?_
 refine#[_,f.slot i _ hi,p,C,dx,fs,_,rfl,ins,cl,na,lk,a,rfl,.inl #[kvs,.inl hd],?_]
 refine hk B0 B σ H0 H _ f λu H1 cV g1 r1=>?_
 cases r1;refine#[by exact bx _,λt ht=>?_]
 have hta:=bG (g1.big _ _ hd) ht;have gl:c6 H0 H H1 (upd cV t (.lst [])):=g1.trans (.loose g1.sub ht);refine#[kvs,bo y,by rw[aO hta];exact g1.big _ _ hd,rfl,hl,λv Gd=>?_,λhn=>?_]
 ·obtain⟨c,xs,rfl,F6,Ul⟩:=hc v Gd
  refine#[.inl #[rfl,_,jx.of ((aO (bG (g1.big _ _ F6) ht)).trans (g1.big _ _ F6))],?_]
  refine hv B0 B σ H1 _ _ (f.grow gl) λv H2 fS g2 r2=>?_
  have gg:=gl.trans g2;exact#[c,xs,v,rfl,rfl,gg.big _ _ F6,Ul,q1 c xs v t H2 fS Gd F6 (g1.big.free ht) gg (g2.still (g1.sub.free ht) bh) r2]
 ·have hca:=bT hta
  refine#[.inl #[rfl,_,jx.of ((aO hca).trans bh)],?_]
  have h1a:=g1.still ha0 hd;have h1t:=g1.sub.free ht
  generalize hM:upd _ a _=Hm
  have m0:∀b o,H b=some o->b≠a->Hm b=some o:=λb o e hb=>by
   rw[<-hM,aO hb,aO (bG (g1.big _ _ e) ht)];exact g1.big _ _ e
  have m1:Hm a=some (.dK (putK kvs (bo y) (.ref t))):=by rw[<-hM];exact bh
  have m2:Hm t=some (.lst []):=by rw[<-hM,aO hca];exact bh
  have sm:cK H1 Hm:=λb u e=>by
   rw[<-hM,aO (bG e h1a),aO (bG e h1t)];exact g1.sub b u e
  have fm:gy X.K H1 Hm H1 Hm σ δ:=by
   have f1:=f.grow g1;refine#[.refl sm,f1.len,λj sl e=>?_,f1.apart]
   have qq:=f1.slot j sl e;cases sl with
   |un=>trivial
   |ref _=>exact qq
   |val d=>exact qq
   |own ds=>exact qQ7 e (iN HX j ds)
  refine hv H1 Hm σ H1 Hm _ fm λv H2 fS g2 r2=>?_
  refine#[t,[],v,rfl,rfl,g2.big _ _ m2,by rw[du];decide,?_]
  refine q2 v t H2 fS hn (g1.big.free ht) (g1.e8.trans g2.e8) g2.sub (λb z=>?_) (λb o e hb=>g2.big _ _ (m0 b o e hb)) (g2.big _ _ m1) (g2.big _ _ m2) (g2.still h1t m2) (g2.still h1a m1) r2
  rcases g2.new b z with z|z
  ·exact g1.new b z
  ·refine .inr ?_
   cases e:H b with
   |none=>rfl
   |some o=>
    exfalso
    by_cases hb:b=a
    ·subst hb;rw[m1]at z;cases z
    ·rw[m0 b o e hb]at z;cases z
end
section
variable{X:Cx}{a b e:bC}{δ:List Slot}{d:ae}{ds:List ae}{pos:Pos}{k:Nat}
theorem yr{k:Key}{v:aD}(h:(ei P w).is k v=true):RelV (kV k) v:=by
 rcases gq h with⟨i,t,rfl,rfl⟩|⟨x,t,rfl,rfl⟩
 ·exact#[t,rfl]
 ·exact#[t,rfl]
theorem nU(hc:X.calm=true):g8 X (.type "list") (λxs H Q=>∃p kvs,xs=[.ref p]/\H p=some (.dK kvs)/\∀l,H l=none->Q (.ref l) (upd H l (.lst (kvs.map λq=>kV q.1)))):=by
 intro pins s σ H xs us Q I r h;obtain⟨p,kvs,rfl,hp,q⟩:=h;obtain⟨u,rfl,rx⟩:=vals1 r;cases rx;obtain⟨z,hd,vs,rel,dd⟩:=wZ I.hok hp;obtain⟨ep,J2⟩:=dd.dictAt;refine PySem.W.kdl_call (vV hd) (I.ok.hd hc) J2 (by rw[<-rel.length];exact z) λh' tk Um c' hk hD D0=>?_
 have go:∀(kvs:List (Key×V))(vs:List (Key×aD))(l:List aD),KV kvs vs->l.length=vs.length->(∀(j:Nat)v,l[j]?=some v->∃k x,vs[j]?=some (k,x)/\(ei X.prog X.w).is k v=true)->dI (kvs.map λq=>kV q.1) l:=by
  intro kvs
  induction kvs with
  |nil=>
   intro vs l r hl _;cases r;cases l with
   |nil=>exact .nil
   |cons _ _=>cases hl
  |cons q kvs ih=>
   intro vs l r hl hx;cases r with
   |cons h1 h2=>
    cases l with
    |nil=>cases hl
    |cons v l=>
     obtain⟨k,x,e1,e2⟩:=hx 0 v rfl;cases e1;refine .cons ?_ (ih _ l h2 ↑hl λj v hj=>by simpa using hx (j+1) v ↑hj)
     have:q.1=k:=h1.1;show RelV (kV q.1) v;rw[this];exact yr e2
 have rv:=go kvs vs Um.toList rel (cH.trans D0.1) λj v hj=>D0.2 j v (lI.symm.trans hj)
 exact#[.ref _,_,I.laid hk ∅ (show ia X.prog X.w _ h' _ (.lst _) from#[by rw[ai];exact z,_,c',rv,by simpa using hD]),rfl,q _ (I.hok.fresh ∅)]
theorem Ce{kvs:List (Str×ae)}:xh K (λxs H Q=>∃p kvs,xs=[.ref p]/\H p=some (.dK kvs)/\∀l,H l=none->Q (.ref l) (upd H l (.lst (kvs.map λq=>kV q.1)))) [kP kvs] (kvs.map λq=>.str q.1):=λvs H0 H Q s r q=>by
 obtain⟨v,rfl,r1⟩:=r.one;obtain⟨a,ws,rfl,ha,hk,_⟩:=r1.pH;refine#[a,ws,rfl,s _ _ ha,λl hl=>q l _ H0 _ (.loose s hl) hl (s.free hl) bh ?_]
 have e:(ws.map λq=>kV q.1)=(ws.map (·.1)).map kV:=by rw[aB];rfl
 rw[e,hk,aB];have go:∀l:List (Str×ae),b9 K H0 (l.map (kV∘λp=>(bo p.1))) (l.map λq=>.str q.1):=by
  intro l
  induction l with
  |nil=>exact .nil
  |cons p l ih=>exact .cons (.str p.1) ih
 exact go kvs
end
end L2
namespace PySem
variable{tk:Tok}
theorem Cg:typeLookup (.type "list") "keys"=pure none:=by rw[typeLookup_type,builtinLookup_eq_fast];kernel_rfl
theorem xW:typeLookup (.type "list") "__getattr__"=pure none:=by rw[typeLookup_type,builtinLookup_eq_fast];kernel_rfl
section
variable{prog:bA}{w:cg}{A:dE}{E:aD->aL->Prop}{h:cM}{g:Array sV}{d:Drawn}{t:Nat}{os:OsState}{a:aF}{items:Array aD}{n:Nat}{sl}
theorem xX{Q:Fin->aL->Prop}(hx:h.get? a=some { cls:=.type "list",dict:=none,data:=.seq items n,slots:=sl })(hh:A.handled=none)
  (hq:∀h' A8 e,rq h h' e (.ref a) "keys"->E (.ref e) #[h',g,d,A8,os]):
  wpAny (model prog w) A (qY.«object.__getattribute__» #[[.ref a,.str "keys" tk],[]]) Q E #[h,g,d,t,os]:=by
 have hT:(#[h,g,d,t,os]:aL).TypeIs (.ref a) "list":=#[_,hx,rfl];have f4:=Cg
 repeat (any_goals (first|assumption|with_reducible refine wpAny_raiseAttrError hh (λh' A8 e k=>hq h' A8 e k) ∎|wp_step))
theorem zc{R:vR->aL->Prop}(hx:h.get? a=some { cls:=.type "list",dict:=none,data:=.seq items n,slots:=sl })(hh:A.handled=none)
  (hq:∀h' A8 e,rq h h' e (.ref a) "keys"->R (.error (.ref e)) #[h',g,d,A8,os]):
  codeAny (model prog w) A (.call (.builtin "list.__getattribute__") #[[.ref a,.str "keys" tk],[]]) R #[h,g,d,t,os]:=
 codeAny_call_builtin km.plain F.entry_list_ga (km.check _ _ _ _ _ _ _ _ (show(#[h,g,d,t,os]:aL).TypeIs _ "list" from#[_,hx,rfl]) (F.args_list_getattribute_2 _ _) (xX hx hh hq))
theorem Ci{Q:aD->aL->Prop}(hx:h.get? a=some { cls:=.type "list",dict:=none,data:=.seq items n,slots:=sl })(hh:A.handled=none)
  (hq:∀h' A8 e,rq h h' e (.ref a) "keys"->E (.ref e) #[h',g,d,A8,os]):
  wpAny (model prog w) A (getAttrBy (.ref a) (.str "keys" tk) false) Q E #[h,g,d,t,os]:=by
 have hT:(#[h,g,d,t,os]:aL).TypeIs (.ref a) "list":=#[_,hx,rfl];have f2:=km.lookup;have f3:=km.bind (.ref a);have f4:=xW;have f5:=sub_AttributeError
 repeat (any_goals (first|assumption|wp_step))
 refine zc hx hh (λh' A8 e k=>?_)
 have hTe:(#[h',g,d,A8,os]:aL).TypeIs (.ref e) "AttributeError":=by
  obtain⟨_,_,he⟩:=k.there;exact#[_,he,rfl]
 repeat (any_goals (first|assumption|wp_step))
 exact hq _ _ _ k
theorem zh{Q:Option aD->aL->Prop}(hx:h.get? a=some { cls:=.type "list",dict:=none,data:=.seq items n,slots:=sl })(hh:A.handled=none)
  (hq:∀h' A8 e,rq h h' e (.ref a) "keys"->Q none #[h',g,d,A8,os]):
  wpAny (model prog w) A (getAttr? (.ref a) "keys") Q E #[h,g,d,t,os]:=by
 refine aA (wpAny_mkText (aA (wpAny_attempt (Ci hx hh (λh' A8 e k=>?_)))))
 have hTe:(#[h',g,d,A8,os]:aL).TypeIs (.ref e) "AttributeError":=by
  obtain⟨_,_,he⟩:=k.there;exact#[_,he,rfl]
 have f5:=sub_AttributeError;have hQ:=hq h' A8 e k
 repeat (any_goals (first|assumption|wp_step))
end
end PySem
namespace PySem.F
theorem kz:entryFor table "dict.update.loop"=some qY.«dict.update.loop»:=entryFor_of_tree (by kernel_rfl)
theorem kA:plainId "dict.update.loop"=true:=∎
end PySem.F
namespace L2
open PySem PySem.Spec PyProof.Rows
section
variable{prog:bA}{w:cg}{A:dE}{R:vR->aL->Prop}{I:aF}{fp wr:List aF}{G:Array sV->Array sV->Prop}{n:Nat}{P:Nat->aD->Prop}{St:Nat->aL->Prop}
theorem J3(W:WalksS prog w A.in1 I fp wr G n P St)(S:aF)(Tp:S∉fp)(T:Nat->cM->Prop)(keep:∀i h h',T i h->(∀b o,b∉wr->h.get? b=some o->h'.get? b=some o)->T i h')
  (add:∀i v (s:aL),i<n->P i v->T i s.heap->∃a x y,v=.ref a/\s.heap.IsTuple a (bN [x,y])/\∀(Q:Unit->aL->Prop)(E:aD->aL->Prop),(∀h' tk,s.toks<=tk->gw S s.heap h'->T (i+1) h'->Q () { s with heap:=h',toks:=tk })->wpAny (model prog w) A.in1 (dictSet S x y) Q E s):
  ∀(k i:Nat)(j:Int)(u:Tok)(s:aL),n-i=k->i<=n->St i s->T i s.heap->(∀s',Moved (S::wr) G s s'->T n s'.heap->R (.ok (.ret .none)) s')->
   codeAny (model prog w) A (.builtin "dict.update.loop" #[[.ref S,.ref I,.int j u,.none],[]]) R s:=by
 have FX:∀b∈wr,b∈S::wr:=λb hb=>aT _ hb
 intro k
 induction k with
 |zero=>
  intro i j u s hk hi Dp hS hR;have hin:i=n:=∅
  subst hin;refine kS F.kz ?_
  exact aA (W.done s _ _ Dp λs' hm=>(aA (bj (bj (hR s' (hm.mono FX) (keep _ _ _ hS λb o hb e=>hm.heap b o hb e))))))
 |succ k ih=>
  intro i j u s hk hi Dp hS hR;have mL:i<n:=∅
  refine kS F.kz ?_
  refine aA (W.item i s _ _ mL Dp λv s' hP Tq hm=>?_)
  obtain⟨a,x,y,rfl,⟨o,ho,hc,m,hd⟩,q⟩:=add i v s' mL hP (keep _ _ _ hS λb o hb e=>hm.heap b o hb e);refine aA (oq ?_)
  refine aA (wpAny_tryCatch ?_)
  refine aA (wpAny_typeOf #[_,ho,hc] ?_)
  refine aA (gW ho hd ?_)
  refine bj ?_
  refine oq (q _ _ λh' tk QZ Tr hT=>?_)
  refine bj #[yd F.kA _,ih (i+1) _ _ _ ∅ mL (W.frame _ s' _ _ Tq QZ λb hb o e=>?_) hT λQ6 Ts Tt=>?_]
  ·rwa[Tr.2 b (λh:b=S=>Tp (by rw[<-h];exact hb))]
  ·refine hR Q6 (Moved.trans W.gtrans ((hm.mono FX).then_heap QZ λb o hb e=>?_) Ts) Tt
   rwa[Tr.2 b (λh:b=S=>hb (by rw[h];exact aM))]
end
section
variable{prog:bA}{w:cg}{A:dE}{E:aD->aL->Prop}{s:aL}
theorem Av{l:aF}{items:Array aD}{Q:aD->aL->Prop}(hh:A.handled=none)(hx:PlainL s.heap l items)(T:Nat->cM->Prop)
  (t0:∀h',h'.get? s.heap.objs.size=some { cls:=.type "dict",data:=.dict #[] }->(∀b o,s.heap.get? b=some o->h'.get? b=some o)->T 0 h')
  (keep:∀i h h' c,s.heap.objs.size<c->T i h->(∀b o,b≠c->h.get? b=some o->h'.get? b=some o)->T i h')
  (add:∀i v (s':aL),i<items.size->items[i]?=some v->T i s'.heap->∃a x y,v=.ref a/\s'.heap.IsTuple a (bN [x,y])/\∀(Q:Unit->aL->Prop)(E:aD->aL->Prop),(∀h' tk,s'.toks<=tk->gw s.heap.objs.size s'.heap h'->T (i+1) h'->Q () { s' with heap:=h',toks:=tk })->wpAny (model prog w) A.in1.in1 (dictSet s.heap.objs.size x y) Q E s')
  (h:∀(h':cM)(tk:Nat),T items.size h'->(∀b o,b<s.heap.objs.size->s.heap.get? b=some o->h'.get? b=some o)->Q (.ref s.heap.objs.size) { s with heap:=h',toks:=tk }):
  wpAny (model prog w) A (call (.type "dict") [.ref l]) Q E s:=by
 refine callType_codes (Q₁:=λobj s₁=>obj=.ref s.heap.objs.size/\s₁={ s with heap:=s.heap.push { cls:=.type "dict",data:=.dict #[] } }) F.kt_called_dict (F.kt_typeCall_dict_1 _) F.entry_dict_init (kt_code_dict_new _ #[rfl,rfl]) ?_
 rintro obj s₁ ⟨rfl,rfl⟩
 obtain⟨⟨zbj,Rj,Xn,Mq⟩,m,ho,hc,hdn,hd⟩:=hx;subst hc hdn hd;have hS:(s.heap.push { cls:=.type "dict",data:=.dict #[] }).get? s.heap.objs.size=some { cls:=.type "dict",data:=.dict #[] }:=bq _ rfl
 have hT:aL.TypeIs { s with heap:=s.heap.push { cls:=.type "dict",data:=.dict #[] } } (.ref s.heap.objs.size) "dict":=#[_,hS,rfl]
 have BK:=aE (o:={ cls:=.type "dict",data:=.dict #[] }) ho
 refine#[hT,F.args_dict_init_2 _ _,?_]
 refine aA ?_
 refine aA (wpAny_notOrdered_dict hT ?_)
 refine bj ?_
 refine aA (wpAny_typeOf #[_,BK,rfl] ?_)
 refine aA (zh BK (by simp[hh]) λh1 tk1 e ne=>?_)
 refine aA (ua ?_)
 have Od:h1.IsList l items:=#[_,ne.keeps _ _ BK,rfl,m,rfl];refine aA (my Od ?_)
 have Vs:=ne.keeps _ _ hS;have ZF:=aZ Vs;have Xo:=aZ ho;have Tp:s.heap.objs.size∉[h1.objs.size,l]:=by
  simp;exact#[a7 ZF,ft Xo]
 refine bj #[yd F.kA _,?_]
 refine J3 ((Walks.list (by simp[hh]) h1.objs.size l (a7 (xH Xo ZF)) items).toS) s.heap.objs.size Tp T (λi h h' t k=>keep i h h' h1.objs.size ZF t λb o hb e=>k b o (by rwa [aW]) e) (λi v s' hi hv t=>add i v s' hi hv t) (items.size-0) 0 _ _ _ ∅ ∅
  #[#[_,bq _ rfl,rfl,rfl],(Od.push _)] ?hS0 ?hR
 case hS0=>
  exact t0 _ (aE _ Vs) λb o e=>aE _ (ne.keeps _ _ (aE _ e))
 case hR=>
  intro s' hm Xp;obtain⟨h',g',d',A8,Vk⟩:=s';have eg:=hm.gens;have ed:=hm.drawn;have eo:=hm.os;subst eg;subst ed;subst eo;refine#[rfl,h h' A8 Xp λb o hb e=>?_]
  have Vt:=a7 (xH hb ZF);exact hm.heap b o (by simp;exact#[(a7 hb),Vt]) (aE _ (ne.keeps _ _ (aE _ e)))
end
section
variable{X:Cx}
end
section
variable{ε:Type}{X:Cx}{sc:j'}{own N:List Str}{cap:List Nat}{cl:List (Str×aF)}{tg elt iter:bC}{ifs:List bC}{δ:List Slot}{ds:List ae}{pos:Pos}{tgt:FZ}{Er:Hp->V->ε->Prop}
end
section
variable{X:Cx}{a b c:bC}{δ:List Slot}{d:ae}{pos p:Pos}{k:Nat}{z1 z2:Str}
end
inductive Ro:ae->Prop
 |non:Ro .none
 |bl (b:Bool):Ro (.bool b)
 |int (i:Int):Ro (.int i)
 |str (x:Str):Ro (.str x)
 |lst {ds:List ae}:(∀d∈ds,Ro d)->Ro (.list ds)
 |tup {ds:List ae}:(∀d∈ds,Ro d)->Ro (.tuple ds)
section
variable{K:ao}{H:Hp}{p:aF}{kvs:List (Key×V)}
end
def uv(kv:List (Str×ae))(y:Str)(d:ae):List (Str×ae):=kv.map λq=>if q.1=y then(q.1,d)else q
section
variable{X:Cx}{B0 B H0 H:Hp}{σ:St}{D:Ends}{δ:List Slot}{ev:bC}{d:ae}{pos px ps pk:Pos}{x y:Str}{k:Nat}{jk}
end
end L2
namespace L2
open PySem
section
variable{M:Model}{A:dE}{E:aD->aL->Prop}{s:aL}
end
section
variable{prog:bA}{w:cg}{A:dE}{E:aD->aL->Prop}{R:vR->aL->Prop}{h:cM}{g:Array sV}{d:Drawn}{t:Nat}{os:OsState}
variable{nm q:Str}{C N:aF}{bs bm bmB:List aD}{zbt:Bool}{sn:List Str}{sub:List aD}{ab:Bool}{col:Option Bool}{dd:Option aF}{k0 k1 k2 k3 k5:Option aD}{B newId Uo:String}
end
end L2
namespace L2
open PySem PySem.Spec PyProof.Rows
section
variable{prog:bA}{w:cg}{A:dE}{E:aD->aL->Prop}{R:vR->aL->Prop}{h:cM}{g:Array sV}{d:Drawn}{t:Nat}{os:OsState}
variable{nm q:Str}{C N e t0:aF}{bs bm bmB:List aD}{zbt:Bool}{sn:List Str}{sub:List aD}{ab:Bool}{col:Option Bool}{dd dx:Option aF}{k0 k1 k2 k3 k5:Option aD}{B newId Uo:String}{sl:Array (Option aD)}
end
section
variable{prog:bA}{w:cg}{A:dE}{E:aD->aL->Prop}{s:aL}{K:ao}{C e t0 dx:aF}{sl:Array (Option aD)}{name:Str}{v:aD}{mA:Str->Option aD}
end
section
variable{X:Cx}{pins:List (aF×Obj)}{σ:St}{H:Hp}{s:aL}{C e dx:aF}{f:Str}{y:V}{u:aD}{fs:List (Str×V)}{A:dE}{E:aD->aL->Prop}
end
section
variable{X:Cx}{o value a1 a2:bC}{f x y:Str}{pos pos' p p2 ap p3 p4:Pos}{j4:Nat}{ta tv:TE}{C M dx:aF}{i:Nat}
end
section
variable{X:Cx}{CX:KZ}{k:Nat}{f C:aF}{fd:eU}{ps:List Str}{sp:Sp}{E:XK}
end
section
variable{H:Hp}{ex:List aF}{e T b:aF}{o1 o2:HO}
end
section
variable{P:bA}{w:cg}{fs ex:List aF}{H0 H:Hp}{h0 h h':cM}{L e T:aF}{oe:Obj}{o1 o2:HO}
end
section
variable{P:bA}{w:cg}{K:ao}{mg:Str->Option aD}{base:cM}{N:List Str}{qual:Str}{scope:j'}{f:aF}{cd:aD}{A:dE}{outer:List Env}{s0:aL}{H0:Hp}{E:XK}
variable{pins:List (aF×Obj)}{σ:St}{H:Hp}{s:aL}
end
section
variable{X:Cx}{B0 B H0 H:Hp}{σ:St}{D:Ends}{δ:List Slot}{a1 a2 tg iter:bC}{p:Int}{wd x y:Str}{np jf pos:Pos}{k:Nat}{fI C:aF}{fd:eU}{body:List e6}{ds:List ae}
end
section
variable{M:Model}{A:dE}{E:aD->aL->Prop}{s:aL}
end
section
variable{X:Cx}{pins:List (aF×Obj)}{σ:St}{H:Hp}{s:aL}{C M e dx T:aF}{E:aD->aL->Prop}
end
section
variable{X:Cx}{B0 B H0 H:Hp}{σ:St}{D:Ends}{δ:List Slot}{pins:List (aF×Obj)}{s:aL}
end
section
variable{X:Cx}{CX:KZ}{k:Nat}{f:aF}{fd:eU}{ps:List Str}{sp:Sp}{E:XK}{Ex:aD->aL->Prop}
end
section
variable{X:Cx}{B0 B H0 H:Hp}{σ:St}{D:Ends}{δ:List Slot}{C M fa:aF}{fd:eU}{ps:List Str}{ds:List ae}{R:List ae->Int->Str->Prop}{k jn jc:Nat}{p:Int}{wd y g xM n xc:Str}{a:bC}{as:List bC}{p1 p2 p3 p4 p5 p6 p7 p8 hp pos:Pos}
end
end L2
namespace L2
open PySem PySem.Spec PyProof.Rows PySem.W
section
variable{prog:bA}{w:cg}{A:dE}{E:aD->aL->Prop}{s:aL}{K:ao}{x C:aF}{ox:Obj}{od:Option Obj}{name:Str}
end
end L2
namespace L2
open PySem PySem.Spec PyProof.Rows
variable{b:Bool}{H:Hp}{kv:List (Str×ae)}{d:ae}{K:ao}{y:Str}
section
variable{X:Cx}{pins:List (aF×Obj)}{σ:St}{H H':Hp}{s:aL}{e C:aF}{p:Int}{wd f x:Str}
end
section
variable{X:Cx}{δ:List Slot}{pos px:Pos}{a b e:bC}{x:Str}{d:ae}{ds:List ae}{k:Int}{j:Nat}
end
theorem b9.JL{H': Hp}:∀{xs:List V}{ds:List ae},b9 K H xs ds->(∀d∈ds,A5 d=true)->b9 K H' xs ds
 |_,_,.nil,_=>.nil
 |_,_,.cons a r,h=>.cons (a.JL (h _ aM)) (b9.JL r λd hd=>h d (aT _ hd))
section
variable{X:Cx}{sc:j'}{own N:List Str}{cap:List Nat}{cl:List (Str×aF)}{tg elt iter:bC}{ifs:List bC}{δ:List Slot}{ds rs:List ae}{pos px tf:Pos}{tgt:FZ}{x:Str}
end
section
variable{X:Cx}{δ:List Slot}{pos px p:Pos}{a e:bC}{x:Str}{d:ae}
theorem Up:nR K (λxs H Q=>(∃i,xs=[.int i]/\Q (.int i) H)\/∃k,xs=[.bl k]/\Q (.int (if k then 1 else 0)) H) [.bool b] (.int (if b then 1 else 0)):=λvs H0 H Q s r k=>by
 obtain⟨v,rfl,rv⟩:=r.one;cases rv;exact .inr #[b,rfl,k _ _ _ (.refl s) (.int _)]
theorem PQ(h:VE X a δ (.bool b))(hm:X.mg "int"=none)(hg:Gl X "int":=by rfl)(hs:kO X a []:=by rfl):VE X (.Call (.Name "int" p) [a] [] pos) δ (.int (if b then 1 else 0)):=jC Jq Up (aq h aU hs) hm rfl hg (he:=hs)
end
def Mw(kv:List (Str×ae))(y:Str)(d:ae):List (Str×ae):=if(kv.any λq=>decide (q.1=y))=true then uv kv y d else kv ++ [(y,d)]
def DR(K:ao)(a:aF)(kv:List (Str×ae)):OR:=λH0 H as=>as=[a]/\∃kvs:List (Key×V),H a=some (.dK kvs)/\kvs.map (·.1)=kv.map (λp=>(bo p.1:Key))/\b9 K H0 (kvs.map (·.2)) (kv.map (·.2))
theorem DR.mono{a:aF}:cj (DR K a kv):=λH0 H Ha Hb as #[e,kvs,h1,h2,h3] sm hb=>#[e,kvs,by rw[hb a (by rw[e];simp)];exact h1,h2,h3.mono sm]
theorem Iv:∀{kv:List (Str×ae)}{kvs:List (Key×V)},kvs.map (·.1)=kv.map (λp=>(bo p.1:Key))->(kvs.any λz=>decide (z.1=(bo y:Key)))=kv.any λq=>decide (q.1=y)
 | [],[],_=>rfl
 | [],_::_,e=>by simp at e
 |_::_,[],e=>by simp at e
 |q::kv,z::kvs,e=>by
  rw[ay,ay]at e
  injection e with e1 e2
  rw[mG,mG,Iv e2,e1]
  congr 1
  by_cases h:q.1=y
  ·rw[qQ1 h,qQ1 (by rw[h])]
  ·rw[qQ0 h,qQ0 λz=>h (j0 z)]
theorem Mx{v:V}(r:Rep K H v d):∀{kv:List (Str×ae)}{kvs:List (Key×V)},kvs.map (·.1)=kv.map (λp=>(bo p.1:Key))->b9 K H (kvs.map (·.2)) (kv.map (·.2))->
  (kvs.map λq=>if q.1=bo y then(q.1,v)else q).map (·.1)=(uv kv y d).map (λp=>(bo p.1:Key))/\b9 K H ((kvs.map λq=>if q.1=bo y then(q.1,v)else q).map (·.2)) ((uv kv y d).map (·.2))
 | [],[],_,_=>#[rfl,.nil]
 | [],_::_,e,_=>by simp at e
 |_::_,[],e,_=>by simp at e
 |q::kv,z::kvs,e,t=>by
  rw[ay,ay]at e t
  injection e with e1 e2
  cases t with
  |cons a t=>
   obtain⟨g1,g2⟩:=Mx r e2 t;unfold uv at g1 g2 ⊢;rw[ay,ay,ay,ay,ay,ay];by_cases h:q.1=y
   ·have hz:z.1=(bo y):=by rw[e1,h]
    rw[qQ3 h,qQ3 hz,g1];exact#[by rw[e1],.cons r g2]
   ·have hz:=λz'=>h (j0 (e1.symm.trans z'))
    rw[qQ2 h,qQ2 hz,g1];exact#[by rw[e1],.cons a g2]
theorem PV{v:V}(r:Rep K H v d){kvs:List (Key×V)}(h1:kvs.map (·.1)=kv.map (λp=>(bo p.1:Key)))(h2:b9 K H (kvs.map (·.2)) (kv.map (·.2))):
  (putK kvs (bo y) v).map (·.1)=(Mw kv y d).map (λp=>(bo p.1:Key))/\b9 K H ((putK kvs (bo y) v).map (·.2)) ((Mw kv y d).map (·.2)):=by
 unfold putK Mw;rw[Iv h1]
 split
 ·exact Mx r h1 h2
 ·rw[aN,aN,aN,aN,h1]
  exact#[rfl,h2.append (.cons r .nil)]
section
variable{X:Cx}{B0 B H0 H:Hp}{σ:St}{D:Ends}{δ:List Slot}{a:aF}{ek ev:bC}{d:ae}{pos px pd ps:Pos}{x y:Str}{kv:List (Str×ae)}{k:Nat}
end
section
variable{X:Cx}{a b:bC}{δ:List Slot}{pos Ao p p2:Pos}
end
end L2
namespace PySem
open Sem (wp)
section
variable{prog:bA}{w:cg}{A:dE}{E:aD->aL->Prop}{s:aL}{r:aF}{a b c:Int}{t u v:Tok}{n:Nat}
end
section
variable{prog:bA}{w:cg}{A:dE}{E:aD->aL->Prop}{s:aL}{r:aF}{a b c:Int}{t u v:Tok}{n:Nat}
end
end PySem
namespace L2
open PySem PySem.Spec PyProof.Rows
variable{C a b:aF}{R':aF->OR}{kb:Bool}{X:Cx}{ek:bC}{H H0:Hp}{κ:Key}{kvs:List (Key×V)}{kl:List (Str×List ae)}{kv:List (Str×ae)}{fs:List (Str×V)}{as:List aF}{elts:List bC}{ns:List Int}{ds:List ae}{δ:List Slot}{xs:List V}{ps:Pos}{P:bA}{d:ae}{K:ao}{pl:Sem Bool}{m:Str}{tn:String}{Q:V->Hp->Prop}{w:cg}
section
variable{X:Cx}{a b:bC}{δ:List Slot}{pos Ao p p2:Pos}
end
section
variable{X:Cx}{B0 B H0 H:Hp}{σ:St}{D:Ends}{body:List e6}{tg iter:bC}{ds:List ae}{pos:Pos}
end
def ni(kvs:List (Key×V))(l:List (Key×V)):List (Key×V):=l.foldl (λkvs q=>putK kvs q.1 q.2) kvs
theorem rS:∀(l kvs:List (Key×V)),(ni kvs l).length<=kvs.length+l.length
 | [],kvs=>aP _
 |q::l,kvs=>by
  have h1:=rS l (putK kvs q.1 q.2);have h2:=lW kvs q.1 q.2
  show(ni (putK kvs q.1 q.2) l).length<=kvs.length+(l.length+1)
  omega
theorem Cj(kvs l:List (Key×V))(q:Key×V):ni kvs (l ++ [q])=putK (ni kvs l) q.1 q.2:=by
 unfold ni;rw[f6];rfl
theorem xk:∀(l kvs:List (Key×V)),((kvs++l).map (·.1)).Nodup->ni kvs l=kvs++l
 | [],kvs,_=>(cy _).symm
 |q::l,kvs,h=>by
  have hn:(kvs.any λz=>decide (z.1=q.1))=false:=by
   rw[List.any_eq_false];intro z hz e;rw[aN,ay,cF]at h;exact h.2.2 z.1 (av.mpr #[z,hz,rfl]) q.1 aM (qQ4 e)
  have hp:putK kvs q.1 q.2=kvs ++ [q]:=by unfold putK;rw[hn,qQ2 eS]
  show ni (putK kvs q.1 q.2) l=_;rw[hp,xk l _ (by rw[cp];exact h),cp]
  rfl
section
variable{X:Cx}
def My(K:ao):List V->Hp->VK->Prop:=λxs H Q=>∃(p:aF)(qs:List (aF×Key×V)),xs=[.ref p]/\jx K H p (qs.map λq=>.ref q.1)/\
 (∀q∈qs,oH K H q.1 [kV q.2.1,q.2.2])/\∀l,H l=none->Q (.ref l) (upd H l (.dK (ni [] (qs.map (·.2)))))
theorem wu(hc:X.calm=true):g8 X (.type "dict") (My X.K):=by
 intro pins s σ H xs us Q I r h;obtain⟨p,qs,rfl,hp,hqs,q⟩:=h;obtain⟨u,rfl,rx⟩:=vals1 r;cases rx;obtain⟨its,rv,pl,hz⟩:=I.list hp;have Xq:=rv.length;simp only[ai]at Xq hz;have BU:its.toArray.size=qs.length:=by simp;omega
 refine Av (I.ok.hd hc) pl (λi h=>(∀b o,s.heap.get? b=some o->h.get? b=some o)/\∃vs,KV (ni [] ((qs.take i).map (·.2))) vs/\h.DictOf (ei X.prog X.w) s.heap.objs.size vs)
  (λh' e k=>#[k,[],.nil,?_]) (λi h h' c hc #[k1,vs,kv,dd] k=>?_) (λi v s' hi hv #[k1,vs,kv,dd]=>?_) (λh' tk #[k1,vs,kv,dd] _=>?_)
 ·exact#[_,#[],0,e,#[rfl,rfl,rfl],rfl,(by intro _ h;exact nomatch h),.nil,kR]
 ·obtain⟨o,es,ep,ho,rest⟩:=dd
  exact#[λb o e=>k b o (a7 (xH (aZ e) hc)) (k1 b o e),vs,kv,o,es,ep,k _ _ ∅ ho,rest]
 ·rw[BU]at hi
  have Oz:its[i]?=some v:=by simpa using hv
  have ZG:=au hi
  generalize qs[i]=q0 at ZG
  obtain⟨u0,hu0,ru0⟩:=rv.get (by rw[aG,ZG];rfl)
  rw[Oz]at hu0;cases hu0;cases ru0;obtain⟨it2,Vr,pl2,_⟩:=I.tuple (hqs q0 (aQ ZG));obtain⟨u1,u2,rfl,r1,r2⟩:∃u1 u2,it2=[u1,u2]/\RelV _ u1/\RelV q0.2.2 u2:=by
   cases Vr with|cons a t=>cases t with|cons b t2=>cases t2;exact#[_,_,rfl,a,b]
  obtain⟨o2,Vl,XB⟩:=pl2;refine#[q0.1,u1,u2,rfl,#[o2,k1 _ _ Vl,XB],λQ' E' q'=>?_]
  have Og:qs.take (i+1)=qs.take i ++ [q0]:=by rw[ck,ZG];rfl
  have Ul:vs.length<=sizeLine:=by
   have e1:=kv.length;have e2:=rS ((qs.take i).map (·.2)) []
   simp only[dA,ai,bJ,rn]at e2;omega
  refine wpAny_dictSet_pairs (qN r1) dd (λh' B5 sb=>q' h' _ ∅ sb #[λb o e=>?_,_,?_,B5]) Ul
  ·rw[sb.2 b (a7 (aZ e))]
   exact k1 b o e
  ·rw[Og,aN,ay,gx,Cj]
   exact kv.put q0.2.1 r2
 ·rw[BU,c9]at kv
  have hlen:=rS (qs.map (·.2)) []
  simp[dA,ai,rn]at hlen;exact#[.ref s.heap.objs.size,_,I.laid k1 ∅ (v8 ∅ (beq_eq_false_iff_ne.mpr (bT (a7 I.big))) kv dd),rfl,q _ (I.hok.fresh ∅)]
def pairD(q:Str×ae):ae:=.tuple [.str q.1,q.2]
theorem D1:∀{l:List (Str×ae)}{xs:List V},b9 K H xs (l.map pairD)->∃qs:List (aF×Key×V),xs=qs.map (λq=>.ref q.1)/\(∀q∈qs,oH K H q.1 [kV q.2.1,q.2.2])/\qs.map (·.2.1)=l.map (λp=>(bo p.1:Key))/\b9 K H (qs.map (·.2.2)) (l.map (·.2))
 | [],_,.nil=>#[[],rfl,(by intro _ h;cases h),rfl,.nil]
 |q::l,_,.cons a r=>by
  obtain⟨qs,e1,e2,e3,e4⟩:=D1 r;cases a with
  |tup hq rs=>
   cases rs with
   |cons b rs=>
    cases b;cases rs with
    |cons c rs=>
     cases rs;refine#[(_,.inr q.1,_)::qs,by rw[e1];rfl,λz hz=>?_,by rw[ay,ay,e3],.cons c e4]
     rcases ax.mp hz with rfl|hz
     ·exact hq
     ·exact e2 z hz
theorem PX{l:List (Str×ae)}(hn:(l.map (·.1)).Nodup):nR K (My K) [.list (l.map pairD)] (kP l):=λvs H0 H Q s r k=>by
 obtain⟨v,rfl,rv⟩:=r.one;cases rv with
 |lst hq rs=>
  obtain⟨qs,e1,e2,e3,e4⟩:=D1 rs;subst e1;have hnn:((qs.map (·.2)).map (·.1)).Nodup:=by
   rw[aB]
   show(qs.map (·.2.1)).Nodup
   rw[e3,show(l.map λp=>(bo p.1))=(l.map (·.1)).map bo by rw[aB];rfl]
   exact mW _ (λa b hab z=>hab (j0 z)) hn
  refine#[_,qs,rfl,s.seq hq,λq FP=>s.pG (e2 q FP),λp hp=>?_]
  rw[xk _ [] (by rw[gU];exact hnn),gU]
  have g:=c6.laid s (o:=.dK (qs.map (·.2))) hp
  refine k _ _ _ g (.dct bh ?_ ?_)
  ·have e:=qQ6 (oF oB) e3
   simp only[aB]at e ⊢;exact e.symm
  ·simp
   exact e4.mono g.e8
end
section
variable{X:Cx}{a:bC}{δ:List Slot}{pos p:Pos}
theorem Mz{l:List (Str×ae)}(h:VE X a δ (.list (l.map pairD)))(hn:(l.map (·.1)).Nodup)(hc:X.calm=true)(hm:X.mg "dict"=none)(hg:Gl X "dict":=by rfl)(hs:kO X a []:=by rfl):VE X (.Call (.Name "dict" p) [a] [] pos) δ (kP l):=jC (wu hc) (PX hn) (aq h aU hs) hm rfl hg (he:=hs)
end
def wx(kvs:List (Str×ae)):ae:=.dict ((.none,.int 1)::kvs.map λp=>(.str p.1,p.2))
section
variable{K:ao}{H:Hp}{v:V}
theorem Iw:∀{kvs:List (Str×ae)}{ws:List (Key×V)},(ws.map λp=>oB p.1)=(kvs.map λp=>aS p.1)->ws.map (·.1)=kvs.map (λp=>(bo p.1:Key))
 | [],ws,e=>by cases ws with|nil=>rfl|cons q l=>simp at e
 |p::kvs,ws,e=>by
  cases ws with
  |nil=>simp at e
  |cons q ws=>
   rw[ay,ay]at e ⊢
   injection e with h1 h2
   rw[Iw h2]
   congr 1
   cases eq:q.1 with
   |inl i=>rw[eq]at h1;cases h1
   |inr x=>rw[eq]at h1;injection h1 with h1;rw[h1]
theorem Rep.zj{kvs:List (Str×ae)}(r:Rep K H v (wx kvs)):∃a o ws,v=.ref a/\H a=some (.tM o (.dK ws))/\ws.map (·.1)=kvs.map (λp=>(bo p.1:Key))/\b9 K H (ws.map (·.2)) (kvs.map (·.2)):=by
 unfold wx at r
 generalize e:kvs.map (λp=>(aS p.1,p.2))=ds at r
 cases r with
 |dct h k t=>
  rename_i a ws
  exfalso
  cases ws with
  |nil=>simp at k
  |cons q ws=>
   rw[ay,ay]at k
   injection k with k1 _
   cases eq:q.1 with
   |inl i=>rw[eq]at k1;cases k1
   |inr x=>rw[eq]at k1;cases k1
 |TB h k t=>
  rename_i a o ws
  refine#[a,o,ws,rfl,h,Iw ?_,?_]
  ·rw[<-k,<-e,aB];rfl
  ·rwa[<-e,aB]at t
end
section
variable{X:Cx}{pins:List (aF×Obj)}{σ:St}{H:Hp}{s:aL}{a:aF}{ws:List (Key×V)}
theorem Inv.freeze(I:Inv X pins σ H s)(h:H a=some (.dK ws)):∃o,Inv X pins σ (upd H a (.tM o (.dK ws))) s:=by
 obtain⟨z,hd,vs,rel,dd⟩:=wZ I.hok h;obtain⟨o,es,ep,ho,rest⟩:=id dd;refine#[o,?_]
 have:=I.write (t':=s.toks) (o:=.tM o (.dK ws)) (by rw[h];trivial) (.inl rfl) (λb u _ q=>q) #[o,ho] #[ho,z,hd,vs,rel,dd]
 exact this
theorem Inv.Uq{o:Obj}(I:Inv X pins σ H s)(h:H a=some (.tM o (.dK ws)))(hn:∀o u,X.H₀ a≠some (.tM o u)):Inv X pins σ (upd H a (.dK ws)) s:=by
 have ne:∀{b:aF},H b=none->b≠a:=λe z=>by subst z;rw[h]at e;cases e
 have ob:=(Rd.ok (.inr #[o,h]) I.hok);refine#[I.ok,I.os,I.bare,#[I.base.keep,I.base.slot,λb u e n hx=>?_,I.base.there,λb xs e=>?_,λb ob u e=>?_,λb ps e=>?_],I.loc,I.cell,?_,λx c e=>?_,λp hp=>?_,λb u e=>?_,I.len]
 ·have q:=I.base.free b u e n hx
  rwa[aO (ne q)]
 ·have q:=I.base.tups b xs e
  rwa[aO (λz=>by subst z;rw[h]at q;cases q)]
 ·have q:=I.base.vW b ob u e
  rwa[aO (λz=>by subst z;exact hn _ _ e)]
 ·obtain⟨more,q⟩:=I.base.yF b ps e
  exact#[more,by rw[aO (λz=>by subst z;rw[h]at q;cases q)];exact q]
 ·rw[aO (ne I.free)];exact I.free
 ·rw[aO (ne (I.pB x c e))];exact I.pB x c e
 ·obtain⟨q1,q2,q3⟩:=I.pin p hp
  exact#[q1,by rw[aO (ne q2)];exact q2,q3]
 ·have st:∀{b:aF}{u:HO},ia X.prog X.w H s.heap b u->ia X.prog X.w (upd H a (.dK ws)) s.heap b u:=λx=>
   x.stay (λc v _ q=>q) (λc q=>by rw[aO (λz=>by subst z;rw[h]at q;cases q)];exact q) λc xs q=>by rw[aO (λz=>by subst z;rw[h]at q;cases q)];exact q
  by_cases hb:b=a
  ·subst hb;rw[bh]at e;cases e;exact st ob
  ·rw[aO hb]at e;exact st (I.hok b u e)
end
section
variable{X:Cx}{e:bC}{δ δ':List Slot}{es:List ae}{kvs:List (Str×ae)}
end
def Itk(a:aF)(o:Obj)(kvs:List (Key×V)):It:=#[λi H=>i<kvs.length/\H a=some (.tM o (.dK kvs)),λi H x H'=>H'=H/\∃q,kvs[i]?=some q/\x=kV q.1,λi H=>kvs.length<=i/\H a=some (.tM o (.dK kvs))]
section
variable{X:Cx}{pins:List (aF×Obj)}{σ:St}{H:Hp}{s:aL}{a it:aF}{kvs:List (Key×V)}{o:Obj}{es:Array sX}{ep:Nat}
theorem lA(I:Inv X pins σ H s)(h:H a=some (.tM o (.dK kvs))):(a==sysModules)=false/\∃vs es ep,KV kvs vs/\o.data=.dict es ep/\s.heap.DictAt (ei X.prog X.w) a vs ep:=by
 obtain⟨ho,z,hd,vs,rel,o',es,ep,BK,c1,c2,c3⟩:=(I.hok a _ h)
 rw[ho]at BK;cases BK;exact#[hd,vs,es,ep,rel,c2,o,es,ho,c1,c2,c3]
theorem J4{tg:bC}(a it:aF)(he:o.data=.dict es ep):Turn P w K tg (Itk a o kvs) [it] it (λi h=>h.IsKeyIter it a i kvs.length ep) where
 mem:=by simp
 obj:=λi h st b hb=>by
  have e:b=it:=by simpa using hb
  subst e;obtain⟨o,e,c,d⟩:=st;exact#[o,e,λv z=>by rw[d]at z;cases z]
 keep:=λi h h' st k=>let#[o,e,r]:=st;#[o,k it (by simp) o e,r]
 item:=by
  intro X hP hw hK hc i pins s σ H E I hf st hg;subst hP hw hK;obtain⟨f0,f1,f2,f3,f4,f5⟩:=hf it (by simp)
  obtain⟨hi,ha⟩:=hg;obtain⟨hd,vs,SG,SJ,rel,MA,dd⟩:=lA I ha;rw[he]at MA;cases MA;have hl:=rel.length;obtain⟨q,hq⟩:∃q,kvs[i]?=some q:=#[kvs[i],au hi]
  obtain⟨⟨k,x⟩,hx⟩:∃p,vs[i]?=some p:=#[vs[i]'∅,au ∅]
  have hk:q.1=k:=by
   have e1:=qQ6 (·[i]?) rel.keys
   simp only[aG,hq,hx,jW]at e1
   exact cD e1
  refine wpAny_pyNext_dict_item (by rw[<-hl];exact st) dd hx λkey h' Le yk sb=>?_
  obtain⟨o,e,c,d⟩:=id yk;exact#[key,rfl,Dq e c d ⋯ #[_,H,I.turned (λb o hb e=>(sb.2 b hb).trans e) f0 f1 f3 f4 f5,by rw[hk];exact yr Le,#[rfl,q,hq,rfl],by rw[hl];exact yk,λb hb=>(hf b hb).1]]
 done:=by
  intro X hP hw hK hc i pins s σ H E I hf st hg;subst hP hw hK;obtain⟨f0,f1,f2,f3,f4,f5⟩:=hf it (by simp)
  obtain⟨hi,ha⟩:=hg;obtain⟨hd,vs,SG,SJ,rel,MA,dd⟩:=lA I ha;rw[he]at MA;cases MA;have hl:=rel.length;exact wpAny_pyNext_dict_end (I.ok.hd hc) (by rw[<-hl];exact st) dd (eO ∅) λh' eb=>#[rfl,I.turned (λb o hb e=>eb b o hb e) f0 f1 f3 f4 f5]
 self:=λ_ _ _ _ _ st h=>wpAny_pyIter_keyiter st h
def XC(tl:TE):TI:=λσ H R=>tl σ H λv H1=>∃a o kvs,v=.ref a/\H1 a=some (.tM o (.dK kvs))/\R (Itk a o kvs) H1
theorem PY{tg l:bC}{tl:TE}(hl:PE X l tl):PI X tg l (XC tl):=by
 intro pins s σ H R I h;refine fP (hl pins s σ H _ I h) λv s1 #[y,H1,I1,r1,q1]=>?_
 obtain⟨a,o,kvs,e,ha,q⟩:=q1;subst e;cases r1;obtain⟨hd,vs,es,ep,rel,he,dd⟩:=lA I1 ha;refine wpAny_pyIter_dict hd dd ?_
 rw[<-rel.length];refine#[s1.heap.objs.size,_,_,_,H1,rfl,I1.kept λb o e=>aE _ e,J4 a _ he,#[_,bq _ rfl,rfl,rfl],λb hb=>?_,q]
 have e:b=s1.heap.objs.size:=by simpa using hb
 subst e;exact I1.vZ ∅ (I1.hok.fresh ∅)
end
section
variable{X:Cx}{tg a b:bC}{δ:List Slot}{d:ae}{kvs:List (Str×ae)}{pos p:Pos}{k:Nat}{x:Str}
theorem MB(h:VE X a δ (wx kvs)):VI X tg a δ (kvs.map λq=>.str q.1):=#[_,PY cB,λB0 B σ H0 H R f q=>h B0 B σ H0 H _ f λv H1 cV g r=>by
 obtain⟨p,o,ws,rfl,hp,ke,rs⟩:=r.zj;have hl:ws.length=kvs.length:=by have:=qQ6 dC ke;simpa using this
 refine#[p,o,ws,rfl,g.sub _ _ hp,q _ H1 cV g λHa Hb s1 s2 i=>#[λhi=>#[by simpa[hl]using hi,s2 _ _ (s1 _ _ hp)],λhi=>#[by simpa[hl]using hi,s2 _ _ (s1 _ _ hp)],λx xT d hd #[e,z,hz,ex]=>?_]]
 subst e;subst ex;have e1:=qQ6 (·[i]?) ke
 simp[aG,hz,jW]at e1
 rw[aG]at hd
 cases hk:kvs[i]? with
 |none=>rw[hk]at hd;cases hd
 |some w=>
  rw[hk]at hd e1;cases hd;rw[cD e1];exact#[Ha,.refl s2,.str w.1]]
theorem MC(hr:dB k X.A)(h1:VE X a δ (wx kvs))(h2:VE X b δ (.str x))(hx:iT kvs x=some d)(hs:FV b:=by intro _ _;rfl):VE X (.Subscript a b pos) δ d:=
 .of (ym (Fe hr) cB cB hs) λB0 B σ H0 H Q fr q=>h1 B0 B σ H0 H _ fr λv H1 cV g r=>h2 B0 B σ H1 cV _ (fr.grow g) λu H2 fS g2 r2=>by
  obtain⟨p,o,ws,rfl,hp,ke,rs⟩:=r.zj;cases r2;have ov:=wm ke rs x;rw[hx]at ov;obtain⟨w,hw,sD⟩:=ov.some_of;refine#[p,w,rfl,?_,q w H2 fS (g.trans g2) (sD.mono g2.e8)]
  rw[<-hw];exact .inl #[ws,.inr x,.inr #[o,g2.sub _ _ (g2.e8 _ _ hp)],rfl,rfl]
end
section
variable{X:Cx}{pins:List (aF×Obj)}{σ:St}{H:Hp}{s:aL}{A:dE}
end
section
variable{X:Cx}{st:e6}{rest body orelse:List e6}{δ δ':List Slot}{o:Out}{a b c e:bC}{d:ae}{ds:List ae}{pos px:Pos}{x:Str}{w:Str}
end
section
variable{X:Cx}{B0 B H0 H:Hp}{σ:St}{D:Ends}{δ δ2:List Slot}{t p:aF}{e c:bC}{d dp:ae}{ds:List ae}{pos px po pk pa pc:Pos}{x w:Str}{R:OR}{body:List e6}{k:Nat}
end
section
variable{K:ao}{H:Hp}
theorem Ck(h1:H a=some (.dK kvs))(h2:kvs.map (·.1)=kv.map (λp=>(bo p.1:Key)))(h3:b9 K H (kvs.map (·.2)) (kv.map (·.2))):Rep K H (.ref a) (kP kv):=by
 refine .dct h1 ?_ ?_
 ·have e2:=qQ6 (oF oB) h2
  rw[aB,aB]at e2;rw[aB];exact e2.symm
 ·rwa[aB]
end
section
variable{P:bA}{w:cg}{K:ao}{mg:Str->Option aD}{base:cM}{x qual:Str}{st:e6}{f:aF}{fd:eU}{N:List Str}{k:Nat}{a1 a2:Str}
end
section
variable{X:Cx}{B0 B H0 H:Hp}{σ:St}{D:Ends}{δ δ2:List Slot}{e b:bC}{d:ae}{ds:List ae}{pos px:Pos}{x:Str}{k:Nat}
theorem sL(h:D.nx σ H):w_ X [] D σ H:=λpins s I=>HN pins s σ H D I h
end
theorem wy{v:V}(r:Rep K H v (oB κ)):v=kV κ:=by
 cases κ<;>cases r<;>rfl
section
variable{X:Cx}{B0 B H0 H:Hp}{σ:St}{D:Ends}{δ:List Slot}{a c:aF}{e ek ev:bC}{d:ae}{ds:List ae}{pos px po ps pa pc pk py:Pos}{x y z:Str}{k:Nat}{kvs zhl:List (Key×V)}{κ:Key}{xs:List V}{j}
theorem Ur(f:gy X.K B0 B H0 H σ δ)(hr:dB k X.A)(i:Nat)(hi:δ[i]?=some (.ref a))(hd:H a=some (.dK kvs))(hk:VE X ek δ (oB κ))(hy:ic kvs κ=some (.ref c))(hc:H c=some (.lst xs))(hv:VE X e δ d)(hl:xs.length<sizeLine)
  (q:∀v Ha Hb,c6 H0 H Ha Hb->Rep X.K Ha v d->D.nx σ (upd Hb c (.lst (xs ++ [v]))))
  (hN:ow X i x:=by ac_rfl)
  (hsl:FV ek:=by intro _ _;rfl)(gA:uS X (.Subscript (.Name x px) ek po) "append":=by rfl)
  (hs:kO X e []:=by rfl)
  (lj:Ft X pc [e]:=by rfl)
  (hline:(pa.endLine==pc.line)=true:=by rfl)(fD:rC X pc []:=by rfl)(oA:swapsWith (.Call (.Attribute (.Subscript (.Name x px) ek po) "append" pa) [e] [] pc) none pos.line X.env=pure false:=by rfl):
  cS X (.Expr (.Call (.Attribute (.Subscript (.Name x px) ek po) "append" pa) [e] [] pc) pos) D σ H:=λpins s I=>by
 refine lL (rH dH fK fL lq (ym (Fe hr) (ug hN) cB hsl) (cY cB eV hs) gA lj hline hs fD) oA pins s σ H D I ?_
 refine#[_,f.slot i _ hi,hk B0 B σ H0 H _ f λu H1 cV g1 r1=>?_]
 obtain rfl:=wy r1;exact#[a,.ref c,rfl,by rw[<-hy];exact pD.k (g1.big _ _ hd),.inl #[rfl,_,jx.of (g1.big _ _ hc)],(hv B0 B σ H1 cV _ (f.grow g1) λv H2 fS g2 r2=>(#[c,xs,v,rfl,rfl,g2.big _ _ (g1.big _ _ hc),hl,q v H2 fS (g1.trans g2) r2]))]
end
section
variable{X:Cx}{B0 B H0 H:Hp}{σ:St}{D:Ends}{δ:List Slot}{body orelse:List e6}{tg iter c e:bC}{ds:List ae}{d:ae}{pos:Pos}{R:OR}
theorem Us(G:OF X.K B0 B R H0 H σ δ)(h:VE X e δ d)(q:∀v cZ H',c6 B0 B cZ H'->Rep X.K cZ v d->D.rt v H'):cS X (.Return (some e) pos) D σ H:=
 b_ h B0 B σ H0 H D G.fr q
end
section
variable{X:Cx}{δ δ2:List Slot}{body rest:List e6}{tg iter c:bC}{ds:List ae}{o:Out}{pos p1 p2:Pos}
end
section
variable{X:Cx}{sc:j'}{own N:List Str}{cap:List Nat}{cl:List (Str×aF)}{tg elt iter:bC}{ifs:List bC}{δ:List Slot}{ds:List ae}{pos:Pos}{tgt:FZ}
end
def LR(K:ao)(d:aF)(ds:List ae):OR:=λH0 H as=>as=[d]/\∃xs,H d=some (.lst xs)/\b9 K H0 xs ds
theorem LR.mono{d:aF}:cj (LR K d ds):=λH0 H Ha Hb as #[e,xs,h1,h2] sm hb=>#[e,xs,by rw[hb d (by rw[e];simp)];exact h1,h2.mono sm]
def uT(kl:List (Str×List ae))(cs:List aF):List (Key×V):=(kl.zip cs).map λz=>(bo z.1.1,.ref z.2)
def Oh(K:ao)(H0 H:Hp)(kl:List (Str×List ae))(cs:List aF):Prop:=cs.length=kl.length/\∀(i:Nat)c q,cs[i]?=some c->kl[i]?=some q->∃xs,H c=some (.lst xs)/\b9 K H0 xs q.2
section
variable{K:ao}{d a:aF}{day:List ae}{kl:List (Str×List ae)}
theorem lY:∀{kl:List (Str×List ae)}{cs:List aF},cs.length=kl.length->(uT kl cs).map (·.1)=kl.map λq=>(bo q.1:Key)
 | [],[],_=>rfl
 | [],_::_,e=>by cases e
 |_::_,[],e=>by cases e
 |q::h,c::cs,e=>by
  have:=lY ↑e
  unfold uT at this ⊢;rw[eT,ay,ay,this];rfl
theorem zk:∀{kl:List (Str×List ae)}{cs:List aF},cs.length=kl.length->(uT kl cs).map (·.2)=cs.map V.ref
 | [],[],_=>rfl
 | [],_::_,e=>by cases e
 |_::_,[],e=>by cases e
 |q::h,c::cs,e=>by
  have:=zk ↑e
  unfold uT at this ⊢;rw[eT,ay,ay,this];rfl
theorem Cm:∀{kl:List (Str×List ae)}{cs:List aF}{j:Nat}{q:Str×List ae}{c:aF},(kl.map (·.1)).Nodup->kl[j]?=some q->cs[j]?=some c->ic (uT kl cs) (bo q.1)=some (.ref c)
 | [],_,_,_,_,_,h,_=>by simp at h
 |_::_,[],_,_,_,_,_,h=>by simp at h
 |p::kl,b::cs,0,q,c,_,h1,h2=>by
  cases h1;cases h2;exact lV rfl
 |p::kl,b::cs,j+1,q,c,nd,h1,h2=>by
  rw[ay,bY]at nd;have XD:kl[j]?=some q:=by simpa using h1
  have ne:¬(bo p.1:Key)=bo q.1:=λz=>nd.1 (by rw[j0 z];exact av.mpr #[q,aQ XD,rfl])
  have e:uT (p::kl) (b::cs)=(bo p.1,V.ref b)::uT kl cs:=rfl;rw[e,ku ne];exact Cm nd.2 XD ↑h2
theorem set_same{α β:Type}{f:α->β}{l:List α}{j:Nat}{x y:α}(h:l[j]?=some x)(e:f y=f x):(l.map f).set j (f y)=l.map f:=by
 refine je λn=>?_
 by_cases hn:n=j
 ·subst hn
  rw[bf (by rw[ai];exact(aH.mp h).1),aG,h,e];rfl
 ·rw[a9 (bT hn)]
theorem D2:∀{kl ZH:List (Str×List ae)}{cs:List aF},ZH.map (·.1)=kl.map (·.1)->uT ZH cs=uT kl cs
 | [],[],_,_=>rfl
 | [],_::_,_,e=>by cases e
 |_::_,[],_,e=>by cases e
 |q::h,q'::h',cs,e=>by
  obtain⟨e1,e2⟩:=iK e;cases cs with
  |nil=>rfl
  |cons c cs=>
   show(bo q'.1,V.ref c)::uT h' cs=(bo q.1,V.ref c)::uT h cs
   rw[show q'.1=q.1 from e1,D2 e2]
end
section
variable{X:Cx}{B0 B H0 H:Hp}{σ:St}{D:Ends}{δ:List Slot}{a d:aF}{e ek:bC}{dv:ae}{day:List ae}{kl:List (Str×List ae)}{pos px po pa pc pd p0:Pos}{x y:Str}{k j:Nat}{rs:List Str}{ds:List ae}
variable{c:bC}{dp:ae}{R:OR}{p:aF}{body orelse:List e6}{kb:Bool}
end
section
variable{X:Cx}{B0 B H0 H:Hp}{σ:St}{D:Ends}{δ:List Slot}{ev:bC}{d:ae}{pos px ps pk:Pos}{x y:Str}{k:Nat}{jk}
end
section
variable{P:bA}{w:cg}{K:ao}{mg:Str->Option aD}{base:cM}{x qual:Str}{st:e6}{f:aF}{fd:eU}{N ps:List Str}{k:Nat}
end
section
variable{X:Cx}{e a:bC}{te:TE}{δ:List Slot}{ds:List ae}{pos p2 pu pk:Pos}{j}
end
section
variable{X:Cx}{B0 B H0 H:Hp}{σ:St}{D:Ends}{δ:List Slot}{e:bC}{pos Ao px p:Pos}{x:Str}{kv:List (Str×ae)}
theorem Ge:g8 X (.type "dict") (λxs H Q=>∃a kvs,xs=[.ref a]/\H a=some (.dK kvs)/\∀p,H p=none->Q (.ref p) (upd H p (.dK kvs))):=by
 intro pins s σ H xs us Q I r h;obtain⟨a,kvs,rfl,ha,q⟩:=h;obtain⟨u,rfl,rx⟩:=vals1 r;cases rx;exact LJ I (.of ha) λp s' hp I'=>#[.ref p,_,I',rfl,q p hp]
end
inductive vp:ae->Prop
 |non:vp .none
 |bl (b:Bool):vp (.bool b)
 |int (i:Int):vp (.int i)
 |str (x:Str):vp (.str x)
 |tup {ds:List ae}:(∀d∈ds,vp d)->vp (.tuple ds)
def lB(as:List aF)(H:Hp):Hp:=λb=>if b∈as then none else H b
theorem vq(h:b∈as):lB as H b=none:=qQ3 h
theorem il(h:b∉as):lB as H b=H b:=qQ2 h
def vt(H:Hp)(a:aF):Prop:=∀xs,H a≠some (.tup xs)/\∀o,H a≠some (.tM o (.tup xs))
section
variable{K:ao}{C:Hp}{as:List aF}
theorem oH.out(hn:∀a∈as,vt C a)(h:oH K C a xs):oH K (lB as C) a xs:=by
 rcases h with(h|⟨o,h⟩)|h
 ·exact .inl (.inl ((il λz=>(hn a z xs).1 h).trans h))
 ·exact .inl (.inr #[o,by rw[il λz=>(hn a z xs).2 o h];exact h])
 ·exact .inr h
theorem b9.outs:∀{ds:List ae}{xs:List V},b9 K C xs ds->(∀d∈ds,∀v,Rep K C v d->Rep K (lB as C) v d)->b9 K (lB as C) xs ds
 | [],_,r,_=>by cases r;exact .nil
 |d::ds,_,r,h=>by
  cases r with
  |cons a t=>exact .cons (h d aM _ a) (b9.outs t λz hz=>h z (aT _ hz))
theorem Rep.out(hn:∀a∈as,vt C a)(h:vp d):∀v,Rep K C v d->Rep K (lB as C) v d:=by
 induction h with
 |non=>intro v r;cases r;exact .non
 |bl b=>intro v r;cases r;exact .bl b
 |int i=>intro v r;cases r;exact .int i
 |str x=>intro v r;cases r;exact .str x
 |tup _ ih=>
  intro v r;cases r with
  |tup hq rs=>exact .tup (hq.out hn) (rs.outs λd hd v r=>ih d hd v r)
end
section
variable{X:Cx}{B0 B H0 H:Hp}{σ:St}{D:Ends}{δ:List Slot}{p:aF}{e:bC}{d dp:ae}{pos px:Pos}{y:Str}{R:OR}
end
section
variable{X:Cx}{B0 B H0 H:Hp}{σ:St}{D:Ends}{δ:List Slot}{p:aF}{e1 e2 e3:bC}{d1 d2 d3:ae}{pos px:Pos}{x:Str}
end
def D3(l:List Int):ae:=.dict (l.map λg=>(.int g,.bool true))
theorem Iy:∀{l:List Int}{ws:List (Key×V)},(ws.map λp=>oB p.1)=(l.map λg=>dD g)->ws.map (·.1)=l.map (λg=>(iR g:Key))
 | [],[],_=>rfl
 | [],_::_,e=>by simp at e
 |_::_,[],e=>by simp at e
 |g::l,q::ws,e=>by
  rw[ay,ay]at e ⊢
  injection e with h1 h2
  rw[Iy h2]
  congr 1
  cases eq:q.1 with
  |inl i=>rw[eq]at h1;injection h1 with h1;rw[h1]
  |inr x=>rw[eq]at h1;cases h1
theorem Rep.D4{v:V}{l:List Int}(r:Rep K H v (D3 l)):∃a ws,v=.ref a/\H a=some (.dK ws)/\ws.map (·.1)=l.map (λg=>(iR g:Key)):=by
 unfold D3 at r
 generalize e:l.map (λg=>(dD g,iE true))=ds at r
 cases r with
 |dct h k t=>exact#[_,_,rfl,h,Iy (by rw[<-k,<-e,aB];rfl)]
 |Tz h k t=>cases l<;>simp at e
 |obj h c n k t=>cases l<;>simp at e
 |TF h c n k t=>cases l<;>simp at e
 |TB h k t=>cases l<;>simp at e
theorem D5:∀{l:List Int}{ws:List (Key×V)}(x:Int),ws.map (·.1)=l.map (λg=>(iR g:Key))->(ic ws (iR x)).isSome=decide (x∈l)
 | [],[],x,_=>by simp[ic]
 | [],_::_,_,e=>by simp at e
 |_::_,[],_,e=>by simp at e
 |g::l,q::ws,x,e=>by
  rw[ay,ay]at e
  injection e with e1 e2
  have ih:=D5 x e2;unfold ic at ih ⊢;rw[cI,e1]
  by_cases h:g=x
  ·rw[qQ1 (by rw[h]),qQ1 (by simp[h])];rfl
  ·rw[qQ0 (λz=>h (Di z))]
   show(Option.map _ (List.find? _ ws)).isSome=_
   rw[ih];rw[eA,decide_eq_true_iff,decide_eq_true_iff,ax];exact#[.inr,λz=>z.resolve_left λy=>h y.symm]
section
variable{X:Cx}{a b:bC}{δ:List Slot}{pos px:Pos}{k:Nat}{x:Int}{l:List Int}{y:Str}{ds:List ae}
theorem uw(hr:dB k X.A)(h2:VE X b δ (.int x))(h1:VE X a δ (D3 l))(hm:behindInMarks .NotIn a=false:=by with_unfolding_all rfl):VT X (.Compare b [.NotIn] [a] pos) δ (!decide (x∈l)):=
 .of (K7 (A1 (Fe hr) cB cB) hm) λB0 B σ H0 H Q fr q=>h2 B0 B σ H0 H _ fr λu H1 cV g r2=>h1 B0 B σ H1 cV _ (fr.grow g) λv H2 fS g2 r=>by
  obtain⟨p,ws,rfl,hp,ke⟩:=r.D4;cases r2;refine#[p,_,rfl,pD.k (k:=.inl x) (g2.sub _ _ hp),_,rfl,?_]
  rw[D5 x ke];exact q H2 fS (g.trans g2)
end
section
variable{X:Cx}{B0 B H0 H:Hp}{σ:St}{D:Ends}{δ:List Slot}{p b:aF}{e ek tg iter:bC}{body:List e6}{d dp:ae}{ds:List ae}{pos px ps:Pos}{x y:Str}{R R':OR}{k:Nat}{κ:Key}
theorem OF.list(G:OF X.K B0 B R H0 H σ δ){i:Nat}(hi:δ[i]?=some (.ref p))(hR:∀Ha Hb as,cK Ha Hb->R Ha Hb as->Rep X.K (jM as Hb Ha) (.ref p) dp)(h:VO X e (δ.set i (.val dp)) ds)(hs:∀d∈ds,A5 d=true)(q:∀v Ha Hb,c6 H0 H Ha Hb->Rep X.K Ha v (.list ds)->Q v Hb):cE X e σ H Q:=by
 obtain⟨C0,f1⟩:=G.look hi hR;refine h C0 H σ C0 H _ f1 λa xs C1 H1 g h1 h2 h3 r=>?_
 refine q _ _ H1 #[g.big,(λb u z=>by rw[aO (bG z (G.fr.sub.free h1))];exact z),λb u z=>?_,λb z=>?_] (.lst (jx.of bh) (r.JL hs))
 ·by_cases hb:b=a
  ·subst hb;rw[bh]at z;rwa[<-z]
  ·rw[aO hb]at z;exact g.big b u (G.fr.sub b u z)
 ·by_cases hb:b=a
  ·subst hb;exact .inr h1
  ·rw[aO hb]at z;exact .inl z
end
section
variable{K:ao}{B0 B H0 H Ha Hb:Hp}{σ:St}{δ:List Slot}{R R':OR}{as:List aF}
theorem D6:cK (lB as H) H:=λb u e=>by
 by_cases h:b∈as
 ·rw[vq h]at e;cases e
 ·rwa [il h]at e
end
def DL(K:ao)(a:aF)(kl:List (Str×List ae)):OR:=λH0 H as=>∃cs,as=a::cs/\(a::cs).Nodup/\H a=some (.dK (uT kl cs))/\Oh K H0 H kl cs
theorem DL.mono:cj (DL K a kl):=by
 rintro H0 H Ha Hb as ⟨cs,rfl,nd,h3,h4,h5⟩ sm hb
 refine#[cs,rfl,nd,by rw[hb a (by simp)];exact h3,h4,λi c q e1 e2=>?_]
 obtain⟨ys,y1,y2⟩:=h5 i c q e1 e2;exact#[ys,by rw[hb c (by simp[aQ e1])];exact y1,y2.mono sm]
section
variable{X:Cx}{B0 B H0 H:Hp}{σ:St}{D:Ends}{δ:List Slot}{a p:aF}{e:bC}{d:ae}{pos px pc p0:Pos}{x:Str}{R:aF->OR}{R':OR}{rs:List Str}{l:List (Str×ae)}
end
section
variable{X:Cx}{B0 B H0 H:Hp}{σ:St}{D:Ends}{δ:List Slot}{d:aF}{e:bC}{dv:ae}{ds:List ae}{pos px pa pc pd:Pos}{x:Str}{R:OR}
end
section
variable{X:Cx}{B0 B H0 H:Hp}{σ:St}{D:Ends}{δ:List Slot}{a d:aF}{ps as0:List aF}{gs:List (List ae)}{e ix:bC}{es:List bC}{dv dl:ae}{l l' ds:List ae}{pos px py pa pc pd p0 p1 p4 p5:Pos}{x y:Str}
end
section
variable{X:Cx}{δ:List Slot}{e:bC}{ds es:List ae}{x:Str}{px pos:Pos}
end
theorem PZ{T:String}(hT:T="tuple"\/T="list")(l:aF)(items:Array aD)(n:Nat)(b:aF)(oy:Array aD)(n2:Nat)(dd:Option aF)(sl:Array (Option aD))(HY:¬(!items.isEmpty&&jw (items.size+oy.size))=true)(hn:items.size<=sizeLine)(hz:items.size+oy.size<=sizeLine+1):
  Meets (qY.«list.extend» #[[.ref l,.ref b],[]]) (λ_ R s=>s.heap.get? l=some { cls:=.type "list",data:=.seq items n }/\s.heap.get? b=some { cls:=.type T,dict:=dd,data:=.seq oy n2,slots:=sl }/\R (.ok (.ret .none)) { s with heap:=s.heap.update l (Bw λx=>x++oy) }):=
 .of_wp λprog w A R s h=>by
  obtain⟨hp,g,d,tk,os⟩:=s;obtain⟨hl,hb,h⟩:=h;rcases hT with rfl|rfl<;>(wp_walk using eG hb,eG hl)
  all_goals
   have e:(Bw (λx=>x++oy) { cls:=qU "list",data:=Data.seq items n }).data.pastItsLine=none:=by
    show(if(items++oy).size>sizeLine+1 then _ else _)=none
    rw[qQ2 (by rw[Array.size_append];omega)]
   rw[e]
   wp_walk
   exact#[_,rfl,h]
def XE(K:ao):V->List V->Hp->VK->Prop:=λx vs H Q=>∃l b xs zs,x=.ref l/\vs=[.ref b]/\H l=some (.lst xs)/\(oH K H b zs\/jx K H b zs)/\xs.length+zs.length<=sizeLine/\Q .non (upd H l (.lst (xs++zs)))
theorem P0:Vm X "list.extend" (XE X.K):=by
 intro pins s σ H x vs v us Q I rx rv h;obtain⟨l,b,xs,zs,rfl,rfl,hH,hB,hz,q⟩:=h;cases rx;obtain⟨u,rfl,ru⟩:=rv.one;cases ru;obtain⟨z,its,n,r,hl,e⟩:=I.OX hH;obtain⟨T,hT,oy,n2,dd,sl,r2,ho⟩:∃(T:String)(_:T="tuple"\/T="list")(oy:List aD)(n2:Nat)(dd:Option aF)(sl:Array (Option aD)),dI zs oy/\s.heap.get? b=some { cls:=.type T,dict:=dd,data:=.seq oy.toArray n2,slots:=sl }:=by
  rcases hB with hB|hB
  ·obtain⟨oy,r2,⟨⟨oc,dd,od,sl⟩,ho,hc,n2,Ut⟩,_⟩:=I.tuple hB
   subst hc;subst Ut
   exact#[_,.inl rfl,oy,n2,dd,sl,r2,ho]
  ·obtain⟨oy,r2,⟨⟨oc,dd,od,sl⟩,n2,ho,hc,_,Ut⟩,_⟩:=I.list hB
   subst hc;subst Ut
   exact#[_,.inr rfl,oy,n2,dd,sl,r2,ho]
 have Oe:=r2.length;have BU:its.toArray.size+oy.toArray.size<=sizeLine:=by rw[bL,bL];omega
 have HY:¬(!its.toArray.isEmpty&&jw (its.toArray.size+oy.toArray.size))=true:=by
  rw[Dy BU,AG];exact eS
 refine iB F.slot_list_extend #[_,e,rfl] F.entry_list_extend (F.args_list_extend_2 _ _) (PZ hT l its.toArray n b oy.toArray n2 dd sl HY (by rw[bL];omega) ∅) #[e,ho,?_]
 refine#[.non,_,I.Ta hH e (by simp) (r.append r2) ?_,rfl,q]
 rw[aV];omega
def J5(C:aF)(fs:List (Str×ae)):ae:=.dict ((.bool true,.int (Int.ofNat C))::fs.map λp=>(.str p.1,p.2))
theorem Bc:∀{ws:List (Str×V)}{fs:List (Str×ae)},ws.map (λp=>aS p.1)=fs.map (λp=>aS p.1)->ws.map (·.1)=fs.map (·.1)
 | [],[],_=>rfl
 | [],_::_,h=>by simp at h
 |_::_,[],h=>by simp at h
 |q::ws,p::fs,h=>by
  rw[ay,ay]at h ⊢
  injection h with h1 h2
  injection h1 with h1
  rw[Bc h2,h1]
theorem Rep.D7{v:V}{fs:List (Str×ae)}(r:Rep K H v (J5 C fs)):∃a dx ws,v=.ref a/\H a=some (.ins C dx ws)/\qM K C/\(∀f∈ws.map (·.1),eK K C f)/\ws.map (·.1)=fs.map (·.1)/\b9 K H (ws.map (·.2)) (fs.map (·.2)):=by
 unfold J5 at r
 generalize e:fs.map (λp=>(aS p.1,p.2))=ds at r
 cases r with
 |dct h k t=>
  rename_i a ws
  exfalso
  cases ws with
  |nil=>simp at k
  |cons q ws=>
   rw[ay,ay]at k
   injection k with k1 _
   cases eq:q.1 with
   |inl i=>rw[eq]at k1;cases k1
   |inr x=>rw[eq]at k1;cases k1
 |TF h c nn k t=>
  refine#[_,_,_,rfl,h,c,nn,Bc (by rw[<-k,<-e,aB];rfl),?_]
  rwa[<-e,aB]at t
def rT(P:bA)(w:cg)(K:ao)(mg:Str->Option aD)(base:cM)(k:Nat)(C:aF)(m:Str)(ps:List Str)(sp:Sp):Prop:=
 ∃f fd,dW P w K mg base gS k f fd ps sp/\qM K C/\Lh K C m f/\Binds K fd ps []
theorem ux{α:Type}:∀{ws:List (Str×α)},m∉ws.map (·.1)->ws.lookup m=none
 | [],_=>rfl
 |(x,v)::ws,h=>by
  rw[ay,ax,not_or]at h;rw[dN,beq_eq_false_iff_ne.mpr h.1];exact ux h.2
section
variable{X:Cx}{o e:bC}{es:List bC}{δ:List Slot}{d:ae}{ds zs:List ae}{fs:List (Str×ae)}{C:aF}{m:Str}{ps:List Str}{k:Nat}{pos apos:Pos}{pl:Sem Bool}
theorem P1{f:Str}(h:VE X o δ (J5 C fs))(hf:iT fs f=some d)(hb:uS X o f:=by rfl):VE X (.Attribute o f pos) δ d:=
 .of (mK cB hb) λB0 B σ H0 H Q fr q=>h B0 B σ H0 H _ fr λv H1 cV g r=>by
  obtain⟨p,dx,ws,rfl,hp,cl,nn,ke,rs⟩:=r.D7;obtain⟨u,h1,h2,h3⟩:=F3 ke rs f d hf;exact#[p,C,dx,ws,u,rfl,g.sub _ _ hp,cl,nn f h2,h1,q u H1 cV g h3]
theorem Cp{R:List ae->ae->Prop}(M:rT X.prog X.w X.K X.mg X.base k C m ps (gu X.K R))(hr:dB k X.A)(h:VE X o δ (J5 C fs))(hl:m∉fs.map (·.1))(ha:VA X (e::es) δ ds)(hp:R (J5 C fs::ds) d)
  (Dp:kO X e es:=by rfl)(mX:rC X pos es:=by rfl)
  (ht:eval (.Call (.Attribute o m apos) (e::es) [] pos) X.env=(do
   let ov <-eval o X.env
   standAt apos.atName
   let(f,first) <-holding [ov] (getMethod ov m pl)
   callWith pos f first (backTo pos (starEach (e::es) X.env)) (backToKw pos (keywordEach [] X.env))):=by rfl) :
  VE X (.Call (.Attribute o m apos) (e::es) [] pos) δ d:=by
 obtain⟨f,fd,F,cl,hm,hb⟩:=M;obtain⟨t,pa,qa⟩:=ha;refine .of (HS cB cl hm F hr hb .nil tN pa Dp mX ht) λB0 B σ H0 H Q fr q=>h B0 B σ H0 H _ fr λv H1 cV g r=>?_
 obtain⟨p,dx,ws,rfl,hp',_,nn,ke,rs⟩:=r.D7;refine#[p,dx,ws,rfl,g.sub _ _ hp',ux (by rw[ke];exact hl),?_]
 refine qa B0 B σ H1 cV _ (fr.grow g) λvs H2 fS g2 Ri=>?_
 rw[cy];exact#[H2,_,d,g2.sub,.cons (r.mono g2.e8) Ri,hp,λv H3 xU g3 r3=>q v H3 xU ((g.trans g2).trans g3) r3]
end
section
variable{X:Cx}{B0 B H0 H:Hp}{σ:St}{D:Ends}{δ:List Slot}{p C dx a c:aF}{e ek ev:bC}{es:List bC}{d dp:ae}{ds:List ae}{pos px po ps pa pc p0 apos:Pos}{x y fl:Str}{fs:List (Str×V)}{R:OR}{k:Nat}{κ:Key}{kvs:List (Key×V)}{xs:List V}
def Dg(X:Cx)(B0 B:Hp)(R:OR)(σ:St)(δ:List Slot)(e:bC)(d:ae):Prop:=∀H0 H,OF X.K B0 B R H0 H σ δ->∀Q:V->Hp->Prop,(∀v Ha Hb,c6 H0 H Ha Hb->Rep X.K Ha v d->Q v Hb)->cE X e σ H Q
theorem jm(h:VE X e δ d):Dg X B0 B R σ δ e d:=λH0 H G Q q=>h H0 H σ H0 H Q G.own q
theorem Uu(i:Nat)(hi:δ[i]?=some (.ref p))(hR:∀Ha Hb as,cK Ha Hb->R Ha Hb as->Rep X.K (jM as Hb Ha) (.ref p) dp)(h:VO X e (δ.set i (.val dp)) ds)(hs:∀d∈ds,A5 d=true):Dg X B0 B R σ δ e (.list ds):=λH0 H G Q q=>G.list hi hR h hs q
def XF(X:Cx)(B0 B:Hp)(R:OR)(σ:St)(δ:List Slot)(es:List bC)(ds:List ae):Prop:=∃t,PA X es t/\∀H0 H,OF X.K B0 B R H0 H σ δ->∀Q:List V->Hp->Prop,(∀vs Ha Hb,c6 H0 H Ha Hb->b9 X.K Ha vs ds->Q vs Hb)->t σ H Q
theorem Cq:XF X B0 B R σ δ [] []:=#[_,eV,λH0 H G Q q=>q [] H0 H (.refl G.fr.sub) .nil]
theorem oP(m:cj R)(h:Dg X B0 B R σ δ e d)(ha:XF X B0 B R σ δ es ds)(he:kO X e es:=by rfl):XF X B0 B R σ δ (e::es) (d::ds):=by
 obtain⟨t,pt,qt⟩:=ha;exact#[_,cY cB pt he,λH0 H G Q q=>h H0 H G _ λv H1 cV g r=>(qt H1 cV (G.go m (G.own.grow g) G.no) _ λvs H2 fS g2 rs=>q _ H2 fS (g.trans g2) (.cons (r.mono g2.e8) rs))]
theorem XG(G:OF X.K B0 B R H0 H σ δ)(i:Nat)(hi:δ[i]?=some (.ref p))(ins:H p=some (.ins C dx fs))(cl:qM X.K C)(na:eK X.K C fl)(hl:fs.length<1000)(hv:Dg X B0 B R σ δ ev d)
  (q:∀v Ha Hb,c6 H0 H Ha Hb->Rep X.K Ha v d->D.nx σ (upd Hb p (.ins C dx (iz fl v fs))))
  (hN:ow X i x:=by ac_rfl)
  (hs:uX X pos ev (.Attribute (.Name x px) fl po):=by rfl):
  cS X (.Assign [.Attribute (.Name x px) fl po] ev pos) D σ H:=λpins s I=>by
 refine oX (ug hN) cB hs pins s σ H D I ?_
 exact hv H0 H G _ λv H1 cV g r=>(#[.ref p,G.fr.slot i _ hi,p,C,dx,fs,rfl,g.big _ _ ins,cl,na,hl,q v H1 cV g r])
theorem XH(m:cj R)(G:OF X.K B0 B R H0 H σ δ)(hr:dB k X.A)(i:Nat)(hi:δ[i]?=some (.ref p))(ins:H p=some (.ins C dx fs))(cl:qM X.K C)(na:eK X.K C fl)(lk:fs.lookup fl=some (.ref a))(hd:H a=some (.dK kvs))(hk:Dg X B0 B R σ δ ek (oB κ))(hv:Dg X B0 B R σ δ ev d)(hl:kvs.length<sizeLine)
  (q:∀v Ha Hb,c6 H0 H Ha Hb->Rep X.K Ha v d->D.nx σ (upd Hb a (.dK (putK kvs κ v))))
  (hN:ow X i x:=by ac_rfl)
  (hb:uS X (.Name x px) fl:=by rfl)(hs:uX X pos ev (.Subscript (.Attribute (.Name x px) fl po) ek ps):=by rfl):
  cS X (.Assign [.Subscript (.Attribute (.Name x px) fl po) ek ps] ev pos) D σ H:=λpins s I=>by
 refine sF (Fe hr) (mK (ug hN) hb) cB cB hs pins s σ H D I ?_
 refine hv H0 H G _ λv H1 cV g1 r1=>?_
 refine#[_,G.fr.slot i _ hi,p,C,dx,fs,_,rfl,g1.big _ _ ins,cl,na,lk,?_]
 refine hk H1 cV (G.go m (G.own.grow g1) G.no) _ λu H2 fS g2 r2=>?_
 obtain rfl:=wy r2;exact#[a,_,rfl,xS.k (g2.big _ _ (g1.big _ _ hd)) hl,q v H2 fS (g1.trans g2) (r1.mono g2.e8)]
theorem XI(m:cj R)(G:OF X.K B0 B R H0 H σ δ)(hr:dB k X.A)(i:Nat)(hi:δ[i]?=some (.ref p))(ins:H p=some (.ins C dx fs))(cl:qM X.K C)(na:eK X.K C fl)(lk:fs.lookup fl=some (.ref a))(hd:H a=some (.dK kvs))(hk:Dg X B0 B R σ δ ek (oB κ))(hy:ic kvs κ=some (.ref c))(hc:H c=some (.lst xs))(hv:Dg X B0 B R σ δ e d)(hl:xs.length<sizeLine)
  (q:∀v Ha Hb,c6 H0 H Ha Hb->Rep X.K Ha v d->D.nx σ (upd Hb c (.lst (xs ++ [v]))))
  (hN:ow X i x:=by ac_rfl)
  (hb:uS X (.Name x px) fl:=by rfl)(hsl:FV ek:=by intro _ _;rfl)(gA:uS X (.Subscript (.Attribute (.Name x px) fl p0) ek po) "append":=by rfl)
  (hs:kO X e []:=by rfl)
  (lj:Ft X pc [e]:=by rfl)
  (hline:(pa.endLine==pc.line)=true:=by rfl)(fD:rC X pc []:=by rfl)(oA:swapsWith (.Call (.Attribute (.Subscript (.Attribute (.Name x px) fl p0) ek po) "append" pa) [e] [] pc) none pos.line X.env=pure false:=by rfl):
  cS X (.Expr (.Call (.Attribute (.Subscript (.Attribute (.Name x px) fl p0) ek po) "append" pa) [e] [] pc) pos) D σ H:=λpins s I=>by
 refine lL (rH dH fK fL lq (ym (Fe hr) (mK (ug hN) hb) cB hsl) (cY cB eV hs) gA lj hline hs fD) oA pins s σ H D I ?_
 refine#[_,G.fr.slot i _ hi,p,C,dx,fs,_,rfl,ins,cl,na,lk,hk H0 H G _ λu H1 cV g1 r1=>?_]
 obtain rfl:=wy r1;refine#[a,.ref c,rfl,by rw[<-hy];exact pD.k (g1.big _ _ hd),.inl #[rfl,_,jx.of (g1.big _ _ hc)],?_]
 exact hv H1 cV (G.go m (G.own.grow g1) G.no) _ λv H2 fS g2 r2=>(#[c,xs,v,rfl,rfl,g2.big _ _ (g1.big _ _ hc),hl,q v H2 fS (g1.trans g2) r2])
end
section
variable{X:Cx}{a b c:bC}{δ:List Slot}{d1 d2 d3:ae}{pos:Pos}{k:Nat}{x:Int}{l:List Int}
end
section
variable{X:Cx}{a e:bC}{δ:List Slot}{ds es:List ae}{pos p p2 Ao px:Pos}{k:Nat}{x:Str}
end
section
variable{X:Cx}{B0 B H0 H:Hp}{σ:St}{D:Ends}{δ:List Slot}{p C dx a:aF}{e ek ev:bC}{es:List bC}{ds:List ae}{pos px po ps pk p0:Pos}{x y fl:Str}{fs:List (Str×V)}{R:OR}{k:Nat}{κ:Key}{kvs:List (Key×V)}{P:Hp->HO->Prop}
def Iz(X:Cx)(σ:St)(H0 H:Hp)(e:bC)(P:Hp->HO->Prop):Prop:=∀Q:V->Hp->Prop,(∀l o Ha Hb,c6 H0 H Ha Hb->H l=none->Ha l=none->Hb l=some o->P Ha o->Q (.ref l) Hb)->cE X e σ H Q
theorem vv(sm:cK H0 H):Iz X σ H0 H (.Dict [] [] pos) (λ_ o=>o=.dK []):=λQ q pins s I=>pE pins s σ H Q I λl hl=>q l _ H0 _ (.loose sm hl) hl (sm.free hl) bh rfl
theorem P2(f:gy X.K B0 B H0 H σ δ)(h:VO X e δ ds):Iz X σ H0 H e (λHa o=>∃xs,o=.lst xs/\b9 X.K Ha xs ds):=λQ q=>h B0 B σ H0 H Q f λa xs H1 cV g h1 h2 h3 r=>q a _ H1 cV g h1 h2 h3 #[xs,rfl,r]
theorem Uv(G:OF X.K B0 B R H0 H σ δ)(i:Nat)(hi:δ[i]?=some (.ref p))(ins:H p=some (.ins C dx fs))(cl:qM X.K C)(na:eK X.K C fl)(hl:fs.length<1000)(hv:Iz X σ H0 H ev P)
  (q:∀l o Ha Hb,c6 H0 H Ha Hb->H l=none->Ha l=none->Hb l=some o->P Ha o->D.nx σ (upd Hb p (.ins C dx (iz fl (.ref l) fs))))
  (hN:ow X i x:=by ac_rfl)
  (hs:uX X pos ev (.Attribute (.Name x px) fl po):=by rfl):
  cS X (.Assign [.Attribute (.Name x px) fl po] ev pos) D σ H:=λpins s I=>by
 refine oX (ug hN) cB hs pins s σ H D I ?_
 exact hv _ λl o H1 cV g z1 z2 z3 z4=>(#[.ref p,G.fr.slot i _ hi,p,C,dx,fs,rfl,g.big _ _ ins,cl,na,hl,q l o H1 cV g z1 z2 z3 z4])
theorem Uw(m:cj R)(G:OF X.K B0 B R H0 H σ δ)(hr:dB k X.A)(i:Nat)(hi:δ[i]?=some (.ref p))(ins:H p=some (.ins C dx fs))(cl:qM X.K C)(na:eK X.K C fl)(lk:fs.lookup fl=some (.ref a))(hd:H a=some (.dK kvs))(hk:VE X ek δ (oB κ))(hv:Iz X σ H0 H ev P)(hl:kvs.length<sizeLine)
  (q:∀l o Ha Hb,c6 H0 H Ha Hb->H l=none->Ha l=none->Hb l=some o->P Ha o->D.nx σ (upd Hb a (.dK (putK kvs κ (.ref l)))))(hmP:∀Ha Hb o,cK Ha Hb->P Ha o->P Hb o)
  (hN:ow X i x:=by ac_rfl)
  (hb:uS X (.Name x px) fl:=by rfl)(hs:uX X pos ev (.Subscript (.Attribute (.Name x px) fl po) ek ps):=by rfl):
  cS X (.Assign [.Subscript (.Attribute (.Name x px) fl po) ek ps] ev pos) D σ H:=λpins s I=>by
 refine sF (Fe hr) (mK (ug hN) hb) cB cB hs pins s σ H D I ?_
 refine hv _ λl o H1 cV g z1 z2 z3 z4=>?_
 refine#[.ref p,G.fr.slot i _ hi,p,C,dx,fs,.ref a,rfl,g.big _ _ ins,cl,na,lk,?_]
 refine hk H1 cV σ H1 cV _ (G.go m (G.own.grow g) G.no).own λu H2 fS g2 r2=>?_
 obtain rfl:=wy r2;exact#[a,_,rfl,xS.k (g2.big _ _ (g.big _ _ hd)) hl,q l o H2 fS (g.trans g2) z1 (g2.still z2 z3) (g2.big _ _ z3) (hmP _ _ _ g2.e8 z4)]
end
theorem IA:∀(kvs:List (Key×V))(vs:List (Key×aD))(l:List aD),KV kvs vs->l.length=vs.length->(∀(j:Nat)v,l[j]?=some v->∃k x,vs[j]?=some (k,x)/\(ei P w).is k v=true)->dI (kvs.map λq=>kV q.1) l:=by
 intro kvs
 induction kvs with
 |nil=>
  intro vs l r hl _;cases r;cases l with
  |nil=>exact .nil
  |cons _ _=>cases hl
 |cons q kvs ih=>
  intro vs l r hl hx;cases r with
  |cons h1 h2=>
   cases l with
   |nil=>cases hl
   |cons v l=>
    obtain⟨k,x,e1,e2⟩:=hx 0 v rfl;cases e1;refine .cons ?_ (ih _ l h2 ↑hl λj v hj=>by simpa using hx (j+1) v ↑hj)
    have:q.1=k:=h1.1;show RelV (kV q.1) v;rw[this];exact yr e2
theorem xY(hc:X.calm=true):g8 X (.type "list") (λxs H Q=>∃p kvs,xs=[.ref p]/\Rd H p (.dK kvs)/\∀l,H l=none->Q (.ref l) (upd H l (.lst (kvs.map λq=>kV q.1)))):=by
 intro pins s σ H xs us Q I r h;obtain⟨p,kvs,rfl,hp,q⟩:=h;obtain⟨u,rfl,rx⟩:=vals1 r;cases rx;obtain⟨z,hd,vs,rel,dd⟩:=hp.ok I.hok;obtain⟨ep,J2⟩:=dd.dictAt;have hlen:=rel.length;refine PySem.W.kdl_call (vV hd) (I.ok.hd hc) J2 (by rw[<-hlen];exact z) λh' tk Um c' hk hD D0=>?_
 have rv:=IA kvs vs Um.toList rel (cH.trans D0.1) λj v hj=>D0.2 j v (lI.symm.trans hj)
 exact#[.ref _,_,I.laid hk ∅ (show ia X.prog X.w _ h' _ (.lst _) from#[by rw[ai];exact z,_,c',rv,by simpa using hD]),rfl,q _ (I.hok.fresh ∅)]
theorem P4{kvs:List (Str×ae)}:xh K (λxs H Q=>∃p kvs,xs=[.ref p]/\Rd H p (.dK kvs)/\∀l,H l=none->Q (.ref l) (upd H l (.lst (kvs.map λq=>kV q.1)))) [wx kvs] (kvs.map λq=>.str q.1):=λvs H0 H Q s r q=>by
 obtain⟨v,rfl,r1⟩:=r.one;obtain⟨a,o,ws,rfl,ha,hk,_⟩:=r1.zj;refine#[a,ws,rfl,.inr #[o,s _ _ ha],λl hl=>q _ _ _ _ (.loose s hl) hl (s.free hl) bh ?_]
 have e:(ws.map λq=>kV q.1)=(kvs.map (·.1)).map V.str:=by
  have:=qQ6 (oF kV) hk;rw[aB,aB]at this;rwa[aB]
 have e2:(kvs.map λq=>aS q.1)=(kvs.map (·.1)).map aS:=by rw[aB];rfl
 rw[e,e2];exact sJ _
theorem MD(hk:cA X.K (.type "dict") (.type tn)=some kb):g8 X (.builtin "isinstance") (λxs H Q=>∃a ws,xs=[.ref a,.ty tn]/\Rd H a (.dK ws)/\Q (.bl kb) H):=by
 intro pins s σ H xs us Q I r h;obtain⟨a,ws,rfl,rx,q⟩:=h;obtain⟨u,w',rfl,r1,r2⟩:=vals2 r;cases r2;cases r1;obtain⟨_,_,vs,_,o,es,ep,e,ex,_⟩:=rx.ok I.hok;exact iM PySem.W.kitx_dict I.yg #[o,e,ex.1] hk (λz=>nomatch z) λtk=>#[.bl kb,H,I.tok tk,rfl,q]
theorem Gf{a:bC}{pos p p2:Pos}{kvs:List (Str×ae)}{x:Str}(h:VE X a δ (kP kvs))(hk:cA X.K (.type "dict") (.type tn)=some kb)(hb:bootBuiltins x=some (.type tn))(m1:X.mg "isinstance"=none)(m2:X.mg x=none)(hv:bootBuiltins "isinstance"=some (.builtin "isinstance"))
  (hg:Gl X "isinstance":=by rfl)(Ob:Gl X x:=by rfl)(hn:x≠"__name__":=by decide)(sZ:vX x:=by decide)(hs:starEach [a,.Name x p2] X.env=(false,eval a X.env)::starEach [.Name x p2] X.env:=by rfl)(p9:starEach [.Name x p2] X.env=(false,eval (.Name x p2) X.env)::starEach [] X.env:=by rfl)
  (mX:rC X pos [.Name x p2]:=by rfl):VE X (.Call (.Name "isinstance" p) [a,.Name x p2] [] pos) δ (.bool kb):=
 .of (rG (MD hk) hg m1 hv (cY cB (cY (HM Ob m2 hb (v:=.ty tn) rfl hn sZ) eV p9) hs) ⋯ ⋯ hs mX) λB0 B σ H0 H Q f q=>h B0 B σ H0 H _ f λv H1 cV g r=>by
  obtain⟨b,ws,rfl,hb,_,_⟩:=r.pH;exact#[b,ws,rfl,.inl (g.sub _ _ hb),q _ H1 cV g (.bl _)]
section
variable{X:Cx}{B0 B H0 H:Hp}{σ:St}{D:Ends}{δ:List Slot}{t a c:aF}{e ek:bC}{d:ae}{pos px po p0 pa pc q0:Pos}{x:Str}{j:Nat}{jj}{k:Nat}{κ:Key}{kvs:List (Key×V)}{xs us:List V}{rest:List e6}
end
def Sep(R F:OR):OR:=λH0 H as=>∃a1 a2,as=a1++a2/\(∀a∈a1,a∉a2)/\R H0 H a1/\F H0 H a2
def yt(R:OR):Prop:=∀H0 H as,R H0 H as->∀a∈as,vt H a
def qj(K:ao)(R:OR)(p:aF)(d:ae):Prop:=∀Ha Hb as,cK Ha Hb->R Ha Hb as->Rep K (jM as Hb Ha) (.ref p) d
section
variable{K:ao}{B0 B H0 H Ha Hb:Hp}{σ σ':St}{δ δ':List Slot}{R R' F F':OR}{a p:aF}{d:ae}{as:List aF}
theorem Sep.mono(m:cj R)(n:cj F):cj (Sep R F):=by
 rintro H0 H Ha Hb as ⟨a1,a2,rfl,dj,h1,h2⟩ sm hb
 exact#[a1,a2,rfl,dj,m _ _ _ _ _ h1 sm λa ha=>hb a (bF _ ha),n _ _ _ _ _ h2 sm λa ha=>hb a (bu _ ha)]
theorem Sep.nt(m:yt R)(n:yt F):yt (Sep R F):=by
 rintro H0 H as ⟨a1,a2,rfl,dj,h1,h2⟩ a ha
 rcases aR.mp ha with ha|ha
 ·exact m _ _ _ h1 a ha
 ·exact n _ _ _ h2 a ha
theorem uy{a1: List aF}(sb:cK Ha Hb)(h:∀a∈a1,a∈as):cK (jM a1 Hb Ha) (jM as Hb Ha):=λx u e=>by
 by_cases hx:x∈a1
 ·rw[hX hx]at e;rw[hX (h x hx)];exact e
 ·rw[lX hx]at e
  by_cases hy:x∈as
  ·rw[hX hy];exact sb x u e
  ·rw[lX hy];exact e
theorem Sep.xZ(h:qj K R p d):qj K (Sep R F) p d:=by
 rintro Ha Hb as sb ⟨a1,a2,rfl,dj,h1,h2⟩
 exact(h Ha Hb a1 sb h1).mono (uy sb λa ha=>bF _ ha)
theorem Sep.XJ(h:qj K F p d):qj K (Sep R F) p d:=by
 rintro Ha Hb as sb ⟨a1,a2,rfl,dj,h1,h2⟩
 exact(h Ha Hb a2 sb h2).mono (uy sb λa ha=>bu _ ha)
theorem OF.swap(G:OF K B0 B (Sep R F) H0 H σ δ):OF K B0 B (Sep F R) H0 H σ δ:=by
 obtain⟨_,h1,a1,a2,rfl,dj,h2,h3⟩:=G.ex;exact#[G.fr,G.no,a2++a1,λa ha=>h1 a (by rw[aR]at ha ⊢;exact ha.symm),a2,a1,rfl,λa ha hb=>dj a hb ha,h3,h2]
theorem OF.qk{R3:OR}(G:OF K B0 B (Sep R (Sep F R3)) H0 H σ δ):OF K B0 B (Sep F (Sep R3 R)) H0 H σ δ:=by
 obtain⟨_,h1,a1,_,rfl,dj,h2,a2,a3,rfl,Ff,h3,h4⟩:=G.ex;refine#[G.fr,G.no,a2++(a3++a1),λa ha=>h1 a (by simp only[aR]at ha ⊢;rcases ha with h|h|h<;>simp[h]),a2,a3++a1,rfl,λa ha hb=>?_,h3,a3,a1,rfl,λa ha hb=>dj a hb (by simp[ha]),h4,h2]
 rcases aR.mp hb with hb|hb
 ·exact Ff a ha hb
 ·exact dj a hb (by simp[ha])
theorem OF.assoc{R3:OR}(G:OF K B0 B (Sep (Sep R F) R3) H0 H σ δ):OF K B0 B (Sep R (Sep F R3)) H0 H σ δ:=by
 obtain⟨_,h1,_,a3,rfl,dj,⟨a1,a2,rfl,Ff,h2,h3⟩,h4⟩:=G.ex;refine#[G.fr,G.no,a1++(a2++a3),λa ha=>h1 a (by simp only[aR]at ha ⊢;rcases ha with h|h|h<;>simp[h]),a1,a2++a3,rfl,λa ha hb=>?_,h2,a2,a3,rfl,λa ha hb=>dj a (by simp[ha]) hb,h3,h4]
 rcases aR.mp hb with hb|hb
 ·exact Ff a ha hb
 ·exact dj a (by simp[ha]) hb
theorem OF.frame(mF:cj F)(G:OF K B0 B (Sep R F) H0 H σ δ):∃as,OF K H0 (lB as H) R H0 H σ δ/\∀{R':OR}{Ha Hb:Hp}{σ':St}{δ':List Slot},OF K H0 (lB as H) R' Ha Hb σ' δ'->OF K B0 B (Sep R' F) Ha Hb σ' δ':=by
 obtain⟨_,h1,a1,a2,rfl,dj,h2,h3⟩:=G.ex;have o1:∀a∈a1,H0 a=none/\B a=none/\H a≠none:=λa ha=>h1 a (bF _ ha)
 have o2:∀a∈a2,H0 a=none/\B a=none/\H a≠none:=λa ha=>h1 a (bu _ ha)
 have nb:∀b,lB a1 H b=none->B b=none:=λb z=>by
  by_cases hb:b∈a1
  ·exact(o1 b hb).2.1
  ·rw[il hb]at z;exact G.fr.ent.big.free z
 have ZI:∀b∈a2,lB a1 H b=H b:=λb hb=>il λz=>dj b z hb
 refine#[a1,#[G.fr.re G.no #[D6,cK.refl _,G.fr.sub,λ_ z=>.inl z],G.no,a1,λa ha=>#[(o1 a ha).1,vq ha,(o1 a ha).2.2],h2],λ{R' Ha Hb σ' δ'}G'=>?_]
 obtain⟨as',w1,w2⟩:=G'.ex;have e:=G'.fr.ent;have keep:∀b∈a2,Hb b=H b:=λb hb=>by
  have:=e.big.eq (a:=b) (by rw[ZI b hb];exact(o2 b hb).2.2)
  rw[this,ZI b hb]
 have gg:c6 B0 B Ha Hb:=#[λb u z=>e.big b u (by rw[il λy=>(by have:=(o1 b y).2.1;rw[z]at this;cases this)];exact G.fr.ent.big b u z),G.fr.ent.e8.trans e.e8,e.sub,λb z=>by
  rcases e.new b z with y|y
  ·exact G.fr.ent.new b y
  ·exact .inr (nb b y)]
 refine#[G'.fr.re G'.no gg,G'.no,as'++a2,λa ha=>?_,as',a2,rfl,λa ha hb=>?_,w2,mF _ _ _ _ _ h3 e.e8 keep]
 ·rcases aR.mp ha with ha|ha
  ·obtain⟨y1,y2,y3⟩:=w1 a ha
   exact#[y1,nb a y2,y3]
  ·obtain⟨y1,y2,y3⟩:=o2 a ha
   refine#[?_,y2,by rw[keep a ha];exact y3]
   cases z:Ha a with
   |none=>rfl
   |some o=>
    rcases e.new a (by rw[z];simp)with y|y
    ·exact qQ7 y1 y
    ·rw[ZI a ha]at y;exact qQ7 y y3
 ·have:=(w1 a ha).2.1
  rw[ZI a hb]at this;exact(o2 a hb).2.2 this
theorem OF.new{R:OR}(m:cj R)(G:OF K B0 B R H0 H σ δ){R':OR}(h:∀as,(∀a∈as,H a≠none)->R Ha Hb as->∃a1,(∀a∈a1,H a=none/\Ha a=none/\Hb a≠none)/\R' Ha Hb a1)(g:c6 H0 H Ha Hb):OF K B0 B (Sep R' R) Ha Hb σ δ:=by
 have G1:=G.go m (G.own.grow g) G.no;obtain⟨as,h1,h2⟩:=G.ex;obtain⟨a1,w1,w2⟩:=h as (λa ha=>(h1 a ha).2.2) (m _ _ _ _ _ h2 g.e8 λa ha=>g.big.eq (h1 a ha).2.2)
 refine#[G1.fr,G1.no,a1++as,λa ha=>?_,a1,as,rfl,λa ha hb=>(h1 a hb).2.2 (w1 a ha).1,w2,m _ _ _ _ _ h2 g.e8 λa ha=>g.big.eq (h1 a ha).2.2]
 rcases aR.mp ha with ha|ha
 ·obtain⟨y1,y2,y3⟩:=w1 a ha
  exact#[y2,G.fr.ent.big.free y1,y3]
 ·obtain⟨y1,y2,y3⟩:=h1 a ha
  cases z:H a with
  |none=>exact qQ7 z y3
  |some o=>exact#[g.still y1 z,y2,by rw[g.big _ _ z];simp]
def Seen(K:ao)(R:OR)(δ δ':List Slot):Prop:=δ'.length=δ.length/\∀(j:Nat)(sl:Slot),δ'[j]?=some sl->δ[j]?=some sl\/∃p d,δ[j]?=some (.ref p)/\sl=.val d/\qj K R p d
theorem Seen.refl:Seen K R δ δ:=#[rfl,λ_ _ h=>.inl h]
theorem Seen.set(s:Seen K R δ δ')(i:Nat)(hi:δ[i]?=some (.ref p))(h:qj K R p d):Seen K R δ (δ'.set i (.val d)):=by
 refine#[by rw[nJ];exact s.1,λj sl e=>?_]
 by_cases hj:j=i
 ·subst hj
  have hl:j < δ'.length:=by rw[s.1];exact(aH.mp hi).1
  rw[bf hl]at e
  exact .inr #[p,d,hi,(cD e).symm,h]
 ·rw[a9 (bT hj)]at e;exact s.2 j sl e
theorem Seen.no(s:Seen K R δ δ')(h:noOwn δ=true)(j:Nat)(ds:List ae):δ'[j]?≠some (.own ds):=λe=>by
 rcases s.2 j _ e with e|⟨_,_,_,e,_⟩
 ·exact iN h j ds e
 ·cases e
theorem OF.D8(G:OF K B0 B R H0 H σ δ)(s:Seen K R δ δ'):∃as,(∀a∈as,H0 a=none/\B a=none/\H a≠none)/\R H0 H as/\gy K (jM as H H0) H (jM as H H0) H σ δ':=by
 obtain⟨as,h1,h2⟩:=G.ex;have sm:=jl (as:=as) G.fr.sub;refine#[as,h1,h2,.refl (vn G.fr.sub),by rw[s.1];exact G.fr.len,λi sl e=>?_,λi j ds es p _ e=>qQ7 e (s.no G.no i ds)]
 rcases s.2 i sl e with e2|⟨p,d,e2,rfl,hp⟩
 ·have q:=G.fr.slot i sl e2
  cases sl with
  |un=>trivial
  |ref _=>exact q
  |val d=>obtain⟨v,g1,g2⟩:=q;exact#[v,g1,g2.mono sm]
  |own ds=>exact qQ7 e2 (iN G.no i ds)
 ·exact#[.ref p,G.fr.slot i _ e2,hp H0 H as G.fr.sub h2]
end
section
variable{X:Cx}{B0 B H0 H:Hp}{σ:St}{D:Ends}{δ δ':List Slot}{p:aF}{e c:bC}{d:ae}{ds:List ae}{R:OR}{body orelse:List e6}{pos px:Pos}{kb:Bool}{y:Str}
theorem OF.Ux(G:OF X.K B0 B R H0 H σ δ)(h1:∀a∈as,H0 a=none/\B a=none/\H a≠none){C1 H1:Hp}(g:c6 (jM as H H0) H C1 H1):c6 H0 H (lB as C1) H1:=by
 have hC:∀b,b∉as->∀u,H0 b=some u->C1 b=some u:=λb hb u z=>g.e8 b u (by rw[lX hb];exact z)
 refine#[g.big,λb u z=>?_,λb u z=>?_,λb z=>?_]
 ·have hb:b∉as:=λy=>by rw[(h1 b y).1]at z;cases z
  rw[il hb];exact hC b hb u z
 ·by_cases hb:b∈as
  ·rw[vq hb]at z;cases z
  ·rw[il hb]at z;exact g.sub b u z
 ·by_cases hb:b∈as
  ·rw[vq hb]at z;exact qQ7 rfl z
  ·rw[il hb]at z
   rcases g.new b z with w|w
   ·rw[lX hb]at w;exact .inl w
   ·exact .inr w
theorem Uy{C1:Hp}(nt:yt R)(h1:∀a∈as,H0 a=none/\B a=none/\H a≠none)(h2:R H0 H as)(sm:cK (jM as H H0) C1):∀a∈as,vt C1 a:=λa ha=>by
 have e:C1 a=H a:=by
  cases w:H a with
  |none=>exact qQ7 w (h1 a ha).2.2
  |some o=>exact sm a o (by rw[hX ha];exact w)
 unfold vt;rw[e];exact nt _ _ _ h2 a ha
theorem Cr(nt:yt R)(s:Seen X.K R δ δ')(h:VE X e δ' d)(hd:vp d):Dg X B0 B R σ δ e d:=λH0 H G Q q=>by
 obtain⟨as,h1,h2,f1⟩:=G.D8 s;refine h _ H σ _ H _ f1 λv C1 H1 g r=>?_
 exact q v (lB as C1) H1 (G.Ux h1 g) (Rep.out (λa ha xs=>Uy nt h1 h2 g.e8 a ha xs) hd v r)
theorem b9.out{C:Hp}(hn:∀a∈as,vt C a):∀{ds:List ae}{vs:List V},(∀d∈ds,vp d)->b9 K C vs ds->b9 K (lB as C) vs ds
 | [],_,_,r=>by cases r;exact .nil
 |d::ds,_,h,r=>by
  cases r with
  |cons a t=>exact .cons (Rep.out (λa ha xs=>hn a ha xs) (h d aM) _ a) (b9.out hn (λd hd=>h d (aT _ hd)) t)
theorem zl(G:OF X.K B0 B R H0 H σ δ)(nt:yt R)(s:Seen X.K R δ δ')(h:VO X e δ' ds)(hd:∀d∈ds,vp d):Iz X σ H0 H e (λHa o=>∃xs,o=.lst xs/\b9 X.K Ha xs ds):=λQ q=>by
 obtain⟨as,h1,h2,f1⟩:=G.D8 s;refine h _ H σ _ H _ f1 λa xs C1 H1 g z1 z2 z3 r=>?_
 have ha:a∉as:=λz=>(h1 a z).2.2 z1
 exact q a _ (lB as C1) H1 (G.Ux h1 g) z1 (by rw[il ha];exact z2) z3 #[xs,rfl,b9.out (Uy nt h1 h2 g.e8) hd r]
theorem IB(m:cj R)(G:OF X.K B0 B R H0 H σ δ)(s:Seen X.K R δ δ')(h:VT X c δ' kb)(qT:kb=true->∀H',OF X.K B0 B R H0 H' σ δ->w_ X body D σ H')(qF:kb=false->∀H',OF X.K B0 B R H0 H' σ δ->w_ X orelse D σ H'):
  cS X (.If c body orelse pos) D σ H:=λpins s0 I=>by
 obtain⟨as,h1,h2,f1⟩:=G.D8 s;cases kb with
 |true=>
  refine wU oC j7 jA pins s0 σ H D I ?_
  exact h _ H σ _ H _ f1 λC1 H1 g1=>Te (qT rfl H1 (G.go m (G.own.grow (.far G.fr.sub g1.big)) G.no))
 |false=>
  refine wU oC jA j7 pins s0 σ H D I ?_
  exact h _ H σ _ H _ f1 λC1 H1 g1=>Ls (qF rfl H1 (G.go m (G.own.grow (.far G.fr.sub g1.big)) G.no))
theorem Gg(m:cj R)(nt:yt R)(G:OF X.K B0 B R H0 H σ δ)(j:Nat)(h:Dg X B0 B R σ δ e d)(hn:noOwn (δ.set j (.val d))=true)(q:∀σ' cZ H',OF X.K B0 B R cZ H' σ' (δ.set j (.val d))->D.nx σ' H')(hN:X.N.Nodup)
  (hj:X.N[j]?=some y:=by rfl)(hx:Loc X.env.scope y:=by left)(oA:uX X pos e (.Name y px):=by rfl)(hf:AJ X y:=by left):
  cS X (.Assign [.Name y px] e pos) D σ H:=λpins s I=>by
 refine ui (i:=j) hN hj hx cB oA hf pins s σ H D I ?_
 refine h H0 H G _ λv H1 cV g r=>?_
 have G1:=G.go m (G.own.grow g) G.no;exact q _ H1 cV (G1.go m (G1.own.uv (v:=v) (sl:=.val d) #[_,rfl,r] rfl) hn)
theorem P5(Rs:Nat->OR)(M:Nat)(m:∀k,cj (Rs k))(G:OF X.K B0 B (Rs 0) H0 H σ δ)(hp:pS (model X.prog X.w) X.A X.env X.xe)(ht:∀k,k<=M->∃δ',Seen X.K (Rs k) δ δ'/\VT X c δ' (decide (k<M)))
  (step:∀k,k<M->∀(D:Ends)C0 σ' cZ H',OF X.K C0 B (Rs k) cZ H' σ' δ->(∀σ2 Ha Hb,OF X.K C0 B (Rs (k+1)) Ha Hb σ2 δ->D.nx σ2 Hb)->w_ X body D σ' H')
  (q:∀σ2 Ha Hb,OF X.K B0 B (Rs M) Ha Hb σ2 δ->D.nx σ2 Hb):cS X (.While c body [] pos) D σ H:=λpins s I=>by
 refine Lb hp oC j7 pins s σ H D I ?_
 refine#[λmm σ' H'=>∃k,k<=M/\mm=M-k/\∃Ha,OF X.K B0 B (Rs k) Ha H' σ' δ,#[M,0,bx _,rfl,H0,G],?_]
 rintro mm σ' H' ⟨k,hk,rfl,Ha,Ga⟩
 obtain⟨δ',s1,h1⟩:=ht k hk;obtain⟨as,o1,o2,f1⟩:=Ga.D8 s1;refine h1 _ H' σ' _ H' _ f1 λC1 H1 g1=>?_
 have G1:=Ga.go (m k) (Ga.own.grow (.far Ga.fr.sub g1.big)) Ga.no;by_cases mL:k<M
 ·rw[qQ1 mL]
  refine#[λσ'' xT=>∃Hb,OF X.K B0 B (Rs (k+1)) Hb xT σ'' δ,λσ'' xT #[Hb,z]=>#[M-(k+1),∅,k+1,mL,rfl,Hb,z],?_]
  exact step k mL _ _ _ _ _ G1 λσ2 Hc Hd z=>#[Hc,z]
 ·rw[qQ0 mL]
  have e:k=M:=∅
  subst e;exact q _ _ _ G1
end
abbrev UV:=V->OR
def D9(K:ao)(S:Type)(PR:aF->S->OR)(ok:S->List ae->S->UV->Prop):Sp:=λvs H Q _=>∃(H0:Hp)(p:aF)(v2:List V)(as:List aF)(s s':S)(d2:List ae)(U:UV),vs=.ref p::v2/\cK H0 H/\b9 K H0 v2 d2/\(∀a∈as,H0 a=none/\H a≠none)/\PR p s H0 H as/\ok s d2 s' U/\
 ∀(v:V)(cZ H':Hp)(as':List aF),cK H0 cZ->cK cZ H'->(∀a,cZ a≠none->H0 a≠none\/H a=none\/a∈as)->(∀b o,H b=some o->b∉as->H' b=some o)->(∀a∈as',cZ a=none/\H' a≠none/\(a∈as\/H a=none))->Sep (U v) (PR p s') cZ H' as'->Q v H'
def qW(K:ao)(d:ae):UV:=λv H0 _ as=>as=[]/\Rep K H0 v d
def MF(K:ao)(ds:List ae):UV:=λv H0 H as=>∃a,v=.ref a/\LR K a ds H0 H as
theorem qW.mono{v:V}:cj (qW K d v):=λ_ _ _ _ _ #[h1,h2] sm _=>#[h1,h2.mono sm]
theorem LR.nt:yt (LR K a ds):=by
 rintro H0 H as ⟨rfl,xs,h1,_⟩ b hb
 rw[aW.mp hb];unfold vt;rw[h1];exact λys=>#[nofun,λo=>nofun]
theorem LR.see:qj K (LR K a ds) a (.list ds):=by
 rintro Ha Hb as sb ⟨rfl,xs,h1,h2⟩
 exact .lst (jx.of (by rw[hX (by simp)];exact h1)) (h2.mono (jl sb))
section
variable{X:Cx}{B0 B H0 H:Hp}{σ:St}{D:Ends}{δ δ':List Slot}{p a b C dx:aF}{e c:bC}{es:List bC}{d:ae}{ds:List ae}{R F:OR}{body orelse:List e6}{pos px po p0 p1 pc pa apos:Pos}{x y fl:Str}{k:Nat}{fs:List (Str×V)}{xs:List V}{U:UV}
theorem D_(i:Nat)(h:cE X e σ H (λv H'=>D.nx (σ.set i (some v)) H'))(hN:X.N.Nodup)(hi:X.N[i]?=some y:=by rfl)(hx:Loc X.env.scope y:=by left)(oA:uX X pos e (.Name y px):=by rfl)(hf:AJ X y:=by left):
  cS X (.Assign [.Name y px] e pos) D σ H:=λpins s I=>ui (i:=i) hN hi hx cB oA hf pins s σ H D I h
theorem Uz(h:cE X e σ H (λ_ H'=>D.nx σ H'))(oA:QO X pos e:=by rfl):cS X (.Expr e pos) D σ H:=λpins s I=>lL cB oA pins s σ H D I h
theorem Rp(h:cE X e σ H D.rt):cS X (.Return (some e) pos) D σ H:=λpins s I=>uh cB pins s σ H D I h
theorem IC(own:∀a∈as,H0 a=none/\H a≠none)(h:R H0 H as)(f:gy X.K H0 H H0 H σ δ)(hn:noOwn δ=true):OF X.K H0 (lB as H) R H0 H σ δ:=
 #[f.re hn #[D6,cK.refl _,f.sub,λ_ z=>.inl z],hn,as,λa ha=>#[(own a ha).1,vq ha,(own a ha).2],h]
theorem Rq{Ha Hb:Hp}(G:OF X.K H0 (lB as H) R Ha Hb σ δ):∃as',cK H0 Ha/\cK Ha Hb/\(∀a,Ha a≠none->H0 a≠none\/H a=none\/a∈as)/\(∀b o,H b=some o->b∉as->Hb b=some o)/\(∀a∈as',Ha a=none/\Hb a≠none/\(a∈as\/H a=none))/\R Ha Hb as':=by
 obtain⟨as',h1,h2⟩:=G.ex;have nb:∀b,lB as H b=none->H b=none\/b∈as:=λb z=>by
  by_cases hb:b∈as
  ·exact .inr hb
  ·rw[il hb]at z;exact .inl z
 refine#[as',G.fr.ent.e8,G.fr.sub,λa z=>(G.fr.ent.new a z).imp id (nb a),λb o z hb=>G.fr.ent.big b o (by rw[il hb];exact z),λa ha=>?_,h2]
 obtain⟨y1,y2,y3⟩:=h1 a ha;exact#[y1,y3,(nb a y2).symm]
theorem Gh{S:Type}{PR:aF->S->OR}{s s':S}(m:cj (PR p s))(mF:cj F)(G:OF X.K B0 B (Sep (PR p s) F) H0 H σ δ){Ha Hb:Hp}(g:c6 H0 H Ha Hb)(q:∀v Hc Hd,OF X.K B0 B (Sep (U v) (Sep (PR p s') F)) Hc Hd σ δ->Q v Hd):
  ∃as,(∀a∈as,Ha a=none/\Hb a≠none)/\PR p s Ha Hb as/\∀(v:V)(cZ H':Hp)(as':List aF),cK Ha cZ->cK cZ H'->(∀a,cZ a≠none->Ha a≠none\/Hb a=none\/a∈as)->(∀b o,Hb b=some o->b∉as->H' b=some o)->(∀a∈as',cZ a=none/\H' a≠none/\(a∈as\/Hb a=none))->Sep (U v) (PR p s') cZ H' as'->Q v H':=by
 have G1:=G.go (Sep.mono m mF) (G.own.grow g) G.no;obtain⟨as,G2,back⟩:=OF.frame mF G1;obtain⟨_,h1,a1,a2,rfl,dj,h2,h3⟩:=G1.ex;have o1:∀a∈a1,Ha a=none/\B a=none/\Hb a≠none:=λa ha=>h1 a (bF _ ha)
 have o2:∀a∈a2,Ha a=none/\B a=none/\Hb a≠none:=λa ha=>h1 a (bu _ ha)
 refine#[a1,λa ha=>#[(o1 a ha).1,(o1 a ha).2.2],h2,λv cZ H' as' z1 z2 z3 z4 z5 z6=>q v cZ H' ?_]
 have keep:∀b∈a2,H' b=Hb b:=λb hb=>by
  cases e:Hb b with
  |none=>exact qQ7 e (o2 b hb).2.2
  |some o=>exact z4 b o e λz=>dj b z hb
 have nB:∀b,Hb b=none\/b∈a1->B b=none:=λb z=>z.elim (λz=>G1.fr.ent.big.free z) λz=>(o1 b z).2.1
 have f:gy X.K B0 B cZ H' σ δ:=by
  refine#[#[λb u z=>z4 b u (G1.fr.ent.big b u z) λy=>(by have:=(o1 b y).2.1;rw[z]at this;cases this),G1.fr.ent.e8.trans z1,z2,λb z=>?_],G1.fr.len,λj sl e=>?_,G1.fr.apart]
  ·rcases z3 b z with y|y
   ·exact G1.fr.ent.new b y
   ·exact .inr (nB b y)
  ·have qq:=G1.fr.slot j sl e
   cases sl with
   |un=>trivial
   |ref _=>exact qq
   |val d=>obtain⟨v,g1,g2⟩:=qq;exact#[v,g1,g2.mono z1]
   |own ds=>exact qQ7 e (iN G1.no j ds)
 obtain⟨u1,u2,rfl,dju,w1,w2⟩:=z6;have apart:∀a∈u1++u2,a∉a2:=λa ha hb=>by
  rcases(z5 a ha).2.2 with y|y
  ·exact dj a y hb
  ·exact(o2 a hb).2.2 y
 refine#[f,G1.no,u1++(u2++a2),λa ha=>?_,u1,u2++a2,rfl,λa ha hb=>?_,w1,u2,a2,rfl,λa ha=>apart a (by simp[ha]),w2,mF _ _ _ _ _ h3 z1 keep]
 ·rw[<-cp]at ha
  rcases aR.mp ha with ha|ha
  ·obtain⟨y1,y2,y3⟩:=z5 a ha
   exact#[y1,nB a y3.symm,y2]
  ·obtain⟨y1,y2,y3⟩:=o2 a ha
   refine#[?_,y2,by rw[keep a ha];exact y3]
   cases z:cZ a with
   |none=>rfl
   |some o=>
    rcases z3 a (by rw[z];simp)with y|y|y
    ·exact qQ7 y1 y
    ·exact qQ7 y y3
    ·exact qQ7 ha (dj a y)
 ·rcases aR.mp hb with hb|hb
  ·exact dju a ha hb
  ·exact apart a (by simp[ha]) hb
theorem Ct{S:Type}{PR:aF->S->OR}{ok:S->List ae->S->UV->Prop}{s s':S}{ns:List Str}(M:rT X.prog X.w X.K X.mg X.base k C m ns (D9 X.K S PR ok))(hr:dB k X.A)(mR:cj (PR p s))(mF:cj F)(G:OF X.K B0 B (Sep (PR p s) F) H0 H σ δ)(hc:∀Ha Hb as,PR p s Ha Hb as->∃dx fs,Hb p=some (.ins C dx fs)/\fs.lookup m=none)(i:Nat)(hi:δ[i]?=some (.ref p))(ha:XF X B0 B (Sep (PR p s) F) σ δ (e::es) ds)(hok:ok s ds s' U)
  (q:∀v Ha Hb,OF X.K B0 B (Sep (U v) (Sep (PR p s') F)) Ha Hb σ δ->Q v Hb)
  (hN:ow X i x:=by ac_rfl)
  (Dp:kO X e es:=by rfl)(mX:rC X pc es:=by rfl)
  (ht:eval (.Call (.Attribute (.Name x p0) m apos) (e::es) [] pc) X.env=(do
   let ov <-eval (.Name x p0) X.env
   standAt apos.atName
   let(f,first) <-holding [ov] (getMethod ov m pl)
   callWith pc f first (backTo pc (starEach (e::es) X.env)) (backToKw pc (keywordEach [] X.env))):=by rfl) :
  cE X (.Call (.Attribute (.Name x p0) m apos) (e::es) [] pc) σ H Q:=λpins s0 I=>by
 obtain⟨f,fd,Fn,cl,hm,hb⟩:=M;obtain⟨t,pa,qa⟩:=ha;refine HS (ug hN) cl hm Fn hr hb .nil tN pa Dp mX ht pins s0 σ H Q I ?_
 obtain⟨_,_,a1,_,_,_,z0,_⟩:=G.ex;obtain⟨dx,fs,ins,lk⟩:=hc _ _ _ z0;refine#[.ref p,G.fr.slot i _ hi,p,dx,fs,rfl,ins,lk,?_]
 refine qa H0 H G _ λvs H1 cV g rs=>?_
 rw[cy];obtain⟨as,w1,w2,w3⟩:=Gh (U:=U) mR mF G g q;exact#[H1,p,vs,as,s,s',ds,U,rfl,g.sub,rs,w1,w2,hok,w3]
theorem zm{S:Type}{PR:aF->S->OR}{ok:S->List ae->S->UV->Prop}{s s':S}{ns:List Str}(M:rT X.prog X.w X.K X.mg X.base k C m ns (D9 X.K S PR ok))(hr:dB k X.A)(mR:cj (PR p s))(mF:cj F)(G:OF X.K B0 B (Sep (PR p s) F) H0 H σ δ)(hc:∀Ha Hb as,PR p s Ha Hb as->∃dx fs,Hb p=some (.ins C dx fs)/\fs.lookup m=none)(i:Nat)(hi:δ[i]?=some (.ref p))(hok:ok s [] s' U)
  (q:∀v Ha Hb,OF X.K B0 B (Sep (U v) (Sep (PR p s') F)) Ha Hb σ δ->Q v Hb)
  (hN:ow X i x:=by ac_rfl)
  (ht:eval (.Call (.Attribute (.Name x p0) m apos) [] [] pc) X.env=(do
   let ov <-eval (.Name x p0) X.env
   standAt apos.atName
   let(f,first) <-holding [ov] (getMethod ov m pl)
   callWith pc f first (backTo pc (starEach [] X.env)) (backToKw pc (keywordEach [] X.env))):=by rfl) :
  cE X (.Call (.Attribute (.Name x p0) m apos) [] [] pc) σ H Q:=λpins s0 I=>by
 obtain⟨f,fd,Fn,cl,hm,hb⟩:=M;refine Lj (ug hN) cl hm Fn hr hb .nil tN ht pins s0 σ H Q I ?_
 obtain⟨_,_,a1,_,_,_,z0,_⟩:=G.ex;obtain⟨dx,fs,ins,lk⟩:=hc _ _ _ z0;refine#[.ref p,G.fr.slot i _ hi,p,dx,fs,rfl,ins,lk,?_]
 obtain⟨as,w1,w2,w3⟩:=Gh (U:=U) mR mF G (.refl G.fr.sub) q;exact#[H0,p,[],as,s,s',[],U,rfl,G.fr.sub,.nil,w1,w2,hok,w3]
theorem P6{S:Type}{PR:aF->S->OR}{ok:S->List ae->S->UV->Prop}{s s':S}{f:Str}{ns:List Str}(M:bD X.prog X.w X.K X.mg X.base k f ns (D9 X.K S PR ok))(hr:dB k X.A)(mR:cj (PR p s))(mF:cj F)(G:OF X.K B0 B (Sep (PR p s) F) H0 H σ δ)(i:Nat)(hi:δ[i]?=some (.ref p))(ha:XF X B0 B (Sep (PR p s) F) σ δ es ds)(hok:ok s ds s' U)
  (q:∀v Ha Hb,OF X.K B0 B (Sep (U v) (Sep (PR p s') F)) Ha Hb σ δ->Q v Hb)
  (hN:ow X i x:=by ac_rfl)
  (hg:Gl X f:=by rfl)(sZ:vX f:=by decide)(he:starEach (.Name x p0::es) X.env=(false,eval (.Name x p0) X.env)::starEach es X.env:=by rfl)(mX:rC X pc es:=by rfl):
  cE X (.Call (.Name f p1) (.Name x p0::es) [] pc) σ H Q:=λpins s0 I=>by
 obtain⟨fa,fd,Fn,hm,hk,hb⟩:=M;obtain⟨t,pa,qa⟩:=ha;refine uZ Fn hr hg hm hk hb .nil tN (cY (ug hN) pa he) sZ he mX pins s0 σ H Q I ?_
 refine#[.ref p,G.fr.slot i _ hi,?_]
 refine qa H0 H G _ λvs H1 cV g rs=>?_
 show D9 _ _ _ _ ((V.ref p::vs) ++ []) _ _ _;rw[cy];obtain⟨as,w1,w2,w3⟩:=Gh (U:=U) mR mF G g q;exact#[H1,p,vs,as,s,s',ds,U,rfl,g.sub,rs,w1,w2,hok,w3]
theorem OF.dat{v:V}(m:cj R)(G:OF X.K B0 B (Sep (qW X.K d v) R) H0 H σ δ):Rep X.K H0 v d/\OF X.K B0 B R H0 H σ δ:=by
 obtain⟨_,h1,a1,a2,rfl,dj,⟨rfl,h2⟩,h3⟩:=G.ex;exact#[h2,G.fr,G.no,a2,λa ha=>h1 a ↑ha,h3]
theorem OF.drop(m:cj R)(G:OF X.K B0 B (Sep F R) H0 H σ δ):OF X.K B0 B R H0 H σ δ:=by
 obtain⟨_,h1,a1,a2,rfl,dj,h2,h3⟩:=G.ex;exact#[G.fr,G.no,a2,λa ha=>h1 a (by simp[ha]),h3]
theorem OF.J6(m:cj R)(G:OF X.K B0 B R H0 H σ δ)(i:Nat)(hn:noOwn (δ.set i (.ref a))=true):OF X.K B0 B R H0 H (σ.set i (some (.ref a))) (δ.set i (.ref a)):=G.go m (G.own.uv (v:=.ref a) (sl:=.ref a) rfl rfl) hn
theorem OF.zbv{v:V}(m:cj R)(G:OF X.K B0 B R H0 H σ δ)(i:Nat)(r:Rep X.K H0 v d)(hn:noOwn (δ.set i (.val d))=true):OF X.K B0 B R H0 H (σ.set i (some v)) (δ.set i (.val d)):=G.go m (G.own.uv (v:=v) (sl:=.val d) #[_,rfl,r] rfl) hn
theorem XM(m:cj R)(G:OF X.K B0 B R H0 H σ δ)(i:Nat)(hi:δ[i]?=some (.ref a))(hc:H a=some (.lst xs))(hv:Dg X B0 B R σ δ e d)(hl:xs.length<sizeLine)
  (q:∀v Ha Hb,c6 H0 H Ha Hb->Rep X.K Ha v d->D.nx σ (upd Hb a (.lst (xs ++ [v]))))
  (hN:ow X i x:=by ac_rfl)
  (gA:uS X (.Name x px) "append":=by rfl)
  (hs:kO X e []:=by rfl)
  (lj:Ft X pc [e]:=by rfl)
  (hline:(pa.endLine==pc.line)=true:=by rfl)(fD:rC X pc []:=by rfl)(oA:QO X pos (.Call (.Attribute (.Name x px) "append" pa) [e] [] pc):=by rfl):
  cS X (.Expr (.Call (.Attribute (.Name x px) "append" pa) [e] [] pc) pos) D σ H:=λpins s I=>by
 refine lL (rH dH fK fL lq (ug hN) (cY cB eV hs) gA lj hline hs fD) oA pins s σ H D I ?_
 refine#[.ref a,G.fr.slot i _ hi,.inl #[rfl,_,jx.of hc],?_]
 exact hv H0 H G _ λv H1 cV g r=>#[a,xs,v,rfl,rfl,g.big _ _ hc,hl,q v H1 cV g r]
theorem XO(G:OF X.K B0 B R H0 H σ δ)(i:Nat)(hi:δ[i]?=some (.ref a))(hc:H a=some (.lst xs))(hv:Iz X σ H0 H e (λHa o=>∃xs,o=.lst xs/\b9 X.K Ha xs ds))(hl:xs.length+ds.length<=sizeLine)
  (q:∀zs Ha Hb,c6 H0 H Ha Hb->b9 X.K Ha zs ds->D.nx σ (upd Hb a (.lst (xs++zs))))
  (hN:ow X i x:=by ac_rfl)
  (gA:uS X (.Name x px) "extend":=by rfl)
  (hs:kO X e []:=by rfl)
  (lj:Ft X pc [e]:=by rfl)
  (hline:(pa.endLine==pc.line)=true:=by rfl)(fD:rC X pc []:=by rfl)(oA:QO X pos (.Call (.Attribute (.Name x px) "extend" pa) [e] [] pc):=by rfl):
  cS X (.Expr (.Call (.Attribute (.Name x px) "extend" pa) [e] [] pc) pos) D σ H:=λpins s I=>by
 refine lL (rH dH PySem.F.slot_list_extend PySem.F.type_list_extend P0 (ug hN) (cY cB eV hs) gA lj hline hs fD) oA pins s σ H D I ?_
 refine#[.ref a,G.fr.slot i _ hi,.inl #[rfl,_,jx.of hc],?_]
 refine hv _ λl o H1 cV g z1 z2 z3 z4=>?_
 obtain⟨zs,rfl,r⟩:=z4;exact#[a,l,xs,zs,rfl,rfl,g.big _ _ hc,.inr (jx.of z3),by rw[r.length];exact hl,q zs H1 cV g r]
theorem MG{ev: bC}{P:Hp->HO->Prop}(m:cj R)(G:OF X.K B0 B R H0 H σ δ)(hr:dB k X.A)(i:Nat)(hi:δ[i]?=some (.ref a))(hd:H a=some (.dK kvs))(hk:Dg X B0 B R σ δ ek (oB κ))(hv:Iz X σ H0 H ev P)(hl:kvs.length<sizeLine)
  (q:∀l o Ha Hb,c6 H0 H Ha Hb->H l=none->Ha l=none->Hb l=some o->P Ha o->D.nx σ (upd Hb a (.dK (putK kvs κ (.ref l)))))(hmP:∀Ha Hb o,cK Ha Hb->P Ha o->P Hb o)
  (hN:ow X i x:=by ac_rfl)
  (hs:uX X pos ev (.Subscript (.Name x px) ek ps):=by rfl):
  cS X (.Assign [.Subscript (.Name x px) ek ps] ev pos) D σ H:=λpins s I=>by
 refine sF (Fe hr) (ug hN) cB cB hs pins s σ H D I ?_
 refine hv _ λl o H1 cV g z1 z2 z3 z4=>?_
 have G1:=G.go m (G.own.grow g) G.no;refine#[.ref a,G.fr.slot i _ hi,hk H1 cV G1 _ λu H2 fS g2 r2=>?_]
 obtain rfl:=wy r2;exact#[a,_,rfl,xS.k (k:=κ) (g2.big _ _ (g.big _ _ hd)) hl,q l o H2 fS (g.trans g2) z1 (g2.still z2 z3) (g2.big _ _ z3) (hmP _ _ _ g2.e8 z4)]
theorem XQ{ev: bC}(m:cj R)(G:OF X.K B0 B R H0 H σ δ)(hr:dB k X.A)(i:Nat)(hi:δ[i]?=some (.ref a))(hd:H a=some (.dK kvs))(hk:Dg X B0 B R σ δ ek (oB κ))(hv:Dg X B0 B R σ δ ev d)(hl:kvs.length<sizeLine)
  (q:∀v Ha Hb,c6 H0 H Ha Hb->Rep X.K Ha v d->D.nx σ (upd Hb a (.dK (putK kvs κ v))))
  (hN:ow X i x:=by ac_rfl)
  (hs:uX X pos ev (.Subscript (.Name x px) ek ps):=by rfl):
  cS X (.Assign [.Subscript (.Name x px) ek ps] ev pos) D σ H:=λpins s I=>by
 refine sF (Fe hr) (ug hN) cB cB hs pins s σ H D I ?_
 refine hv H0 H G _ λv H1 cV g r=>?_
 have G1:=G.go m (G.own.grow g) G.no;refine#[.ref a,G.fr.slot i _ hi,hk H1 cV G1 _ λu H2 fS g2 r2=>?_]
 obtain rfl:=wy r2;exact#[a,_,rfl,xS.k (k:=κ) (g2.big _ _ (g.big _ _ hd)) hl,q v H2 fS (g.trans g2) (r.mono g2.e8)]
theorem XR{n:Int}{j:Int}{kk}(G:OF X.K B0 B R H0 H σ δ)(i:Nat)(hi:δ[i]?=some (.ref p))(ins:H p=some (.ins C dx fs))(cl:qM X.K C)(na:eK X.K C fl)(hl:fs.length<1000)(lk:fs.lookup fl=some (.int n))
  (q:D.nx σ (upd H p (.ins C dx (iz fl (.int (n+j)) fs))))
  (hN:ow X i x:=by ac_rfl):
  cS X (.AugAssign (.Attribute (.Name x px) fl po) .Add (.Constant (.int j) kk p0) pos) D σ H:=λpins s I=>by
 refine Jt (ug hN) K4 S5 pins s σ H D I ?_
 exact#[.ref p,G.fr.slot i _ hi,p,C,dx,fs,.int n,rfl,ins,cl,na,lk,n,j,rfl,rfl,dx,fs,ins,hl,q]
theorem UA{y:Str}{py:Pos}(G:OF X.K B0 B R H0 H σ δ)(i j:Nat)(hi:δ[i]?=some (.ref p))(hj:δ[j]?=some (.ref b))(ins:H p=some (.ins C dx fs))(cl:qM X.K C)(na:eK X.K C fl)(hl:fs.length<1000)
  (q:D.nx σ (upd H p (.ins C dx (iz fl (.ref b) fs))))
  (hN:ow X i x:=by ac_rfl)
  (hNy:ow X j y:=by ac_rfl)
  (hs:uX X pos (.Name y py) (.Attribute (.Name x px) fl po):=by rfl):
  cS X (.Assign [.Attribute (.Name x px) fl po] (.Name y py) pos) D σ H:=λpins s I=>by
 refine oX (ug hN) (ug hNy) hs pins s σ H D I ?_
 exact#[.ref b,G.fr.slot j _ hj,.ref p,G.fr.slot i _ hi,p,C,dx,fs,rfl,ins,cl,na,hl,q]
end
def Iti(a:aF)(o:Obj)(kvs:List (Key×V)):It:=#[λi H=>i<kvs.length/\H a=some (.tM o (.dK kvs)),λi H x H'=>∃t q,x=.ref t/\H t=none/\kvs[i]?=some q/\H'=upd H t (.tup [kV q.1,q.2]),λi H=>kvs.length<=i/\H a=some (.tM o (.dK kvs))]
section
variable{X:Cx}{pins:List (aF×Obj)}{σ:St}{H:Hp}{s:aL}{a it:aF}{kvs:List (Key×V)}{o:Obj}{es:Array sX}{ep:Nat}
theorem Gi{kk}{tp:Pos}(a it:aF)(he:o.data=.dict es ep):Turn P w K (.Tuple elts kk tp) (Iti a o kvs) [it] it (λi h=>∃ok ov,IsItemIter h it a i kvs.length ep ok ov) where
 mem:=by simp
 obj:=λi h st b hb=>by
  have e:b=it:=by simpa using hb
  subst e;obtain⟨_,_,e⟩:=st;exact#[_,e,λv z=>by cases z]
 keep:=λi h h' st k=>let#[ok,ov,e]:=st;#[ok,ov,k it (by simp) _ e]
 item:=by
  intro X hP hw hK hc i pins s σ H E I hf st hg;subst hP hw hK;obtain⟨hi,ha⟩:=hg;obtain⟨hd,vs,SG,SJ,rel,MA,dd⟩:=lA I ha;rw[he]at MA;cases MA;obtain⟨ok,ov,st⟩:=st;have hl:=rel.length;obtain⟨q,hq⟩:∃q,kvs[i]?=some q:=#[kvs[i],au hi]
  obtain⟨⟨k,x⟩,hx⟩:∃p,vs[i]?=some p:=#[vs[i]'∅,au ∅]
  have hk:q.1=k/\RelV q.2 x:=by
   have go:∀{kvs:List (Key×V)}{vs:List (Key×aD)}{i:Nat},KV kvs vs->kvs[i]?=some q->vs[i]?=some (k,x)->q.1=k/\RelV q.2 x:=by
    intro kvs
    induction kvs with
    |nil=>intro vs i _ h;simp at h
    |cons z kvs ih=>
     intro vs i r h1 h2;cases r with
     |cons r1 r2=>
      cases i with
      |zero=>simp at h1 h2;subst h1;subst h2;exact r1
      |succ i=>exact ih r2 ↑h1 ↑h2
   exact go rel hq hx
  have Zx:it<s.heap.objs.size:=aZ st;refine wpAny_pyNext_items_item (kvs:=vs) (by rw[<-hl];exact st) dd hx λkey h1 Le N6 Tx hz1 W1=>?_
  refine#[.ref s.heap.objs.size,rfl,wpAny_letOwnedTupleGo_items N6 λh2 Pg p9=>?_]
  replace p9:gw it h1 h2:=p9
  have k2:∀b o,b∉[it]->s.heap.get? b=some o->h2.get? b=some o:=λb o hb q=>by
   have n1:b≠it:=λz=>hb (by simp[z])
   exact(p9.2 b n1).trans (W1 b o n1 q)
  have I2:Inv X pins σ H { s with heap:=h2 }:=I.sG (t':=s.toks) k2 hf
  have ht2:h2.get? s.heap.objs.size=some { cls:=.type "tuple",data:=.seq (bN [key,x]) }:=(p9.2 _ (ft Zx)).trans Tx;have fT:uj X pins H s.heap.objs.size:=I.vZ (aP _) I.fresh;have I3:Inv X pins σ (upd H s.heap.objs.size (.tup [kV q.1,q.2])) { s with heap:=h2 }:=
   I2.track fT #[by show 2<=sizeLine;rw[du];decide,[key,x],.cons (by rw[hk.1];exact yr Le) (.cons hk.2 .nil),#[_,ht2,rfl,_,rfl]]
  refine#[.ref s.heap.objs.size,_,I3,rfl,#[_,q,rfl,I.fresh,hq,rfl],#[_,_,by rw[hl];exact Pg],λb hb=>?_]
  have z':b=it:=by simpa using hb
  subst z';rw[aO (a7 Zx)];exact(hf b hb).1
 done:=by
  intro X hP hw hK hc i pins s σ H E I hf st hg;subst hP hw hK;obtain⟨hi,ha⟩:=hg;obtain⟨hd,vs,SG,SJ,rel,MA,dd⟩:=lA I ha;rw[he]at MA;cases MA;obtain⟨ok,ov,st⟩:=st;have hl:=rel.length;exact wpAny_pyNext_items_end (kvs:=vs) (I.ok.hd hc) (by rw[<-hl];exact st) dd (eO ∅) λh' eb=>#[rfl,I.sG (ch:=[it]) (t':=s.toks) (λb o hb e=>eb b o (λz=>hb (by simp[z])) e) hf]
 self:=λ_ _ _ _ _ st h=>let#[_,_,e]:=st;PySem.W.kcp_self e h
def UB(to:TE):TI:=λσ H R=>to σ H λv H1=>∃a o kvs,v=.ref a/\H1 a=some (.tM o (.dK kvs))/\R (Iti a o kvs) H1
theorem MH{e:bC}{to:TE}{kk}{tp apos jf:Pos}(ho:PE X e to)(gA:uS X e "items")(hline:(apos.endLine==jf.line)=true):PI X (.Tuple elts kk tp) (.Call (.Attribute e "items" apos) [] [] jf) (UB to):=by
 intro pins s σ H R I h;refine qX (T:="dict") (id:="dict.items") gA rfl hline F.plainAttrs_dict F.slot_dict_items F.type_dict_items (fP (ho pins s σ H _ I h) λu s1 #[x,H1,I1,rx,a,ob,kvs,ex,ha,q]=>?_)
 subst ex;cases rx;obtain⟨hd,vs,es,ep,rel,he,dd⟩:=lA I1 ha;refine#[dd.dictOf.typeIs,dd.dictOf.mapOf.noDict,?_]
 show wpAny _ _ (callWith jf (.builtin "dict.items") [.ref a] [] []) _ _ _;refine method_meetsIn F.slot_dict_items F.entry_dict_items rfl (PySem.evalArgs_none #[rfl,dd.dictOf.typeIs,F.args_dict_items_1 _,_,meets_dict_items (ei X.prog X.w) a hd,#[vs,dd.dictOf],?_])
 refine wpAny_pyIter_items (knd:=ei X.prog X.w) (d:=a) (kvs:=vs) (ep:=ep) #[_,bq _ rfl,rfl,rfl] (dd.push _) ?_
 rw[<-rel.length];have I2:Inv X pins σ H1 { s1 with heap:=s1.heap.push { cls:=.type "dict_items",data:=.fields (bN [.ref a]) } }:=I1.kept (t':=s1.toks) λb o e=>aE _ e
 refine#[_,[_],_,_,H1,rfl,I2.kept (t':=s1.toks) λb o e=>aE _ e,Gi a _ he,#[_,_,bq _ rfl],λb hb=>?_,q]
 have e:=aW.mp hb;subst e;exact I2.vZ (aP _) (I2.hok.fresh (aP _))
end
def DC(K:ao)(a:aF)(cs:List aF)(kl:List (Str×List ae)):OR:=λH0 H as=>as=a::cs/\(a::cs).Nodup/\H a=some (.dK (uT kl cs))/\Oh K H0 H kl cs
def DZ(K:ao)(o:Obj)(a:aF)(cs:List aF)(kl:List (Str×List ae)):OR:=λH0 H as=>as=a::cs/\(a::cs).Nodup/\H a=some (.tM o (.dK (uT kl cs)))/\Oh K H0 H kl cs
section
variable{K:ao}{B0 B H0 H Ha Hb:Hp}{σ:St}{δ:List Slot}{R R' F:OR}{a l x c:aF}{o:Obj}{cs as:List aF}{kl:List (Str×List ae)}{y:Str}{j:Nat}{ds es:List ae}{ys:List V}{q:Str×List ae}
theorem Oh.mono(h:Oh K H0 H kl cs)(sm:cK H0 Ha)(e:∀c∈cs,Hb c=H c):Oh K Ha Hb kl cs:=#[h.1,λi c q e1 e2=>by
 obtain⟨xs,h1,h2⟩:=h.2 i c q e1 e2;exact#[xs,by rw[e c (aQ e1)];exact h1,h2.mono sm]]
theorem DC.mono:cj (DC K a cs kl):=λH0 H Ha Hb as #[e,nd,h1,h2] sm hb=>#[e,nd,by rw[hb a (by rw[e];simp)];exact h1,h2.mono sm λc hc=>hb c (by rw[e];simp[hc])]
theorem DZ.mono:cj (DZ K o a cs kl):=λH0 H Ha Hb as #[e,nd,h1,h2] sm hb=>#[e,nd,by rw[hb a (by rw[e];simp)];exact h1,h2.mono sm λc hc=>hb c (by rw[e];simp[hc])]
theorem Oh.nt(h:Oh K H0 H kl cs):∀c∈cs,vt H c:=λc hc=>by
 obtain⟨i,hi,e⟩:=tK.mp hc;obtain⟨xs,h1,_⟩:=h.2 i c (kl[i]'(by rw[<-h.1];exact hi)) (by rw[au hi,e]) (au _)
 unfold vt;rw[h1];exact λys=>#[nofun,λo=>nofun]
theorem DC.nt:yt (DC K a cs kl):=by
 rintro H0 H as ⟨rfl,_,h1,h2⟩ b hb
 rcases ax.mp hb with rfl|hb
 ·unfold vt;rw[h1];exact λys=>#[nofun,λo=>nofun]
 ·exact h2.nt b hb
theorem DZ.nt:yt (DZ K o a cs kl):=by
 rintro H0 H as ⟨rfl,_,h1,h2⟩ b hb
 rcases ax.mp hb with rfl|hb
 ·unfold vt;rw[h1];exact λys=>#[nofun,λo=>nofun]
 ·exact h2.nt b hb
theorem Oh.see(sb:cK Ha Hb)(h:Oh K Ha Hb kl cs)(hs:∀c∈cs,c∈as):b9 K (jM as Hb Ha) (cs.map V.ref) (kl.map λq=>.list q.2):=wt h.1 λi c q e1 e2=>by
 obtain⟨ys,y1,y2⟩:=h.2 i c q e1 e2;exact .lst (jx.of (by rw[hX (hs c (aQ e1))];exact y1)) (y2.mono (jl sb))
def wz(kl:List (Str×List ae)):List (Str×ae):=kl.map λq=>(q.1,mw q.2)
theorem DC.see:qj K (DC K a cs kl) a (kP (wz kl)):=by
 rintro Ha Hb as sb ⟨rfl,nd,h1,h2⟩
 refine Ck (kvs:=uT kl cs) (by rw[hX (by simp)];exact h1) (by rw[lY h2.1];unfold wz;rw[aB];rfl) ?_
 rw[zk h2.1];unfold wz;rw[aB];exact h2.see sb λc hc=>by simp[hc]
theorem DZ.see:qj K (DZ K o a cs kl) a (wx (wz kl)):=by
 rintro Ha Hb as sb ⟨rfl,nd,h1,h2⟩
 refine .TB (kvs:=uT kl cs) (by rw[hX (by simp)];exact h1) ?_ ?_
 ·have:=qQ6 (oF oB) (lY h2.1)
  rw[aB,aB]at this;unfold wz;rw[aB,aB];exact this.symm
 ·rw[zk h2.1]
  unfold wz;rw[aB,aB];exact h2.see sb λc hc=>by simp[hc]
theorem DZ.xZ(hc:cs[j]?=some c)(hq:kl[j]?=some q):qj K (DZ K o a cs kl) c (.list q.2):=by
 rintro Ha Hb as sb ⟨rfl,nd,h1,h2⟩
 obtain⟨ys,y1,y2⟩:=h2.2 j c q hc hq;exact .lst (jx.of (by rw[hX (by simp[aQ hc])];exact y1)) (y2.mono (jl sb))
theorem DC.row(h:DC K a cs kl H0 H as)(hj:kl[j]?=some (y,ds))(hc:cs[j]?=some c)(r:b9 K H0 ys es):DC K a cs (kl.set j (y,es)) H0 (upd H c (.lst ys)) as:=by
 obtain⟨e,nd,h1,h2⟩:=h;have hcm:=aQ hc;have nc:a≠c:=λz=>(bY.mp nd).1 (by rw[z];exact hcm)
 have hjl:=(aH.mp hj).1
 refine#[e,nd,?_,by rw[nJ];exact h2.1,λi b q e1 e2=>?_]
 ·rw[aO nc,h1,D2 (kl:=kl.set j (y,es)) (ZH:=kl)]
  have:=set_same (f:=Prod.fst) (y:=(y,es)) hj rfl;rw[qZ];exact this.symm
 ·by_cases yj:i=j
  ·subst yj
   rw[hc]at e1;cases e1;rw[bf hjl]at e2
   cases e2;exact#[ys,bh,r]
  ·rw[a9 (bT yj)]at e2
   obtain⟨xs,w1,w2⟩:=h2.2 i b q e1 e2;refine#[xs,?_,w2]
   rw[aO]
   ·exact w1
   ·intro z
    subst z;have nd2:=(bY.mp nd).2;exact yj ((wR (aH.mp e1).1 nd2).mp (e1.trans hc.symm))
theorem DC.push(h:DC K a cs kl H0 H as)(hy:y∉kl.map (·.1))(hl:l∉as)(hv:H l=some (.lst ys))(r:b9 K H0 ys es):DC K a (cs ++ [l]) (kl ++ [(y,es)]) H0 (upd H a (.dK (putK (uT kl cs) (bo y) (.ref l)))) (as ++ [l]):=by
 obtain⟨rfl,nd,h1,h2⟩:=h;obtain⟨n1,n2⟩:=bY.mp nd;have Oi:l≠a:=λz=>hl (by simp[z])
 have e1:putK (uT kl cs) (bo y) (.ref l)=uT (kl ++ [(y,es)]) (cs ++ [l]):=by
  have hn:¬((uT kl cs).any λz=>decide (z.1=(bo y:Key)))=true:=by
   rw[jO]
   rintro⟨z,hz,e⟩
   have ZJ:z.1∈(uT kl cs).map (·.1):=av.mpr #[z,hz,rfl]
   rw[qQ4 e,lY h2.1]at ZJ;obtain⟨w,hw,ew⟩:=av.mp ZJ;exact hy (av.mpr #[w,hw,j0 ew])
  unfold putK;rw[qQ2 hn];unfold uT;rw[List.zip_append h2.1.symm,aN];rfl
 refine#[rfl,?_,by rw[e1];exact bh,by simp[h2.1],λi c q e2 e3=>?_]
 ·refine bY.mpr #[λz=>?_,cF.mpr #[n2,by simp,λb hb c hc=>?_]]
  ·rcases aR.mp z with z|z
   ·exact n1 z
   ·exact Oi (aW.mp z).symm
  ·rw[aW.mp hc];rintro rfl;exact hl (by simp[hb])
 ·by_cases hi:i<cs.length
  ·rw[bX hi]at e2
   rw[bX (by rw[<-h2.1];exact hi)]at e3
   obtain⟨xs,w1,w2⟩:=h2.2 i c q e2 e3;exact#[xs,by rw[aO λz=>n1 (by rw[<-z];exact aQ e2)];exact w1,w2]
  ·have hi':i=cs.length:=by
    have:=(aH.mp e2).1
    rw[aV,fH]at this;omega
   subst hi';rw[bS (aP _),rA]at e2
   rw[bS (by rw[h2.1];exact aP _),h2.1,rA]at e3
   cases e2;cases e3;exact#[ys,by rw[aO Oi];exact hv,r]
theorem OF.putL{ob:HO}(mR:cj R)(mF:cj F)(G:OF K B0 B (Sep R F) H0 H σ δ)(g:c6 H0 H Ha Hb)(hR:∀as,R Ha Hb as->x∈as/\∃as',(∀a∈as',a∈as)/\R' Ha (upd Hb x ob) as'):OF K B0 B (Sep R' F) Ha (upd Hb x ob) σ δ:=by
 refine G.put (Sep.mono mR mF) g ?_
 rintro _ ⟨a1,a2,rfl,dj,h1,h2⟩
 obtain⟨hx,as',s1,r'⟩:=hR a1 h1;refine#[bF _ hx,as'++a2,λa ha=>?_,as',a2,rfl,λa ha=>dj a (s1 a ha),r',mF _ _ _ _ _ h2 (cK.refl _) λa ha=>aO λz=>dj x hx (by rw[<-z];exact ha)]
 rcases aR.mp ha with ha|ha
 ·exact bF _ (s1 a ha)
 ·exact bu _ ha
theorem OF.Rr{ob ob':HO}(mR:cj R)(mF:cj F)(G:OF K B0 B (Sep R F) H0 H σ δ)(g:c6 H0 H Ha Hb)(hl:H l=none)(Oe:Ha l=none)(hl3:Hb l=some ob)(hR:∀as,l∉as->R Ha Hb as->x∈as/\∃as',(∀a∈as',a=l\/a∈as)/\R' Ha (upd Hb x ob') as'):OF K B0 B (Sep R' F) Ha (upd Hb x ob') σ δ:=by
 obtain⟨_,h0,a1,a2,rfl,dj,h1,h2⟩:=G.ex;have G1:=G.go (Sep.mono mR mF) (G.own.grow g) G.no;have Oi:l∉a1++a2:=λz=>(h0 l z).2.2 hl
 have h0':∀a∈a1++a2,Ha a=none/\B a=none/\Hb a≠none:=λa ha=>by
  obtain⟨y1,y2,y3⟩:=h0 a ha;cases z:H a with
  |none=>exact qQ7 z y3
  |some o=>exact#[g.still y1 z,y2,by rw[g.big _ _ z];exact nofun]
 have kp:∀a∈a1++a2,Hb a=H a:=λa ha=>g.big.eq (h0 a ha).2.2
 obtain⟨hx,as',s1,r'⟩:=hR a1 (λz=>Oi (bF _ z)) (mR _ _ _ _ _ h1 g.e8 λa ha=>kp a (bF _ ha))
 obtain⟨z1,z2,z3⟩:=h0' x (bF _ hx);refine#[G1.fr.touch z1 z2 (iN G1.no),G1.no,as'++a2,λb hb=>?_,as',a2,rfl,λb hb Vt=>?_,r',mF _ _ _ _ _ h2 g.e8 λa ha=>by rw[aO λz=>dj x hx (by rw[<-z];exact ha)];exact kp a (bu _ ha)]
 ·have T8:b=l\/b∈a1++a2:=by
   rcases aR.mp hb with hb|hb
   ·exact(s1 b hb).imp id λz=>bF _ z
   ·exact .inr (bu _ hb)
  rcases T8 with rfl|hb
  ·exact#[Oe,G.fr.ent.big.free hl,by rw[aO λz:b=x=>Oi (by rw[z];exact bF _ hx),hl3];exact nofun]
  ·obtain⟨w1,w2,w3⟩:=h0' b hb
   refine#[w1,w2,?_]
   by_cases e:b=x
   ·subst e;rw[bh];exact nofun
   ·rw[aO e];exact w3
 ·rcases s1 b hb with rfl|hb
  ·exact Oi (bu _ Vt)
  ·exact dj b hb Vt
theorem OF.tM(mF:cj F)(G:OF K B0 B (Sep (DC K a cs kl) F) H0 H σ δ)(o:Obj):OF K B0 B (Sep (DZ K o a cs kl) F) H0 (upd H a (.tM o (.dK (uT kl cs)))) σ δ:=
 G.putL DC.mono mF (.refl G.fr.sub) λas #[e,nd,h1,h2]=>#[by rw[e];simp,as,λ_ z=>z,e,nd,bh,h2.mono (cK.refl _) λc hc=>aO λz=>(bY.mp nd).1 (by rw[<-z];exact hc)]
theorem OF.Uq(mF:cj F)(G:OF K B0 B (Sep (DZ K o a cs kl) F) H0 H σ δ):OF K B0 B (Sep (DC K a cs kl) F) H0 (upd H a (.dK (uT kl cs))) σ δ:=
 G.putL DZ.mono mF (.refl G.fr.sub) λas #[e,nd,h1,h2]=>#[by rw[e];simp,as,λ_ z=>z,e,nd,bh,h2.mono (cK.refl _) λc hc=>aO λz=>(bY.mp nd).1 (by rw[<-z];exact hc)]
theorem OF.at(G:OF K B0 B (Sep R F) H0 H σ δ):∃as,(∀a∈as,H0 a=none/\B a=none/\H a≠none)/\R H0 H as:=by
 obtain⟨_,h0,a1,a2,rfl,dj,h1,h2⟩:=G.ex;exact#[a1,λa ha=>h0 a (bF _ ha),h1]
end
section
variable{X:Cx}{B0 B H0 H:Hp}{σ:St}{D:Ends}{δ:List Slot}{a:aF}{o:Obj}{cs:List aF}{kl:List (Str×List ae)}{F:OR}{rest body:List e6}{e:bC}{x y:Str}{px py tp apos jf pos:Pos}{kk}
theorem zo(mF:cj F)(G:OF X.K B0 B (Sep (DC X.K a cs kl) F) H0 H σ δ)(q:∀o H',(∀o' u,X.H₀ a≠some (.tM o' u))->OF X.K B0 B (Sep (DZ X.K o a cs kl) F) H0 H' σ δ->w_ X rest D σ H'):w_ X rest D σ H:=λpins s I=>by
 obtain⟨as,_,e,_,h1,_⟩:=G.at;obtain⟨o,I'⟩:=I.freeze h1;exact q o _ (λo' u z=>by have:=I.base.vW a o' u z;rw[h1]at this;cases this) (G.tM mF o) pins s I'
theorem J7(mF:cj F)(G:OF X.K B0 B (Sep (DZ X.K o a cs kl) F) H0 H σ δ)(hn:∀o' u,X.H₀ a≠some (.tM o' u))(q:∀H',OF X.K B0 B (Sep (DC X.K a cs kl) F) H0 H' σ δ->w_ X rest D σ H'):w_ X rest D σ H:=λpins s I=>by
 obtain⟨as,_,e,_,h1,_⟩:=G.at;exact q _ (G.Uq mF) pins s (I.Uq h1 hn)
theorem IE(Fs:Nat->OR)(i j:Nat)(mF:∀k,cj (Fs k))(G:OF X.K B0 B (Sep (DZ X.K o a cs kl) (Fs 0)) H0 H σ δ)(hp:pS (model X.prog X.w) X.A X.env X.xe)(hc:X.calm=true)(he:∀Q:V->Hp->Prop,Q (.ref a) H->cE X e σ H Q)(hg:PG X (.Tuple [.Name x px,.Name y py] kk tp) (L5 X.K (.tup [i,j])))
  (hn:∀(z:Str)c,noOwn ((δ.set i (.val (.str z))).set j (.ref c))=true)(hf:∀(z:Str)c,Fd ((δ.set i (.val (.str z))).set j (.ref c)) δ)
  (step:∀k q c,kl[k]?=some q->cs[k]?=some c->∀(D:Ends)C0 σ' cZ H',OF X.K C0 B (Sep (DZ X.K o a cs kl) (Fs k)) cZ H' σ' ((δ.set i (.val (.str q.1))).set j (.ref c))->(∀σ2 Ha Hb,OF X.K C0 B (Sep (DZ X.K o a cs kl) (Fs (k+1))) Ha Hb σ2 δ->D.nx σ2 Hb)->w_ X body D σ' H')
  (q:∀σ2 Ha Hb,OF X.K B0 B (Sep (DZ X.K o a cs kl) (Fs kl.length)) Ha Hb σ2 δ->D.nx σ2 Hb)
  (gA:uS X e "items":=by rfl)(hline:(apos.endLine==jf.line)=true:=by rfl)
  (hs:KW X (.Call (.Attribute e "items" apos) [] [] jf):=by intro _;rfl):cS X (.For (.Tuple [.Name x px,.Name y py] kk tp) (.Call (.Attribute e "items" apos) [] [] jf) body [] pos) D σ H:=λpins s I=>by
 refine BQ hp hc (MH cB gA hline) hg j7 hs pins s σ H D I ?_
 refine he _ ?_
 obtain⟨_,_,rfl,_,h1,h2⟩:=G.at;refine#[a,o,_,rfl,h1,?_]
 have hlen:(uT kl cs).length=kl.length:=by have:=qQ6 dC (lY (kl:=kl) (cs:=cs) h2.1);simpa using this
 refine#[λi mm σ' H'=>i<=kl.length/\mm=kl.length-i/\∃Ha,OF X.K B0 B (Sep (DZ X.K o a cs kl) (Fs i)) Ha H' σ' δ,#[kl.length,bx _,rfl,H0,G],?_]
 rintro n mm σ' H' ⟨hi,rfl,Ha,Ga⟩
 obtain⟨_,_,rfl,_,XD,h2'⟩:=Ga.at;by_cases mL:n<kl.length
 ·obtain⟨q,hq⟩:∃q,kl[n]?=some q:=#[kl[n],au mL]
  obtain⟨c,ZK⟩:∃c,cs[n]?=some c:=#[cs[n]'(by rw[h2.1];exact mL),au (by rw[h2.1];exact mL)]
  refine .inr #[#[by rw[hlen];exact mL,XD],λσ'' xT=>∃Hb,OF X.K B0 B (Sep (DZ X.K o a cs kl) (Fs (n+1))) Hb xT σ'' δ,λσ'' xT #[Hb,z]=>#[kl.length-(n+1),∅,mL,rfl,Hb,z],λv H2 #[t,qq,ev,ht,hk,e2]=>?_]
  subst ev;subst e2;have ek:qq=(bo q.1,V.ref c):=by
   unfold uT at hk;rw[aG,(BG (z:=(q,c))).mpr #[hq,ZK]]at hk
   exact(cD hk).symm
  subst ek;have g:c6 Ha H' Ha (upd H' t (.tup [kV (bo q.1),V.ref c])):=.loose Ga.fr.sub ht;have G1:=Ga.go (Sep.mono DZ.mono (mF n)) (Ga.own.grow g) Ga.no;have G2:=G1.go (Sep.mono DZ.mono (mF n)) ((G1.own.uv (i:=i) (v:=.str q.1) (sl:=.val (.str q.1)) #[_,rfl,.str _] rfl).uv (i:=j) (v:=.ref c) (sl:=.ref c) rfl rfl) (hn q.1 c);refine#[t,_,rfl,oH.of bh,rfl,?_]
  exact#[_,_,rfl,_,_,rfl,rfl,step n q c hq ZK _ _ _ _ _ G2 λσ2 Hc Hd z=>#[Hc,z]]
 ·have en:n=kl.length:=∅
  subst en;exact .inl #[#[by rw[hlen];exact aP _,XD],q _ _ _ Ga]
end
theorem qm:∀{vs:List aD}{ns:List Int},wQ vs ns->dI (ns.map V.int) vs
 |_,_,.nil=>.nil
 |_,_,.cons y t r=>.cons #[t,rfl] (qm r)
theorem wA:g8 X (.builtin "sorted") (λxs H Q=>∃(a:aF)(ns:List Int),xs=[.ref a]/\jx X.K H a (ns.map V.int)/\ns.length<64/\∀(x3:List Int)l,x3.Perm ns->x3.Pairwise (·<=·)->H l=none->Q (.ref l) (upd H l (.lst (x3.map V.int)))):=by
 intro pins s σ H xs us Q I r h;obtain⟨a,ns,rfl,hq,XS,q⟩:=h;obtain⟨u,rfl,rx⟩:=vals1 r;cases rx;obtain⟨its,rv,pl,hz⟩:=I.list hq;have Xq:=rv.length;rw[ai]at Xq;refine sorted_ints pl.isList (intsAre_of rv) ∅ λout x3 a1 a2 a3=>?_
 obtain⟨c,hc⟩:=sortedAll_at s.heap its out;have hD:H (s.heap.objs.size+1)=none:=I.hok.fresh (ud _);have sl:sizeLine=16777216:=du;refine#[.ref (s.heap.objs.size+1),_,I.laid (t':=s.toks) (λb o q=>sortedAll_old q) (ud _) (o:=.lst (x3.map V.int)) #[by rw[ai,a2.length_eq];omega,out.toList,c,qm a1,by rw[Fq];exact hc],rfl,q x3 _ a2 a3 hD]
theorem nL:∀ns:List Int,b9 K H (ns.map V.int) (ns.map .int)
 | []=>.nil
 |n::ns=>.cons (.int n) (nL ns)
theorem J8{zs: List Int}(hp:zs.Perm ns)(hs:zs.Pairwise (·<=·))(XS:ns.length<64):xh K (λxs H Q=>∃(a:aF)(ns:List Int),xs=[.ref a]/\jx K H a (ns.map V.int)/\ns.length<64/\∀(x3:List Int)l,x3.Perm ns->x3.Pairwise (·<=·)->H l=none->Q (.ref l) (upd H l (.lst (x3.map V.int)))) [.list (ns.map .int)] (zs.map .int):=λvs H0 H Q s r k=>by
 obtain⟨v,rfl,r1⟩:=r.one;cases r1 with
 |lst hq rs=>
  rw[rs.ints]at hq;refine#[_,ns,rfl,s.seq hq,XS,λx3 l h1 h2 hl=>?_]
  have e:x3=zs:=yD (λx y _ _ a b=>Ae a b) h2 hs (h1.trans hp.symm)
  rw[e];exact k _ _ _ _ (.loose s hl) hl (s.free hl) bh (nL zs)
theorem oQ(hc:X.calm=true):g8 X (.builtin "sorted") (λxs H Q=>∃(p:aF)(kvs:List (Key×V))(ns:List Int),xs=[.ref p]/\Rd H p (.dK kvs)/\kvs.map (·.1)=ns.map (λx=>(iR x:Key))/\ns.length<64/\∀(x3:List Int)l,x3.Perm ns->x3.Pairwise (·<=·)->H l=none->Q (.ref l) (upd H l (.lst (x3.map V.int)))):=by
 intro pins s σ H xs us Q I r h;obtain⟨p,kvs,ns,rfl,hp,hk,XS,q⟩:=h;obtain⟨u,rfl,rx⟩:=vals1 r;cases rx;obtain⟨z,hd,vs,rel,dd⟩:=hp.ok I.hok;obtain⟨ep,J2⟩:=dd.dictAt;have hlen:=rel.length;have hls:kvs.length=ns.length:=by have:=qQ6 dC hk;rwa [ai,ai]at this
 have sl:sizeLine=16777216:=du;refine Calls.call_function_entry kind_sorted plain_sorted entry_sorted (args_sorted1 _) ?_
 unfold qY.«sorted»;refine aA (m:=checkCount "sorted" 1 1 _) (bj (aA (PySem.W.kdu_collect (vV (knd:=ei X.prog X.w) (kvs:=vs) (ep:=ep) hd) ?_ J2 (by rw[<-hlen];exact z) λh' tk acc ZC D0=>?_)))
 ·exact I.ok.hd hc
 have rv:=IA kvs vs acc.toList rel (by rw[cH];exact D0.1) λj v hj=>D0.2 j v (by rw[<-lI];exact hj)
 have e1:(kvs.map λq=>kV q.1)=ns.map V.int:=by
  have:=qQ6 (oF kV) hk;rw[aB,aB]at this;exact this
 rw[e1]at rv;have UC:acc.toList.length=ns.length:=by rw[<-rv.length,ai]
 refine aA (wpAny_newList ?_ ∅)
 have V6:(h'.push (seqObj "list" acc.toList.toArray 0)).get? h'.objs.size=some (seqObj "list" acc.toList.toArray 0):=bq _ rfl
 have BU:(h'.push (seqObj "list" acc.toList.toArray 0)).objs.size=h'.objs.size+1:=size_push' _ _;refine aA (oq (j9 slot_list_sort #[_,V6,rfl] entry_list_sort (list_sort_tree V6 (intsAre_of rv) ∅ λout x3 a1 a2 a3=>#[_,rfl,bj #[_,rfl,?_]]) (args_list_sort _)))
 obtain⟨e,he⟩:=sortedHeap_at (out:=out) V6;have I1:Inv X pins σ H { s with heap:=h',toks:=tk }:=I.un (Un.kept ZC) (I.hok.kept ZC)
 have hD:H h'.objs.size=none:=I1.hok.fresh (aP _);refine#[.ref h'.objs.size,_,I1.laid (t':=tk) (o:=.lst (x3.map V.int)) (λb o hb=>?_) (aP _) #[by rw[ai,a2.length_eq];omega,out.toList,e,qm a1,by rw[Fq];exact he],rfl,q x3 _ a2 a3 hD]
 have lt:=aZ hb;rw[sortedHeap_old (a7 lt) (by rw[BU];exact k_ lt)]
 exact aE _ hb
theorem zp{zs: List Int}(hp:zs.Perm ns)(hs:zs.Pairwise (·<=·))(XS:ns.length<64):xh K (λxs H Q=>∃(p:aF)(kvs:List (Key×V))(ns:List Int),xs=[.ref p]/\Rd H p (.dK kvs)/\kvs.map (·.1)=ns.map (λx=>(iR x:Key))/\ns.length<64/\∀(x3:List Int)l,x3.Perm ns->x3.Pairwise (·<=·)->H l=none->Q (.ref l) (upd H l (.lst (x3.map V.int)))) [D3 ns] (zs.map .int):=λvs H0 H Q s r k=>by
 obtain⟨v,rfl,r1⟩:=r.one;obtain⟨a,ws,rfl,ha,hk⟩:=r1.D4;refine#[a,ws,ns,rfl,.inl (s _ _ ha),hk,XS,λx3 l h1 h2 hl=>?_]
 have e:x3=zs:=yD (λx y _ _ a b=>Ae a b) h2 hs (h1.trans hp.symm)
 rw[e];exact k _ _ _ _ (.loose s hl) hl (s.free hl) bh (nL zs)
def Gj(N:List Str)(p:aF)(ds:List ae):List Slot:=.ref p::oZ N.tail ds
theorem Bd:∀{N:List Str}{ds:List ae},noOwn (oZ N ds)=true:=λ{N ds}=>by
 unfold noOwn oZ;rw[List.all_append,eD,dO,dO];exact#[λx hx=>by obtain⟨d,_,rfl⟩:=av.mp hx;rfl,λx hx=>by rw[(gI.mp hx).2];rfl]
theorem J9{N:List Str}{p:aF}{vs:List V}(s:cK H0 H)(r:b9 K H0 vs ds)(hN:N≠[]):gy K H0 H H0 H (start N (.ref p::vs)) (Gj N p ds):=by
 have f:=gy.start (N:=N.tail) s r;have e:start N (.ref p::vs)=some (.ref p)::start N.tail vs:=by
  cases N with
  |nil=>exact qQ7 rfl hN
  |cons x N=>unfold L2.start;simp
 rw[e];refine#[.refl s,by show _+1=_+1;rw[f.len],λi sl h=>?_,λi j a b q _ h=>?_]
 ·cases i with
  |zero=>cases h;rfl
  |succ i=>exact f.slot i sl h
 ·cases i with
  |zero=>cases h
  |succ i=>exact qQ7 (show(oZ N.tail ds)[i]?=some (.own a)from h) (iN Bd i a)
abbrev XT(P:bA)(w:cg)(K:ao)(mg:Str->Option aD)(base:cM)(N:List Str)(qual:Str)(st:e6)(f:aF)(k:Nat)(R:OR)(W:UV)(p:aF)(ds:List ae):Prop:=
 ∀e7 A outer s H E,dB k (A.deeper (envOfC qual (a_ st) s.heap.objs.size f e7))->∀B0 B H0 Hh σ (D:Ends),OF K B0 B R H0 Hh σ (Gj N p ds)->(∀v σ' δ' Ha Hb,OF K B0 B (W v) Ha Hb σ' δ'->D.rt v Hb)->(∀σ' δ' Ha Hb,OF K B0 B (W .non) Ha Hb σ' δ'->D.nx σ' Hb)->w_ (lU gS P w K mg base N qual (a_ st) f e7 A outer s H E).xQ (jB st) D σ Hh
theorem J_{mg:Str->Option aD}{base:cM}{x qual:Str}{st:e6}{f:aF}{fd:eU}{N ps:List Str}{k:Nat}{S:Type}{PR:aF->S->OR}{ok:S->List ae->S->UV->Prop}(F:jQ K x qual st f fd)(Sc:cn N ps (a_ st))(hN:N≠[])(hl:∀s d2 s' U,ok s d2 s' U->d2.length+1=ps.length)(hb:∀p s d2 s' U,ok s d2 s' U->XT P w K mg base N qual st f k (PR p s) (λv=>Sep (U v) (PR p s')) p d2):dW P w K mg base gS (k+1) f fd ps (D9 K S PR ok):=by
 refine F.ok Sc (λvs H Q E h=>?_) (λe7 A outer s0 H vs Q E hr h=>?_)
 ·obtain⟨H0,p,v2,as,s,s',d2,U,rfl,sm,r2,own,W,hok,q⟩:=h
  rw[bR,r2.length];exact hl _ _ _ _ hok
 ·obtain⟨H0,p,v2,as,s,s',d2,U,rfl,sm,r2,own,W,hok,q⟩:=h
  have fin:∀v σ' δ' Ha Hb,OF K H0 (lB as H) (Sep (U v) (PR p s')) Ha Hb σ' δ'->Q v Hb:=λv σ' δ' Ha Hb G=>by
   have G':OF (lU gS P w K mg base N qual (a_ st) f e7 A outer s0 H E).xQ.K H0 (lB as H) (Sep (U v) (PR p s')) Ha Hb σ' δ':=G;obtain⟨as',z1,z2,z3,z4,z5,z6⟩:=Rq G';exact q v Ha Hb as' z1 z2 z3 z4 z5 z6
  have HX:noOwn (Gj N p d2)=true:=by
   show noOwn (.ref p::oZ N.tail d2)=true;have:=Bd (N:=N.tail) (ds:=d2);unfold noOwn at this ⊢;rw[List.all_cons,this];rfl
  exact#[_,j7,hb p s d2 s' U hok e7 A outer s0 H E hr H0 (lB as H) H0 H _ _ (IC (X:=(lU gS P w K mg base N qual (a_ st) f e7 A outer s0 H E).xQ) own W (J9 sm r2 hN) HX) fin λσ' δ' Ha Hb G=>fin _ _ _ _ _ G]
theorem DL.of{cs:List aF}(h:DC K a cs kl H0 H as):DL K a kl H0 H as:=#[cs,h.1,h.2.1,h.2.2.1,h.2.2.2]
theorem DL.dc(h:DL K a kl H0 H as):∃cs,DC K a cs kl H0 H as:=let#[cs,h1,h2,h3,h4]:=h;#[cs,h1,h2,h3,h4]
theorem DL.nt:yt (DL K a kl):=λ_ _ _ h=>let#[_,z]:=h.dc;DC.nt _ _ _ z
theorem DL.see:qj K (DL K a kl) a (kP (wz kl)):=λ_ _ _ sb h=>let#[_,z]:=h.dc;DC.see _ _ _ sb z
def Rt(K:ao)(kl:List (Str×List ae)):UV:=λv H0 H as=>∃a,v=.ref a/\DL K a kl H0 H as
def UDR(K:ao)(kv:List (Str×ae)):UV:=λv H0 H as=>∃a,v=.ref a/\DR K a kv H0 H as
section
variable{K:ao}{B0 B H0 H Ha Hb:Hp}{σ:St}{δ:List Slot}{R R' F:OR}{l a:aF}{ob:HO}{kl:List (Str×List ae)}
theorem OF.add(m:cj R)(G:OF K B0 B R H0 H σ δ)(g:c6 H0 H Ha Hb)(h1:H l=none)(h2:Ha l=none)(h3:Hb l=some ob)(hR:R' Ha Hb [l]):OF K B0 B (Sep R' R) Ha Hb σ δ:=
 G.new m (λas hn _=>#[[l],λa ha=>by rw[aW.mp ha];exact#[h1,h2,by rw[h3];exact nofun],hR]) g
theorem OF.Ea(G:OF K B0 B (Sep R F) H0 H σ δ)(h:∀as,R H0 H as->R' H0 H as):OF K B0 B (Sep R' F) H0 H σ δ:=G.imp λ_ #[a1,a2,e,dj,z1,z2]=>#[a1,a2,e,dj,h a1 z1,z2]
theorem OF.XU(G:OF K B0 B (Sep F R) H0 H σ δ)(h:∀as,R H0 H as->R' H0 H as):OF K B0 B (Sep F R') H0 H σ δ:=G.imp λ_ #[a1,a2,e,dj,z1,z2]=>#[a1,a2,e,dj,z1,h a2 z2]
theorem OF.dlx(G:OF K B0 B (Sep (DL K a kl) F) H0 H σ δ):∃cs,OF K B0 B (Sep (DC K a cs kl) F) H0 H σ δ:=by
 obtain⟨as,h,a1,a2,e,dj,z1,z2⟩:=G.ex;obtain⟨cs,z⟩:=z1.dc;exact#[cs,G.fr,G.no,as,h,a1,a2,e,dj,z,z2]
end
section
variable{X:Cx}{B0 B H0 H:Hp}{σ:St}{D:Ends}{δ δ':List Slot}{p a:aF}{e c:bC}{d:ae}{ds es:List ae}{R F:OR}{pos px p0 pc pa:Pos}{x y:Str}{k:Nat}{kl:List (Str×List ae)}{kv:List (Str×ae)}{P:Hp->HO->Prop}
theorem Gk(m:cj R)(m':∀l,cj (R' l))(G:OF X.K B0 B R H0 H σ δ)(j:Nat)(hv:Iz X σ H0 H e P)(hP:∀l o Ha Hb,P Ha o->Hb l=some o->R' l Ha Hb [l])(hn:∀l,noOwn (δ.set j (.ref l))=true)(q:∀l σ' cZ H',OF X.K B0 B (Sep (R' l) R) cZ H' σ' (δ.set j (.ref l))->D.nx σ' H')(hN:X.N.Nodup)
  (hj:X.N[j]?=some y:=by rfl)(hx:Loc X.env.scope y:=by left)(oA:uX X pos e (.Name y px):=by rfl)(hf:AJ X y:=by left):
  cS X (.Assign [.Name y px] e pos) D σ H:=D_ j (hv _ λl o Ha Hb g z1 z2 z3 z4=>by
 have G1:=G.add (R':=R' l) m g z1 z2 z3 (hP l o Ha Hb z4 z3);exact q l _ Ha Hb (G1.J6 (Sep.mono (m' l) m) j (hn l))) hN hj hx oA hf
theorem wB(G:OF X.K B0 B R H0 H σ δ)(h:VO X e δ ds):Iz X σ H0 H e (λHa o=>∃xs,o=.lst xs/\b9 X.K Ha xs ds):=P2 G.own h
theorem Gm(m:cj R)(G:OF X.K B0 B R H0 H σ δ)(j:Nat)(hv:Iz X σ H0 H e (λHa o=>∃xs,o=.lst xs/\b9 X.K Ha xs ds))(hn:∀l,noOwn (δ.set j (.ref l))=true)(q:∀l σ' cZ H',OF X.K B0 B (Sep (LR X.K l ds) R) cZ H' σ' (δ.set j (.ref l))->D.nx σ' H')(hN:X.N.Nodup)
  (hj:X.N[j]?=some y:=by rfl)(hx:Loc X.env.scope y:=by left)(oA:uX X pos e (.Name y px):=by rfl)(hf:AJ X y:=by left):
  cS X (.Assign [.Name y px] e pos) D σ H:=Gk m (λ_=>LR.mono) G j hv (λl o Ha Hb #[xs,e,r] h=>#[rfl,xs,by rw[h,e],r]) hn q hN hj hx oA hf
theorem Gn(m:cj R)(G:OF X.K B0 B R H0 H σ δ)(j:Nat)(hn:∀l,noOwn (δ.set j (.ref l))=true)(q:∀l σ' cZ H',OF X.K B0 B (Sep (DL X.K l []) R) cZ H' σ' (δ.set j (.ref l))->D.nx σ' H')(hN:X.N.Nodup)
  (hj:X.N[j]?=some y:=by rfl)(hx:Loc X.env.scope y:=by left)(oA:uX X pos (.Dict [] [] pc) (.Name y px):=by rfl)(hf:AJ X y:=by left):
  cS X (.Assign [.Name y px] (.Dict [] [] pc) pos) D σ H:=Gk m (λ_=>DL.mono) G j (vv G.fr.sub) (λl o Ha Hb e h=>#[[],rfl,by simp,by rw[h,e];rfl,rfl,λi c q e1=>by simp at e1]) hn q hN hj hx oA hf
theorem MJ(f:gy X.K B0 B H0 H σ δ)(i:Nat)(hi:δ[i]?=some (.ref a))(q:D.rt (.ref a) H)(hN:ow X i x:=by ac_rfl):
  cS X (.Return (some (.Name x px)) pos) D σ H:=λpins s I=>uh (ug hN) pins s σ H D I #[_,f.slot i _ hi,q]
theorem IG(mF:cj F)(G:OF X.K B0 B (Sep (LR X.K a ds) F) H0 H σ δ)(i:Nat)(hi:δ[i]?=some (.ref a))(hv:Dg X B0 B (Sep (LR X.K a ds) F) σ δ e d)(hl:ds.length<sizeLine)(q:∀Ha Hb,OF X.K B0 B (Sep (LR X.K a (ds ++ [d])) F) Ha Hb σ δ->D.nx σ Hb)
  (hN:ow X i x:=by ac_rfl)
  (gA:uS X (.Name x px) "append":=by rfl)
  (hs:kO X e []:=by rfl)
  (lj:Ft X pc [e]:=by rfl)
  (hline:(pa.endLine==pc.line)=true:=by rfl)(fD:rC X pc []:=by rfl)(oA:QO X pos (.Call (.Attribute (.Name x px) "append" pa) [e] [] pc):=by rfl):
  cS X (.Expr (.Call (.Attribute (.Name x px) "append" pa) [e] [] pc) pos) D σ H:=by
 obtain⟨_,_,rfl,xs,h1,h2⟩:=G.at;refine XM (Sep.mono LR.mono mF) G i hi h1 hv (by rw[h2.length];exact hl) (λv Ha Hb g r=>q Ha _ ?_) hN gA hs lj hline fD oA
 exact G.putL LR.mono mF g λas #[e,_]=>#[by rw[e];simp,as,λ_ z=>z,e,_,bh,(h2.mono g.e8).append (.cons r .nil)]
theorem XW(mF:cj F)(G:OF X.K B0 B (Sep (LR X.K a ds) F) H0 H σ δ)(i:Nat)(hi:δ[i]?=some (.ref a))(hv:Iz X σ H0 H e (λHa o=>∃xs,o=.lst xs/\b9 X.K Ha xs es))(hl:ds.length+es.length<=sizeLine)(q:∀Ha Hb,OF X.K B0 B (Sep (LR X.K a (ds++es)) F) Ha Hb σ δ->D.nx σ Hb)
  (hN:ow X i x:=by ac_rfl)
  (gA:uS X (.Name x px) "extend":=by rfl)
  (hs:kO X e []:=by rfl)
  (lj:Ft X pc [e]:=by rfl)
  (hline:(pa.endLine==pc.line)=true:=by rfl)(fD:rC X pc []:=by rfl)(oA:QO X pos (.Call (.Attribute (.Name x px) "extend" pa) [e] [] pc):=by rfl):
  cS X (.Expr (.Call (.Attribute (.Name x px) "extend" pa) [e] [] pc) pos) D σ H:=by
 obtain⟨_,_,rfl,xs,h1,h2⟩:=G.at;refine XO G i hi h1 hv (by rw[h2.length];exact hl) (λzs Ha Hb g r=>q Ha _ ?_) hN gA hs lj hline fD oA
 exact G.putL LR.mono mF g λas #[e,_]=>#[by rw[e];simp,as,λ_ z=>z,e,_,bh,(h2.mono g.e8).append r]
theorem Gp{z:Str}(mF:cj F)(G:OF X.K B0 B (Sep (DL X.K a kl) F) H0 H σ δ)(hr:dB k X.A)(i:Nat)(hi:δ[i]?=some (.ref a))(hk:Dg X B0 B (Sep (DL X.K a kl) F) σ δ ek (.str z))(hz:z∉kl.map (·.1))(hv:Iz X σ H0 H e (λHa o=>∃xs,o=.lst xs/\b9 X.K Ha xs es))(hl:kl.length<sizeLine)(q:∀Ha Hb,OF X.K B0 B (Sep (DL X.K a (kl ++ [(z,es)])) F) Ha Hb σ δ->D.nx σ Hb)
  (hN:ow X i x:=by ac_rfl)
  (hs:uX X pos e (.Subscript (.Name x px) ek ps):=by rfl):
  cS X (.Assign [.Subscript (.Name x px) ek ps] e pos) D σ H:=by
 obtain⟨cs,G1⟩:=G.dlx;obtain⟨_,_,rfl,nd,h1,h2⟩:=G1.at;have hlen:(uT kl cs).length=kl.length:=by have:=qQ6 dC (lY (kl:=kl) (cs:=cs) h2.1);simpa using this
 refine MG (κ:=bo z) (Sep.mono DL.mono mF) G hr i hi h1 hk hv (by rw[hlen];exact hl) (λl o Ha Hb g z1 z2 z3 z4=>q Ha _ ?_) (λHa Hb o sm #[xs,e,r]=>#[xs,e,r.mono sm]) hN hs
 obtain⟨xs,rfl,r⟩:=z4;exact G1.Rr DC.mono mF g z1 z2 z3 λas Oi hd=>#[by rw[hd.1];simp,as ++ [l],λb hb=>(aR.mp hb).elim .inr λy=>.inl (aW.mp y),.of (hd.push hz Oi z3 r)]
end
def x4(R R1:OR):Prop:=∀Ha Hb as,R Ha Hb as->∃a1,(∀a∈a1,a∈as)/\R1 Ha Hb a1
section
variable{K:ao}{R R1 F:OR}{p:aF}{d:ae}
theorem x4.refl:x4 R R:=λ_ _ as h=>#[as,λ_ z=>z,h]
theorem x4.l(h:x4 R R1):x4 (Sep R F) R1:=by
 rintro Ha Hb as ⟨a1,a2,rfl,_,z,_⟩
 obtain⟨b,h1,h2⟩:=h Ha Hb a1 z;exact#[b,λa ha=>bF _ (h1 a ha),h2]
theorem x4.r(h:x4 R R1):x4 (Sep F R) R1:=by
 rintro Ha Hb as ⟨a1,a2,rfl,_,_,z⟩
 obtain⟨b,h1,h2⟩:=h Ha Hb a2 z;exact#[b,λa ha=>bu _ (h1 a ha),h2]
theorem qj.has(h:qj K R1 p d)(hs:x4 R R1):qj K R p d:=λHa Hb as sb z=>by
 obtain⟨b,h1,h2⟩:=hs Ha Hb as z;exact(h Ha Hb b sb h2).mono (uy sb h1)
end
def IN(C r dx:aF)(fs:List (Str×V)):OR:=λ_ H as=>as=[r]/\H r=some (.ins C dx fs)
theorem IN.mono{r dx: aF}:cj (IN C r dx fs):=λH0 H Ha Hb as #[e,h] _ hb=>#[e,by rw[hb r (by rw[e];simp)];exact h]
theorem IN.nt{r dx: aF}:yt (IN C r dx fs):=by
 rintro H0 H as ⟨rfl,h⟩ b hb
 rw[aW.mp hb];unfold vt;rw[h];exact λys=>#[nofun,λo=>nofun]
theorem qW.nt{v:V}:yt (qW K d v):=by
 rintro H0 H as ⟨rfl,_⟩ b hb
 cases hb
def LQ(K:ao)(a:aF)(xs:List V)(ds:List ae):OR:=λH0 H as=>as=[a]/\H a=some (.lst xs)/\b9 K H0 xs ds
theorem LQ.mono:cj (LQ K a xs ds):=λH0 H Ha Hb as #[e,h,r] sm hb=>#[e,by rw[hb a (by rw[e];simp)];exact h,r.mono sm]
theorem LQ.nt{K:ao}{a:aF}{xs:List V}{ds:List ae}:yt (LQ K a xs ds):=λH0 H as #[e,h,r]=>LR.nt (K:=K) (ds:=ds) H0 H as #[e,xs,h,r]
theorem LQ.see:qj K (LQ K a xs ds) a (.list ds):=λHa Hb as sb #[e,h,r]=>LR.see Ha Hb as sb #[e,xs,h,r]
theorem DR.push{z:Str}{v:V}(h:DR K a kv H0 H as)(hk:H a=some (.dK kvs))(hz:z∉kv.map (·.1))(r:Rep K H0 v d):DR K a (kv ++ [(z,d)]) H0 (upd H a (.dK (putK kvs (bo z) v))) as:=by
 obtain⟨e,zhr,h1,h2,h3⟩:=h;rw[hk]at h1;cases h1;obtain⟨p1,p2⟩:=PV (y:=z) r h2 h3;have e2:Mw kv z d=kv ++ [(z,d)]:=by
  unfold Mw;rw[qQ2];rw[jO]
  rintro⟨q,hq,hd⟩
  exact hz (by rw[<-qQ4 hd];exact av.mpr #[q,hq,rfl])
 rw[e2]at p1 p2;exact#[e,_,bh,p1,p2]
theorem OF.zbA{B0 B: Hp}{σ:St}{I R A A':OR}(G:OF K B0 B (Sep I (Sep (Sep R A) A')) H0 H σ δ):OF K B0 B (Sep A (Sep I (Sep A' R))) H0 H σ δ:=by
 obtain⟨as,o1,a1,a2,e,dj,z1,b1,b2,e2,Ff,⟨c1,c2,e3,Oj,y1,y2⟩,y3⟩:=G.ex;subst e e2 e3;refine#[G.fr,G.no,c2++(a1++(b2++c1)),λa ha=>o1 a ?_,c2,a1++(b2++c1),rfl,λa ha hb=>?_,y2,a1,b2++c1,rfl,λa ha hb=>?_,z1,b2,c1,rfl,λa ha hb=>?_,y3,y1]
 ·simp only[aR]at ha ⊢;rcases ha with h|h|h|h<;>simp[h]
 ·simp only[aR]at hb
  rcases hb with h|h|h
  ·exact dj a h (by simp[ha])
  ·exact Ff a (by simp[ha]) h
  ·exact Oj a h ha
 ·simp only[aR]at hb
  exact dj a ha (by rcases hb with h|h<;>simp[h])
 ·exact Ff a (by simp[hb]) ha
theorem OF.XX{B0 B: Hp}{σ:St}{I R A A':OR}(G:OF K B0 B (Sep A (Sep I (Sep A' R))) H0 H σ δ):OF K B0 B (Sep A' (Sep I (Sep A R))) H0 H σ δ:=by
 obtain⟨as,o1,a1,a2,e,dj,z1,b1,b2,e2,Ff,y1,c1,c2,e3,Oj,y2,y3⟩:=G.ex;subst e e2 e3;refine#[G.fr,G.no,c1++(b1++(a1++c2)),λa ha=>o1 a ?_,c1,b1++(a1++c2),rfl,λa ha hb=>?_,y2,b1,a1++c2,rfl,λa ha hb=>?_,y1,a1,c2,rfl,λa ha hb=>dj a ha (by simp[hb]),z1,y3]
 ·simp only[aR]at ha ⊢;rcases ha with h|h|h|h<;>simp[h]
 ·simp only[aR]at hb
  rcases hb with h|h|h
  ·exact Ff a h (by simp[ha])
  ·exact dj a h (by simp[ha])
  ·exact Oj a ha h
 ·rcases aR.mp hb with h|h
  ·exact dj a h (by simp[ha])
  ·exact Ff a ha (by simp[h])
section
variable{X:Cx}{B0 B H0 H:Hp}{σ:St}{D:Ends}{δ:List Slot}{r a C dx:aF}{e ek:bC}{d:ae}{es:List ae}{R:OR}{pos px po ps:Pos}{x fl z:Str}{k:Nat}{kl:List (Str×List ae)}{kv:List (Str×ae)}{P:Hp->HO->Prop}{fs:List (Str×V)}
theorem MK(m:cj R)(G:OF X.K B0 B (Sep (IN C r dx fs) R) H0 H σ δ)(i:Nat)(hi:δ[i]?=some (.ref r))(cl:qM X.K C)(na:eK X.K C fl)(hl:fs.length<1000)(hv:Dg X B0 B (Sep (IN C r dx fs) R) σ δ e d)
  (q:∀v Ha Hb,OF X.K B0 B (Sep (IN C r dx (iz fl v fs)) (Sep (qW X.K d v) R)) Ha Hb σ δ->D.nx σ Hb)
  (hN:ow X i x:=by ac_rfl)
  (hs:uX X pos e (.Attribute (.Name x px) fl po):=by rfl):
  cS X (.Assign [.Attribute (.Name x px) fl po] e pos) D σ H:=by
 obtain⟨_,_,rfl,h1⟩:=G.at;refine XG G i hi h1 cl na hl hv (λv Ha Hb g rr=>q v Ha _ ?_) hN hs
 have G1:=G.go (Sep.mono IN.mono m) (G.own.grow g) G.no;have G2:OF X.K B0 B (Sep (IN C r dx fs) (Sep (qW X.K d v) R)) Ha Hb σ δ:=by
  obtain⟨as,o1,a1,a2,e,dj,z1,z2⟩:=G1.ex;exact#[G1.fr,G1.no,as,o1,a1,a2,e,dj,z1,[],a2,rfl,λa ha=>(by cases ha),#[rfl,rr],z2]
 exact G2.putL IN.mono (Sep.mono qW.mono m) (.refl G2.fr.sub) λas #[e,_]=>#[by rw[e];simp,as,λ_ z=>z,e,bh]
theorem Cu(m:cj R)(m':∀l,cj (R' l))(G:OF X.K B0 B (Sep (IN C r dx fs) R) H0 H σ δ)(i:Nat)(hi:δ[i]?=some (.ref r))(cl:qM X.K C)(na:eK X.K C fl)(hl:fs.length<1000)(hv:Iz X σ H0 H e P)(hP:∀l o Ha Hb,P Ha o->Hb l=some o->R' l Ha Hb [l])
  (q:∀l Ha Hb,OF X.K B0 B (Sep (IN C r dx (iz fl (.ref l) fs)) (Sep R (R' l))) Ha Hb σ δ->D.nx σ Hb)
  (hN:ow X i x:=by ac_rfl)
  (hs:uX X pos e (.Attribute (.Name x px) fl po):=by rfl):
  cS X (.Assign [.Attribute (.Name x px) fl po] e pos) D σ H:=by
 obtain⟨_,_,rfl,h1⟩:=G.at;refine Uv G i hi h1 cl na hl hv (λl o Ha Hb g z1 z2 z3 z4=>q l Ha _ ?_) hN hs
 have G1:=(G.add (R':=R' l) (Sep.mono IN.mono m) g z1 z2 z3 (hP l o Ha Hb z4 z3)).qk;exact G1.putL IN.mono (Sep.mono m (m' l)) (.refl G1.fr.sub) λas #[e,_]=>#[by rw[e];simp,as,λ_ z=>z,e,bh]
theorem UD(m:cj R)(G:OF X.K B0 B (Sep (DL X.K a kl) (Sep (IN C r dx fs) R)) H0 H σ δ)(hr:dB k X.A)(i:Nat)(hi:δ[i]?=some (.ref r))(cl:qM X.K C)(na:eK X.K C fl)(lk:fs.lookup fl=some (.ref a))(hk:VE X ek δ (.str z))(hz:z∉kl.map (·.1))(hv:Iz X σ H0 H e (λHa o=>∃xs,o=.lst xs/\b9 X.K Ha xs es))(hl:kl.length<sizeLine)
  (q:∀Ha Hb,OF X.K B0 B (Sep (DL X.K a (kl ++ [(z,es)])) (Sep (IN C r dx fs) R)) Ha Hb σ δ->D.nx σ Hb)
  (hN:ow X i x:=by ac_rfl)
  (hb:uS X (.Name x px) fl:=by rfl)(hs:uX X pos e (.Subscript (.Attribute (.Name x px) fl po) ek ps):=by rfl):
  cS X (.Assign [.Subscript (.Attribute (.Name x px) fl po) ek ps] e pos) D σ H:=by
 obtain⟨_,_,rfl,h1⟩:=(G.qk).at;obtain⟨cs,G1⟩:=G.dlx;obtain⟨_,_,rfl,nd,h2,h3⟩:=G1.at;have hlen:(uT kl cs).length=kl.length:=by have:=qQ6 dC (lY (kl:=kl) (cs:=cs) h3.1);simpa using this
 refine Uw (κ:=bo z) (Sep.mono DL.mono (Sep.mono IN.mono m)) G hr i hi h1 cl na lk h2 hk hv (by rw[hlen];exact hl) (λl o Ha Hb g z1 z2 z3 z4=>q Ha _ ?_) (λHa Hb o sm #[xs,e,r]=>#[xs,e,r.mono sm]) hN hb hs
 obtain⟨xs,rfl,rr⟩:=z4;exact G1.Rr DC.mono (Sep.mono IN.mono m) g z1 z2 z3 λas Oi hd=>#[by rw[hd.1];simp,as ++ [l],λb hb=>(aR.mp hb).elim .inr λy=>.inl (aW.mp y),.of (hd.push hz Oi z3 rr)]
theorem ML(m:cj R)(G:OF X.K B0 B (Sep (DR X.K a kv) (Sep (IN C r dx fs) R)) H0 H σ δ)(hr:dB k X.A)(i:Nat)(hi:δ[i]?=some (.ref r))(cl:qM X.K C)(na:eK X.K C fl)(lk:fs.lookup fl=some (.ref a))(hk:VE X ek δ (.str z))(hz:z∉kv.map (·.1))(hv:VE X e δ d)(hl:kv.length<sizeLine)
  (q:∀Ha Hb,OF X.K B0 B (Sep (DR X.K a (kv ++ [(z,d)])) (Sep (IN C r dx fs) R)) Ha Hb σ δ->D.nx σ Hb)
  (hN:ow X i x:=by ac_rfl)
  (hb:uS X (.Name x px) fl:=by rfl)(hs:uX X pos e (.Subscript (.Attribute (.Name x px) fl po) ek ps):=by rfl):
  cS X (.Assign [.Subscript (.Attribute (.Name x px) fl po) ek ps] e pos) D σ H:=by
 obtain⟨_,_,rfl,h1⟩:=(G.qk).at;obtain⟨_,_,rfl,kvs,h2,h3,h4⟩:=G.at;have hlen:kvs.length=kv.length:=by have:=qQ6 dC h3;simpa using this
 refine XH (κ:=bo z) (Sep.mono DR.mono (Sep.mono IN.mono m)) G hr i hi h1 cl na lk h2 (jm hk) (jm hv) (by rw[hlen];exact hl) (λv Ha Hb g rr=>q Ha _ ?_) hN hb hs
 exact G.putL DR.mono (Sep.mono IN.mono m) g λas hd=>#[by rw[hd.1];simp,as,λ_ z=>z,hd.push (g.big _ _ h2) hz rr]
end
def DI(K:ao)(a:aF)(ns:List Int):OR:=λ_ H as=>as=[a]/\H a=some (.dK (ns.map λg=>(iR g,V.bl true)))
theorem DI.mono:cj (DI K a ns):=λH0 H Ha Hb as #[e,h] _ hb=>#[e,by rw[hb a (by rw[e];simp)];exact h]
theorem DI.nt:yt (DI K a ns):=by
 rintro H0 H as ⟨rfl,h⟩ b hb
 rw[aW.mp hb];unfold vt;rw[h];exact λys=>#[nofun,λo=>nofun]
theorem DI.see:qj K (DI K a ns) a (D3 ns):=by
 rintro Ha Hb as sb ⟨rfl,h⟩
 unfold D3;refine .dct (kvs:=ns.map λg=>(iR g,V.bl true)) (by rw[hX (by simp)];exact h) ?_ ?_
 ·rw[aB,aB];rfl
 ·rw[aB,aB]
  have go:∀l:List Int,b9 K (jM [a] Hb Ha) (l.map ((λ(p:Key×V)=>p.2)∘λ(g:Int)=>(iR g,V.bl true))) (l.map ((λ(p:ae×ae)=>p.2)∘λ(g:Int)=>(dD g,iE true))):=by
   intro l
   induction l with
   |nil=>exact .nil
   |cons g l ih=>exact .cons (.bl true) ih
  exact go ns
section
variable{X:Cx}{B0 B H0 H:Hp}{σ:St}{D:Ends}{δ:List Slot}{a:aF}{e e1 e2 ek c tg iter:bC}{d d1 d2:ae}{ds es:List ae}{R F:OR}{pos px po p0 p1 pc pa ps pj apos jf:Pos}{x y z:Str}{k:Nat}{kl:List (Str×List ae)}{kv:List (Str×ae)}{body orelse:List e6}{ns:List Int}{g:Int}{U:UV}
theorem UE{tgt:FZ}(Rs:Nat->OR)(m:∀k,cj (Rs k))(G:OF X.K B0 B (Rs 0) H0 H σ δ)(hp:pS (model X.prog X.w) X.A X.env X.xe)(hc:X.calm=true)(hi:Dg X B0 B (Rs 0) σ δ iter (.list ds))(hg:PG X tg (L5 X.K tgt))
  (step:∀k d,ds[k]?=some d->∃δ',Am tgt d δ=some δ'/\noOwn δ'=true/\∀(D:Ends)C0 σ' cZ H',OF X.K C0 B (Rs k) cZ H' σ' δ'->(∀σ2 Ha Hb,OF X.K C0 B (Rs (k+1)) Ha Hb σ2 δ->D.nx σ2 Hb)->w_ X body D σ' H')
  (q:∀σ2 Ha Hb,OF X.K B0 B (Rs ds.length) Ha Hb σ2 δ->D.nx σ2 Hb)
  (hs:KW X iter:=by intro _;rfl):cS X (.For tg iter body [] pos) D σ H:=λpins s I=>by
 refine BQ hp hc (HP cB) hg j7 hs pins s σ H D I ?_
 refine hi H0 H G _ λv H1 cV g r=>?_
 cases r with
 |lst hq r=>
  refine#[_,rfl,#[_,g.sub.seq hq],?_]
  have G1:=G.go (m 0) (G.own.grow g) G.no;refine#[λi mm σ' H'=>i<=ds.length/\mm=ds.length-i/\∃Ha,OF X.K H1 B (Rs i) Ha H' σ' δ,#[ds.length,bx _,rfl,H1,G1.from #[G1.fr.ent.big,cK.refl _,G1.fr.sub,λ_ z=>.inl z]],?_]
  rintro i mm σ' H' ⟨hi,rfl,Ha,Ga⟩
  have hl:=r.length;have hS:=(Ga.fr.ent.e8.trans Ga.fr.sub).seq hq;by_cases mL:i<ds.length
  ·have hd:ds[i]?=some ds[i]:=by simp[mL]
   obtain⟨x,hx,rx⟩:=r.get hd;obtain⟨δ',w1,w2,w3⟩:=step i _ hd;refine .inr #[#[_,x,hS,hx],λσ'' xT=>∃Hb,OF X.K H1 B (Rs (i+1)) Hb xT σ'' δ,λσ'' xT #[Hb,z]=>#[ds.length-(i+1),∅,mL,rfl,Hb,z],λv H2 #[ee,y]=>?_]
   subst ee;refine wg Ga.own ((r.mono Ga.fr.ent.e8).at hd (y _ hS)) w1 λσ3 f3=>?_
   exact w3 _ H1 σ3 Ha _ (Ga.go (m i) f3 w2) λσ2 Hc Hd z=>#[Hc,z]
  ·have ee:i=ds.length:=∅
   subst ee;refine .inl #[#[_,hS,∅],q σ' Ha H' (Ga.from #[Ga.fr.ent.big,G1.fr.ent.e8.trans Ga.fr.ent.e8,Ga.fr.sub,λb z=>?_])]
   rcases Ga.fr.ent.new b z with z|z
   ·exact G1.fr.ent.new b z
   ·exact .inr z
theorem MN(m:cj R)(G:OF X.K B0 B R H0 H σ δ)(j:Nat)(hn:∀l,noOwn (δ.set j (.ref l))=true)(q:∀l σ' cZ H',OF X.K B0 B (Sep (DI X.K l []) R) cZ H' σ' (δ.set j (.ref l))->D.nx σ' H')(hN:X.N.Nodup)
  (hj:X.N[j]?=some y:=by rfl)(hx:Loc X.env.scope y:=by left)(oA:uX X pos (.Dict [] [] pc) (.Name y px):=by rfl)(hf:AJ X y:=by left):
  cS X (.Assign [.Name y px] (.Dict [] [] pc) pos) D σ H:=Gk m (λ_=>DI.mono) G j (vv G.fr.sub) (λl o Ha Hb e h=>#[rfl,by rw[h,e];rfl]) hn q hN hj hx oA hf
theorem MP(mF:cj F)(G:OF X.K B0 B (Sep (DI X.K a ns) F) H0 H σ δ)(hr:dB k X.A)(i:Nat)(hi:δ[i]?=some (.ref a))(hk:VE X ek δ (.int g))(hv:VE X e δ (.bool true))(hg:g∉ns)(hl:ns.length<sizeLine)(q:∀Ha Hb,OF X.K B0 B (Sep (DI X.K a (ns ++ [g])) F) Ha Hb σ δ->D.nx σ Hb)
  (hN:ow X i x:=by ac_rfl)
  (hs:uX X pos e (.Subscript (.Name x px) ek ps):=by rfl):
  cS X (.Assign [.Subscript (.Name x px) ek ps] e pos) D σ H:=by
 obtain⟨_,_,rfl,h1⟩:=G.at;refine XQ (κ:=iR g) (Sep.mono DI.mono mF) G hr i hi h1 (jm hk) (jm hv) (by rw[ai];exact hl) (λv Ha Hb gr r=>q Ha _ ?_) hN hs
 cases r;refine G.putL DI.mono mF gr λas #[ee,_]=>#[by rw[ee];simp,as,λ_ z=>z,ee,?_]
 rw[bh]
 congr 2
 unfold putK;rw[qQ2,aN];rfl;rw[jO]
 rintro⟨w,hw,hd⟩
 obtain⟨z,hz,rfl⟩:=av.mp hw;exact hg (by rw[<-Di (qQ4 hd)];exact hz)
theorem UG(mF:cj F)(G:OF X.K B0 B (Sep (DR X.K a ((z,.none)::kv)) F) H0 H σ δ)(i:Nat)(hi:δ[i]?=some (.ref a))(hk:VE X ek δ (.str z))(hz:z∉kv.map (·.1))(q:∀Ha Hb,OF X.K B0 B (Sep (DR X.K a kv) F) Ha Hb σ δ->w_ X orelse D σ Hb)
  (hN:ow X i x:=by ac_rfl)
  (m1:M1 X (.Name x px) "pop" apos ek jf:=by exact#[rfl,rfl,rfl,rfl]){j}:
  cS X (.If (.Compare (.Call (.Attribute (.Name x px) "pop" apos) [ek] [] jf) [.IsNot] [.Constant .none j pj] pc) body orelse pos) D σ H:=λpins s I=>by
 refine wU (HR uY (LD (ug hN) cB m1) K5 (eu _)) jA j7 pins s σ H D I ?_
 obtain⟨_,_,rfl,kvs,h1,h2,h3⟩:=G.at;cases kvs with
 |nil=>simp at h2
 |cons w kvs=>
  obtain⟨wk,wv⟩:=w;rw[ay,ay]at h2
  injection h2 with e1 e2
  simp only at e1;subst e1;rw[ay,ay]at h3;cases h3 with
  |cons r1 r2=>
   cases r1;refine#[.ref a,G.fr.slot i _ hi,a,rfl,.inl #[_,.inl h1],?_]
   refine hk H0 H σ H0 H _ G.own λu Ha Hb g r=>?_
   cases r;refine#[_,bo z,.non,g.big _ _ h1,rfl,lV rfl,rfl,false,rfl,?_]
   refine Ls (q Ha _ ?_)
   refine G.putL DR.mono mF g λas #[ee,_]=>#[by rw[ee];simp,as,λ_ z=>z,ee,kvs,?_,e2,r2.mono g.e8]
   rw[bh]
   congr 2
   unfold AZ;rw[List.filter_cons_of_neg (by simp),nO]
   intro w hw;refine qQ1 λew=>hz ?_
   have:w.1∈kvs.map (·.1):=av.mpr #[w,hw,rfl]
   rw[e2,ew]at this;obtain⟨p,hp,ep⟩:=av.mp this;exact av.mpr #[p,hp,j0 ep]
theorem P7{Rl:List ae->ae->Prop}{f:Str}{ns:List Str}(C:bD X.prog X.w X.K X.mg X.base k f ns (gu X.K Rl))(hr:dB k X.A)(mU:∀v,cj (U v))(mF:cj F)(h1:∀Q:V->Hp->Prop,(∀v Ha Hb,OF X.K B0 B (Sep (U v) F) Ha Hb σ δ->Q v Hb)->cE X e1 σ H Q)(see:∀v Ha Hb as,cK Ha Hb->U v Ha Hb as->Rep X.K (jM as Hb Ha) v d1)(h2:VE X e2 δ d2)(hR:Rl [d1,d2] d)(hs:A5 d=true)
  (q:∀v Ha Hb,OF X.K B0 B F Ha Hb σ δ->Rep X.K Ha v d->Q v Hb)
  (hg:Gl X f:=by rfl)(sZ:vX f:=by decide)(he:kO X e1 [e2]:=by rfl)(Pg:kO X e2 []:=by rfl)(mX:rC X pc [e2]:=by rfl):
  cE X (.Call (.Name f p1) [e1,e2] [] pc) σ H Q:=λpins s0 I=>by
 obtain⟨fa,fd,Fn,hm,hk,hb⟩:=C;refine uZ Fn hr hg hm hk hb .nil tN (cY cB (cY cB eV Pg) he) sZ he mX pins s0 σ H Q I ?_
 refine h1 _ λv Ha Hb G=>?_
 refine h2 Ha Hb σ Ha Hb _ G.own λu Hc Hd g r=>?_
 show gu X.K Rl [v,u] Hd Q E0;have G1:=G.go (Sep.mono (mU v) mF) (G.own.grow g) G.no;obtain⟨_,o1,a1,a2,rfl,dj,z1,z2⟩:=G1.ex;have G2:OF X.K B0 B F Hc Hd σ δ:=#[G1.fr,G1.no,a2,λa ha=>o1 a (bu _ ha),z2]
 refine#[jM a1 Hd Hc,[d1,d2],d,vn G1.fr.sub,.cons (see v Hc Hd a1 G1.fr.sub z1) (.cons (r.mono (jl G1.fr.sub)) .nil),hR,λv2 He Hf g2 r2=>?_]
 exact q v2 Hc Hf (G2.go mF (G2.own.grow (.far G2.fr.sub g2.big)) G2.no) (r2.JL hs)
theorem P8(hu:X.A.units<cLine):rg X (compareOp .Eq) (λx y H Q=>∃a b,x=.ref a/\y=.ref b/\H a=some (.dK [])/\H b=some (.dK [])/\Q (.bl true) H):=by
 rintro pins s σ H x y v u Q I rx ry ⟨a,b,rfl,rfl,ha,hb,q⟩
 cases rx;cases ry;obtain⟨z,hd,vs,rel,dd⟩:=wZ I.hok ha;obtain⟨z',SF,vs',zbB,B5⟩:=wZ I.hok hb;cases rel;cases zbB;exact PySem.W.keq_eq (knd:=ei X.prog X.w) (r:=true) hd SF dd B5 hu (λ_=>.nil) #[.bl true,H,I,rfl,q]
theorem P9{e3:bC}(mF:cj F)(G:OF X.K B0 B (Sep (DR X.K a []) F) H0 H σ δ)(hr:dB k X.A)(i:Nat)(hi:δ[i]?=some (.ref a))(h:∀Ha Hb,OF X.K B0 B (Sep (DR X.K a []) F) Ha Hb σ δ->∀Q:V->Hp->Prop,(∀v Hc Hd,OF X.K B0 B F Hc Hd σ δ->Rep X.K Hc v (.bool true)->Q v Hd)->cE X e3 σ Hb Q)(q:∀v Hc Hd,OF X.K B0 B F Hc Hd σ δ->Rep X.K Hc v (.bool true)->D.rt v Hd)
  (hN:ow X i x:=by ac_rfl):
  cS X (.Return (some (.BoolOp .And [.Compare (.Name x px) [.Eq] [.Dict [] [] p0] pc,e3] p1)) pos) D σ H:=λpins s I=>by
 refine uh (Fw (HQ (P8 (Nat.lt_of_le_of_lt (mH _ _) (Fe hr))) (ug hN) pE (eu _)) (K9 cB)) pins s σ H D I ?_
 obtain⟨_,o1,rfl,kvs,h1,h2,h3⟩:=G.at;have e0:kvs=[]:=by simpa using h2
 subst e0;refine#[.ref a,G.fr.slot i _ hi,λl hl=>?_]
 have nl:a≠l:=λz=>by rw[z,hl]at h1;cases h1
 refine#[a,l,rfl,rfl,by rw[aO nl];exact h1,bh,true,rfl,?_]
 rw[qQ3 rfl];exact h H0 _ (G.go (Sep.mono DR.mono mF) (G.own.grow (.loose G.fr.sub hl)) G.no) _ q
end
def EM:OR:=λ_ _ as=>as=[]
theorem EM.mono:cj EM:=λ_ _ _ _ _ h _ _=>h
theorem EM.nt:yt EM:=λ_ _ as h a ha=>by rw[show as=[]from h]at ha;cases ha
section
variable{K:ao}{B0 B H0 H:Hp}{σ:St}{δ:List Slot}{R:OR}
theorem Ru(f:gy K B0 B H0 H σ δ)(hn:noOwn δ=true):OF K B0 B EM H0 H σ δ:=#[f,hn,[],λa ha=>(by cases ha),rfl]
theorem OF.em(G:OF K B0 B R H0 H σ δ):OF K B0 B (Sep R EM) H0 H σ δ:=by
 obtain⟨as,h1,h2⟩:=G.ex;exact#[G.fr,G.no,as,h1,as,[],(cy _).symm,λa _ h=>(by cases h),h2,rfl]
theorem OF.em'(G:OF K B0 B (Sep R EM) H0 H σ δ):OF K B0 B R H0 H σ δ:=by
 obtain⟨as,h1,a1,a2,e,_,h2,h3⟩:=G.ex;have h3:a2=[]:=h3;subst h3;rw[cy]at e;subst e;exact#[G.fr,G.no,_,h1,h2]
end
section
variable{X:Cx}{B0 B H0 H:Hp}{σ:St}{D:Ends}{δ δ':List Slot}{R:OR}{e:bC}{ds:List ae}{body orelse:List e6}{pos p1:Pos}
theorem P_(h:∀Q:V->Hp->Prop,(∀v Ha Hb,OF X.K B0 B R Ha Hb σ δ->Rep X.K Ha v (.bool true)->Q v Hb)->cE X e σ H Q)(q:∀Ha Hb,OF X.K B0 B R Ha Hb σ δ->w_ X orelse D σ Hb)(he:∀whole,isTrue e X.env whole=(do let v <-whole;standAt e.pos;holding [v] (truthy v)):=by intro _;rfl):cS X (.If (.UnaryOp .Not e p1) body orelse pos) D σ H:=λpins s I=>by
 refine wU (K8 (SN cB he)) jA j7 pins s σ H D I ?_
 refine h _ λv Ha Hb G r=>?_
 cases r;exact#[true,rfl,Ls (q Ha Hb G)]
end
section
variable{X:Cx}{B0 B H0 H:Hp}{σ:St}{D:Ends}{δ δ':List Slot}{R:OR}{sc:j'}{own N:List Str}{cap:List Nat}{cl:List (Str×aF)}{tg iter elt:bC}{tgt:FZ}{ifs:List bC}{ds es:List ae}{x:Str}{px pos tf:Pos}
theorem Gq(m:cj R)(nt:yt R)(G:OF X.K B0 B R H0 H σ δ)(s:Seen X.K R δ δ')(i:Nat){F:ae->Option ae}(hc:X.calm=true)(CS:j5 X sc own cap N cl)(hi:VI X tg iter δ' ds)(hg:∀f s3 H3,PG (gi X sc N cl f s3 H3) tg (L5 X.K tgt))(ht:yU own.length tgt=true)(hz:ds.length<=sizeLine)
  (step:∀d∈ds,yV X sc own cap N cl tgt elt ifs δ' F d)(he:ds.filterMap F=es)(hd:∀d∈es,vp d)(hn:noOwn (δ.set i (.val (.list es)))=true)(q:∀σ' cZ H',OF X.K B0 B R cZ H' σ' (δ.set i (.val (.list es)))->D.nx σ' H')(hN:X.N.Nodup)(Tw:X.N[i]?=some x:=by rfl)(hx:Loc X.env.scope x:=by left)
  (oA:swapsWith (.ListComp elt [#[tg,iter,ifs,0]] sc pos) (some (.Name x px)) tf.line X.env=pure true:=by rfl)(hs:KW X iter:=by intro _;rfl)(hf:AJ X x:=by left):
  cS X (.Assign [.Name x px] (.ListComp elt [#[tg,iter,ifs,0]] sc pos) tf) D σ H:=λpins s0 I=>by
 obtain⟨wi,pi,qi⟩:=hi;refine uo (i:=i) (tc:=Xc X sc N cl ifs) (te:=teC X sc N cl elt) hN Tw hx hc CS pi hg (λf s3 H3 pins s σ H Q I h=>h f s3 H3 pins s I) (λf s3 H3 pins s σ H Q I h=>h f s3 H3 pins s I) oA hs hf pins s0 σ H D I ?_
 obtain⟨as,h1,h2,f1⟩:=G.D8 s;refine qi _ H σ _ H _ f1 λJ C1 cV g it=>?_
 refine rL ht hz step (f1.grow g) it λp xs C2 fS g2 a1 a2 a3 a4=>?_
 have gg:=g.trans g2;have hp:H p=none:=g.big.free a1;have hpa:p∉as:=λz=>(h1 p z).2.2 hp
 have g3:=G.Ux h1 gg;have r3:b9 X.K (lB as C2) xs es:=b9.out (Uy nt h1 h2 gg.e8) hd (by rw[<-he];exact a4)
 have z2:lB as C2 p=none:=by rw[il hpa];exact a2
 generalize lB as C2=Ha at *
 have sm:cK Ha (upd Ha p (.lst xs)):=λb u e=>by rw[aO (bG e z2)];exact e
 have g4:c6 H0 H (upd Ha p (.lst xs)) fS:=#[g3.big,g3.e8.trans sm,λb u e=>by
  by_cases hb:b=p
  ·subst hb;rw[bh]at e;rw[a3];exact e
  ·rw[aO hb]at e;exact g3.sub b u e,λb e=>by
  by_cases hb:b=p
  ·subst hb;exact .inr hp
  ·rw[aO hb]at e;exact g3.new b e]
 exact q _ _ _ ((G.go m (G.own.grow g4) G.no).zbv m i (.lst (jx.of bh) (r3.mono sm)) hn)
end
end L2
namespace Mg
open L2 PySem PyProof.Rows
def top(i:Nat):e6:=PySem.Challenge.pw_mergeline_k31_goods_come_and_spoil.main.body.getD i (.Pass #[0,0,0,0])
theorem small{n:Nat}(h:n<=1000000):n<=sizeLine:=bQ h (by rw[du];decide)
theorem eL{n:Nat}(h:n<=1000000):n<sizeLine:=Nat.lt_of_le_of_lt h (by rw[du];decide)
def nV(x:Str):Prop:=cw (.str x)=true
theorem bO(a b:Str):cP (.str a) (.str b)=decide (a=b):=by
 rw[cP,eA];simp
theorem jG(a b:Int):cP (.int a) (.int b)=decide (a=b):=by
 rw[cP,eA];simp
end Mg
namespace L2
open PySem PySem.Spec PyProof.Rows
section
variable{X:Cx}{a b c e:bC}{δ:List Slot}{d d1 d2 d3:ae}{pos:Pos}{k:Nat}
theorem Eb{op op':Fh}{r r':R2}{k1 k2:Bool}(ho:rg X (compareOp op) r)(BK:rg X (compareOp op') r')(od1:A3 X.K r d1 d2 (.bool k1))(od2:A3 X.K r' d2 d3 (.bool k2))(h1:VE X a δ d1)(h2:VE X b δ d2)(h3:k1=true->VE X c δ d3)
  (hm:lastMarks [op,op'] [b,c]=false:=by with_unfolding_all rfl):VE X (.Compare a [op,op'] [b,c] pos) δ (.bool (k1&&k2)):=by
 cases k1 with
 |true=>
  refine .of (Dt ho BK cB cB cB hm) λB0 B σ H0 H Q f q=>h1 B0 B σ H0 H _ f λv H1 cV g1 r1=>h2 B0 B σ H1 cV _ (f.grow g1) λu H2 fS g2 r2=>od1 v u H2 fS _ g2.sub (r1.mono g2.e8) r2 λz H3 xU g3 r3=>?_
  cases r3;exact#[true,rfl,(h3 rfl B0 B σ H3 xU _ (((f.grow g1).grow g2).grow g3) λx H4 H4' g4 r4=>od2 u x H4 H4' _ g4.sub ((r2.mono g3.e8).mono g4.e8) r4 λy H5 H5' g5 r5=>q y H5 H5' ((((g1.trans g2).trans g3).trans g4).trans g5) r5)]
 |false=>
  refine .of (Dt ho BK cB cB yW hm) λB0 B σ H0 H Q f q=>h1 B0 B σ H0 H _ f λv H1 cV g1 r1=>h2 B0 B σ H1 cV _ (f.grow g1) λu H2 fS g2 r2=>od1 v u H2 fS _ g2.sub (r1.mono g2.e8) r2 λz H3 xU g3 r3=>?_
  cases r3;exact#[false,rfl,(q _ H3 xU ((g1.trans g2).trans g3) (.bl false))]
theorem MQ{x:Str}{s:Str}{t:Tok}(hm:X.mg x=some (.str s t))(hg:Gl X x:=by rfl)(hd:vX x:=by decide):VE X (.Name x pos) δ (.str s):=.of (yi hg hm (v:=.str s) #[t,rfl] hd) λ_ _ _ _ _ _ f k=>k _ _ _ (.refl f.sub) (.str s)
theorem II{x:Str}{i:Int}{t:Tok}(hm:X.mg x=some (.int i t))(hg:Gl X x:=by rfl)(hd:vX x:=by decide):VE X (.Name x pos) δ (.int i):=.of (yi hg hm (v:=.int i) #[t,rfl] hd) λ_ _ _ _ _ _ f k=>k _ _ _ (.refl f.sub) (.int i)
end
end L2
namespace Mg
open L2 PySem PyProof.Rows
seal L2.VE L2.VS L2.xV L2.VT L2.VO L2.N_
variable{fd:eU}{kinds:List (Str×Option Int)}{ds:List ae}{c i:Nat}{d:ae}{x:Str}
structure Nw(mg:Str->Option aD):Prop where
 len:mg "len"=none
 all:mg "all"=none
 Pn:mg "enumerate"=none
 let_:∃t,mg "LETTERS"=some (.str "abcdefghijklmnopqrstuvwxyz" t)
 fig:∃t,mg "FIGURES"=some (.str "0123456789" t)
 lna:∃t,mg "LONGEST_NAME"=some (.int 8 t)
 lnu:∃t,mg "LONGEST_NUMBER"=some (.int 6 t)
def one(c:Nat):Str:=#[(bN [c])]
def qo(signs:Str)(longest:Int)(w:Str):Bool:=(decide (1<=(w.length:Int))&&decide ((w.length:Int)<=longest))&&w.cps.toList.all λc=>DT (one c) signs
def XY(signs:Str):ae->Option ae
 | .str x=>some (.bool (DT x signs))
 |_=>none
theorem J'(signs w:Str):(rO w).filterMap (XY signs)=(w.cps.toList.map λc=>DT (one c) signs).map .bool:=by
 unfold rO;rw[b0,aB];exact filterMap_some λc _=>rfl
def isName(w:Str):Bool:=qo "abcdefghijklmnopqrstuvwxyz" 8 w
def isNumber(w:Str):Bool:=qo "0123456789" 6 w&&(decide (w="0") || !decide ((w.cps.toList.head?.map one).getD fw="0"))
def wordsOf(row:Str):List Str:=(cC row " ").filter λw=>decide (w≠"")
def rowsOf(text:Str):List (Nat×List Str):=(cC text "\n").zipIdx.filterMap λp=>if(wordsOf p.1).isEmpty then none else some (p.2,wordsOf p.1)
theorem nq(x:Str):nV x↔∀c∈x.cps.toList,c<0x110000:=by
 show(x.cps.all λc=>decide (c<0x110000))=true↔_
 rw[<-Array.all_toList,dO];exact#[λh c hc=>qQ4 (h c hc),λh c hc=>qQ1 (h c hc)]
theorem UH(h:nV x)(hc:c∈x.cps.toList):nV (one c):=by
 rw[nq]at h ⊢;intro z hz;have:z=c:=by simpa[one]using hz
 rw[this];exact h c hc
def x5(x:Str):Prop:=x.length<=100000/\nV x
section
variable{P:bA}{w:cg}{K:ao}{mg:Str->Option aD}{base:cM}{f:aF}{k:Nat}
abbrev XZ:List Str:=["signs","longest","word"]
theorem X1:cn XZ XZ (a_ (top 22)):=by grind
def Rmo(ds:List ae)(d:ae):Prop:=∃(signs:Str)(longest:Int)(x:Str),ds=[.str signs,.int longest,.str x]/\x.length<=100000/\d=.bool (qo signs longest x)
theorem zbD(F:jQ K "is_made_of" "is_made_of" (top 22) f fd)(n:Nw mg):dW P w K mg base gS 1 f fd XZ (gu K Rmo):=
 iY F X1 (by ext) λ_ _ h=>by
  obtain⟨signs,longest,x,rfl,hx,rfl⟩:=h;intro e7 A outer s H E hr;have nc:(["sign","signs"]:List Str).Nodup:=∎
  have hl:(rO x).length<=100000:=by unfold rO;rw[ai,cH];exact hx
  refine bp (b_ (VE.to (jL (Eb Ds Ds (Al 1 x.length) (Al x.length longest) aJ (Io (aj 2 rfl) (small ∅) n.len) (λ_=>aj 1 rfl)) (λ_=>iG (ji (rN rfl) DS (aq (VO.ve (VO.to (eB (own:=["sign"]) (cap:=[0]) (tgt:=.one 0) rfl #[rfl,∎,∎,rfl,rfl,?_] (T1 (aj 2 rfl)) (λf s3 H3=>gX 0 nc) rfl
   (small ∅) (λd hd=>?_)) (J' signs x))) aU) n.all rfl))) ?_))
  ·intro j hj
   rcases ax.mp hj with rfl|hj
   ·exact#[(by show(0:Nat)<3;decide),lJ rfl,rfl]
   ·cases hj
  ·obtain⟨c,_,rfl⟩:=av.mp hd
   exact#[_,rfl,λf s3 H3=>m_,λr kQ f s3 H3=>by cases kQ;exact T3 (aj 0 rfl) (aj 1 rfl)]
  ·unfold qo qP
   rw[E7];rfl
theorem X2:cn ["word"] ["word"] (a_ (top 23)):=by grind
theorem X3:cn ["word"] ["word"] (a_ (top 24)):=by grind
def X4(ds:List ae)(d:ae):Prop:=∃x:Str,ds=[.str x]/\x.length<=100000/\d=.bool (isName x)
def ZL(ds:List ae)(d:ae):Prop:=∃x:Str,ds=[.str x]/\x5 x/\d=.bool (isNumber x)
theorem zbE(F:jQ K "is_name" "is_name" (top 23) f fd)(n:Nw mg)(C:bD P w K mg base 1 "is_made_of" XZ (gu K Rmo)):dW P w K mg base gS 2 f fd ["word"] (gu K X4):=
 iY F X2 (by ext) λ_ _ h=>by
  obtain⟨x,rfl,hx,rfl⟩:=h;intro e7 A outer s H E hr;obtain⟨t1,m1⟩:=n.let_;obtain⟨t2,m2⟩:=n.lna;exact bp (b_ (bK C hr (aq (MQ m1) (aq (II m2) (aq (aj 0 rfl) aU))) #[_,8,x,rfl,hx,rfl]))
theorem zbF(F:jQ K "is_number" "is_number" (top 24) f fd)(n:Nw mg)(C:bD P w K mg base 1 "is_made_of" XZ (gu K Rmo)):dW P w K mg base gS 2 f fd ["word"] (gu K ZL):=
 iY F X3 (by ext) λ_ _ h=>by
  obtain⟨x,rfl,⟨hx,okx⟩,rfl⟩:=h;intro e7 A outer s H E hr;obtain⟨t1,m1⟩:=n.fig;obtain⟨t2,m2⟩:=n.lnu;have o0:Lay 20 (.str "0"):=bH ∎
  cases em:qo "0123456789" 6 x with
  |false=>
   refine bp (b_ (VE.to (jL (k2:=false) (VE.to (bK C hr (aq (MQ m1) (aq (II m2) (aq (aj 0 rfl) aU))) #[_,6,x,rfl,hx,rfl]) (by rw[em])) (λz=>by cases z)) ?_))
   unfold isNumber;rw[em];rfl
  |true=>
   obtain⟨c,hc⟩:∃c,x.cps.toList.head?=some c:=by
    cases e:x.cps.toList with
    |cons c l=>exact#[c,rfl]
    |nil=>
     exfalso
     have:x.length=0:=by
      have:=qQ6 dC e;exact this
     unfold qo at em;rw[this]at em;cases em
   have h0:um x.cps.toList 0=some c:=by
    cases e:x.cps.toList with
    |nil=>rw[e]at hc;cases hc
    |cons a l=>rw[e]at hc;cases hc;exact cz rfl
   have okc:nV (one c):=by
    have hm:c∈x.cps.toList:=by
     cases e:x.cps.toList with
     |nil=>rw[e]at hc;cases hc
     |cons a l=>rw[e]at hc;cases hc;exact aM
    exact UH okx hm
   refine bp (b_ (VE.to (jL (VE.to (bK C hr (aq (MQ m1) (aq (II m2) (aq (aj 0 rfl) aU))) #[_,6,x,rfl,hx,rfl]) (by rw[em])) (λ_=>iG (vi (qO hr (bH okx) o0 (aj 0 rfl) bw) (λ_=>iG (L7 hr (bH okc) o0 (Ca (aj 0 rfl) aJ (small ∅) h0) bw))))) ?_))
   unfold isNumber;rw[em,bO,bO,hc];rfl
end
theorem Ec{y p:Str}:∀{zs:List Str},p∈zs->c∈p.cps.toList->c∈(cX y zs).cps.toList
 | [],h,_=>by cases h
 | [x],h,hc=>by
  rw[aW]at h;subst h;exact hc
 |x::x2::zs,h,hc=>by
  show c∈(x++y++cX y (x2::zs)).cps.toList;have e:(x++y++cX y (x2::zs)).cps.toList=(x.cps.toList++y.cps.toList)++(cX y (x2::zs)).cps.toList:=by
   show(x.cps++y.cps++(cX y (x2::zs)).cps).toList=_
   simp
  rw[e];rcases ax.mp h with rfl|h
  ·exact bF _ (bF _ hc)
  ·exact bu _ (Ec h hc)
theorem Ed{y p: Str}(h:x5 x)(hp:p∈cC x y):x5 p:=by
 refine#[bQ (part_short hp) h.1,(nq p).mpr λc hc=>(nq x).mp h.2 c ?_]
 have:=Ec (y:=y) hp hc;rwa[nP]at this
def X5:ae->Option ae
 | .str w=>if decide (w≠"")=true then some (.str w)else none
 |_=>none
theorem Kc(l:List Str):(l.map aS).filterMap X5=(l.filter λw:Str=>decide (w≠"")).map aS:=by
 induction l with
 |nil=>rfl
 |cons w l ih=>
  rw[ay,eE];by_cases h:decide (w≠"")=true
  ·rw[qQ3 h,ef (by show(if _ then _ else _)=_;rw[qQ3 h]),ih];rfl
  ·rw[qQ2 h,hU (by show(if _ then _ else _)=_;rw[qQ2 h]),ih]
def IJ(p:Nat×List Str):ae:=.tuple [.int p.1,.list (p.2.map .str)]
def uz(text:Str)(i:Nat):List (Nat×List Str):=((cC text "\n").zipIdx.take i).filterMap λp=>if(wordsOf p.1).isEmpty then none else some (p.2,wordsOf p.1)
theorem xl{text row:Str}(h:(cC text "\n")[i]?=some row):uz text (i+1)=uz text i++(if(wordsOf row).isEmpty then []else [(i,wordsOf row)]):=by
 unfold uz;rw[ck,jH,h]
 simp only[jW,HG,Fk,rn]
 congr 1
 cases e:(wordsOf row).isEmpty
 ·rw[ef (by simp only[e];rfl)];rfl
 ·rw[hU (by simp only[e];rfl)];rfl
theorem Gr(text:Str):uz text (cC text "\n").length=rowsOf text:=by
 unfold uz rowsOf;rw[c0 (by simp)]
theorem Gs(text:Str)(i:Nat):(uz text i).length<=i:=by
 exact bQ (pU _ _) (by rw[bJ];omega)
theorem xm{y: Str}(h:x.length<=100000):(cC x y).length<=100002:=by
 have e1:=De x y 0 x.length (x.length+1);unfold cC
 split
 ·show 1<=100002;omega
 ·split
  ·show 1<=100002;omega
  ·rw[xI];omega
section
variable{P:bA}{w:cg}{K:ao}{mg:Str->Option aD}{base:cM}{f:aF}{k:Nat}
theorem X6:cn ["row"] ["row"] (a_ (top 25)):=by grind
def Rwo(ds es:List ae):Prop:=∃x:Str,ds=[.str x]/\x5 x/\es=(wordsOf x).map .str
theorem zbG(F:jQ K "words_of" "words_of" (top 25) f fd):dW P w K mg base gS 1 f fd ["row"] (F1 K Rwo):=
 JK F X6 (by ext) λ_ _ h=>by
  obtain⟨x,rfl,ok,rfl⟩:=h;intro e7 A outer s H E hr;have nc:(["word"]:List Str).Nodup:=∎
  have hx:=ok.1;refine bp (yo (VO.to (eB (own:=["word"]) (cap:=[]) (tgt:=.one 0) rfl #[rfl,∎,∎,rfl,rfl,by simp] (dY (VO.ve (rP (aj 0 rfl) bw rfl (small ∅)))) (λf s3 H3=>gX 0 nc) rfl
   (small (by rw[ai];have:=xm (y:=" ") hx;omega)) (λd hd=>?_)) (Kc _)))
  obtain⟨p,hp,rfl⟩:=av.mp hd;refine#[_,rfl,λf s3 H3=>?_,λr kQ f s3 H3=>?_]
  ·refine ng (VT.to (oK hr (bH (Ed ok hp).2) (bH ∎) (aj 0 rfl) bw) ?_)
   show(!decide (p=""))=(if decide (p≠"")=true then some (aS p)else none).isSome
   by_cases h:p=""
   ·subst h;rfl
   ·rw[qQ3 ↑h,qQ0 h];rfl
  ·have UI:(if decide (p≠"")=true then some (aS p)else none)=some r:=kQ
   split at UI
   ·cases UI;exact aj 0 rfl
   ·cases UI
abbrev Nro:List Str:=["text","rows","number","row","words"]
theorem Rv:cn Nro ["text"] (a_ (top 26)):=by grind
def Rro(ds es:List ae):Prop:=∃x:Str,ds=[.str x]/\x5 x/\es=(rowsOf x).map IJ
theorem zbH(F:jQ K "rows_of" "rows_of" (top 26) f fd)(n:Nw mg)(C:bD P w K mg base 1 "words_of" ["row"] (F1 K Rwo)):dW P w K mg base gS 2 f fd ["text"] (F1 K Rro):=
 JK F Rv (by ext) λ_ _ h=>by
  obtain⟨x,rfl,ok,rfl⟩:=h;intro e7 A outer s H E hr;have nd:=Rv.nd;have hx:=ok.1;have hc:=xm (y:="\n") hx;refine aK (nh 1 (fE aU) nd) ?_
  refine aK (mO (tgt:=.tup [2,3]) bU rfl (oM (VO.ve (rP (aj 0 rfl) bw rfl (small ∅))) n.Pn)
   (gY rfl (bZ (gX 2 nd) (bZ (gX 3 nd) fM))) (λi=>[.val _,.own ((uz x i).map IJ),.un,.un,.un]) (cC x "\n").length rfl (by rw[dw];simp) (λi d hi hd=>?_) (.inl #[by rw[dw];simp,rfl])) ?_
  ·obtain⟨y,hy,rfl⟩:=jD hd
   obtain⟨row,wC⟩:∃row,(cC x "\n")[i]?=some row:=#[(cC x "\n")[i],by simp[hi]]
   rw[aG,wC]at hy
   cases hy;have Vx:=Ed ok (aQ wC);have hle:=Gs x i;refine#[_,rfl,?_]
   refine aK (df 4 (VO.ve (oO C hr (aq (aj 3 rfl) aU) #[row,rfl,Vx,rfl])) nd) ?_
   cases ew:(wordsOf row).isEmpty with
   |true=>
    refine iV (bp (bP (VT.to (eQ (aj 4 rfl) rfl) (by cases e:wordsOf row with|nil=>rfl|cons _ _=>rw[e]at ew;cases ew)) bB)) #[.inr rfl,.inr ?_,.inl rfl,.inl rfl,.inl rfl,trivial]
    rw[xl wC,ew,qQ3 rfl,cy]
   |false=>
    refine iV (bp (dU (VT.to (eQ (aj 4 rfl) rfl) (by cases e:wordsOf row with|nil=>rw[e]at ew;cases ew|cons _ _=>rfl)) (bp (jE 1 rfl (e9 (aq (aj 2 rfl) (aq (aj 4 rfl) aU))) (eL (by rw[ai];omega)))))) #[.inr rfl,.inr ?_,.inl rfl,.inl rfl,.inl rfl,trivial]
    rw[xl wC,ew,qQ2 eS,aN];rfl
  ·rw[Gr]
   exact bp (B_ 1 rfl)
end
def f7(ns:List Int):ae:=.list (ns.map .int)
def cQ(c k:Int):Int:=((c%2147483629+k*k*7919+11)*48271%2147483647)*((c%2147483629+k*k*7919+11)*48271%2147483647)%1999999973
theorem yu(c k:Int):0<=cQ c k:=cJ _ ⋯
theorem P'(c k:Int):cQ c k<1999999973:=dF _ ⋯
abbrev ABC:Str:="abcdefghijklmnopqrstuvwxyz"
theorem Ee:(ABC:Str).cps.toList=(aX 26).map (97 + ·):=∎
def Ef(i:Int):Str:=one (97+i.toNat)
theorem Gu{i:Int}(h0:0<=i)(h1:i<26):um (ABC:Str).cps.toList i=some (97+i.toNat):=by
 obtain⟨n,rfl⟩:=kL h0;refine cz ?_
 rw[Ee,aG,fu ∅]
 rfl
def dQ(x:Str):Prop:=1<=x.cps.toList.length/\x.cps.toList.length<=8/\∀c∈x.cps.toList,97<=c/\c<123
theorem Qa(h:97<=c/\c<123):c∈(ABC:Str).cps.toList:=by
 rw[Ee];exact av.mpr #[c-97,bW.mpr ∅,∅]
theorem dQ.is(h:dQ x):isName x=true:=by
 obtain⟨h1,h2,h3⟩:=h;rw[cH]at h1 h2;have e:x.length=x.cps.size:=rfl;unfold isName qo;rw[qQ1 ∅,qQ1 ∅,iX,iX,dO]
 intro c hc;have:DT (one c) ABC=decide (c∈ABC.cps.toList):=uV ..;rw[this];exact qQ1 (Qa (h3 c hc))
theorem dQ.ok(h:dQ x):x5 x:=by
 obtain⟨h1,h2,h3⟩:=h;rw[cH]at h1 h2;refine#[by show x.cps.size<=_;omega,(nq x).mpr λc hc=>?_]
 have:=h3 c hc;omega
theorem Eg(x:Str):∀n,(jF x n).cps.toList=(aY n x.cps.toList).flatten
 |0=>rfl
 |n+1=>by
  have e:(jF x (n+1)).cps.toList=x.cps.toList++(jF x n).cps.toList:=by
   show(x.cps++(jF x n).cps).toList=_
   simp
  rw[e,Eg x n];rfl
theorem Cv(c n:Nat):(jF (one c) n).cps.toList=aY n c:=by
 rw[Eg]
 induction n with
 |zero=>rfl
 |succ n ih=>
  rw[dJ,eJ,ih];rfl
def nameA(m:Int)(many k:Nat):Str:=jF (Ef (m/3%26)) (many-k)
def stemOf(m:Int):Str:=jF (Ef (m/4992%26)) (1+m/78%8).toNat
def tS(m:Int)(k:Nat):Str:=mJ (stemOf m) none (some (m/624%(1+m/78%8)))++Ef ((m/3+5*k)%26)++mJ (stemOf m) (some (m/624%(1+m/78%8)+1)) none
def namesOf(cell:Int)(many:Nat):List Str:=if cQ cell 3%3=0/\many<9 then(aX many).map (nameA (cQ cell 3) many) else(aX many).map (tS (cQ cell 3))
theorem gB(cell:Int)(many:Nat):(namesOf cell many).length=many:=by unfold namesOf;split<;>simp
theorem wD(m:Int):(stemOf m).cps.toList=aY (1+m/78%8).toNat (97+(m/4992%26).toNat):=Cv _ _
theorem MR(m:Int){many k:Nat}(h:k<many)(h9:many<9):dQ (nameA m many k):=by
 have e:(nameA m many k).cps.toList=aY (many-k) _:=Cv _ _;refine#[by rw[e,cU];omega,by rw[e,cU];omega,λc hc=>?_]
 rw[e]at hc;have:=(gI.mp hc).2;omega
theorem MS(m:Int)(k:Nat):dQ (tS m k):=by
 have hs:=wD m;have hl:(stemOf m).cps.toList.length=(1+m/78%8).toNat:=by rw[hs,cU]
 have p1:0<=m/624%(1+m/78%8):=cJ _ ∅
 have p2:m/624%(1+m/78%8)<1+m/78%8:=dF _ ∅
 have e1:mJ _ none _=_:=Dl #[p1,by rw[hl];omega]
 have e2:mJ _ (some (m/624%(1+m/78%8)+1)) none=_:=BH #[∅,by rw[hl];omega]
 have e:(tS m k).cps.toList=(stemOf m).cps.toList.take (m/624%(1+m/78%8)).toNat ++ [97+((m/3+5*k)%26).toNat]++(stemOf m).cps.toList.drop (m/624%(1+m/78%8)+1).toNat:=by
  unfold tS;rw[e1,e2]
  show((_++_++_:Array Nat)).toList=_
  simp only[HJ,kT,Int.sub_zero,Ef,one];rw[c0 (l:=List.drop _ _) (by rw[cN];omega)]
 have l1:(tS m k).cps.toList.length=(1+m/78%8).toNat:=by
  rw[e,aV,aV,bJ,cN,hl];simp;omega
 refine#[by rw[l1];omega,by rw[l1];omega,λc hc=>?_]
 rw[e,hs]at hc
 rcases aR.mp hc with hc|hc
 ·rcases aR.mp hc with hc|hc
  ·have:=(gI.mp (ez hc)).2
   omega
  ·have:=aW.mp hc
   omega
 ·have:=(gI.mp (eX hc)).2
  omega
theorem jY{cell:Int}{many:Nat}(h:x∈namesOf cell many):dQ x:=by
 unfold namesOf at h
 split at h
 ·rename_i hh
  obtain⟨k,hk,rfl⟩:=av.mp h;exact MR _ (bW.mp hk) hh.2
 ·obtain⟨k,hk,rfl⟩:=av.mp h
  exact MS _ _
abbrev Ng(mg:Str->Option aD):Prop:=Nm mg
section
variable{P:bA}{w:cg}{K:ao}{mg:Str->Option aD}{base:cM}{f:aF}{k:Nat}
def IK(ds:List ae)(d:ae):Prop:=∃(ns:List Int)(k:Nat),ds=[f7 ns,.int k]/\d=.int (ns.getD k 0)
theorem Qb:cn ["_law_script","_law_k"] ["_law_script","_law_k"] (a_ (top 52)):=by grind
theorem UJ(m1:mg "len"=none)(h:IK ds d):xi P w K mg base ["_law_script","_law_k"] "_law_cell_at" (top 52) f k ds (.rt d):=by
 obtain⟨ns,n,rfl,rfl⟩:=h;intro e7 A outer s H E hr;by_cases hn:n<ns.length
 ·refine dz (dU (VT.to (A4 (aj 1 rfl) (ie (aj 0 rfl) m1)) (by simp only[ai];exact qQ1 ∅)) (bp (b_ (fk (aj 0 rfl) (aj 1 rfl) (cz ?_))))) rfl
  rw[aG,aI,au hn];rfl
 ·refine aK (bP (VT.to (A4 (aj 1 rfl) (ie (aj 0 rfl) m1)) (by simp only[ai];exact qQ0 ∅)) bB) ?_
  have e:ns.getD n 0=0:=by rw[aI,eO ∅];rfl
  rw[e];exact bp (b_ aJ)
theorem UK(F:jQ K "_law_cell_at" "_law_cell_at" (top 52) f fd)(m1:mg "len"=none):dW P w K mg base gS 1 f fd ["_law_script","_law_k"] (gu K IK):=iY F Qb (by ext) λ_ _ h=>UJ m1 h
def Gv(ds:List ae)(d:ae):Prop:=∃(c k:Int),ds=[.int c,.int k]/\0<=k/\k<=1000/\d=.int (cQ c k)
abbrev X7:List Str:=["_law_cell","_law_k","_law_m"]
theorem MT:cn X7 ["_law_cell","_law_k"] (a_ (top 53)):=by grind
theorem X8(h:Gv ds d):xi P w K mg base X7 "_law_mix" (top 53) f k ds (.rt d):=by
 obtain⟨c,n,rfl,h0,h1,rfl⟩:=h;intro e7 A outer s H E hr;have nd:=MT.nd
 exact aK (df 2 (cO (ur (d_ (d_ (cO (aj 0 rfl) aJ ⋯) (ur (ur (aj 1 rfl) (aj 1 rfl) (.inl #[∅,∅])) aJ (.inr #[⋯,⋯]))) aJ) aJ (.inr #[⋯,⋯])) aJ ⋯) nd) (bp (b_ (cO (ur (aj 2 rfl) (aj 2 rfl) (.inl #[∅,∅])) aJ ⋯)))
theorem X9(F:jQ K "_law_mix" "_law_mix" (top 53) f fd):dW P w K mg base gS 1 f fd ["_law_cell","_law_k"] (gu K Gv):=iY F MT (by ext) λ_ _ h=>X8 h
abbrev Nnm:List Str:=["_law_cell","_law_many","_law_letters","_law_m","_law_size","_law_place","_law_stem"]
theorem Rw:cn Nnm ["_law_cell","_law_many"] (a_ (top 54)):=by grind
def Rnm(ds es:List ae):Prop:=∃(c:Int)(many:Nat),ds=[.int c,.int many]/\many<=60/\es=(namesOf c many).map .str
def FA(m:Int)(many:Nat):ae->Option ae
 | .int k=>some (.str (nameA m many k.toNat))
 |_=>none
def FB(m:Int):ae->Option ae
 | .int k=>some (.str (tS m k.toNat))
 |_=>none
theorem UL(m:Int)(many:Nat):(ik many).filterMap (FA m many)=((aX many).map (nameA m many)).map .str:=by
 unfold ik;rw[b0,aB];exact filterMap_some λk _=>by show some _=some _;rw[dS];rfl
theorem UM(m:Int)(many:Nat):(ik many).filterMap (FB m)=((aX many).map (tS m)).map .str:=by
 unfold ik;rw[b0,aB];exact filterMap_some λk _=>by show some _=some _;rw[dS];rfl
theorem wF:(ABC:Str).length<=sizeLine:=small ∎
theorem zbJ(F:jQ K "_law_names" "_law_names" (top 54) f fd)(n:Ng mg)(C:bD P w K mg base 1 "_law_mix" ["_law_cell","_law_k"] (gu K Gv)):dW P w K mg base gS 2 f fd ["_law_cell","_law_many"] (F1 K Rnm):=
 JK F Rw (by ext) λ_ _ h=>by
  obtain⟨c,many,rfl,hm,rfl⟩:=h;intro e7 A outer s H E hr;have nd:Nnm.Nodup:=Rw.nd;have nk:(["_law_k","_law_many","_law_letters","_law_m"]:List Str).Nodup:=∎
  have lo:=yu c 3;refine aK (df 2 bw nd) ?_
  refine aK (df 3 (bK C hr (aq (aj 0 rfl) (aq aJ aU)) #[c,3,rfl,⋯,⋯,rfl]) nd) ?_
  by_cases hh:cQ c 3%3=0/\many<9
  ·have e:namesOf c many=(aX many).map (nameA (cQ c 3) many):=by unfold namesOf;rw[qQ3 hh]
   rw[e];refine dz (dU (VT.to (kx (fx (k:=1) (hr.mono ∅) (cu 20 _) (cu 20 _) (cO (aj 3 rfl) aJ ⋯) aJ) (λ_=>A4 (aj 1 rfl) aJ)) ?_) (bp (yo (VO.to (eB (own:=["_law_k"]) (cap:=[1,2,3]) (tgt:=.one 0) rfl #[rfl,∎,∎,rfl,rfl,?_] (nS (aj 1 rfl) n.rng ∅ ∅) (λf s3 H3=>gX 0 nk) rfl
    (small (by rw[eZ];omega)) (λd hd=>?_)) (UL _ _))))) rfl
   ·rw[jG,qQ1 hh.1,qQ1 ∅];rfl
   ·intro j hj
    rcases ax.mp hj with rfl|hj
    ·exact#[(by show(1:Nat)<7;decide),lJ rfl,rfl]
    ·rcases ax.mp hj with rfl|hj
     ·exact#[(by show(2:Nat)<7;decide),lJ rfl,rfl]
     ·rcases ax.mp hj with rfl|hj
      ·exact#[(by show(3:Nat)<7;decide),lJ rfl,rfl]
      ·cases hj
   ·obtain⟨i,hi,rfl⟩:=av.mp hd
    have hi:=bW.mp hi;refine#[_,rfl,λf s3 H3=>m_,λr kQ f s3 H3=>?_]
    cases kQ;refine VE.to (Im (Ca (aj 2 rfl) (cO (gj (aj 3 rfl) aJ #[⋯,⋯]) aJ ⋯) wF (Gu ∅ ∅)) (TN (aj 1 rfl) (aj 0 rfl)) ∅ ∅ (by show 1<=1000;decide)) ?_
    unfold nameA;have e:((many:Int)-(i:Int)).toNat=many-((i:Nat):Int).toNat:=∅
    rw[e];rfl
  ·have e:namesOf c many=(aX many).map (tS (cQ c 3)):=by unfold namesOf;rw[qQ2 hh]
   rw[e];have nk2:(["_law_k","_law_letters","_law_m","_law_place","_law_stem"]:List Str).Nodup:=∎
   have b1:0<=cQ c 3/78%8:=cJ _ ⋯
   have b2:cQ c 3/78%8<8:=dF _ ⋯
   have p1:0<=cQ c 3/624%(1+cQ c 3/78%8):=cJ _ ∅
   have p2:cQ c 3/624%(1+cQ c 3/78%8)<1+cQ c 3/78%8:=dF _ ∅
   have sl:(stemOf (cQ c 3)).length<=8:=by
    show(stemOf (cQ c 3)).cps.size<=8
    rw[<-cH,wD,cU];omega
   refine aK (bP (VT.to (kx (fx (k:=1) (hr.mono ∅) (cu 20 _) (cu 20 _) (cO (aj 3 rfl) aJ ⋯) aJ) (λ_=>A4 (aj 1 rfl) aJ)) ?_) bB) ?_
   ·rw[jG]
    by_cases h0:cQ c 3%3=0
    ·rw[qQ1 h0,iX]
     exact qQ0 λz=>hh #[h0,∅]
    ·rw[qQ0 h0];rfl
   refine aK (df 4 (d_ aJ (cO (gj (aj 3 rfl) aJ #[⋯,⋯]) aJ ⋯)) nd) ?_
   refine aK (df 5 (cO (gj (aj 3 rfl) aJ #[⋯,⋯]) (aj 4 rfl) ∅) nd) ?_
   refine aK (df 6 (d:=.str (stemOf (cQ c 3))) (Im (Ca (aj 2 rfl) (cO (gj (aj 3 rfl) aJ #[⋯,⋯]) aJ ⋯) wF (Gu ∅ ∅)) (aj 4 rfl) ∅ ∅ (by show 1<=1000;decide)) nd) ?_
   refine bp (yo (VO.to (eB (own:=["_law_k"]) (cap:=[2,3,5,6]) (tgt:=.one 0) rfl #[rfl,∎,∎,rfl,rfl,?_] (nS (aj 1 rfl) n.rng ∅ ∅) (λf s3 H3=>gX 0 nk2) rfl
    (small (by rw[eZ];omega)) (λd hd=>?_)) (UM _ _)))
   ·intro j hj
    rcases ax.mp hj with rfl|hj
    ·exact#[(by show(2:Nat)<7;decide),lJ rfl,rfl]
    ·rcases ax.mp hj with rfl|hj
     ·exact#[(by show(3:Nat)<7;decide),lJ rfl,rfl]
     ·rcases ax.mp hj with rfl|hj
      ·exact#[(by show(5:Nat)<7;decide),lJ rfl,rfl]
      ·rcases ax.mp hj with rfl|hj
       ·exact#[(by show(6:Nat)<7;decide),lJ rfl,rfl]
       ·cases hj
   ·obtain⟨i,hi,rfl⟩:=av.mp hd
    have hi:=bW.mp hi;refine#[_,rfl,λf s3 H3=>m_,λr kQ f s3 H3=>?_]
    cases kQ;have l1:=Fp (stemOf (cQ c 3)) none (some (cQ c 3/624%(1+cQ c 3/78%8)));have l2:=Fp (stemOf (cQ c 3)) (some (cQ c 3/624%(1+cQ c 3/78%8)+1)) none;have l3:(Ef ((cQ c 3/3+5*(i:Int))%26)).length=1:=rfl;refine VE.to (hV (hV (A_ (aj 4 rfl) (small ∅) .no (.yes (aj 3 rfl))) (Ca (aj 1 rfl) (cO (d_ (gj (aj 2 rfl) aJ #[⋯,⋯]) (ur aJ (aj 0 rfl) (.inl #[⋯,⋯]))) aJ ⋯) wF (Gu ∅ ∅)) (small ?_)) (A_ (aj 4 rfl) (small ∅) (.yes (d_ (aj 3 rfl) aJ)) .no) (small ?_)) ?_
    ·show _+(Ef _).length<=_
     omega
    ·rw[cq]
     show _+(Ef _).length+_<=_;omega
    ·rfl
end
inductive Rl where
 |meet
 |gather (most age:Int)
 |many (most:Int)
 |rank (bound:Option Int)
 |turns (shares:List Int)
 |eldest
def nW:Option Int->ae
 |none=>.none
 |some i=>.int i
def rh:Rl->Str
 | .meet=>"meet"
 | .gather _ _=>"gather"
 | .many _=>"many"
 | .rank _=>"rank"
 | .turns _=>"turns"
 | .eldest=>"eldest"
def tj:Rl->List ae
 | .meet=>[]
 | .gather m a=>[.int m,.int a]
 | .many m=>[.int m]
 | .rank b=>[nW b]
 | .turns s=>[.tuple (s.map .int)]
 | .eldest=>[]
def Ol(r:Rl):ae:=.tuple (.str (rh r)::tj r)
def Cw(rest:Int)(k:Nat):Int:=1+rest/((k:Int)*k+1)%3
def kB(m:Int)(many:Nat):Rl:=
 if m%6=5/\1<many then .meet
 else if m%6=4 then .gather (1+m/6%4) (m/6/4%9)
 else if m%6=3 then .many (1+m/6%4)
 else if m%6=2 then .rank (if m/6%2=0 then none else some (m/6/2%9))
 else if m%6=1 then .turns ((aX many).map (Cw (m/6)))
 else .eldest
def iH:Rl->Nat->Int
 | .many m,_=>m
 | .gather m _,_=>m
 | .meet,n=>n
 |_,_=>1
section
variable{P:bA}{w:cg}{K:ao}{mg:Str->Option aD}{base:cM}{f:aF}{k:Nat}
abbrev Nrl:List Str:=["_law_m","_law_many","_law_rest"]
theorem Rx:cn Nrl ["_law_m","_law_many"] (a_ (top 55)):=by grind
def Rrl(ds:List ae)(d:ae):Prop:=∃(m:Int)(many:Nat),ds=[.int m,.int many]/\0<=m/\m<1999999973/\many<=60/\d=Ol (kB m many)
def UN(rest:Int):ae->Option ae
 | .int k=>some (.int (1+rest/(k*k+1)%3))
 |_=>none
theorem Gw(rest:Int)(many:Nat):(ik many).filterMap (UN rest)=((aX many).map (Cw rest)).map .int:=by
 unfold ik;rw[b0,aB];exact filterMap_some λk _=>rfl
theorem zbK(F:jQ K "_law_rule" "_law_rule" (top 55) f fd)(n:Ng mg):dW P w K mg base gS 1 f fd ["_law_m","_law_many"] (gu K Rrl):=
 iY F Rx (by ext) λ_ _ h=>by
  obtain⟨m,many,rfl,h0,h1,hm,rfl⟩:=h;intro e7 A outer s H E hr;have nk:(["_law_k","_law_rest"]:List Str).Nodup:=∎
  have r0:0<=m/6:=Int.ediv_nonneg h0 ⋯
  have r1:m/6<1999999973:=∅
  refine aK (df 2 (gj (aj 0 rfl) aJ #[⋯,⋯]) Rx.nd) ?_
  have ev:∀j:Int,cP (.int (m%6)) (.int j)=decide (m%6=j):=λj=>jG _ _
  unfold kB;by_cases c5:m%6=5/\1<many
  ·rw[qQ3 c5]
   refine dz (dU (VT.to (kx (fx hr (cu 20 _) (cu 20 _) (cO (aj 0 rfl) aJ ⋯) aJ) (λ_=>Ig (aj 1 rfl) aJ)) ?_) (bp (b_ (VE.to (e9 (aq bw aU)) rfl)))) rfl
   rw[ev,qQ1 c5.1,qQ1 ∅];rfl
  rw[qQ2 c5];refine aK (bP (VT.to (kx (fx hr (cu 20 _) (cu 20 _) (cO (aj 0 rfl) aJ ⋯) aJ) (λ_=>Ig (aj 1 rfl) aJ)) ?_) bB) ?_
  ·rw[ev]
   by_cases h5:m%6=5
   ·rw[qQ1 h5,iX]
    exact qQ0 λz=>c5 #[h5,∅]
   ·rw[qQ0 h5];rfl
  by_cases c4:m%6=4
  ·rw[qQ3 c4]
   refine dz (dU (VT.to (fx hr (cu 20 _) (cu 20 _) (cO (aj 0 rfl) aJ ⋯) aJ) (by rw[ev,qQ1 c4])) (bp (b_ (VE.to (e9 (aq bw (aq (d_ aJ (cO (aj 2 rfl) aJ ⋯)) (aq (cO (gj (aj 2 rfl) aJ #[⋯,⋯]) aJ ⋯) aU)))) rfl)))) rfl
  rw[qQ2 c4];refine aK (bP (VT.to (fx hr (cu 20 _) (cu 20 _) (cO (aj 0 rfl) aJ ⋯) aJ) (by rw[ev,qQ0 c4])) bB) ?_
  by_cases c3:m%6=3
  ·rw[qQ3 c3]
   refine dz (dU (VT.to (fx hr (cu 20 _) (cu 20 _) (cO (aj 0 rfl) aJ ⋯) aJ) (by rw[ev,qQ1 c3])) (bp (b_ (VE.to (e9 (aq bw (aq (d_ aJ (cO (aj 2 rfl) aJ ⋯)) aU))) rfl)))) rfl
  rw[qQ2 c3];refine aK (bP (VT.to (fx hr (cu 20 _) (cu 20 _) (cO (aj 0 rfl) aJ ⋯) aJ) (by rw[ev,qQ0 c3])) bB) ?_
  by_cases c2:m%6=2
  ·rw[qQ3 c2]
   refine dz (dU (VT.to (fx hr (cu 20 _) (cu 20 _) (cO (aj 0 rfl) aJ ⋯) aJ) (by rw[ev,qQ1 c2])) (bp (b_ (VE.to (e9 (aq bw (aq (fk (VO.ve (fE (aq eP (aq (cO (gj (aj 2 rfl) aJ #[⋯,⋯]) aJ ⋯) aU)))) (cO (aj 2 rfl) aJ ⋯) ?_) aU))) rfl)))) rfl
   rcases Int.emod_two_eq (m/6)with e|e
   ·rw[e,qQ3 rfl];rfl
   ·rw[e,qQ2 ⋯];rfl
  rw[qQ2 c2];refine aK (bP (VT.to (fx hr (cu 20 _) (cu 20 _) (cO (aj 0 rfl) aJ ⋯) aJ) (by rw[ev,qQ0 c2])) bB) ?_
  by_cases c1:m%6=1
  ·rw[qQ3 c1]
   refine dz (dU (VT.to (fx hr (cu 20 _) (cu 20 _) (cO (aj 0 rfl) aJ ⋯) aJ) (by rw[ev,qQ1 c1])) (bp (b_ (VE.to (e9 (aq bw (aq (jC lM yn (aq (VO.ve (VO.to (eB (own:=["_law_k"]) (cap:=[2]) (tgt:=.one 0) rfl #[rfl,∎,∎,rfl,rfl,?_] (nS (aj 1 rfl) n.rng ∅ ∅) (λf s3 H3=>gX 0 nk) rfl
    (small (by rw[eZ];omega)) (λd hd=>?_)) (Gw _ _))) aU) n.tup rfl) aU))) rfl)))) rfl
   ·intro j hj
    rcases ax.mp hj with rfl|hj
    ·exact#[(by show(2:Nat)<3;decide),lJ rfl,rfl]
    ·cases hj
   ·obtain⟨i,hi,rfl⟩:=av.mp hd
    have hi:=bW.mp hi;have hii:(0:Int)<=(i:Int)*i:=Int.mul_nonneg ∅ ∅
    have zhC:(i:Int)*i<=60*60:=Int.mul_le_mul ∅ ∅ ∅ ∅
    exact Fc rfl rfl λf s3 H3=>d_ aJ (cO (gj (aj 1 rfl) (d_ (ur (aj 0 rfl) (aj 0 rfl) (.inl #[∅,∅])) aJ) #[∅,∅]) aJ ⋯)
  rw[qQ2 c1];exact aK (bP (VT.to (fx hr (cu 20 _) (cu 20 _) (cO (aj 0 rfl) aJ ⋯) aJ) (by rw[ev,qQ0 c1])) bB) (bp (b_ (VE.to (e9 (aq bw aU)) rfl)))
theorem X_:cn ["_law_rule_here","_law_many"] ["_law_rule_here","_law_many"] (a_ (top 56)):=by grind
def ZM(ds:List ae)(d:ae):Prop:=∃(r:Rl)(many:Nat),ds=[Ol r,.int many]/\d=.int (iH r many)
theorem zbL(F:jQ K "_law_greatest" "_law_greatest" (top 56) f fd):dW P w K mg base gS 1 f fd ["_law_rule_here","_law_many"] (gu K ZM):=
 iY F X_ (by ext) λ_ _ h=>by
  obtain⟨r,many,rfl,rfl⟩:=h;unfold Ol;intro e7 A outer s H E hr;have hl:(tj r).length<=2:=by cases r<;>simp[tj]
  have x1:∃x,(aS (rh r)::tj r ++ [.int 0])[1]?=some x/\((iT [(("many":Str),x),("gather",x),("meet",.int many)] (rh r)).getD (.int 1))=.int (iH r many):=by
   cases r<;>exact#[_,rfl,rfl]
  obtain⟨x,hx,hv⟩:=x1;have hn3:=(show([("many":Str),"gather","meet"]).Nodup by symm)
  have hx1:=cz hx;have hz:(aS (rh r)::tj r).length + [dD 0].length<=sizeLine:=small (by simp;omega)
  have DM:(aS (rh r)::tj r)≠[]:=by simp
  generalize tj r=ra at *
  generalize rh r=sD at *
  refine bp (b_ (VE.to (Mp hr (Iu (.cons bw ?_ (.cons bw ?_ (.cons bw (aj 1 rfl) .nil))) hn3 (by simp) (by show 3<=15;decide)) ?_ aJ) hv))
  ·exact dq (yq (aj 0 rfl) (e9 (aq aJ aU)) DM hz) aJ hx1
  ·exact dq (yq (aj 0 rfl) (e9 (aq aJ aU)) DM hz) aJ hx1
  ·exact dq (aj 0 rfl) aJ (cz rfl)
end
structure Dk where
 name:Str
 to:Str
 rule:Rl
 places:List Str
variable{g0:List Dk}
def f9(l:List Str):ae:=.list (l.map .str)
def fz(d:Dk):ae:=.tuple [.str d.name,.str d.to,Ol d.rule,.tuple (d.places.map .str)]
def fZ(cell:Int)(nn k:Nat):Nat:=if k<nn then k else(cQ cell (40+k)%nn).toNat
def Be(cell:Int)(k len:Nat):Nat:=(cQ cell (60+k)%(len+1)).toNat
def dR(cell:Int)(nn:Nat)(places:List Str):Nat->List (List Str)
 |0=>aY nn []
 |k+1=>(dR cell nn places k).set (fZ cell nn k) (rR ((dR cell nn places k).getD (fZ cell nn k) []) (Be cell k ((dR cell nn places k).getD (fZ cell nn k) []).length) (places.getD k ""))
def Kd(cell:Int)(lines:List Str)(k:Nat):Str:=(lines ++ [("":Str)]).getD (cQ cell (80+k)%(lines.length+1)).toNat ""
def Gz(cell:Int)(names lines:List Str)(taken:List (List Str))(k:Nat):Dk:=#[names.getD k "",Kd cell lines k,kB (cQ cell (90+k)) (taken.getD k []).length,taken.getD k []]
def kC(cell:Int)(n:Nat):Nat:=(1+cQ cell 32%(if(n:Int)<4 then(n:Int)else 4)).toNat
def kD(cell:Int)(places lines:List Str):List Dk:=(aX (kC cell places.length)).map (Gz cell (namesOf (cQ cell 31) (kC cell places.length)) lines (dR cell (kC cell places.length) places places.length))
theorem gC(cell:Int)(nn:Nat)(places:List Str):∀k,(dR cell nn places k).length=nn
 |0=>by simp[dR]
 |k+1=>by rw[dR,nJ,gC cell nn places k]
theorem lZ(cell:Int){n:Nat}(h:1<=n):1<=kC cell n/\kC cell n<=4/\kC cell n<=n:=by
 unfold kC
 split
 ·rename_i hn
  have a1:0<=cQ cell 32%n:=cJ _ ∅
  have a2:cQ cell 32%n<n:=dF _ ∅
  omega
 ·have a1:0<=cQ cell 32%4:=cJ _ ∅
  omega
theorem Bf(cell:Int){nn:Nat}(h:1<=nn)(k:Nat):fZ cell nn k<nn:=by
 unfold fZ
 split
 ·assumption
 ·have a1:0<=cQ cell (40+k)%nn:=cJ _ ∅
  have a2:cQ cell (40+k)%nn<nn:=dF _ ∅
  omega
theorem MV(cell:Int)(k len:Nat):Be cell k len<=len:=by
 unfold Be
 have a2:cQ cell (60+k)%(len+1)<len+1:=dF _ ∅
 omega
theorem xn{α:Type}(l:List α)(i:Nat)(y:α):(rR l i y).length=l.length+1:=by
 unfold rR;rw[aV,bR,bJ,cN];omega
theorem MX{α:Type}{l:List α}{x y:α}(h:x∈rR l i y):x∈l\/x=y:=by
 rcases aR.mp h with h|h
 ·exact .inl (ez h)
 ·rcases ax.mp h with h|h
  ·exact .inr h
  ·exact .inl (eX h)
theorem sM(cell:Int)(nn:Nat)(places:List Str):∀k,∀row∈dR cell nn places k,row.length<=k/\(k<=places.length->∀x∈row,x∈places)
 |0,row,h=>by
  obtain⟨_,rfl⟩:=gI.mp h;exact#[aP _,λ_ x hx=>by cases hx]
 |k+1,row,h=>by
  have ih:=sM cell nn places k;rcases BI (show row∈List.set _ _ _ from h)with h|h
  ·exact#[Nat.le_succ_of_le (ih row h).1,λhk=>(ih row h).2 ∅]
  ·have hg:(dR cell nn places k).getD (fZ cell nn k) []=[]\/(dR cell nn places k).getD (fZ cell nn k) []∈dR cell nn places k:=by
    rw[aI]
    cases e:(dR cell nn places k)[fZ cell nn k]? with
    |none=>exact .inl rfl
    |some r=>exact .inr (aQ e)
   generalize(dR cell nn places k).getD _ []=g at *
   subst h;have Vy:g.length<=k/\(k<=places.length->∀x∈g,x∈places):=by
    rcases hg with rfl|hg
    ·exact#[bx _,λ_ x hx=>by cases hx]
    ·exact ih g hg
   refine#[by rw[xn];omega,λhk x hx=>?_]
   rcases MX hx with hx|rfl
   ·exact Vy.2 ∅ x hx
   ·rw[aI,au ∅]
    exact dP _
theorem Cy(cell:Int)(lines:List Str)(k:Nat):um ((lines ++ [("":Str)]).map aS) (cQ cell (80+k)%((lines.length:Int)+1))=some (.str (Kd cell lines k))/\Kd cell lines k∈lines ++ [("":Str)]:=by
 have a1:0<=cQ cell (80+k)%(lines.length+1):=cJ _ ∅
 have a2:cQ cell (80+k)%(lines.length+1)<lines.length+1:=dF _ ∅
 unfold Kd
 generalize cQ cell (80+k)%(lines.length+1)=j at *
 obtain⟨i,rfl⟩:=kL a1;have hi:i<(lines ++ [("":Str)]).length:=by simp;omega
 have e:(lines ++ [("":Str)]).getD ((i:Int)).toNat ""=(lines ++ [("":Str)])[i]:=by
  rw[dS,aI,au hi];rfl
 rw[e];exact#[cz (by rw[aG,au hi];rfl),dP hi]
section
variable{P:bA}{w:cg}{K:ao}{mg:Str->Option aD}{base:cM}{f:aF}{k:Nat}
abbrev Ndk:List Str:=["_law_cell","_law_places_here","_law_lines","_law_names_here","_law_taken","_law_k","_law_place","_law_at","_law_desks_here","_law_name","_law_to"]
theorem Ry:cn Ndk ["_law_cell","_law_places_here","_law_lines"] (a_ (top 57)):=by grind
def Rdk(ds es:List ae):Prop:=∃(cell:Int)(places lines:List Str),ds=[.int cell,f9 places,f9 lines]/\1<=places.length/\places.length<=12/\lines.length<=12/\es=(kD cell places lines).map fz
theorem zbM(F:jQ K "_law_desks" "_law_desks" (top 57) f fd)(n:Ng mg)(C1:bD P w K mg base 1 "_law_mix" ["_law_cell","_law_k"] (gu K Gv))(C2:bD P w K mg base 2 "_law_names" ["_law_cell","_law_many"] (F1 K Rnm))(C3:bD P w K mg base 1 "_law_rule" ["_law_m","_law_many"] (gu K Rrl)):dW P w K mg base gS 3 f fd ["_law_cell","_law_places_here","_law_lines"] (F1 K Rdk):=
 JK F Ry (by ext) λ_ _ h=>by
  obtain⟨cell,places,lines,rfl,h1,h12,UO,rfl⟩:=h;intro e7 A outer s H E hr;have nd:Ndk.Nodup:=Ry.nd;have nc:(["_law_name"]:List Str).Nodup:=∎
  have hG:dB 1 _:=hr.mono ∅
  obtain⟨nn1,nn4,nnp⟩:=lZ cell h1;unfold kD;have enn:((kC cell places.length:Nat):Int)=1+cQ cell 32%(if(places.length:Int)<4 then(places.length:Int)else 4):=by
   unfold kC;have a1:0<=cQ cell 32%(if(places.length:Int)<4 then(places.length:Int)else 4):=cJ _ (by split<;>omega)
   omega
  generalize kC cell places.length=nn at *
  have nl:=gB (cQ cell 31) nn
  generalize ZN:namesOf (cQ cell 31) nn=names at *
  refine aK (df 3 (d:=f9 names) (VO.ve (oO C2 hr (aq (bK C1 hG (aq (aj 0 rfl) (aq aJ aU)) #[cell,31,rfl,⋯,⋯,rfl]) (aq (VE.to (k:=.int nn) (d_ aJ (cO (bK C1 hG (aq (aj 0 rfl) (aq aJ aU)) #[cell,32,rfl,⋯,⋯,rfl]) (ji (Jp rfl) (Uc 4 (places.length:Int)) (aq aJ (aq (VE.to (ie (aj 1 rfl) n.len) (by simp)) aU)) n.min rfl) (by split<;>omega))) (by rw[enn])) aU)) #[cQ cell 31,nn,rfl,∅,by rw[ZN]])) nd) ?_
  refine vm λB0 B σ H0 Hh D fr ok=>?_
  refine bM (PL 4 (own:=["_law_name"]) (cap:=[]) (N:=["_law_name"]) (cl:=[]) (tgt:=.one 0) fr rfl rfl #[rfl,∎,∎,rfl,rfl,by simp] (dY (aj 3 rfl)) (λf s3 H3=>gX 0 nc) rfl (small (by rw[ai];omega)) (λd hd=>#[_,rfl]) nd (λσ1 a ps H1 cV G=>?_) (λa=>rfl))
  have e0:(dR cell nn places 0).map (λr=>r.map aS)=aY (names.map aS).length []:=by
   show(aY nn []).map _=_
   rw[List.map_replicate,ai,nl];rfl
  rw[<-e0]at G;refine bM (vo (tgt:=.tup [5,6]) (λi=>LL K a ps ((dR cell nn places i).map λr=>r.map aS)) (λ_=>LL.mono) G bU rfl (oM (ds:=places.map .str) (aj 1 rfl) n.Pn)
   (gY rfl (bZ (gX 5 nd) (bZ (gX 6 nd) fM))) (λi d hd=>?_) (λσ2 Ha Hb G2=>?_))
  ·obtain⟨x,hx,rfl⟩:=jD hd
   obtain⟨hip,rfl⟩:i<places.length/\x=.str (places.getD i ""):=by
    rw[aG]at hx
    cases e:places[i]? with
    |none=>rw[e]at hx;cases hx
    |some p=>
     rw[e]at hx;cases hx;exact#[(aH.mp e).1,by rw[aI,e];rfl]
   refine#[_,rfl,rfl,λD C0 σ' cZ H' G q=>?_]
   have hR:=gC cell nn places i;have hj:=Bf cell nn1 i;have mX:ps.length=nn:=by
    obtain⟨_,_,_,_,_,z,_⟩:=G.ex;exact z.trans (by simp[hR])
   obtain⟨p,hp⟩:∃p,ps[fZ cell nn i]?=some p:=#[ps[fZ cell nn i]'∅,au _]
   have wC:(dR cell nn places i)[fZ cell nn i]?=some ((dR cell nn places i).getD (fZ cell nn i) []):=by
    rw[aI,au ∅];rfl
   have vf:=aQ wC;have hlen:=(sM cell nn places i _ vf).1;have egs:((dR cell nn places (i+1)).map λr=>r.map aS)=((dR cell nn places i).map λr=>r.map aS).set (fZ cell nn i) (rR (((dR cell nn places i).getD (fZ cell nn i) []).map aS) (Be cell i ((dR cell nn places i).getD (fZ cell nn i) []).length) (.str (places.getD i ""))):=by
    show(List.set _ _ _).map _=_
    rw[qZ]
    congr 1
    unfold rR;rw[aN,ay,pV,pW]
   have hgj:((dR cell nn places i).map λr=>r.map aS)[fZ cell nn i]?=some (((dR cell nn places i).getD (fZ cell nn i) []).map aS):=by
    rw[aG,wC];rfl
   rw[egs]at q
   generalize(dR cell nn places i).getD (fZ cell nn i) []=row at *
   refine bM (Cd LL.mono G (df 7 (aj 5 rfl) nd) rfl λσ1 Ha Hb G1=>?_)
   refine bM (Cd LL.mono G1 (Xe (o:=.nx [.val (.int cell),.val (f9 places),.val (f9 lines),.val (f9 names),.ref a,.val (.int i),.val (.str (places.getD i "")),.val (.int (fZ cell nn i)),.un,.un,.un]) (Ra (aj 5 rfl) (ie (aj 3 rfl) n.len)) (λhk=>?_) (λhk=>?_)) rfl λσ2 Hc Hd G2=>?_)
   ·have hk:¬i<nn:=by
     have:=qQ4 hk;rw[ai,nl]at this;omega
    have e:((fZ cell nn i:Nat):Int)=cQ cell (40+i)%(nn:Int):=by
     unfold fZ;rw[qQ2 hk];have a1:0<=cQ cell (40+i)%(nn:Int):=cJ _ ∅
     omega
    rw[e];exact bp (df 7 (cO (bK C1 hG (aq (aj 0 rfl) (aq (d_ aJ (aj 5 rfl)) aU)) #[cell,40+(i:Int),rfl,∅,∅,rfl]) (VE.to (ie (aj 3 rfl) n.len) (by rw[ai,nl])) ∅) nd)
   ·have hk:i<nn:=by
     have:=qQ5 hk;rw[ai,nl]at this;omega
    have e:fZ cell nn i=i:=by unfold fZ;rw[qQ3 hk]
    rw[e];exact bB
   have em:((Be cell i row.length:Nat):Int)=cQ cell (60+i)%((row.length:Int)+1):=by
    unfold Be;have a1:0<=cQ cell (60+i)%((row.length:Int)+1):=cJ _ ∅
    omega
   refine cx (J1 G2 4 (j:=fZ cell nn i) (p:=p) (ds:=row.map .str) rfl (aj 7 rfl) hp hgj (VE.to (cO (bK C1 hG (aq (aj 0 rfl) (aq (d_ aJ (aj 5 rfl)) aU)) #[cell,60+(i:Int),rfl,∅,∅,rfl]) (d_ (ie (ds:=row.map .str) (fk (aj 4 rfl) (aj 7 rfl) (cz (by rw[aG,hgj];rfl))) n.len) aJ) ∅) (by rw[em,ai])) (by rw[ai];exact MV _ _ _) (aj 6 rfl) (eL (by rw[ai];omega)) (λσ6 Hk Hl G6=>?_))
   exact q _ _ _ (G6.forget LL.mono #[.inr rfl,.inr rfl,.inr rfl,.inr rfl,.inr rfl,.inl rfl,.inl rfl,.inl rfl,.inr rfl,.inr rfl,.inr rfl,trivial] rfl)
  ·refine Ui G2 (ig:=4) rfl LL.rep ?_ (λHx _=>rM.ret rfl rfl ok)
   rw[dw,ai];have tl:=gC cell nn places places.length;have tr:=sM cell nn places places.length
   generalize dR cell nn places places.length=taken at *
   refine aK (nh 8 (fE aU) nd) ?_
   refine aK (mO (tgt:=.tup [5,9]) bU rfl (oM (ds:=names.map .str) (aj 3 rfl) n.Pn)
    (gY rfl (bZ (gX 5 nd) (bZ (gX 9 nd) fM))) (λi=>[.val (.int cell),.val (f9 places),.val (f9 lines),.val (f9 names),.val _,.un,.un,.un,.own (((aX i).map (Gz cell names lines taken)).map fz),.un,.un]) nn rfl (by rw[dw,ai,nl];exact aP _) (λi d hi hd=>?_) (.inl #[by rw[dw,ai,nl],rfl])) (bp (B_ 8 rfl))
   obtain⟨x,hx,rfl⟩:=jD hd;obtain rfl:x=.str (names.getD i ""):=by
    rw[aG,au ∅]at hx
    cases hx;rw[aI,au ∅];rfl
   have wC:taken[i]?=some (taken.getD i []):=by
    rw[aI,au ∅];rfl
   have X':=(tr _ (aQ wC)).1;obtain⟨ht,_⟩:=Cy cell lines i;have lo:=yu cell (90+i);have hi':=P' cell (90+i);refine#[_,rfl,?_]
   refine aK (df 10 (fk (VE.to (VO.ve (mN (d1:=lines.map .str) (d2:=[.str ""]) (aj 2 rfl) (VO.ve (fE (aq bw aU))) (small (by simp;omega)))) (by rw[aN];rfl)) (VE.to (cO (bK C1 hG (aq (aj 0 rfl) (aq (d_ aJ (aj 5 rfl)) aU)) #[cell,80+(i:Int),rfl,∅,∅,rfl]) (d_ (ie (aj 2 rfl) n.len) aJ) ∅) (by rw[ai])) ht) nd) ?_
   refine iV (bp (jE 8 rfl (d:=fz (Gz cell names lines taken i)) (e9 (aq (aj 9 rfl) (aq (aj 10 rfl) (aq ?_ (aq ?_ aU))))) (eL (by simp only[ai,cG];omega)))) #[.inr rfl,.inr rfl,.inr rfl,.inr rfl,.inr rfl,.inl rfl,.inl rfl,.inl rfl,.inr ?_,.inl rfl,.inl rfl,trivial]
   ·exact bK C3 hG (aq (bK C1 hG (aq (aj 0 rfl) (aq (d_ aJ (aj 5 rfl)) aU)) #[cell,90+(i:Int),rfl,∅,∅,rfl]) (aq (ie (fk (aj 4 rfl) (aj 5 rfl) (cz (by rw[aG,aG,wC];rfl))) n.len) aU)) #[cQ cell (90+i),(taken.getD i []).length,by rw[ai],∅,∅,∅,rfl]
   ·exact jC lM yn (aq (fk (aj 4 rfl) (aj 5 rfl) (cz (by rw[aG,aG,wC];rfl))) aU) n.tup rfl
   ·rw[j_,aN,aN];rfl
end
def lC(ns:List Int):Int:=ns.getD 0 0
def er(ns:List Int):Int:=ns.getD 1 0
def lO(ns:List Int):Int:=ns.getD 2 0
def kX(p:Str×Option Int):ae:=.tuple [.str p.1,nW p.2]
def uA(m:Int):Option Int:=if m%3=2 then some (1+m/3%30)else none
def kindAt(a:Int)(names:List Str)(k:Nat):Str×Option Int:=(names.getD k "",uA (cQ a (10+k)))
def iO(a:Int):Nat:=(1+cQ a 1%4).toNat
def qp(a:Int):List (Str×Option Int):=(aX (iO a)).map (kindAt a (namesOf a (iO a)))
def fU(b:Int):Nat:=(1+cQ b 2%3).toNat
def placesOf(b:Int):List Str:=namesOf (cQ b 4) (fU b+(cQ b 5%4).toNat)
def mP(b:Int)(n:Nat):Nat:=(cQ b 6%n).toNat
def orderOf(b:Int):List Str:=(placesOf b).drop (mP b (placesOf b).length)++(placesOf b).take (mP b (placesOf b).length)
def kE(b:Int):List Str:=(placesOf b).take (fU b)
def linesOf(b:Int):List Str:=(placesOf b).drop (fU b)
def jo(g0:List Dk)(name:Str):List Int:=g0.filterMap λd=>if decide (d.to=name)=true then some (iH d.rule d.places.length)else none
def maxOf(l:List Int):Int:=l.foldl (λm z=>if m<z then z else m) 1
def roomAt(b:Int)(g0:List Dk)(lines:List Str)(k:Nat):Str×Int:=(lines.getD k "",maxOf (jo g0 (lines.getD k ""))+cQ b (20+k)%3)
def oS(p:Str×Int):ae:=.tuple [.str p.1,.int p.2]
def tT(p:Str×Str×Int):ae:=.tuple [.str p.1,.str p.2.1,.int p.2.2]
def rU(p:Str×Int×Int):ae:=.tuple [.str p.1,.int p.2.1,.int p.2.2]
def uB(m:Int)(dn:Str)(p:(Str×Option Int)×Nat):Option (Str×Str×Int):=if decide (0<m/((p.2:Int)+7)%3)=true then some (dn,p.1.1,1+m/((p.2:Int)*p.2+2)%6)else none
def fQ(m:Int)(dn:Str)(kinds:List (Str×Option Int))(j:Nat):List (Str×Str×Int):=(kinds.zipIdx.take j).filterMap (uB m dn)
def jT(m:Int)(dn:Str):List (Str×Int×Int):=if m/5%4=0 then [(dn,m/20%9,9+m/180%20),(dn,25+m/3600%20,50+m/72000%40)]else []
def fV(c:Int)(g0:List Dk)(kinds:List (Str×Option Int))(i:Nat):List (Str×Str×Int):=(g0.zipIdx.take i).flatMap λp=>fQ (cQ c (110+p.2)) p.1.name kinds kinds.length
def hZ(c:Int)(g0:List Dk)(i:Nat):List (Str×Int×Int):=(g0.zipIdx.take i).flatMap λp=>jT (cQ c (110+p.2)) p.1.name
structure Pl where
 kinds:List (Str×Option Int)
 gates:List Str
 lines:List (Str×Int)
 desks:List Dk
 times:List (Str×Str×Int)
 hours:List (Str×Int×Int)
abbrev eC(ns:List Int):List Str:=linesOf (er ns)
abbrev nr(ns:List Int):List Str:=orderOf (er ns)
abbrev eY(ns:List Int):List Dk:=kD (lO ns) (nr ns) (eC ns)
abbrev gL(ns:List Int):List (Str×Option Int):=qp (lC ns)
def c7(ns:List Int):Pl:=
 let kds:=qp (lC ns)
 let lns:=linesOf (er ns)
 let g0:=kD (lO ns) (orderOf (er ns)) lns
 #[kds,kE (er ns),(aX lns.length).map (roomAt (er ns) g0 lns),g0,fV (lO ns) g0 kds g0.length,hZ (lO ns) g0 g0.length]
def nu(p:Pl):List (Str×ae):=[("kinds",.list (p.kinds.map kX)),("gates",f9 p.gates),("lines",.list (p.lines.map oS)),("desks",.list (p.desks.map fz)),("times",.list (p.times.map tT)),("hours",.list (p.hours.map rU)),("paces",.list [])]
def eM(p:Pl):ae:=kP (nu p)
theorem qu(l:List Int):maxOf l∈(1::l)/\∀z∈(1::l),z<=maxOf l:=by
 have go:∀(l:List Int)(m0:Int),(l.foldl (λm z=>if m<z then z else m) m0)∈m0::l/\∀z∈m0::l,z<=l.foldl (λm z=>if m<z then z else m) m0:=by
  intro l
  induction l with
  |nil=>intro m0;exact#[aM,λz hz=>by simp at hz;rw[hz];exact Int.le_refl _]
  |cons x l ih=>
   intro m0;obtain⟨h1,h2⟩:=ih (if m0<x then x else m0)
   rw[nH];refine#[?_,λz hz=>?_]
   ·rcases ax.mp h1 with h|h
    ·rw[h]
     split<;>simp
    ·exact aT _ (aT _ h)
   ·have hm:=h2 _ aM
    rcases ax.mp hz with rfl|hz
    ·refine xN ?_ hm
     split<;>omega
    ·rcases ax.mp hz with rfl|hz
     ·refine xN ?_ hm
      split<;>omega
     ·exact h2 z (aT _ hz)
 exact go l 1
theorem tU{m:Int}{dn:Str}{j:Nat}{p:Str×Option Int}(h:kinds[j]?=some p):fQ m dn kinds (j+1)=fQ m dn kinds j++(uB m dn (p,j)).toList:=by
 unfold fQ;rw[ck,jH,h]
 simp;cases e:uB m dn (p,j) with
 |none=>rw[hU e];rfl
 |some r=>rw[ef e];rfl
theorem rV(m:Int)(dn:Str)(kinds:List (Str×Option Int))(j:Nat):(fQ m dn kinds j).length<=j:=by
 exact bQ (pU _ _) (by rw[bJ];omega)
theorem qv{c:Int}{d:Dk}(h:g0[i]?=some d):fV c g0 kinds (i+1)=fV c g0 kinds i++fQ (cQ c (110+i)) d.name kinds kinds.length:=by
 unfold fV;rw[ck,jH,h]
 simp
theorem vw{c:Int}{d:Dk}(h:g0[i]?=some d):hZ c g0 (i+1)=hZ c g0 i++jT (cQ c (110+i)) d.name:=by
 unfold hZ;rw[ck,jH,h]
 simp
theorem Eh(m:Int)(dn:Str):(jT m dn).length<=2:=by unfold jT;split<;>simp
theorem qw(c:Int)(g0:List Dk)(kinds:List (Str×Option Int))(hk:kinds.length<=4):∀i,i<=g0.length->(fV c g0 kinds i).length<=4*i
 |0,_=>by simp[fV]
 |i+1,h=>by
  have ih:=qw c g0 kinds hk i ∅
  have:=rV (cQ c (110+i)) g0[i].name kinds kinds.length;rw[qv (au ∅),aV]
  omega
theorem qx(c:Int)(g0:List Dk):∀i,i<=g0.length->(hZ c g0 i).length<=2*i
 |0,_=>by simp[hZ]
 |i+1,h=>by
  have ih:=qx c g0 i ∅
  have:=Eh (cQ c (110+i)) g0[i].name;rw[vw (au ∅),aV]
  omega
theorem mh(a:Int):1<=iO a/\iO a<=4:=by
 unfold iO
 omega
theorem jq(b:Int):1<=fU b/\fU b<=3:=by
 unfold fU
 omega
theorem tV(b:Int):(placesOf b).length=fU b+(cQ b 5%4).toNat:=gB _ _
theorem kF(b:Int):fU b<=(placesOf b).length/\(placesOf b).length<=6:=by
 have:=jq b
 rw[tV];omega
theorem sN(b:Int){n:Nat}(h:1<=n):mP b n<n:=by
 unfold mP
 have a2:cQ b 6%n<n:=dF _ ∅
 omega
theorem qy(cell:Int)(places lines:List Str):(kD cell places lines).length=kC cell places.length:=by simp[kD]
theorem Qc(m:Int):um [xO,.none,.int (1+m/3%30)] (m%3)=some (nW (uA m)):=by
 unfold uA
 rcases(by omega:m%3=0\/m%3=1\/m%3=2)with e|e|e<;>rw[e]<;>rfl
def Bg(r:ae)(n:Nat):Int:=match r with
 | .tuple [.str w,.int m]=>if w="many" then m else 1
 | .tuple [.str w,.int m,_]=>if w="gather" then m else 1
 | .tuple [.str w]=>if w="meet" then n else 1
 |_=>1
theorem Cz(r:Rl)(n:Nat):Bg (Ol r) n=iH r n:=by
 cases r with
 |rank b=>cases b<;>rfl
 |_=>rfl
def IL(name:Str):ae->Option ae
 | .tuple [_,.str to,r,.tuple ps]=>if decide (to=name)=true then some (.int (Bg r ps.length))else none
 |_=>none
theorem uC(name:Str)(d:Dk):IL name (fz d)=(if decide (d.to=name)=true then some (.int (iH d.rule d.places.length))else none):=by
 show(if decide (d.to=name)=true then some (dD _)else none)=_
 rw[Cz,ai]
theorem Ke(name:Str)(g0:List Dk):(g0.map fz).filterMap (IL name)=(jo g0 name).map .int:=by
 unfold jo;rw[b0,List.map_filterMap]
 congr 1
 funext d
 show IL name _=_;rw[uC]
 split<;>rfl
section
variable{P:bA}{w:cg}{K:ao}{mg:Str->Option aD}{base:cM}{f:aF}{k:Nat}
abbrev Npl:List Str:=["_law_script","_law_a","_law_b","_law_c","_law_kinds","_law_k","_law_name","_law_m","_law_many","_law_places_here","_law_gates","_law_lines","_law_order","_law_desks_here","_law_rooms","_law_loads","_law_times","_law_hours","_law_desk","_law_j","_law_kind"]
theorem Rz:cn Npl ["_law_script"] (a_ (top 58)):=by grind
def Rpl(ds:List ae)(d:ae):Prop:=∃ns:List Int,ds=[f7 ns]/\d=eM (c7 ns)
end
theorem vy{α β:Type}(g:α->β)(l:List α)(lo hi:Option Int):L2.cutD (l.map g) lo hi=(L2.cutD l lo hi).map g:=by
 unfold L2.cutD;rw[ai,pV,pW]
theorem mj{α:Type}(l:List α)(n:Nat):L2.cutD l (some (n:Int)) none=l.drop n:=by
 unfold L2.cutD;rw[HT.p_,HT.Dx];by_cases h:n<=l.length
 ·rw[nM h,c0 (by rw[cN];omega)]
 ·rw[Nat.min_eq_right ∅,q5 ∅,q5 ∅];simp
section
variable{P:bA}{w:cg}{K:ao}{mg:Str->Option aD}{base:cM}{f:aF}{k:Nat}
theorem zbO(F:jQ K "_law_plant" "_law_plant" (top 58) f fd)(n:Ng mg)(C0:bD P w K mg base 1 "_law_cell_at" ["_law_script","_law_k"] (gu K IK))(C1:bD P w K mg base 1 "_law_mix" ["_law_cell","_law_k"] (gu K Gv))(C2:bD P w K mg base 2 "_law_names" ["_law_cell","_law_many"] (F1 K Rnm))(C3:bD P w K mg base 1 "_law_greatest" ["_law_rule_here","_law_many"] (gu K ZM))(C4:bD P w K mg base 3 "_law_desks" ["_law_cell","_law_places_here","_law_lines"] (F1 K Rdk)):dW P w K mg base gS 4 f fd ["_law_script"] (gu K Rpl):=
 iY F Rz (by ext) λ_ _ h=>by
  obtain⟨ns,rfl,rfl⟩:=h;intro e7 A outer s H E hr;have nd:Npl.Nodup:=Rz.nd;have hG:dB 1 _:=hr.mono ∅
  have MY:dB 2 _:=hr.mono ∅
  have e0:c7 ns=#[(gL ns),(placesOf (er ns)).take (fU (er ns)),((aX (eC ns).length).map (roomAt (er ns) (eY ns) (eC ns))),(eY ns),fV (lO ns) (eY ns) (gL ns) (eY ns).length,hZ (lO ns) (eY ns) (eY ns).length]:=rfl;rw[e0];obtain⟨k1,k4⟩:=mh (lC ns);have knl:(namesOf (lC ns) (iO (lC ns))).length=iO (lC ns):=gB _ _;have hkd:(aX (iO (lC ns))).map (kindAt (lC ns) (namesOf (lC ns) (iO (lC ns))))=(gL ns):=rfl;have UQ:(gL ns).length=iO (lC ns):=by simp[qp]
  obtain⟨g1,g3⟩:=jq (er ns);obtain⟨p1,p6⟩:=kF (er ns);have pl:=tV (er ns);have UO:(placesOf (er ns)).drop (fU (er ns))=(eC ns):=rfl;have hll:(eC ns).length<=6:=by rw[<-UO,cN];omega
  have hor:(placesOf (er ns)).drop (mP (er ns) (placesOf (er ns)).length)++(placesOf (er ns)).take (mP (er ns) (placesOf (er ns)).length)=(nr ns):=rfl;have Oc:(nr ns).length=(placesOf (er ns)).length:=by rw[<-hor,aV,cN,bJ];have:=sN (er ns) (n:=(placesOf (er ns)).length) ∅;omega
  have F7:(eY ns).length<=4:=by rw[qy];exact(lZ (lO ns) ∅).2.1
  have ek:((iO (lC ns):Nat):Int)=1+cQ (lC ns) 1%4:=by
   unfold iO;have a1:0<=cQ (lC ns) 1%4:=cJ _ ∅
   omega
  have eg:(((fU (er ns)):Nat):Int)=1+cQ (er ns) 2%3:=by
   unfold fU;have a1:0<=cQ (er ns) 2%3:=cJ _ ∅
   omega
  have ep:((((fU (er ns))+(cQ (er ns) 5%4).toNat:Nat)):Int)=((fU (er ns)):Int)+cQ (er ns) 5%4:=by
   have a1:0<=cQ (er ns) 5%4:=cJ _ ∅
   omega
  have et:((mP (er ns) (placesOf (er ns)).length:Nat):Int)=cQ (er ns) 6%((placesOf (er ns)).length:Int):=by
   unfold mP;have a1:0<=cQ (er ns) 6%((placesOf (er ns)).length:Int):=cJ _ ∅
   omega
  refine aK (PD 1 2 3 (d1:=.int (lC ns)) (d2:=.int (er ns)) (d3:=.int (lO ns)) (bK C0 hG (aq (aj 0 rfl) (aq aJ aU)) #[ns,0,rfl,rfl]) (bK C0 hG (aq (aj 0 rfl) (aq aJ aU)) #[ns,1,rfl,rfl]) (bK C0 hG (aq (aj 0 rfl) (aq aJ aU)) #[ns,2,rfl,rfl]) rfl nd ⋯ ⋯ ⋯) ?_
  refine aK (nh 4 (fE aU) nd) ?_
  refine aK (mO (tgt:=.tup [5,6]) (o:=.nx [.val (f7 ns),.val (.int (lC ns)),.val (.int (er ns)),.val (.int (lO ns)),.own (((aX (iO (lC ns))).map (kindAt (lC ns) (namesOf (lC ns) (iO (lC ns))))).map kX),.un,.un,.un,.un,.un,.un,.un,.un,.un,.un,.un,.un,.un,.un,.un,.un]) bU rfl (oM (ds:=(namesOf (lC ns) (iO (lC ns))).map .str) (VO.ve (oO C2 MY (aq (aj 1 rfl) (aq (VE.to (k:=.int (iO (lC ns):Nat)) (d_ aJ (cO (bK C1 hG (aq (aj 1 rfl) (aq (aJ) aU)) #[lC ns,1,rfl,by first|decide|omega,by first|decide|omega,rfl]) aJ ⋯)) (by rw[ek])) aU)) #[lC ns,iO (lC ns),rfl,∅,rfl])) n.Pn)
   (gY rfl (bZ (gX 5 nd) (bZ (gX 6 nd) (fM)))) (λi=>[.val (f7 ns),.val (.int (lC ns)),.val (.int (er ns)),.val (.int (lO ns)),.own (((aX (i)).map (kindAt (lC ns) (namesOf (lC ns) (iO (lC ns))))).map kX),.un,.un,.un,.un,.un,.un,.un,.un,.un,.un,.un,.un,.un,.un,.un,.un]) (iO (lC ns)) rfl (by rw[dw,ai,knl];exact aP _) (λi d hi hd=>?_) (.inl #[by rw[dw,ai,knl],rfl])) ?_
  ·obtain⟨x,hx,rfl⟩:=jD hd
   obtain rfl:x=.str ((namesOf (lC ns) (iO (lC ns))).getD i ""):=by
    rw[aG,au ∅]at hx
    cases hx;rw[aI,au ∅];rfl
   refine#[_,rfl,?_]
   refine aK (df 7 (d:=.int (cQ (lC ns) (10+i))) (bK C1 hG (aq (aj 1 rfl) (aq (d_ aJ (aj 5 rfl)) aU)) #[lC ns,10+(i:Int),rfl,by first|decide|omega,by first|decide|omega,rfl]) nd) ?_
   refine iV (bp (jE 4 rfl (d:=kX (kindAt (lC ns) (namesOf (lC ns) (iO (lC ns))) i)) (e9 (aq (aj 6 rfl) (aq (fk (VO.ve (fE (aq eP (aq eP (aq (d_ aJ (cO (gj (aj 7 rfl) aJ #[⋯,⋯]) aJ ⋯)) aU))))) (cO (aj 7 rfl) aJ ⋯) (Qc _)) aU))) (eL (by simp only[ai,cG];omega)))) #[.inr rfl,.inr rfl,.inr rfl,.inr rfl,.inr ?_,.inl rfl,.inl rfl,.inl rfl,.inl rfl,.inl rfl,.inl rfl,.inl rfl,.inl rfl,.inl rfl,.inl rfl,.inl rfl,.inl rfl,.inl rfl,.inl rfl,.inl rfl,.inl rfl,trivial]
   rw[j_,aN,aN];rfl
  rw[hkd];refine gZ 4 rfl ?_
  refine aK (df 8 (d:=.int ((fU (er ns)):Nat)) (VE.to (d_ aJ (cO (bK C1 hG (aq (aj 2 rfl) (aq (aJ) aU)) #[er ns,2,rfl,by first|decide|omega,by first|decide|omega,rfl]) aJ ⋯)) (by rw[eg])) nd) ?_
  refine aK (df 9 (d:=f9 (placesOf (er ns))) (VO.ve (oO C2 MY (aq (bK C1 hG (aq (aj 2 rfl) (aq (aJ) aU)) #[er ns,4,rfl,by first|decide|omega,by first|decide|omega,rfl]) (aq (VE.to (k:=.int ((fU (er ns))+(cQ (er ns) 5%4).toNat:Nat)) (d_ (aj 8 rfl) (cO (bK C1 hG (aq (aj 2 rfl) (aq (aJ) aU)) #[er ns,5,rfl,by first|decide|omega,by first|decide|omega,rfl]) aJ ⋯)) (by rw[ep])) aU)) #[cQ (er ns) 4,(fU (er ns))+(cQ (er ns) 5%4).toNat,rfl,∅,rfl])) nd) ?_
  refine aK (TR 10 11 (d1:=f9 ((placesOf (er ns)).take (fU (er ns)))) (d2:=f9 (eC ns)) (VE.to (VO.ve (jh (ds:=(placesOf (er ns)).map .str) (aj 9 rfl) .no (.yes (aj 8 rfl)))) (by rw[vy,DN];rfl)) (VE.to (VO.ve (jh (ds:=(placesOf (er ns)).map .str) (aj 9 rfl) (.yes (aj 8 rfl)) .no)) (by rw[vy,mj];rfl)) rfl nd ⋯) ?_
  refine aK (df 12 (d:=f9 (nr ns)) (VE.to (VO.ve (mN (VO.ve (VO.to (k:=((placesOf (er ns)).drop (mP (er ns) (placesOf (er ns)).length)).map aS) (jh (ds:=(placesOf (er ns)).map .str) (aj 9 rfl) (.yes (VE.to (k:=.int (mP (er ns) (placesOf (er ns)).length:Nat)) (cO (bK C1 hG (aq (aj 2 rfl) (aq (aJ) aU)) #[er ns,6,rfl,by first|decide|omega,by first|decide|omega,rfl]) (ie (ds:=(placesOf (er ns)).map .str) (aj 9 rfl) n.len) (by rw[ai];omega)) (by rw[et,ai]))) .no) (by rw[vy,mj]))) (VO.ve (VO.to (k:=((placesOf (er ns)).take (mP (er ns) (placesOf (er ns)).length)).map aS) (jh (ds:=(placesOf (er ns)).map .str) (aj 9 rfl) .no (.yes (VE.to (k:=.int (mP (er ns) (placesOf (er ns)).length:Nat)) (cO (bK C1 hG (aq (aj 2 rfl) (aq (aJ) aU)) #[er ns,6,rfl,by first|decide|omega,by first|decide|omega,rfl]) (ie (ds:=(placesOf (er ns)).map .str) (aj 9 rfl) n.len) (by rw[ai];omega)) (by rw[et,ai])))) (by rw[vy,DN]))) (small (by simp only[ai,cN,bJ];omega)))) (by rw[<-aN,hor];rfl)) nd) ?_
  refine aK (df 13 (d:=.list ((eY ns).map fz)) (VO.ve (oO C4 hr (aq (aj 3 rfl) (aq (aj 12 rfl) (aq (aj 11 rfl) aU))) #[lO ns,(nr ns),(eC ns),rfl,∅,∅,∅,rfl])) nd) ?_
  refine aK (nh 14 (fE aU) nd) ?_
  have ZO:∀d∈(eY ns),nV d.to:=λd hd=>by
   obtain⟨j,_,rfl⟩:=av.mp hd;have hm:=(Cy (lO ns) (eC ns) j).2;rcases aR.mp hm with hm|hm
   ·exact(jY (eX (show Kd (lO ns) (eC ns) j∈(placesOf (er ns)).drop (fU (er ns))from hm))).ok.2
   ·show nV (Kd (lO ns) (eC ns) j)
    rw[aW.mp hm];show cw (.str ("":Str))=true;symm
  refine aK (mO (tgt:=.tup [5,6]) (o:=.nx [.val (f7 ns),.val (.int (lC ns)),.val (.int (er ns)),.val (.int (lO ns)),.val (.list ((gL ns).map kX)),.un,.un,.un,.val (.int (fU (er ns))),.val (f9 (placesOf (er ns))),.val (f9 ((placesOf (er ns)).take (fU (er ns)))),.val (f9 (eC ns)),.val (f9 (nr ns)),.val (.list ((eY ns).map fz)),.own (((aX ((eC ns).length)).map (roomAt (er ns) (eY ns) (eC ns))).map oS),.un,.un,.un,.un,.un,.un]) bU rfl (oM (ds:=(eC ns).map .str) (aj 11 rfl) n.Pn)
   (gY rfl (bZ (gX 5 nd) (bZ (gX 6 nd) (fM)))) (λi=>[.val (f7 ns),.val (.int (lC ns)),.val (.int (er ns)),.val (.int (lO ns)),.val (.list ((gL ns).map kX)),.un,.un,.un,.val (.int (fU (er ns))),.val (f9 (placesOf (er ns))),.val (f9 ((placesOf (er ns)).take (fU (er ns)))),.val (f9 (eC ns)),.val (f9 (nr ns)),.val (.list ((eY ns).map fz)),.own (((aX (i)).map (roomAt (er ns) (eY ns) (eC ns))).map oS),.un,.un,.un,.un,.un,.un]) (eC ns).length rfl (by rw[dw,ai];exact aP _) (λi d hi hd=>?_) (.inl #[by rw[dw,ai],rfl])) ?_
  ·obtain⟨x,hx,rfl⟩:=jD hd
   obtain⟨rfl,vf⟩:x=.str ((eC ns).getD i "")/\(eC ns).getD i ""∈(eC ns):=by
    rw[aG,au ∅]at hx
    cases hx;rw[aI,au ∅]
    exact#[rfl,dP _]
   have okn:nV ((eC ns).getD i ""):=(jY (eX (show(eC ns).getD i ""∈(placesOf (er ns)).drop (fU (er ns))from vf))).ok.2
   have nc:(["_law_desk","_law_name"]:List Str).Nodup:=∎
   have hlo:(jo (eY ns) ((eC ns).getD i "")).length<=4:=bQ (pU _ _) F7;refine#[_,rfl,?_]
   refine aK (Ih 15 (own:=["_law_desk"]) (cap:=[6]) (N:=["_law_desk","_law_name"]) (tgt:=.one 0) (F:=IL ((eC ns).getD i "")) (ds:=(eY ns).map fz) rfl #[rfl,∎,∎,rfl,rfl,?_] (dY (aj 13 rfl)) (λf s3 H3=>gX 0 nc) rfl (small (by rw[ai];omega)) (λd hd=>?_) nd) ?_
   ·intro j hj
    rcases ax.mp hj with rfl|hj
    ·exact#[(by show(6:Nat)<21;decide),lJ rfl,rfl]
    ·cases hj
   ·obtain⟨dk,Ei,rfl⟩:=av.mp hd
    refine#[_,rfl,λf s3 H3=>?_,λr kQ f s3 H3=>?_]
    ·refine ng (VT.to (fx (k:=1) hG (bH (ZO dk Ei)) (bH okn) (dq (aj 0 rfl) aJ rfl) (aj 1 rfl)) ?_)
     rw[uC,bO];by_cases h:dk.to=(eC ns).getD i ""
     ·rw[qQ1 h,qQ3 rfl];rfl
     ·rw[qQ0 h,qQ2 eS];rfl
    ·rw[uC]at kQ
     split at kQ
     ·cases kQ
      exact bK C3 hG (aq (dq (aj 0 rfl) aJ rfl) (aq (ky (ds:=dk.places.map .str) (dq (aj 0 rfl) aJ rfl) n.len) aU)) #[dk.rule,dk.places.length,by rw[ai],rfl]
     ·cases kQ
   refine gZ 15 rfl ?_
   rw[Ke];obtain⟨mx1,mx2⟩:=qu (jo (eY ns) ((eC ns).getD i ""));refine iV (bp (jE 14 rfl (d:=oS (roomAt (er ns) (eY ns) (eC ns) i)) (e9 (aq (aj 6 rfl) (aq (d_ (ji (JM rfl) (Xg (ns:=1::jo (eY ns) ((eC ns).getD i "")) mx1 mx2) (aq (VO.ve (mN (d1:=[.int 1]) (d2:=(jo (eY ns) ((eC ns).getD i "")).map .int) (VO.ve (fE (ds:=[.int 1]) (aq aJ aU))) (aj 15 rfl) (small (by simp only[ai,bR,dA];omega)))) aU) n.max rfl) (cO (bK C1 hG (aq (aj 2 rfl) (aq (d_ aJ (aj 5 rfl)) aU)) #[er ns,20+(i:Int),rfl,by first|decide|omega,by first|decide|omega,rfl]) aJ ⋯)) aU))) (eL (by simp only[ai,cG];omega)))) #[.inr rfl,.inr rfl,.inr rfl,.inr rfl,.inr rfl,.inl rfl,.inl rfl,.inl rfl,.inr rfl,.inr rfl,.inr rfl,.inr rfl,.inr rfl,.inr rfl,.inr ?_,.inl rfl,.inl rfl,.inl rfl,.inl rfl,.inl rfl,.inl rfl,trivial]
   rw[j_,aN,aN];rfl
  refine gZ 14 rfl ?_
  refine aK (Pz 16 17 (fE aU) (fE aU) rfl nd ⋯) ?_
  refine aK (mO (tgt:=.tup [5,18]) (o:=.nx [.val (f7 ns),.val (.int (lC ns)),.val (.int (er ns)),.val (.int (lO ns)),.val (.list ((gL ns).map kX)),.un,.un,.un,.val (.int (fU (er ns))),.val (f9 (placesOf (er ns))),.val (f9 ((placesOf (er ns)).take (fU (er ns)))),.val (f9 (eC ns)),.val (f9 (nr ns)),.val (.list ((eY ns).map fz)),.val (.list (((aX (eC ns).length).map (roomAt (er ns) (eY ns) (eC ns))).map oS)),.un,.own ((fV (lO ns) (eY ns) (gL ns) ((eY ns).length)).map tT),.own ((hZ (lO ns) (eY ns) ((eY ns).length)).map rU),.un,.un,.un]) bU rfl (oM (ds:=(eY ns).map fz) (aj 13 rfl) n.Pn)
   (gY rfl (bZ (gX 5 nd) (bZ (gX 18 nd) (fM)))) (λi=>[.val (f7 ns),.val (.int (lC ns)),.val (.int (er ns)),.val (.int (lO ns)),.val (.list ((gL ns).map kX)),.un,.un,.un,.val (.int (fU (er ns))),.val (f9 (placesOf (er ns))),.val (f9 ((placesOf (er ns)).take (fU (er ns)))),.val (f9 (eC ns)),.val (f9 (nr ns)),.val (.list ((eY ns).map fz)),.val (.list (((aX (eC ns).length).map (roomAt (er ns) (eY ns) (eC ns))).map oS)),.un,.own ((fV (lO ns) (eY ns) (gL ns) (i)).map tT),.own ((hZ (lO ns) (eY ns) (i)).map rU),.un,.un,.un]) (eY ns).length rfl (by rw[dw,ai];exact aP _) (λi d hi hd=>?_) (.inl #[by rw[dw,ai],rfl])) ?_
  ·obtain⟨x,hx,rfl⟩:=jD hd
   obtain⟨dk,Ei,rfl⟩:∃dk,(eY ns)[i]?=some dk/\x=fz dk:=by
    rw[aG,au ∅]at hx
    cases hx;exact#[_,au ∅,rfl]
   refine#[_,rfl,?_]
   refine aK (df 7 (d:=.int (cQ (lO ns) (110+i))) (bK C1 hG (aq (aj 3 rfl) (aq (d_ aJ (aj 5 rfl)) aU)) #[lO ns,110+(i:Int),rfl,by first|decide|omega,by first|decide|omega,rfl]) nd) ?_
   have tsu:=qv (c:=lO ns) (kinds:=(gL ns)) Ei;have hsu:=vw (c:=lO ns) Ei;have tle:=qw (lO ns) (eY ns) (gL ns) ∅ i ∅
   have hle:=qx (lO ns) (eY ns) i ∅
   rw[tsu,hsu];have m0:=yu (lO ns) (110+i)
   generalize cQ (lO ns) (110+i)=m at *
   refine aK (mO (tgt:=.tup [19,20]) (o:=.nx [.val (f7 ns),.val (.int (lC ns)),.val (.int (er ns)),.val (.int (lO ns)),.val (.list ((gL ns).map kX)),.val (.int i),.un,.val (.int m),.val (.int (fU (er ns))),.val (f9 (placesOf (er ns))),.val (f9 ((placesOf (er ns)).take (fU (er ns)))),.val (f9 (eC ns)),.val (f9 (nr ns)),.val (.list ((eY ns).map fz)),.val (.list (((aX (eC ns).length).map (roomAt (er ns) (eY ns) (eC ns))).map oS)),.un,.own ((fV (lO ns) (eY ns) (gL ns) i++fQ m dk.name (gL ns) ((gL ns).length)).map tT),.own ((hZ (lO ns) (eY ns) (i)).map rU),.val (fz dk),.un,.un]) bU rfl (oM (ds:=(gL ns).map kX) (aj 4 rfl) n.Pn)
    (gY rfl (bZ (gX 19 nd) (bZ (gX 20 nd) (fM)))) (λj=>[.val (f7 ns),.val (.int (lC ns)),.val (.int (er ns)),.val (.int (lO ns)),.val (.list ((gL ns).map kX)),.val (.int i),.un,.val (.int m),.val (.int (fU (er ns))),.val (f9 (placesOf (er ns))),.val (f9 ((placesOf (er ns)).take (fU (er ns)))),.val (f9 (eC ns)),.val (f9 (nr ns)),.val (.list ((eY ns).map fz)),.val (.list (((aX (eC ns).length).map (roomAt (er ns) (eY ns) (eC ns))).map oS)),.un,.own ((fV (lO ns) (eY ns) (gL ns) i++fQ m dk.name (gL ns) (j)).map tT),.own ((hZ (lO ns) (eY ns) (i)).map rU),.val (fz dk),.un,.un]) (gL ns).length (by show([.val (f7 ns),.val (.int (lC ns)),.val (.int (er ns)),.val (.int (lO ns)),.val (.list ((gL ns).map kX)),.val (.int i),.un,.val (.int m),.val (.int (fU (er ns))),.val (f9 (placesOf (er ns))),.val (f9 ((placesOf (er ns)).take (fU (er ns)))),.val (f9 (eC ns)),.val (f9 (nr ns)),.val (.list ((eY ns).map fz)),.val (.list (((aX (eC ns).length).map (roomAt (er ns) (eY ns) (eC ns))).map oS)),.un,.own ((fV (lO ns) (eY ns) (gL ns) i++fQ m dk.name (gL ns) (0)).map tT),.own ((hZ (lO ns) (eY ns) (i)).map rU),.val (fz dk),.un,.un]:List Slot)=_;rw[show fQ m dk.name (gL ns) 0=[]from rfl,cy];rfl) (by rw[dw,ai];exact aP _) (λj d hj hd=>?_) (.inl #[by rw[dw,ai],rfl])) ?_
   ·obtain⟨x,hx,rfl⟩:=jD hd
    obtain⟨kd,zbP,rfl⟩:∃kd,(gL ns)[j]?=some kd/\x=kX kd:=by
     rw[aG,au ∅]at hx
     cases hx;exact#[_,au ∅,rfl]
    have rle:=rV m dk.name (gL ns) j;have jj0:(0:Int)<=(j:Int)*j:=Int.mul_nonneg ∅ ∅
    have jj1:(j:Int)*j<=60*60:=Int.mul_le_mul ∅ ∅ ∅ ∅
    refine#[_,rfl,?_]
    rw[tU zbP];by_cases ht:decide (0<m/((j:Int)+7)%3)=true
    ·have et:uB m dk.name (kd,j)=some (dk.name,kd.1,1+m/((j:Int)*j+2)%6):=by show(if _ then _ else _)=_;rw[qQ3 ht]
     rw[et];refine iV (bp (dU (VT.to (Ig (cO (gj (aj 7 rfl) (d_ (aj 19 rfl) aJ) #[∅,∅]) aJ ⋯) aJ) ht) (bp (jE 16 rfl (d:=tT (dk.name,kd.1,1+m/((j:Int)*j+2)%6)) (e9 (aq (dq (aj 18 rfl) aJ rfl) (aq (dq (aj 20 rfl) aJ rfl) (aq (d_ aJ (cO (gj (aj 7 rfl) (d_ (ur (aj 19 rfl) (aj 19 rfl) (.inl #[∅,∅])) aJ) #[∅,∅]) aJ ⋯)) aU)))) (eL (by simp only[ai,aV];omega)))))) #[.inr rfl,.inr rfl,.inr rfl,.inr rfl,.inr rfl,.inr rfl,.inl rfl,.inr rfl,.inr rfl,.inr rfl,.inr rfl,.inr rfl,.inr rfl,.inr rfl,.inr rfl,.inl rfl,.inr ?_,.inr rfl,.inr rfl,.inl rfl,.inl rfl,trivial]
     rw[<-cp,aN (l₂:=Option.toList _)];rfl
    ·have et:uB m dk.name (kd,j)=none:=by show(if _ then _ else _)=_;rw[qQ2 ht]
     rw[et];refine iV (bp (bP (VT.to (Ig (cO (gj (aj 7 rfl) (d_ (aj 19 rfl) aJ) #[∅,∅]) aJ ⋯) aJ) ↑ht) bB)) #[.inr rfl,.inr rfl,.inr rfl,.inr rfl,.inr rfl,.inr rfl,.inl rfl,.inr rfl,.inr rfl,.inr rfl,.inr rfl,.inr rfl,.inr rfl,.inr rfl,.inr rfl,.inl rfl,.inr ?_,.inr rfl,.inr rfl,.inl rfl,.inl rfl,trivial]
     rw[Option.toList_none,cy]
   have rle:=rV m dk.name (gL ns) (gL ns).length;have e5:cP (.int (m/5%4)) (.int 0)=decide (m/5%4=0):=jG _ _;by_cases h5:m/5%4=0
   ·have eh:jT m dk.name=[(dk.name,m/20%9,9+m/180%20),(dk.name,25+m/3600%20,50+m/72000%40)]:=by unfold jT;rw[qQ3 h5]
    rw[eh];refine iV (bp (dU (VT.to (fx (k:=1) hG (cu 20 _) (cu 20 _) (cO (gj (aj 7 rfl) aJ #[⋯,⋯]) aJ ⋯) aJ) (by rw[e5,qQ1 h5])) (aK (jE 17 rfl (d:=rU (dk.name,m/20%9,9+m/180%20)) (e9 (aq (dq (aj 18 rfl) aJ rfl) (aq (cO (gj (aj 7 rfl) aJ #[⋯,⋯]) aJ ⋯) (aq (d_ aJ (cO (gj (aj 7 rfl) aJ #[⋯,⋯]) aJ ⋯)) aU)))) (eL (by simp only[ai];omega))) (bp (jE 17 rfl (d:=rU (dk.name,25+m/3600%20,50+m/72000%40)) (e9 (aq (dq (aj 18 rfl) aJ rfl) (aq (d_ aJ (cO (gj (aj 7 rfl) aJ #[⋯,⋯]) aJ ⋯)) (aq (d_ aJ (cO (gj (aj 7 rfl) aJ #[⋯,⋯]) aJ ⋯)) aU)))) (eL (by simp only[ai,aV,bR,dA];omega))))))) #[.inr rfl,.inr rfl,.inr rfl,.inr rfl,.inr rfl,.inl rfl,.inl rfl,.inl rfl,.inr rfl,.inr rfl,.inr rfl,.inr rfl,.inr rfl,.inr rfl,.inr rfl,.inl rfl,.inr rfl,.inr ?_,.inl rfl,.inl rfl,.inl rfl,trivial]
    rw[aN (l₂:=[_,_]),cp];rfl
   ·have eh:jT m dk.name=[]:=by unfold jT;rw[qQ2 h5]
    rw[eh,cy];exact iV (bp (bP (VT.to (fx (k:=1) hG (cu 20 _) (cu 20 _) (cO (gj (aj 7 rfl) aJ #[⋯,⋯]) aJ ⋯) aJ) (by rw[e5,qQ0 h5])) bB)) #[.inr rfl,.inr rfl,.inr rfl,.inr rfl,.inr rfl,.inl rfl,.inl rfl,.inl rfl,.inr rfl,.inr rfl,.inr rfl,.inr rfl,.inr rfl,.inr rfl,.inr rfl,.inl rfl,.inr rfl,.inr rfl,.inl rfl,.inl rfl,.inl rfl,trivial]
  refine gZ 16 rfl ?_
  refine gZ 17 rfl ?_
  refine bp (b_ (Iu (.cons bw (aj 4 rfl) (.cons bw (aj 10 rfl) (.cons bw (aj 14 rfl) (.cons bw (aj 13 rfl) (.cons bw (aj 16 rfl) (.cons bw (aj 17 rfl) (.cons bw (VO.ve (fE aU)) .nil))))))) (show([("kinds":Str),"gates","lines","desks","times","hours","paces"]).Nodup by symm) (by simp[nu]) (by show 7<=15;decide)))
end
end Mg
namespace Mg
open L2 PySem PyProof.Rows
theorem rW(p:Pl):iT (nu p) "kinds"=some (.list (p.kinds.map kX)):=fy rfl
theorem rX(p:Pl):iT (nu p) "gates"=some (f9 p.gates):=(cL (show ¬(("kinds":Str)="gates") by symm)).trans (fy rfl)
theorem Ej(p:Pl):iT (nu p) "lines"=some (.list (p.lines.map oS)):=(cL (show ¬(("kinds":Str)="lines") by symm)).trans ((cL (show ¬(("gates":Str)="lines") by symm)).trans (fy rfl))
theorem Ek(p:Pl):iT (nu p) "desks"=some (.list (p.desks.map fz)):=(cL (show ¬(("kinds":Str)="desks") by symm)).trans ((cL (show ¬(("gates":Str)="desks") by symm)).trans ((cL (show ¬(("lines":Str)="desks") by symm)).trans (fy rfl)))
theorem MZ(p:Pl):iT (nu p) "times"=some (.list (p.times.map tT)):=(cL (show ¬(("kinds":Str)="times") by symm)).trans ((cL (show ¬(("gates":Str)="times") by symm)).trans ((cL (show ¬(("lines":Str)="times") by symm)).trans ((cL (show ¬(("desks":Str)="times") by symm)).trans (fy rfl))))
theorem M0(p:Pl):iT (nu p) "hours"=some (.list (p.hours.map rU)):=(cL (show ¬(("kinds":Str)="hours") by symm)).trans ((cL (show ¬(("gates":Str)="hours") by symm)).trans ((cL (show ¬(("lines":Str)="hours") by symm)).trans ((cL (show ¬(("desks":Str)="hours") by symm)).trans ((cL (show ¬(("times":Str)="hours") by symm)).trans (fy rfl)))))
theorem M3(p:Pl):iT (nu p) "paces"=some (.list []):=(cL (show ¬(("kinds":Str)="paces") by symm)).trans ((cL (show ¬(("gates":Str)="paces") by symm)).trans ((cL (show ¬(("lines":Str)="paces") by symm)).trans ((cL (show ¬(("desks":Str)="paces") by symm)).trans ((cL (show ¬(("times":Str)="paces") by symm)).trans ((cL (show ¬(("hours":Str)="paces") by symm)).trans (fy rfl))))))
def pickOf{α:Type}(l:List α)(d:α)(j:Int):α:=l.getD (j%l.length).toNat d
theorem sO{α:Type}{l:List α}{d:α}{F:α->ae}(h:1<=l.length)(j:Int):um (l.map F) (j%(l.length:Int))=some (F (pickOf l d j))/\pickOf l d j∈l:=by
 unfold pickOf;have a1:0<=j%l.length:=cJ _ ∅
 have a2:j%l.length<l.length:=dF _ ∅
 generalize j%l.length=i at *
 obtain⟨n,rfl⟩:=kL a1;have hn:n<l.length:=∅
 have e:l.getD ((n:Int)).toNat d=l[n]:=by rw[dS,aI,au hn];rfl
 rw[e];exact#[cz (by rw[aG,au hn];rfl),dP hn]
structure Ka(K:ao):Prop where
 ss:cA K (.type "str") (.type "str")=some true
 is:cA K (.type "int") (.type "str")=some false
 ts:cA K (.type "tuple") (.type "str")=some false
 ls:cA K (.type "list") (.type "str")=some false
 ii:cA K (.type "int") (.type "int")=some true
 ti:cA K (.type "tuple") (.type "int")=some false
 li:cA K (.type "list") (.type "int")=some false
 ib:cA K (.type "int") (.type "bool")=some false
 tt:cA K (.type "tuple") (.type "tuple")=some true
 tl:cA K (.type "tuple") (.type "list")=some false
 lt:cA K (.type "list") (.type "tuple")=some false
 ll:cA K (.type "list") (.type "list")=some true
def M4:ae->Prop
 | .none=>True
 | .int _=>True
 | .str x=>nV x
 |_=>False
def UR:Nat->ae->Prop
 |0,d=>M4 d
 |n+1,d=>M4 d\/∃ds,(d=.tuple ds\/d=.list ds)/\ds.length<=1000/\∀e∈ds,UR n e
def zbQ:ae->Bool
 | .none=>true
 |_=>false
theorem kG{K:ao}{d:ae}:A3 K (λx y H Q=>y=.non/\Q (.bl (decide (x=.non))) H) d .none (.bool (zbQ d)):=λv u H0 H Q s r1 r2 k=>by
 cases r2;refine#[rfl,k _ _ _ (.refl s) ?_]
 cases r1<;>exact .bl _
structure Na(mg:Str->Option aD):Prop extends Nm mg where
 str:mg "str"=none
 all:mg "all"=none
def Fal:ae->Option ae:=λ_=>some (.bool true)
theorem IQ:∀l:List ae,l.filterMap Fal=(aY l.length true).map .bool
 | []=>rfl
 |d::l=>by rw[ef (f:=Fal) rfl,IQ l];rfl
theorem Kf(n:Nat):qP (aY n true)=true:=by
 unfold qP;rw[dO];intro b hb;exact(gI.mp hb).2
end Mg
namespace Mg
open L2 PySem PyProof.Rows
seal L2.VE L2.VS L2.xV L2.VT L2.VO L2.N_
abbrev iP:=Int×Str×Str×Str
def gM(g:iP):ae:=.tuple [.int g.1,.str g.2.1,.str g.2.2.1,.str g.2.2.2]
def rY(m:Int):Int:=if m%5=2 then 1 else if m%5=3 then m/7%3 else if m%5=4 then m/7%12 else 0
theorem step_at(m:Int):um [dD 0,.int 0,.int 1,.int (m/7%3),.int (m/7%12)] (m%5)=some (.int (rY m)):=by
 unfold rY
 rcases(by omega:m%5=0\/m%5=1\/m%5=2\/m%5=3\/m%5=4)with e|e|e|e|e<;>rw[e]<;>rfl
def mQ(cells:List Int):Nat->Int
 |0=>0
 |k+1=>mQ cells k+rY (cQ (cells.getD k 0) k)
def pI(m:Int):Str:=([("":Str),"p","q","pp","r"]).getD (m/10000%5).toNat ""
theorem Kg(m:Int):um [aS "",.str "p",.str "q",.str "pp",.str "r"] (m/10000%5)=some (.str (pI m)):=by
 unfold pI
 rcases(by omega:m/10000%5=0\/m/10000%5=1\/m/10000%5=2\/m/10000%5=3\/m/10000%5=4)with e|e|e|e|e<;>rw[e]<;>rfl
def GA(p:Pl)(cells:List Int)(k:Nat):iP:=(mQ cells (k+1),pickOf p.gates "" (cQ (cells.getD k 0) k/100),(pickOf p.kinds ("",none) (cQ (cells.getD k 0) k/1000)).1,pI (cQ (cells.getD k 0) k))
def rZ(p:Pl)(cells:List Int):List iP:=(aX cells.length).map (GA p cells)
section
variable{P:bA}{w:cg}{K:ao}{mg:Str->Option aD}{base:cM}{f:aF}{k:Nat}
abbrev Ndy:List Str:=["_law_h","_law_cells","_law_day_here","_law_t","_law_k","_law_cell","_law_m","_law_gate","_law_kind","_law_parcel"]
theorem RA:cn Ndy ["_law_h","_law_cells"] (a_ (top 62)):=by grind
def Rdy(ds es:List ae):Prop:=∃(p:Pl)(cells:List Int),ds=[eM p,f7 cells]/\1<=p.gates.length/\1<=p.kinds.length/\cells.length<=63/\es=(rZ p cells).map gM
theorem zbS{fd:eU}(F:jQ K "_law_day" "_law_day" (top 62) f fd)(n:Ng mg)(C1:bD P w K mg base 1 "_law_mix" ["_law_cell","_law_k"] (gu K Gv)):dW P w K mg base gS 2 f fd ["_law_h","_law_cells"] (F1 K Rdy):=
 JK F RA (by ext) λ_ _ h=>by
  obtain⟨p,cells,rfl,hg,hk,hc,rfl⟩:=h;intro e7 A outer s H E hr;have nd:Ndy.Nodup:=RA.nd;refine aK (nh 2 (fE aU) nd) ?_
  refine aK (df 3 aJ nd) ?_
  refine aK (mO (tgt:=.tup [4,5]) bU rfl (oM (aj 1 rfl) n.Pn)
   (gY rfl (bZ (gX 4 nd) (bZ (gX 5 nd) fM))) (λi=>[.val (eM p),.val _,.own (((aX i).map _).map gM),.val (.int (mQ cells i)),.un,.un,.un,.un,.un,.un]) cells.length rfl (by rw[dw,ai];exact aP _) (λi d hi hd=>?_) (.inl #[by rw[dw,ai],rfl])) (bp (B_ 2 rfl))
  obtain⟨x,hx,rfl⟩:=jD hd;obtain rfl:x=.int (cells.getD i 0):=by
   rw[aG,au ∅]at hx
   cases hx;rw[aI,au ∅];rfl
  refine#[_,rfl,?_]
  have eg:GA p cells i=(mQ cells i+rY _,pickOf p.gates "" (cQ _ i/100),(pickOf p.kinds ("",none) _).1,pI _):=rfl;have et:mQ cells (i+1)=mQ cells i+rY _:=rfl;refine aK (df 6 (bK C1 hr (aq (aj 5 rfl) (aq (aj 4 rfl) aU)) #[_,i,rfl,∅,∅,rfl]) nd) ?_
  rw[j_,aN,aN,vQ,vQ,eg,et]
  generalize cQ _ i=m
  obtain⟨pg,_⟩:=sO hg (m/100);obtain⟨pk,_⟩:=sO hk (m/1000);refine aK (df 3 (d_ (aj 3 rfl) (fk (VO.ve (fE (aq aJ (aq aJ (aq aJ (aq (cO (gj (aj 6 rfl) aJ #[⋯,⋯]) aJ ⋯) (aq (cO (gj (aj 6 rfl) aJ #[⋯,⋯]) aJ ⋯) aU))))))) (cO (aj 6 rfl) aJ ⋯) (step_at m))) nd) ?_
  refine aK (df 7 (fk (fN hr (aj 0 rfl) bw (rX p)) (VE.to (cO (gj (aj 6 rfl) aJ #[⋯,⋯]) (ie (fN hr (aj 0 rfl) bw (rX p)) n.len) (by rw[ai];omega)) (by rw[ai])) pg) nd) ?_
  refine aK (df 8 (dq (fk (fN hr (aj 0 rfl) bw (rW p)) (VE.to (cO (gj (aj 6 rfl) aJ #[⋯,⋯]) (ie (fN hr (aj 0 rfl) bw (rW p)) n.len) (by rw[ai];omega)) (by rw[ai])) pk) aJ rfl) nd) ?_
  exact aK (df 9 (fk (VO.ve (fE (aq bw (aq bw (aq bw (aq bw (aq bw aU))))))) (cO (gj (aj 6 rfl) aJ #[⋯,⋯]) aJ ⋯) (Kg m)) nd) (iV (bp (jE 2 rfl (e9 (aq (aj 3 rfl) (aq (aj 7 rfl) (aq (aj 8 rfl) (aq (aj 9 rfl) aU))))) (eL (by simp;omega)))) #[.inr rfl,.inr rfl,.inr rfl,.inr rfl,.inl rfl,.inl rfl,.inl rfl,.inl rfl,.inl rfl,.inl rfl,trivial])
end
end Mg
namespace Mg
open L2 PySem PyProof.Rows
variable{n:Int}{c:Nat}{x:Str}
def Bh(c:Nat):List (List Nat)->List Nat
 | []=>[]
 | [x]=>x
 |x::y::r=>x++c::Bh c (y::r)
theorem El:∀{a b r s:List Nat},c∉a->c∉b->a++c::r=b++c::s->a=b/\r=s
 | [],[],r,s,_,_,h=>#[rfl,(iK h).2]
 | [],y::b,r,s,_,hb,h=>qQ7 (iK h).1 (λz=>hb (by rw[z];exact aM))
 |x::a,[],r,s,ha,_,h=>qQ7 (iK h).1 (λz=>ha (by rw[<-z];exact aM))
 |x::a,y::b,r,s,ha,hb,h=>by
  obtain⟨h1,h2⟩:=iK h;obtain⟨h3,h4⟩:=El (λz=>ha (aT _ z)) (λz=>hb (aT _ z)) h2
  exact#[by rw[h1,h3],h4]
theorem Bi{c:Nat}:∀{ps qs:List (List Nat)},ps≠[]->qs≠[]->(∀p∈ps,c∉p)->(∀p∈qs,c∉p)->Bh c ps=Bh c qs->ps=qs
 | [],_,h,_,_,_,_=>qQ7 rfl h
 |_,[],_,h,_,_,_=>qQ7 rfl h
 | [x],[y],_,_,_,_,h=>by have h:x=y:=h;rw[h]
 | [x],y::y2::qs,_,_,hp,_,h=>by
  have h:x=y++c::Bh c (y2::qs):=h;exact qQ7 (by rw[h];exact bu _ aM) (hp x aM)
 |x::x2::ps,[y],_,_,_,hq,h=>by
  have h:x++c::Bh c (x2::ps)=y:=h;exact qQ7 (by rw[<-h];exact bu _ aM) (hq y aM)
 |x::x2::ps,y::y2::qs,_,_,hp,hq,h=>by
  obtain⟨h1,h2⟩:=El (hp x aM) (hq y aM) h;have:=Bi (by simp) (by simp) (λp z=>hp p (aT _ z)) (λp z=>hq p (aT _ z)) h2
  rw[h1,this]
theorem add_list(x y:Str):(x++y).cps.toList=x.cps.toList++y.cps.toList:=by
 show(x.cps++y.cps).toList=_
 simp
theorem str_inj{y: Str}(h:x.cps.toList=y.cps.toList):x=y:=Str.ext' (Array.toList_inj.mp h)
theorem join_list(c:Nat):∀ps:List Str,(cX (one c) ps).cps.toList=Bh c (ps.map λp=>p.cps.toList)
 | []=>rfl
 | [x]=>rfl
 |x::y::r=>by
  show(x++one c++cX (one c) (y::r)).cps.toList=_
  rw[add_list,add_list,join_list c (y::r)];show x.cps.toList ++ [c]++_=x.cps.toList++c::_;simp
theorem vz(x y:Str):cC x y≠[]:=by
 intro h;unfold cC at h
 split at h
 ·cases h
 ·split at h
  ·cases h
  ·have:=qQ6 dC h
   rw[xI]at this;simp at this
theorem uD{ps:List Str}(h:ps≠[])(hf:∀p∈ps,c∉p.cps.toList):cC (cX (one c) ps) (one c)=ps:=by
 have h1:=nP (cX (one c) ps) (one c);have h3:=vz (cX (one c) ps) (one c)
 generalize hq:cC (cX (one c) ps) _=qs at *
 have h2:∀p∈qs,c∉p.cps.toList:=by rw[<-hq];exact uf (cX (one c) ps) c
 have e:=qQ6 (λs:Str=>s.cps.toList) h1
 simp only[join_list]at e;have:=Bi ↑h3 ↑h
  (λp hp=>by obtain⟨q,hq,rfl⟩:=av.mp hp;exact h2 q hq) (λp hp=>by obtain⟨q,hq,rfl⟩:=av.mp hp;exact hf q hq) e
 have inj:∀{l m:List Str},(l.map λp=>p.cps.toList)=(m.map λp=>p.cps.toList)->l=m:=by
  intro l
  induction l with
  |nil=>intro m hm;cases m with|nil=>rfl|cons _ _=>cases hm
  |cons x l ih=>
   intro m hm;cases m with
   |nil=>cases hm
   |cons y m=>
    obtain⟨a1,a2⟩:=iK hm;rw[str_inj a1,ih a2]
 exact inj this
theorem Em(c:Nat):∀{ps qs:List Str},ps≠[]->qs≠[]->cX (one c) (ps++qs)=cX (one c) ps++one c++cX (one c) qs
 | [],_,h,_=>qQ7 rfl h
 | [x],q::qs,_,_=>rfl
 | [x],[],_,h=>qQ7 rfl h
 |x::y::r,qs,_,h=>by
  show x++one c++cX (one c) ((y::r)++qs)=_;rw[Em c (by simp) h]
  apply str_inj;show _=(x++one c++cX (one c) (y::r)++one c++cX (one c) qs).cps.toList;simp[add_list,cp]
theorem Kh(c:Nat)(x y:Str):cC (x++one c++y) (one c)=cC x (one c)++cC y (one c):=by
 have e:x++one c++y=cX (one c) (cC x (one c)++cC y (one c)):=by
  rw[Em c (vz _ _) (vz _ _),nP,nP]
 rw[e];refine uD (by simp[vz]) λp hp=>?_
 rcases aR.mp hp with hp|hp
 ·exact uf x c p hp
 ·exact uf y c p hp
theorem GB(h:c∉x.cps.toList):cC x (one c)=[x]:=by
 have:=uD (ps:=[x]) (by simp) (λp hp=>by rw[aW.mp hp];exact h)
 exact this
theorem Bj:(" ":Str)=one 32:=∎
theorem UT:("\n":Str)=one 10:=∎
theorem lD(x y:Str):wordsOf (x++" "++y)=wordsOf x++wordsOf y:=by
 unfold wordsOf;rw[Bj,Kh,oG]
theorem zq:wordsOf ""=[]:=by
 rfl
theorem wG{w:Str}(h:w≠"")(hb:32∉w.cps.toList):wordsOf w=[w]:=by
 unfold wordsOf;rw[Bj,GB hb,eE,qQ3 ↑h]
 rfl
theorem Ki(x y z:Str):x++y++z=x++(y++z):=by
 apply str_inj;simp[add_list,cp]
theorem empty_app(x:Str):""++x=x:=by
 apply str_inj;rw[add_list];rfl
theorem En(x:Str)(n:Nat):jF x (n+1)=x++jF x n:=by
 apply str_inj;rw[add_list]
 show(x.cps++(jF x n).cps).toList=_
 simp
theorem GC(n:Nat)(y:Str):wordsOf (jF " " n++y)=wordsOf y:=by
 induction n with
 |zero=>rw[show jF " " 0="" from rfl,empty_app]
 |succ n ih=>
  have e:jF " " (n+1)++y=""++" "++(jF " " n++y):=by rw[En,empty_app,Ki]
  rw[e,lD,zq,ih];rfl
theorem Kj(n:Nat)(x y:Str):wordsOf (x++jF " " (n+1)++y)=wordsOf x++wordsOf y:=by
 have e:x++jF " " (n+1)++y=x++" "++(jF " " n++y):=by rw[En];apply str_inj;simp[add_list,cp]
 rw[e,lD,GC]
theorem zr(n:Nat):∀{ws:List Str},(∀w∈ws,w≠""/\32∉w.cps.toList)->wordsOf (cX (jF " " (n+1)) ws)=ws
 | [],_=>zq
 | [w],h=>wG (h w aM).1 (h w aM).2
 |w::v::ws,h=>by
  show wordsOf (w++jF " " (n+1)++cX (jF " " (n+1)) (v::ws))=_;rw[Kj,wG (h w aM).1 (h w aM).2,zr n (λu hu=>h u (aT _ hu))]
  rfl
theorem oT{ws:List Str}(h:∀w∈ws,w≠""/\32∉w.cps.toList):wordsOf (cX " " ws)=ws:=by
 have:=zr 0 h;exact this
theorem Kk{rows:List Str}(h0:rows≠[])(h:∀r∈rows,10∉r.cps.toList):rowsOf (cX "\n" rows)=rows.zipIdx.filterMap λp=>if(wordsOf p.1).isEmpty then none else some (p.2,wordsOf p.1):=by
 unfold rowsOf;rw[UT,uD h0 h]
def ej(n:Int):Str:=Str.ofString (toString n)
theorem CB{m:Nat}(h:¬m<10):g_ 10 m=g_ 10 (m/10) ++ [Nat.digitChar (m%10)]:=by
 have hm:m%10<10:=Nat.mod_lt m ⋯
 have t:g_ 10 (m/10)++g_ 10 (m%10)=g_ 10 _:=Nat.toDigits_append_toDigits ⋯ ∅ hm
 rw[Nat.div_add_mod]at t;rw[<-t,kM hm]
theorem IU:∀(k m:Nat),1<=k->m<10^k->(g_ 10 m).length<=k
 |0,_,h,_=>∅
 |k+1,m,_,h=>by
  by_cases hm:m<10
  ·rw[kM hm];simp
  ·rw[CB hm,aV]
   have hk:1<=k:=by
    rcases vS k with rfl|hk
    ·exact qQ7 h ↑hm
    ·exact hk
   have:=IU k (m/10) hk (by rw[Nat.div_lt_iff_lt_mul ⋯];rw[Nat.pow_succ]at h;exact h);simp;omega
theorem Qd(m:Nat):1<=(g_ 10 m).length:=by
 by_cases hm:m<10
 ·rw[kM hm];simp
 ·rw[CB hm,aV];simp
theorem M5(m:Nat)(h:0<m):∃c,(g_ 10 m).head?=some c/\c≠'0':=by
 induction m using Nat.strongRecOn with
 |_ m ih=>
  by_cases hm:m<10
  ·rw[kM hm]
   refine#[_,rfl,?_]
   have:∀d:Nat,d<10->0<d->Nat.digitChar d≠'0':=⋯
   exact this m hm h
  ·obtain⟨c,h1,h2⟩:=ih (m/10) ∅ ∅
   refine#[c,?_,h2]
   rw[CB hm,List.head?_append,h1]
   rfl
theorem wH(h0:0<=n):(ej n).cps.toList=(g_ 10 n.toNat).map Char.toNat:=by
 obtain⟨m,rfl⟩:=kL h0;exact PySem.W.KIN.signs_num m
theorem lE(h0:0<=n)(hc:c∈(ej n).cps.toList):48<=c/\c<=57:=by
 rw[wH h0]at hc;obtain⟨ch,KY,e⟩:=av.mp hc;have r:=digit_range (Nat.isDigit_of_mem_toDigits ⋯ ⋯ KY)
 rwa[<-e]
theorem yv(h0:0<=n)(h1:n<1000000):1<=(ej n).length/\(ej n).length<=6:=by
 have e:(ej n).length=(g_ 10 n.toNat).length:=by
  show(ej n).cps.size=_
  rw[<-cH,wH h0,ai]
 rw[e];exact#[Qd _,IU 6 _ ⋯ ∅]
theorem Eo:("0123456789":Str).cps.toList=(aX 10).map (48 + ·):=∎
theorem o3(h0:0<=n)(h1:n<1000000):x5 (ej n):=by
 refine#[by have:=yv h0 h1;omega,(nq _).mpr λc hc=>?_]
 have:=lE h0 hc;omega
theorem zt(h0:0<=n)(h1:n<1000000):isNumber (ej n)=true:=by
 obtain⟨l1,l2⟩:=yv h0 h1;have em:qo "0123456789" 6 (ej n)=true:=by
  unfold qo;rw[qQ1 ∅,qQ1 ∅,iX,iX,dO]
  intro c hc;have hd:=lE h0 hc;have:DT (one c) "0123456789"=decide (c∈("0123456789":Str).cps.toList):=uV ..;rw[this,Eo];exact qQ1 (av.mpr #[c-48,bW.mpr ∅,∅])
 unfold isNumber;rw[em,iX];by_cases hn:n=0
 ·subst hn
  rfl
 ·obtain⟨c,c1,c2⟩:=M5 n.toNat ∅
  have hh:(ej n).cps.toList.head?=some c.toNat:=by
   rw[wH h0,List.head?_map,c1]
   rfl
  rw[hh];have:one c.toNat≠"0":=by
   intro z;have z2:(one c.toNat).cps.toList=("0":Str).cps.toList:=by rw[z]
   have z3:[c.toNat]=[48]:=z2;have z4:c.toNat=48:=by simpa using z3
   exact c2 (Char.toNat_inj.mp z4)
  show(_ || !decide (one c.toNat="0"))=true
  rw[qQ0 this];simp
theorem num_reads(h0:0<=n)(h1:n<1000000):intText? (ej n)=some n:=PySem.W.KIN.num_reads h0 ∅
theorem nX(h0:0<=n)(h1:n<1000000):ej n≠""/\32∉(ej n).cps.toList/\10∉(ej n).cps.toList:=by
 refine#[λz=>?_,λz=>?_,λz=>?_]
 ·have:=(yv h0 h1).1
  rw[z]at this;exact qQ7 this ⋯
 ·have:=lE h0 z;omega
 ·have:=lE h0 z;omega
theorem gO(h:dQ x):x≠""/\32∉x.cps.toList/\10∉x.cps.toList:=by
 refine#[λz=>?_,λz=>?_,λz=>?_]
 ·have:=h.1
  rw[z]at this;exact qQ7 this ⋯
 ·have:=h.2.2 _ z;omega
 ·have:=h.2.2 _ z;omega
end Mg
namespace Mg
open L2 PySem PyProof.Rows
seal L2.VE L2.VS L2.xV L2.VT L2.VO L2.N_
variable{fd:eU}
def dg(i:Int):Prop:=0<=i/\i<1000000
theorem dg.log{i:Int}(h:dg i):i.natAbs.log2<1920:=by
 have:i.natAbs<2^20:=by have:=h.1;have:=h.2;omega
 have h2:i.natAbs.log2<=20:=by
  rcases vS i.natAbs with e|e
  ·rw[e];decide
  ·exact ou ((Nat.log2_lt ∅).mpr this)
 omega
def GF:ae->Prop
 | .none=>True
 | .int i=>dg i
 | .str x=>x=""\/dQ x
 |_=>False
def fA:ae->Str
 | .str x=>if x="" then "-" else x
 | .int i=>ej i
 |_=>"-"
section
variable{P:bA}{w:cg}{K:ao}{mg:Str->Option aD}{base:cM}{f:aF}{k:Nat}
theorem Ya:cn ["_law_thing"] ["_law_thing"] (a_ (top 59)):=by grind
def Rda(ds:List ae)(d:ae):Prop:=∃x,ds=[x]/\GF x/\d=.str (fA x)
theorem zbU(F:jQ K "_law_dash" "_law_dash" (top 59) f fd)(n:Na mg):dW P w K mg base gS 1 f fd ["_law_thing"] (gu K Rda):=
 iY F Ya (by ext) λ_ _ h=>by
  obtain⟨x,rfl,ho,rfl⟩:=h;intro e7 A outer s H E hr;have l0:Lay 20 (.str ""):=bH ∎
  cases x with
  |none=>exact dz (dU (VT.to (jS (k2:=true) (fY iF kG (aj 0 rfl) eP (eu _)) (λz=>by cases z)) rfl) (bp (b_ bw))) rfl
  |int i=>
   exact aK (bP (VT.to (jS (fY iF kG (aj 0 rfl) eP (eu _)) (λ_=>fx hr (cu 20 _) l0 (aj 0 rfl) bw)) rfl) bB) (bp (b_ (sH (aj 0 rfl) (dg.log ho) n.str)))
  |str z=>
   have oz:nV z:=by
    rcases ho with rfl|ho
    ·show cw _=true;symm
    ·exact ho.ok.2
   by_cases hz:z=""
   ·refine dz (dU (VT.to (jS (fY iF kG (aj 0 rfl) eP (eu _)) (λ_=>fx hr (bH oz) l0 (aj 0 rfl) bw)) ?_) (bp (b_ (VE.to bw ?_)))) rfl
    ·rw[bO,qQ1 hz];rfl
    ·show aS "-"=.str (if z="" then "-" else z);rw[qQ3 hz]
   ·refine aK (bP (VT.to (jS (fY iF kG (aj 0 rfl) eP (eu _)) (λ_=>fx hr (bH oz) l0 (aj 0 rfl) bw)) ?_) bB) ?_
    ·rw[bO,qQ0 hz];rfl
    ·refine bp (b_ (VE.to (PF (aj 0 rfl) n.str) ?_))
     show aS z=.str (if z="" then "-" else z);rw[qQ2 hz]
  |_=>exact ho.elim
def zu:Rl->Prop
 | .meet=>True
 | .gather m a=>dg m/\dg a
 | .many m=>dg m
 | .rank none=>True
 | .rank (some b)=>dg b
 | .turns s=>s.length<=60/\∀z∈s,dg z
 | .eldest=>True
def cR:Rl->List Str
 | .turns s=>"turns"::s.map ej
 |r=>rh r::(tj r).map fA
def pJ(r:Rl):Str:=cX " " (cR r)
theorem Yb:cn ["_law_rule_here"] ["_law_rule_here"] (a_ (top 60)):=by grind
def Rrt(ds:List ae)(d:ae):Prop:=∃r,ds=[Ol r]/\zu r/\d=.str (pJ r)
def zbV:ae->Option ae
 | .int i=>some (.str (ej i))
 |_=>none
theorem M6(l:List Int):(l.map dD).filterMap zbV=(l.map ej).map .str:=by
 rw[b0,aB];exact filterMap_some λk _=>rfl
def Yc:ae->Option ae:=λd=>some (.str (fA d))
theorem Kl(l:List ae):l.filterMap Yc=(l.map fA).map .str:=by
 rw[aB];exact filterMap_some λk _=>rfl
theorem gP{i:Int}(h:dg i):(ej i).length<=6:=(yv h.1 h.2).2
theorem pK:∀{l:List Str}{b:Nat},(∀x∈l,x.length<=b)->(l.map (·.length)).sum<=l.length*b
 | [],_,_=>by simp
 |x::l,b,h=>by
  have h1:=h x aM;have h2:=pK λy hy=>h y (aT _ hy)
  rw[ay,uW,bR,Nat.add_mul];omega
theorem jZ{d:ae}(h:GF d):(fA d).length<=8:=by
 cases d with
 |none=>decide
 |int i=>exact bQ (gP h) ⋯
 |str x=>
  show(if x="" then("-":Str)else x).length<=8
  split
  ·decide
  ·rename_i hx
   rcases h with h|h
   ·exact qQ7 h hx
   ·have:=h.2.1
    exact this
 |_=>exact h.elim
theorem zv{r:Rl}(ht:∀s,r≠.turns s)(h:zu r):∀d∈tj r,GF d:=by
 intro d hd;cases r with
 |meet=>cases hd
 |eldest=>cases hd
 |gather m a=>
  rcases ax.mp hd with rfl|hd
  ·exact h.1
  ·rw[aW.mp hd];exact h.2
 |many m=>rw[aW.mp hd];exact h
 |rank b=>rw[aW.mp hd];cases b with|none=>trivial|some b=>exact h
 |turns s=>exact qQ7 rfl (ht s)
theorem zbW(F:jQ K "_law_rule_text" "_law_rule_text" (top 60) f fd)(n:Na mg)(C:bD P w K mg base 1 "_law_dash" ["_law_thing"] (gu K Rda)):dW P w K mg base gS 2 f fd ["_law_rule_here"] (gu K Rrt):=
 iY F Yb (by ext) λ_ _ h=>by
  obtain⟨r,rfl,ho,rfl⟩:=h;intro e7 A outer s H E hr;have oR:nV (rh r):=by cases r<;>dsimp only[rh,nV]<;>symm
  have lT:Lay 20 (.str "turns"):=bH ∎
  have h0:um (aS (rh r)::tj r) 0=some _:=cz rfl;by_cases ht:∃sh,r=.turns sh
  ·obtain⟨sh,rfl⟩:=ht
   have nc:(["_law_share"]:List Str).Nodup:=∎
   refine dz (dU (VT.to (fx hr (bH oR) lT (dq (aj 0 rfl) aJ h0) bw) (by rw[bO];exact qQ1 rfl)) (bp (b_ (sI bw (VE.to (VO.ve (mN (VO.ve (fE (aq bw aU))) (VO.ve (VO.to (eB (own:=["_law_share"]) (cap:=[]) (tgt:=.one 0) rfl #[rfl,∎,∎,rfl,rfl,by simp] (yS (dq (aj 0 rfl) aJ (cz rfl))) (λf s3 H3=>gX 0 nc) rfl
    (small (by rw[ai];have:=ho.1;omega)) (λd hd=>?_)) (M6 _))) (small (by simp;have:=ho.1;omega)))) rfl) ?_)))) rfl
   ·obtain⟨z,hz,rfl⟩:=av.mp hd
    exact Fc rfl rfl λf s3 H3=>sH (aj 0 rfl) (dg.log (ho.2 z hz)) n.str
   ·have h1:=pK (l:=cR (.turns sh)) (b:=6) λx hx=>by
     rcases ax.mp hx with rfl|hx
     ·decide
     ·obtain⟨z,hz,rfl⟩:=av.mp hx
      exact gP (ho.2 z hz)
    have h2:(cR (.turns sh)).length=sh.length+1:=by simp[cR]
    have h3:=ho.1;have h4:(" ":Str).length=1:=⋯
    rw[h4];omega
  ·have CD:=λsh z=>ht #[sh,z]
   have hw:rh r≠"turns":=by
    cases r with
    |turns sh=>exact qQ7 rfl (CD sh)
    |_=>dsimp only[rh];symm
   have M7:cR r=rh r::(tj r).map fA:=by
    cases r with
    |turns sh=>exact qQ7 rfl (CD sh)
    |_=>rfl
   have hl:(tj r).length<=2:=by cases r<;>simp[tj]
   have Tc:(rh r).length<=8:=by cases r<;>dsimp only[rh]<;>symm
   have hok:=zv CD ho;unfold pJ;rw[M7];unfold Ol
   generalize tj r=ra at *
   generalize rh r=sD at *
   have nc:(["_law_one"]:List Str).Nodup:=∎
   have M8:L2.cutD (aS sD::ra) (some 1) none=ra:=(mj (aS sD::ra) 1).trans rfl;refine aK (bP (VT.to (fx hr (bH oR) lT (dq (aj 0 rfl) aJ h0) bw) (by rw[bO];exact qQ0 hw)) bB) ?_
   refine bp (b_ (sI bw (VE.to (VO.ve (mN (VO.ve (fE (aq (dq (aj 0 rfl) aJ h0) aU))) (VO.ve (VO.to (eB (own:=["_law_one"]) (cap:=[]) (tgt:=.one 0) rfl #[rfl,∎,∎,rfl,rfl,by simp] (yS (VE.to (wc (aj 0 rfl) (.yes aJ) .no ?_) (by rw[M8]))) (λf s3 H3=>gX 0 nc) rfl
    (small ∅) (λd hd=>?_)) (Kl _))) (small (by simp;omega)))) rfl) ?_))
   ·intro z
    have:=z.1;rw[show(1:Int)=((1:Nat):Int)from rfl,HT.p_,bR]at this
    omega
   ·exact Fc rfl rfl λf s3 H3=>bK C hr (aq (aj 0 rfl) aU) #[d,rfl,hok d hd,rfl]
   ·have h1:=pK (l:=sD::ra.map fA) λx hx=>by
     rcases ax.mp hx with rfl|hx
     ·exact Tc
     ·obtain⟨z,hz,rfl⟩:=av.mp hx
      exact jZ (hok z hz)
    have h2:(sD::ra.map fA).length=ra.length+1:=by simp
    have h4:(" ":Str).length=1:=⋯
    rw[h4];omega
end
def qz(p:Str×Option Int):Str:="kind "++p.1++" "++fA (nW p.2)
def ny(g:Str):Str:="gate "++g
def nz(p:Str×Int):Str:="line "++p.1++" "++ej p.2
def nY(d:Dk):Str:="desk "++d.name++" to "++fA (.str d.to)++" by "++pJ d.rule
def lP(d:Dk):Str:=nY d++" from "++cX " " d.places
def nD(p:Str×Str×Int):Str:=cX " " ["time",p.1,p.2.1,ej p.2.2]
def oU(p:Str×Int×Int):Str:=cX " " ["open",p.1,ej p.2.1,ej p.2.2]
structure lF(p:Pl):Prop where
 kn:p.kinds.length<=60
 gn:p.gates.length<=60
 ln:p.lines.length<=60
 dn:p.desks.length<=60
 tn:p.times.length<=600
 hn:p.hours.length<=600
 kinds:∀q∈p.kinds,dQ q.1/\GF (nW q.2)
 gates:∀g∈p.gates,dQ g
 lines:∀q∈p.lines,dQ q.1/\dg q.2
 desks:∀d∈p.desks,dQ d.name/\(d.to=""\/dQ d.to)/\zu d.rule/\d.places.length<=60/\∀x∈d.places,dQ x
 times:∀q∈p.times,dQ q.1/\dQ q.2.1/\dg q.2.2
 hours:∀q∈p.hours,dQ q.1/\dg q.2.1/\dg q.2.2
theorem dQ.short{x:Str}(h:dQ x):x.length<=8:=by
 have:=h.2.1;exact this
theorem g6{y:Str}(hy:y.length<=1):∀{l:List Str}{b:Nat},(∀x∈l,x.length<=b)->(cX y l).length<=l.length*(b+1)
 | [],_,_=>by exact bx _
 | [x],b,h=>by
  have:=h x aM;show x.length<=1*(b+1);omega
 |x::z::l,b,h=>by
  have h1:=h x aM;have h2:=g6 hy λu hu=>h u (aT _ hu)
  show(x++y++cX y (z::l)).length<=(z::l).length.succ*(b+1)
  rw[cq,cq,xG];omega
theorem nZ{r:Rl}(h:zu r):(pJ r).length<=700:=by
 have hl:(cR r).length<=61/\∀x∈cR r,x.length<=8:=by
  by_cases ht:∃sh,r=.turns sh
  ·obtain⟨sh,rfl⟩:=ht
   refine#[by have:=h.1;simp[cR];omega,λx hx=>?_]
   rcases ax.mp hx with rfl|hx
   ·decide
   ·obtain⟨z,hz,rfl⟩:=av.mp hx
    exact bQ (gP (h.2 z hz)) ⋯
  ·have CD:=λsh z=>ht #[sh,z]
   have M7:cR r=rh r::(tj r).map fA:=by
    cases r with
    |turns sh=>exact qQ7 rfl (CD sh)
    |_=>rfl
   have hl:(tj r).length<=2:=by cases r<;>simp[tj]
   rw[M7];refine#[by rw[bR,ai];omega,λx hx=>?_]
   rcases ax.mp hx with rfl|hx
   ·exact (by cases r<;>dsimp only[rh]<;>symm)
   ·obtain⟨z,hz,rfl⟩:=av.mp hx
    exact jZ ((zv CD h) z hz)
 have:=g6 (y:=" ") ⋯ hl.2
 unfold pJ;omega
def Fkr:ae->Option ae
 | .tuple [.str a,k]=>some (.str ("kind "++a++" "++fA k))
 |_=>none
def Fgr:ae->Option ae
 | .str a=>some (.str (ny a))
 |_=>none
def Flr:ae->Option ae
 | .tuple [.str a,.int i]=>some (.str (nz (a,i)))
 |_=>none
def Ftr:ae->Option ae
 | .tuple [.str a,.str b,.int i]=>some (.str (nD (a,b,i)))
 |_=>none
def Fhr:ae->Option ae
 | .tuple [.str a,.int i,.int j]=>some (.str (oU (a,i,j)))
 |_=>none
theorem Qe(l:List (Str×Option Int)):(l.map kX).filterMap Fkr=(l.map qz).map .str:=by
 rw[b0,aB];exact filterMap_some λk _=>rfl
theorem Qf(l:List Str):(l.map aS).filterMap Fgr=(l.map ny).map .str:=by
 rw[b0,aB];exact filterMap_some λk _=>rfl
theorem Qg(l:List (Str×Int)):(l.map oS).filterMap Flr=(l.map nz).map .str:=by
 rw[b0,aB];exact filterMap_some λk _=>rfl
theorem Qh(l:List (Str×Str×Int)):(l.map tT).filterMap Ftr=(l.map nD).map .str:=by
 rw[b0,aB];exact filterMap_some λk _=>rfl
theorem Qi(l:List (Str×Int×Int)):(l.map rU).filterMap Fhr=(l.map oU).map .str:=by
 rw[b0,aB];exact filterMap_some λk _=>rfl
def n_(p:Pl):List Str:=p.kinds.map qz++p.gates.map ny++p.lines.map nz
def dZ(p:Pl):List Str:=n_ p++p.desks.map lP++p.times.map nD++p.hours.map oU
def oV(p:Pl):Str:=cX "\n" (dZ p)
section
variable{P:bA}{w:cg}{K:ao}{mg:Str->Option aD}{base:cM}{f:aF}{k:Nat}
abbrev Npt:List Str:=["_law_h","_law_rows","_law_name","_law_to","_law_rule_here","_law_places_here","_law_row","_law_gate","_law_kind","_law_burst","_law_gap"]
theorem RB:cn Npt ["_law_h"] (a_ (top 61)):=by grind
def Rpt(ds:List ae)(d:ae):Prop:=∃p,ds=[eM p]/\lF p/\d=.str (oV p)
theorem zbY(F:jQ K "_law_plant_text" "_law_plant_text" (top 61) f fd)(n:Na mg)(C1:bD P w K mg base 1 "_law_dash" ["_law_thing"] (gu K Rda))(C2:bD P w K mg base 2 "_law_rule_text" ["_law_rule_here"] (gu K Rrt)):dW P w K mg base gS 3 f fd ["_law_h"] (gu K Rpt):=
 iY F RB (by ext) λ_ _ h=>by
  obtain⟨p,rfl,ok,rfl⟩:=h;intro e7 A outer s H E hr;have nd:Npt.Nodup:=RB.nd;have hG:dB 1 _:=hr.mono ∅
  have b1:=ok.kn;have b2:=ok.gn;have b3:=ok.ln;have b4:=ok.dn;have b5:=ok.tn;have b6:=ok.hn;have nk:(["_law_name","_law_keep"]:List Str).Nodup:=∎
  refine aK (Ih 1 (own:=["_law_name","_law_keep"]) (cap:=[]) (N:=["_law_name","_law_keep"]) (cl:=[]) (tgt:=.tup [0,1]) (F:=Fkr) (ds:=p.kinds.map kX) rfl #[rfl,∎,∎,rfl,rfl,by simp] (dY (fN hG (aj 0 rfl) bw (rW p))) (λf s3 H3=>gY rfl (bZ (gX 0 nk) (bZ (gX 1 nk) fM))) rfl (small (by rw[ai];omega)) (λd hd=>?_) nd) ?_
  ·obtain⟨q,hq,rfl⟩:=av.mp hd
   obtain⟨h1,h2⟩:=ok.kinds q hq;refine#[_,rfl,λf s3 H3=>m_,λr kQ f s3 H3=>?_]
   cases kQ;have s1:=h1.short;have s2:=jZ h2;have e1:("kind ":Str).length=5:=⋯
   have e2:(" ":Str).length=1:=⋯
   exact hV (hV (hV bw (aj 0 rfl) (small ∅)) bw (small (by simp only[cq];omega))) (bK C1 hG (aq (aj 1 rfl) aU) #[_,rfl,h2,rfl]) (small (by simp only[cq];omega))
  rw[Qe];refine gZ 1 rfl ?_
  have n1:(["_law_name"]:List Str).Nodup:=∎
  refine aK (nh 1 (ds:=(p.kinds.map qz++p.gates.map ny).map .str) (VO.to (mN (d2:=(p.gates.map ny).map .str) (aj 1 rfl) (VO.ve (VO.to (eB (own:=["_law_name"]) (cap:=[]) (N:=["_law_name"]) (cl:=[]) (tgt:=.one 0) (F:=Fgr) (ds:=p.gates.map .str) rfl #[rfl,∎,∎,rfl,rfl,by simp] (dY (fN hG (aj 0 rfl) bw (rX p))) (λf s3 H3=>gX 0 n1) rfl (small (by rw[ai];omega)) (λd hd=>?_)) (Qf _))) (small (by simp only[ai];omega))) (by rw[aN])) nd) ?_
  ·obtain⟨q,hq,rfl⟩:=av.mp hd
   have s1:=(ok.gates q hq).short;have e1:("gate ":Str).length=5:=⋯
   exact Fc rfl rfl λf s3 H3=>hV bw (aj 0 rfl) (small ∅)
  refine gZ 1 rfl ?_
  have n2:(["_law_name","_law_room"]:List Str).Nodup:=∎
  refine aK (nh 1 (ds:=(n_ p).map .str) (VO.to (mN (d2:=(p.lines.map nz).map .str) (aj 1 rfl) (VO.ve (VO.to (eB (own:=["_law_name","_law_room"]) (cap:=[]) (N:=["_law_name","_law_room"]) (cl:=[]) (tgt:=.tup [0,1]) (F:=Flr) (ds:=p.lines.map oS) rfl #[rfl,∎,∎,rfl,rfl,by simp] (dY (fN hG (aj 0 rfl) bw (Ej p))) (λf s3 H3=>gY rfl (bZ (gX 0 n2) (bZ (gX 1 n2) fM))) rfl (small (by rw[ai];omega)) (λd hd=>?_)) (Qg _))) (small (by simp only[ai,aV];omega))) (by unfold n_;rw[aN (l₂:=oF nz _)])) nd) ?_
  ·obtain⟨⟨qa,qi⟩,hq,rfl⟩:=av.mp hd
   obtain⟨h1,h2⟩:dQ qa/\dg qi:=ok.lines (qa,qi) hq;have s1:=h1.short;have s2:=gP h2;have e1:("line ":Str).length=5:=⋯
   have e2:(" ":Str).length=1:=⋯
   exact Fc rfl rfl λf s3 H3=>VE.to (hV (x:="line "++qa++" ") (y:=ej qi) (hV (x:="line "++qa) (hV (y:=qa) bw (aj 0 rfl) (small ∅)) bw (small (by simp only[cq];omega))) (sH (aj 1 rfl) (dg.log h2) n.str) (small (by simp only[cq];omega))) rfl
  have r1:(n_ p).length=p.kinds.length+p.gates.length+p.lines.length:=by unfold n_;simp only[aV,ai]
  refine aK (mO (tgt:=.tup [2,3,4,5]) (o:=.nx [.val (eM p),.own ((n_ p++(p.desks.take p.desks.length).map lP).map .str),.un,.un,.un,.un,.un,.un,.un,.un,.un]) bU rfl (dY (fN hG (aj 0 rfl) bw (Ek p)))
   (gY rfl (bZ (gX 2 nd) (bZ (gX 3 nd) (bZ (gX 4 nd) (bZ (gX 5 nd) fM))))) (λi=>[.val (eM p),.own ((n_ p++(p.desks.take i).map lP).map .str),.un,.un,.un,.un,.un,.un,.un,.un,.un]) p.desks.length (by show([.val (eM p),.own ((n_ p++(p.desks.take 0).map lP).map .str),.un,.un,.un,.un,.un,.un,.un,.un,.un]:List Slot)=_;rw[tJ,gx,cy];rfl) (by rw[ai];exact aP _) (λi d hi hd=>?_) (.inl #[by rw[ai],rfl])) ?_
  ·obtain⟨dk,Ei,rfl⟩:∃dk,p.desks[i]?=some dk/\d=fz dk:=by
    rw[aG,au ∅]at hd
    cases hd;exact#[_,au ∅,rfl]
   obtain⟨h1,h2,h3,h4,h5⟩:=ok.desks dk (aQ Ei);have Vz:GF (.str dk.to):=h2;have s1:=h1.short;have s2:=jZ Vz;have s3:=nZ h3;have s4:=g6 (y:=" ") ⋯ (l:=dk.places) (b:=8) λx hx=>(h5 x hx).short
   have s5:dk.places.length*(8+1)<=60*9:=iC h4 (aP _);have s6:=pK (l:=dk.places) (b:=8) λx hx=>(h5 x hx).short
   have e1:("desk ":Str).length=5:=⋯
   have e2:(" to ":Str).length=4:=⋯
   have e3:(" by ":Str).length=4:=⋯
   have e4:(" from ":Str).length=6:=⋯
   have e5:(" ":Str).length=1:=⋯
   have eh:(nY dk).length<=800:=by unfold nY;simp only[cq];omega
   refine#[_,rfl,?_]
   refine aK (df 6 (d:=.str (nY dk)) (hV (hV (hV (hV (hV bw (aj 2 rfl) (small ∅)) bw (small (by simp only[cq];omega))) (bK C1 hG (aq (aj 3 rfl) aU) #[_,rfl,Vz,rfl]) (small (by simp only[cq];omega))) bw (small (by simp only[cq];omega))) (bK C2 hr (aq (aj 4 rfl) aU) #[_,rfl,h3,rfl]) (small (by simp only[cq];omega))) nd) ?_
   refine iV (bp (jE 1 rfl (d:=.str (lP dk)) (hV (hV (aj 6 rfl) bw (small ∅)) (sI (zs:=dk.places) bw (VO.ve (lu qd PH (aq (aj 5 rfl) aU) n.lst rfl)) (by rw[e5];omega)) (small (by simp only[cq];omega))) (eL (by simp only[ai,aV,bJ];omega)))) #[.inr rfl,.inr ?_,.inl rfl,.inl rfl,.inl rfl,.inl rfl,.inl rfl,.inr rfl,.inr rfl,.inr rfl,.inr rfl,trivial]
   rw[ck,Ei];simp only[HG,aN,ay,gx,cp]
  rw[c9];refine gZ 1 rfl ?_
  have n3:(["_law_desk","_law_kind","_law_work"]:List Str).Nodup:=∎
  refine aK (nh 1 (ds:=(n_ p++p.desks.map lP++p.times.map nD).map .str) (VO.to (mN (d2:=(p.times.map nD).map .str) (aj 1 rfl) (VO.ve (VO.to (eB (own:=["_law_desk","_law_kind","_law_work"]) (cap:=[]) (N:=["_law_desk","_law_kind","_law_work"]) (cl:=[]) (tgt:=.tup [0,1,2]) (F:=Ftr) (ds:=p.times.map tT) rfl #[rfl,∎,∎,rfl,rfl,by simp] (dY (fN hG (aj 0 rfl) bw (MZ p))) (λf s3 H3=>gY rfl (bZ (gX 0 n3) (bZ (gX 1 n3) (bZ (gX 2 n3) fM)))) rfl (small (by rw[ai];omega)) (λd hd=>?_)) (Qh _))) (small (by simp only[ai,aV];omega))) (by rw[aN (l₂:=oF nD _)])) nd) ?_
  ·obtain⟨⟨qa,qb,qi⟩,hq,rfl⟩:=av.mp hd
   obtain⟨h1,h2,h3⟩:dQ qa/\dQ qb/\dg qi:=ok.times (qa,qb,qi) hq;have s1:=h1.short;have s2:=h2.short;have s3:=gP h3;have e1:("time":Str).length=4:=⋯
   have e2:(" ":Str).length=1:=⋯
   exact Fc rfl rfl λf s3 H3=>sI (zs:=["time",qa,qb,ej qi]) bw (VO.ve (fE (aq bw (aq (aj 0 rfl) (aq (aj 1 rfl) (aq (sH (aj 2 rfl) (dg.log h3) n.str) aU)))) (small (by show 4<=_;decide)))) (by rw[e2];simp only[ay,gx,uW,List.sum_nil,bR,dA];omega)
  refine gZ 1 rfl ?_
  have n4:(["_law_desk","_law_begin","_law_end"]:List Str).Nodup:=∎
  refine aK (nh 1 (ds:=(dZ p).map .str) (VO.to (mN (d2:=(p.hours.map oU).map .str) (aj 1 rfl) (VO.ve (VO.to (eB (own:=["_law_desk","_law_begin","_law_end"]) (cap:=[]) (N:=["_law_desk","_law_begin","_law_end"]) (cl:=[]) (tgt:=.tup [0,1,2]) (F:=Fhr) (ds:=p.hours.map rU) rfl #[rfl,∎,∎,rfl,rfl,by simp] (dY (fN hG (aj 0 rfl) bw (M0 p))) (λf s3 H3=>gY rfl (bZ (gX 0 n4) (bZ (gX 1 n4) (bZ (gX 2 n4) fM)))) rfl (small (by rw[ai];omega)) (λd hd=>?_)) (Qi _))) (small (by simp only[ai,aV];omega))) (by unfold dZ;rw[aN (l₂:=oF oU _)])) nd) ?_
  ·obtain⟨⟨qa,qb,qi⟩,hq,rfl⟩:=av.mp hd
   obtain⟨h1,h2,h3⟩:dQ qa/\dg qb/\dg qi:=ok.hours (qa,qb,qi) hq;have s1:=h1.short;have s2:=gP h2;have s3:=gP h3;have e1:("open":Str).length=4:=⋯
   have e2:(" ":Str).length=1:=⋯
   exact Fc rfl rfl λf s3 H3=>sI (zs:=["open",qa,ej qb,ej qi]) bw (VO.ve (fE (aq bw (aq (aj 0 rfl) (aq (sH (aj 1 rfl) (dg.log h2) n.str) (aq (sH (aj 2 rfl) (dg.log h3) n.str) aU)))) (small (by show 4<=_;decide)))) (by rw[e2];simp only[ay,gx,uW,List.sum_nil,bR,dA];omega)
  refine aK (mO (tgt:=.tup [7,8,9,10]) (o:=.nx [.val (eM p),.own ((dZ p).map .str),.un,.un,.un,.un,.un,.un,.un,.un,.un]) bU rfl (dY (fN hG (aj 0 rfl) bw (M3 p)))
   (gY rfl (bZ (gX 7 nd) (bZ (gX 8 nd) (bZ (gX 9 nd) (bZ (gX 10 nd) fM))))) (λi=>[.val (eM p),.own ((dZ p).map .str),.un,.un,.un,.un,.un,.un,.un,.un,.un]) 0 rfl (bx _) (λi d hi hd=>qQ7 hi ∅) (.inl #[rfl,rfl])) ?_
  refine gZ 1 rfl ?_
  refine bp (b_ (sI (zs:=dZ p) bw (aj 1 rfl) ?_))
  have e5:("\n":Str).length=1:=⋯
  have e2:(" ":Str).length=1:=⋯
  have hl:(dZ p).length<=1440:=by unfold dZ;simp only[aV,ai];omega
  have hs:=pK (l:=dZ p) (b:=2000) λx hx=>by
   unfold dZ n_ at hx;simp only[aR,av]at hx;rcases hx with((((⟨q,hq,rfl⟩|⟨q,hq,rfl⟩)|⟨q,hq,rfl⟩)|⟨dk,hq,rfl⟩)|⟨q,hq,rfl⟩)|⟨q,hq,rfl⟩
   ·obtain⟨h1,h2⟩:=ok.kinds q hq
    have s1:=h1.short;have s2:=jZ h2;have e1:("kind ":Str).length=5:=⋯
    unfold qz;simp only[cq];omega
   ·have s1:=(ok.gates q hq).short
    have e1:("gate ":Str).length=5:=⋯
    unfold ny;simp only[cq];omega
   ·obtain⟨h1,h2⟩:=ok.lines q hq
    have s1:=h1.short;have s2:=gP h2;have e1:("line ":Str).length=5:=⋯
    unfold nz;simp only[cq];omega
   ·obtain⟨h1,h2,h3,h4,h5⟩:=ok.desks dk hq
    have Vz:GF (.str dk.to):=h2;have s1:=h1.short;have s2:=jZ Vz;have s3:=nZ h3;have s4:=g6 (y:=" ") ⋯ (l:=dk.places) (b:=8) λx hx=>(h5 x hx).short
    have s5:dk.places.length*(8+1)<=60*9:=iC h4 (aP _);have e1:("desk ":Str).length=5:=⋯
    have e2:(" to ":Str).length=4:=⋯
    have e3:(" by ":Str).length=4:=⋯
    have e4:(" from ":Str).length=6:=⋯
    unfold lP nY;simp only[cq];omega
   ·obtain⟨h1,h2,h3⟩:=ok.times q hq
    have s1:=h1.short;have s2:=h2.short;have s3:=gP h3;have:=g6 (y:=" ") ⋯ (l:=["time",q.1,q.2.1,ej q.2.2]) (b:=8) λx hx=>by
     simp only[ax,a8,or_false]at hx;rcases hx with rfl|rfl|rfl|rfl
     ·decide
     ·exact s1
     ·exact s2
     ·omega
    unfold nD;exact bQ this (by simp only[bR,dA];omega)
   ·obtain⟨h1,h2,h3⟩:=ok.hours q hq
    have s1:=h1.short;have s2:=gP h2;have s3:=gP h3;have:=g6 (y:=" ") ⋯ (l:=["open",q.1,ej q.2.1,ej q.2.2]) (b:=8) λx hx=>by
     simp only[ax,a8,or_false]at hx;rcases hx with rfl|rfl|rfl|rfl
     ·decide
     ·exact s1
     ·omega
     ·omega
    unfold oU;exact bQ this (by simp only[bR,dA];omega)
  have hb:(dZ p).length*2000<=1440*2000:=iC hl (aP _);rw[e5];omega
end
end Mg
namespace Mg
open L2 PySem PyProof.Rows
variable{many:Nat}
theorem gv(a c:Int){b:Int}(hb:0<b)(hc:0<=c)(h:c+b<=1000000):dg (c+a%b):=by
 have a1:0<=a%b:=cJ _ ∅
 have a2:a%b<b:=dF _ hb;exact#[∅,∅]
theorem oh(a:Int){b:Int}(hb:0<b)(h:b<=1000000):dg (a%b):=by
 have:=gv a 0 hb ∅ ∅
 rwa[Int.zero_add]at this
theorem getD_mem{l:List Str}{k:Nat}(h:k<l.length):l.getD k ""∈l:=by
 rw[aI,au h]
 exact dP _
theorem Qj(m:Int)(h:many<=60):zu (kB m many):=by
 unfold kB
 split
 ·trivial
 split
 ·exact#[gv _ 1 ⋯ ⋯ ⋯,oh _ ⋯ ⋯]
 split
 ·exact gv _ 1 ⋯ ⋯ ⋯
 split
 ·split
  ·trivial
  ·exact oh _ ⋯ ⋯
 split
 ·refine#[by rw[ai,cG];exact h,λz hz=>?_]
  obtain⟨k,_,rfl⟩:=av.mp hz;exact gv _ 1 ⋯ ⋯ ⋯
 ·trivial
theorem zx(m:Int)(h:many<=12):iH (kB m many) many<=12:=by
 unfold kB
 split
 ·show(many:Int)<=12;omega
 split
 ·show 1+m/6%4<=12;omega
 split
 ·show 1+m/6%4<=12;omega
 split
 ·show(1:Int)<=12;omega
 split
 ·show(1:Int)<=12;omega
 ·show(1:Int)<=12;omega
theorem IV{cell:Int}{places lines:List Str}(h1:1<=places.length)(h12:places.length<=12){d:Dk}(hd:d∈kD cell places lines):
  dQ d.name/\d.to∈lines ++ [("":Str)]/\zu d.rule/\d.places.length<=places.length/\(∀x∈d.places,x∈places)/\iH d.rule d.places.length<=12:=by
 obtain⟨k,hk,rfl⟩:=av.mp hd;have hk:=bW.mp hk;have tl:=gC cell (kC cell places.length) places places.length;have wC:(dR cell (kC cell places.length) places places.length).getD k []∈dR cell (kC cell places.length) places places.length:=by
  rw[aI,au ∅]
  exact dP _
 obtain⟨r1,r2⟩:=sM cell _ places _ _ wC;refine#[jY (getD_mem (by rw[gB];exact hk)),(Cy cell lines k).2,Qj _ ∅,r1,r2 ∅,zx _ ∅]
theorem CF(ns:List Int):lF (c7 ns):=by
 obtain⟨k1,k4⟩:=mh (lC ns);obtain⟨g1,g3⟩:=jq (er ns);obtain⟨p1,p6⟩:=kF (er ns);have hll:(eC ns).length<=6:=by unfold eC linesOf;rw[cN];omega
 have Oc:(nr ns).length=(placesOf (er ns)).length:=by
  unfold nr orderOf;rw[aV,cN,bJ];have:=sN (er ns) ∅
  omega
 have ZP:∀x∈placesOf (er ns),dQ x:=λx hx=>jY hx
 have hon:∀x∈nr ns,dQ x:=λx hx=>by
  rcases aR.mp hx with hx|hx
  ·exact ZP x (eX hx)
  ·exact ZP x (ez hx)
 have UO:∀x∈eC ns,dQ x:=λx hx=>ZP x (eX hx)
 have UQ:(gL ns).length=iO (lC ns):=by simp[qp]
 have Qk:∀q∈gL ns,dQ q.1/\GF (nW q.2):=λq hq=>by
  obtain⟨k,hk,rfl⟩:=av.mp hq;have hk:=bW.mp hk;refine#[jY (getD_mem (by rw[gB];exact hk)),?_]
  show GF (nW (uA _));unfold uA
  split
  ·exact gv _ 1 ⋯ ⋯ ⋯
  ·trivial
 have F7:(eY ns).length<=4:=by rw[qy];exact(lZ _ ∅).2.1
 have Ei:∀d∈eY ns,_:=λd hd=>IV ∅ ∅ hd
 have htl:=qw (lO ns) (eY ns) (gL ns) ∅ _ (aP _)
 have VB:=qx (lO ns) (eY ns) _ (aP _)
 generalize hD:eY ns=g0 at *
 have e0:c7 ns=#[gL ns,kE (er ns),(aX (eC ns).length).map (roomAt (er ns) g0 (eC ns)),g0,fV (lO ns) g0 (gL ns) g0.length,hZ (lO ns) g0 g0.length]:=by rw[<-hD];rfl
 rw[e0];refine#[by show(gL ns).length<=60;omega,?_,?_,by show g0.length<=60;omega,by show(fV _ _ _ _).length<=600;omega,by show(hZ _ _ _).length<=600;omega,Qk,λg hg=>ZP g (ez hg),λq hq=>?_,λd hd=>?_,λq hq=>?_,λq hq=>?_]
 ·show(kE _).length<=60
  unfold kE;rw[bJ];omega
 ·show((aX (eC ns).length).map _).length<=60
  rw[ai,cG];omega
 ·obtain⟨k,hk,rfl⟩:=av.mp hq
  have hk:=bW.mp hk;refine#[UO _ (getD_mem hk),?_]
  have mo:=qu (jo g0 ((eC ns).getD k ""));have mb:maxOf (jo g0 ((eC ns).getD k ""))<=12:=by
   rcases ax.mp mo.1 with h|h
   ·rw[h];decide
   ·obtain⟨d,hd,he⟩:=ka.mp h
    split at he
    ·rw[<-cD he];exact(Ei d hd).2.2.2.2.2
    ·cases he
  have ml:=mo.2 1 aM;exact gv _ _ ⋯ ∅ ∅
 ·obtain⟨d1,d2,d3,d4,d5,_⟩:=Ei d hd
  refine#[d1,?_,d3,∅,λx hx=>hon x (d5 x hx)]
  rcases aR.mp d2 with h|h
  ·exact .inr (UO _ h)
  ·exact .inl (aW.mp h)
 ·obtain⟨⟨d,i⟩,hd,hq⟩:=yf.mp hq
  have Yd:d∈g0:=by
   have:=ez hd;exact jI this
  obtain⟨⟨kd,j⟩,hk,hq⟩:=ka.mp hq;unfold uB at hq
  split at hq
  ·cases hq
   exact#[(Ei d Yd).1,(Qk kd (jI (ez hk))).1,gv _ 1 ⋯ ⋯ ⋯]
  ·cases hq
 ·obtain⟨⟨d,i⟩,hd,hq⟩:=yf.mp hq
  have hn:=(Ei d (jI (ez hd))).1;unfold jT at hq
  split at hq
  ·rcases ax.mp hq with rfl|hq
   ·exact#[hn,oh _ ⋯ ⋯,gv _ 9 ⋯ ⋯ ⋯]
   ·rw[aW.mp hq]
    exact#[hn,gv _ 25 ⋯ ⋯ ⋯,gv _ 50 ⋯ ⋯ ⋯]
  ·cases hq
def iq(x:Str):Prop:=x≠""/\32∉x.cps.toList/\10∉x.cps.toList
theorem iq.one{x:Str}(h:iq x):wordsOf x=[x]:=wG h.1 h.2.1
theorem qA{l k:Str}(hl:l=k++" ")(hk:iq k)(x:Str):wordsOf (l++x)=k::wordsOf x:=by
 rw[hl,lD,hk.one];rfl
theorem uE{l k:Str}(hl:l=" "++k++" ")(hk:iq k)(x y:Str):wordsOf (x++l++y)=wordsOf x++k::wordsOf y:=by
 have e:x++l++y=x++" "++(k++" "++y):=by
  rw[hl];apply str_inj;simp[add_list,cp]
 rw[e,lD,lD,hk.one];rfl
theorem sP{d:ae}(h:GF d):iq (fA d):=by
 have e:iq "-":=by unfold iq;symm
 cases d with
 |none=>exact e
 |int i=>exact nX h.1 h.2
 |str x=>
  show iq (if x="" then "-" else x)
  split
  ·exact e
  ·rename_i hx
   rcases h with h|h
   ·exact qQ7 h hx
   ·exact gO h
 |_=>exact h.elim
theorem uF{r:Rl}(h:zu r):∀w∈cR r,iq w:=by
 intro w hw;by_cases ht:∃sh,r=.turns sh
 ·obtain⟨sh,rfl⟩:=ht
  rcases ax.mp hw with rfl|hw
  ·unfold iq;symm
  ·obtain⟨z,hz,rfl⟩:=av.mp hw
   exact nX (h.2 z hz).1 (h.2 z hz).2
 ·have CD:=λsh z=>ht #[sh,z]
  have M7:cR r=rh r::(tj r).map fA:=by
   cases r with
   |turns sh=>exact qQ7 rfl (CD sh)
   |_=>rfl
  rw[M7]at hw;rcases ax.mp hw with rfl|hw
  ·cases r<;>dsimp[rh,iq]<;>symm
  ·obtain⟨z,hz,rfl⟩:=av.mp hw
   exact sP ((zv CD h) z hz)
theorem GH{q:Str×Option Int}(h:dQ q.1/\GF (nW q.2)):wordsOf (qz q)=[("kind":Str),q.1,fA (nW q.2)]:=by
 unfold qz;rw[lD,qA (k:="kind") ∎ (by unfold iq;symm),(show iq q.1 from gO h.1).one,(sP h.2).one];rfl
theorem GJ{g:Str}(h:dQ g):wordsOf (ny g)=[("gate":Str),g]:=by
 unfold ny;rw[qA (k:="gate") ∎ (by unfold iq;symm),(show iq g from gO h).one]
theorem GK{q:Str×Int}(h:dQ q.1/\dg q.2):wordsOf (nz q)=[("line":Str),q.1,ej q.2]:=by
 unfold nz;rw[lD,qA (k:="line") ∎ (by unfold iq;symm),(show iq q.1 from gO h.1).one,(show iq (ej q.2)from nX h.2.1 h.2.2).one];rfl
theorem GL{d:Dk}(h:dQ d.name/\(d.to=""\/dQ d.to)/\zu d.rule/\d.places.length<=60/\∀x∈d.places,dQ x):wordsOf (lP d)=[("desk":Str),d.name,"to",fA (.str d.to),"by"]++cR d.rule ++ [("from":Str)]++d.places:=by
 obtain⟨h1,h2,h3,h4,h5⟩:=h;have Vz:GF (.str d.to):=h2;have hr:wordsOf (pJ d.rule)=cR d.rule:=oT λw hw=>#[(uF h3 w hw).1,(uF h3 w hw).2.1]
 unfold lP nY;rw[uE (k:="from") ∎ (by unfold iq;symm),uE (k:="by") ∎ (by unfold iq;symm),uE (k:="to") ∎ (by unfold iq;symm),qA (k:="desk") ∎ (by unfold iq;symm),(show iq d.name from gO h1).one,(sP Vz).one,hr,oT λw hw=>#[(gO (h5 w hw)).1,(gO (h5 w hw)).2.1]]
 simp
theorem GN{q:Str×Str×Int}(h:dQ q.1/\dQ q.2.1/\dg q.2.2):wordsOf (nD q)=[("time":Str),q.1,q.2.1,ej q.2.2]:=by
 refine oT λw hw=>?_
 have:iq w:=by
  simp[ax,a8,or_false]at hw;rcases hw with rfl|rfl|rfl|rfl
  ·unfold iq;symm
  ·exact gO h.1
  ·exact gO h.2.1
  ·exact nX h.2.2.1 h.2.2.2
 exact#[this.1,this.2.1]
theorem GO{q:Str×Int×Int}(h:dQ q.1/\dg q.2.1/\dg q.2.2):wordsOf (oU q)=[("open":Str),q.1,ej q.2.1,ej q.2.2]:=by
 refine oT λw hw=>?_
 have:iq w:=by
  simp[ax,a8,or_false]at hw;rcases hw with rfl|rfl|rfl|rfl
  ·unfold iq;symm
  ·exact gO h.1
  ·exact nX h.2.1.1 h.2.1.2
  ·exact nX h.2.2.1 h.2.2.2
 exact#[this.1,this.2.1]
end Mg
namespace Mg
open L2 PySem PyProof.Rows
seal L2.VE L2.VS L2.xV L2.VT L2.VO L2.N_
variable{p:aF}{fd:eU}{H:Hp}{n:Int}{l:List Str}{d:ae}{K:ao}{r:Rl}{x:Str}
inductive Sh where
 |name|number|count|share|mS|oi|nE
def Sh.tx:Sh->Str
 | .name=>"name"
 | .number=>"number"
 | .count=>"count"
 | .share=>"share"
 | .mS=>"count or -"
 | .oi=>"name or -"
 | .nE=>"number or -"
def jU(x:Str):Bool:=isNumber x && !decide (x="0")
def oj:Sh->Str->Bool
 | .name,x=>isName x
 | .number,x=>isNumber x
 | .count,x=>jU x
 | .share,x=>jU x&&decide ((x.length:Int)=1)
 | .mS,x=>decide (x="-")||jU x
 | .oi,x=>decide (x="-")||isName x
 | .nE,x=>decide (x="-")||isNumber x
def CG(x:Str):Int:=(intText? x).getD 0
def iI:Sh->Str->ae
 | .name,x=>.str x
 | .oi,x=>.str (if x="-" then "" else x)
 |_,x=>if x="-" then .none else .int (CG x)
def Sh.base:Sh->Bool
 | .name=>true
 | .number=>true
 | .count=>true
 |_=>false
theorem Sh.ok(s:Sh):nV s.tx:=by cases s<;>(show cw _=true)<;>symm
theorem zy(h:isNumber x=true):1<=x.length/\x.length<=6/\∀c∈x.cps.toList,48<=c/\c<=57:=by
 obtain⟨h1,h2⟩:=g7.mp ((g7.mp h).1);obtain⟨h3,h4⟩:=g7.mp h1;have h3:=qQ4 h3;have h4:=qQ4 h4;refine#[∅,∅,λc hc=>?_]
 have:=dO.mp h2 c hc;have e:DT (one c) "0123456789"=decide (c∈("0123456789":Str).cps.toList):=uV ..;rw[e,Eo]at this;obtain⟨i,hi,rfl⟩:=av.mp (qQ4 this);have:=bW.mp hi;omega
theorem Aw(h:isNumber x=true):intText? x=some (CG x):=by
 obtain⟨h1,h2,h3⟩:=zy h;have hd:=λc hc=>h3 c hc
 have hl:x.cps.toList.length=x.length:=cH;have e:=intText_digits hd (λz=>by rw[z]at hl;simp only[dA]at hl;omega) ∅
 unfold CG;rw[e];rfl
theorem Ep(h:dg n):CG (ej n)=n:=by unfold CG;rw[num_reads h.1 h.2];rfl
theorem qB(h:jU x=true):isNumber x=true:=(g7.mp h).1
theorem xo{s:Sh}(h:oj s x=true)(h1:s≠.name)(h2:s≠.oi)(hx:x≠"-"):isNumber x=true:=by
 cases s with
 |name=>exact qQ7 rfl h1
 |oi=>exact qQ7 rfl h2
 |number=>exact h
 |count=>exact qB h
 |share=>exact qB (g7.mp h).1
 |mS=>
  rcases Bool.or_eq_true_iff.mp h with h|h
  ·exact qQ7 (qQ4 h) hx
  ·exact qB h
 |nE=>
  rcases Bool.or_eq_true_iff.mp h with h|h
  ·exact qQ7 (qQ4 h) hx
  ·exact h
section
variable{P:bA}{w:cg}{K:ao}{mg:Str->Option aD}{base:cM}{f:aF}{k:Nat}
abbrev K1:List Str:=["shape","word"]
theorem RC:cn K1 K1 (a_ (top 34)):=by grind
def VC(b:Bool)(ds:List ae)(d:ae):Prop:=∃(s:Sh)(x:Str),ds=[.str s.tx,.str x]/\x5 x/\(b=true\/s.base=true)/\d=.bool (oj s x)
theorem dG(h:cw (.str x)=true:=by symm):Lay 20 (.str x):=bH h
theorem j8{X:L2.Cx}{k:Nat}{z y: Str}{δ:List L2.Slot}{b:Bool}{p0 q pos:Pos}{j}(hr:L2.dB k X.A)(hl:Lay 20 (.str z))(i:Nat)(h:δ[i]?=some (.val (.str z)))(e:cP (.str z) (.str y)=b)(hN:ow X i x:=by ac_rfl)(hy:cw (.str y)=true:=by symm):VT X (.Compare (.Name x p0) [.Eq] [.Constant (.str y) j q] pos) δ b:=VT.to (fx hr hl (dG hy) (aj i h hN) bw) e
theorem Ye{fb:Bool}(n:Na mg)(C1:bD P w K mg base 2 "is_name" ["word"] (gu K X4))(C2:bD P w K mg base 2 "is_number" ["word"] (gu K ZL))(k2:2<=k)(C3:fb=true->bD P w K mg base k "fits" K1 (gu K (VC false))){ds:List ae}(h:VC fb ds d):xi P w K mg base K1 "fits" (top 34) f k ds (.rt d):=by
 obtain⟨s,x,rfl,ox,hb,rfl⟩:=h;intro e7 A outer sh H E hr;have MY:dB 2 _:=hr.mono k2;have ls:=bH (n:=20) s.ok;have lx:=bH (n:=20) ox.2;cases s with
 |name=>exact dz (dU (j8 hr ls 0 rfl (by rw[bO];exact qQ1 rfl)) (bp (b_ (bK C1 MY (aq (aj 1 rfl) aU) #[x,rfl,ox.1,rfl])))) rfl
 |number=>
  exact aK (bP (j8 hr ls 0 rfl (by rw[bO];symm)) bB) (dz (dU (j8 hr ls 0 rfl (by rw[bO];exact qQ1 rfl)) (bp (b_ (bK C2 MY (aq (aj 1 rfl) aU) #[x,rfl,ox,rfl])))) rfl)
 |count=>
  exact aK (bP (j8 hr ls 0 rfl (by rw[bO];symm)) bB) (aK (bP (j8 hr ls 0 rfl (by rw[bO];symm)) bB) (dz (dU (j8 hr ls 0 rfl (by rw[bO];exact qQ1 rfl)) (bp (b_ (VE.to (jL (bK C2 MY (aq (aj 1 rfl) aU) #[x,rfl,ox,rfl]) (λ_=>iG (L7 hr lx dG (aj 1 rfl) bw))) (by rw[bO];rfl))))) rfl))
 |share=>
  have C3:=C3 (hb.resolve_right ⋯)
  refine aK (bP (j8 hr ls 0 rfl (by rw[bO];symm)) bB) ?_
  exact aK (bP (j8 hr ls 0 rfl (by rw[bO];symm)) bB) (aK (bP (j8 hr ls 0 rfl (by rw[bO];symm)) bB) (dz (dU (j8 hr ls 0 rfl (by rw[bO];exact qQ1 rfl)) (bp (b_ (VE.to (jL (bK C3 hr (aq bw (aq (aj 1 rfl) aU)) #[.count,x,rfl,ox,.inr rfl,rfl]) (λ_=>iG (qO hr (cu 20 _) (cu 20 _) (Io (aj 1 rfl) (small (by have:=ox.1;omega)) n.len) aJ))) (by rw[jG];rfl))))) rfl))
 |mS=>
  have C3:=C3 (hb.resolve_right ⋯)
  refine aK (bP (j8 hr ls 0 rfl (by rw[bO];symm)) bB) ?_
  refine aK (bP (j8 hr ls 0 rfl (by rw[bO];symm)) bB) ?_
  refine aK (bP (j8 hr ls 0 rfl (by rw[bO];symm)) bB) ?_
  refine aK (bP (j8 hr ls 0 rfl (by rw[bO];symm)) bB) ?_
  have BX:(cC (Sh.mS.tx) " ").map aS=[.str "count",.str "or",.str "-"]:=by rw[show cC _ " "=[("count":Str),"or","-"]from by symm];rfl
  exact bp (b_ (VE.to (vi (qO hr lx dG (aj 1 rfl) bw) (λ_=>iG (bK C3 hr (aq (fk (VE.to (VO.ve (rP (aj 0 rfl) bw rfl (small ⋯))) (by rw[BX])) aJ (cz rfl)) (aq (aj 1 rfl) aU)) #[.count,x,rfl,ox,.inr rfl,rfl]))) (by rw[bO];rfl)))
 |oi=>
  have C3:=C3 (hb.resolve_right ⋯)
  refine aK (bP (j8 hr ls 0 rfl (by rw[bO];symm)) bB) ?_
  refine aK (bP (j8 hr ls 0 rfl (by rw[bO];symm)) bB) ?_
  refine aK (bP (j8 hr ls 0 rfl (by rw[bO];symm)) bB) ?_
  refine aK (bP (j8 hr ls 0 rfl (by rw[bO];symm)) bB) ?_
  have BX:(cC (Sh.oi.tx) " ").map aS=[.str "name",.str "or",.str "-"]:=by rw[show cC _ " "=[("name":Str),"or","-"]from by symm];rfl
  exact bp (b_ (VE.to (vi (qO hr lx dG (aj 1 rfl) bw) (λ_=>iG (bK C3 hr (aq (fk (VE.to (VO.ve (rP (aj 0 rfl) bw rfl (small ⋯))) (by rw[BX])) aJ (cz rfl)) (aq (aj 1 rfl) aU)) #[.name,x,rfl,ox,.inr rfl,rfl]))) (by rw[bO];rfl)))
 |nE=>
  refine aK (bP (j8 hr ls 0 rfl (by rw[bO];symm)) bB) ?_
  refine aK (bP (j8 hr ls 0 rfl (by rw[bO];symm)) bB) ?_
  refine aK (bP (j8 hr ls 0 rfl (by rw[bO];symm)) bB) ?_
  refine aK (bP (j8 hr ls 0 rfl (by rw[bO];symm)) bB) ?_
  have BX:(cC (Sh.nE.tx) " ").map aS=[.str "number",.str "or",.str "-"]:=by rw[show cC _ " "=[("number":Str),"or","-"]from by symm];rfl
  exact bp (b_ (VE.to (vi (qO hr lx dG (aj 1 rfl) bw) (λ_=>iG (bK (C3 (hb.resolve_right ⋯)) hr (aq (fk (VE.to (VO.ve (rP (aj 0 rfl) bw rfl (small ⋯))) (by rw[BX])) aJ (cz rfl)) (aq (aj 1 rfl) aU)) #[.number,x,rfl,ox,.inr rfl,rfl]))) (by rw[bO];rfl)))
theorem Yf(F:jQ K "fits" "fits" (top 34) f fd)(n:Na mg)(C1:bD P w K mg base 2 "is_name" ["word"] (gu K X4))(C2:bD P w K mg base 2 "is_number" ["word"] (gu K ZL)):dW P w K mg base gS 3 f fd K1 (gu K (VC false)):=
 iY F RC (by ext) λ_ _ h=>Ye n C1 C2 ∅ (λz=>by cases z) h
theorem zbZ(F:jQ K "fits" "fits" (top 34) f fd)(n:Na mg)(C1:bD P w K mg base 2 "is_name" ["word"] (gu K X4))(C2:bD P w K mg base 2 "is_number" ["word"] (gu K ZL))(C3:bD P w K mg base 3 "fits" K1 (gu K (VC false))):dW P w K mg base gS 4 f fd K1 (gu K (VC true)):=
 iY F RC (by ext) λ_ _ h=>Ye n C1 C2 ⋯ (λ_=>C3) h
theorem Yg:cn K1 K1 (a_ (top 35)):=by grind
def Rvo(ds:List ae)(d:ae):Prop:=∃(s:Sh)(x:Str),ds=[.str s.tx,.str x]/\x5 x/\oj s x=true/\d=iI s x
theorem zb0(F:jQ K "value_of" "value_of" (top 35) f fd)(n:Na mg):dW P w K mg base gS 1 f fd K1 (gu K Rvo):=
 iY F Yg (by ext) λ_ _ h=>by
  obtain⟨s,x,rfl,ox,hf,rfl⟩:=h;intro e7 A outer sh H E hr;have ls:=bH (n:=20) s.ok;have lx:=bH (n:=20) ox.2;by_cases h1:s=.name
  ·subst h1
   exact dz (dU (j8 hr ls 0 rfl (by rw[bO];exact qQ1 rfl)) (bp (b_ (aj 1 rfl)))) rfl
  ·have d1:s.tx≠"name":=by cases s<;>first|exact qQ7 rfl h1|(dsimp;symm)
   refine aK (bP (j8 hr ls 0 rfl (by rw[bO];exact qQ0 d1)) bB) ?_
   by_cases h2:s=.oi
   ·subst h2
    refine dz (dU (j8 hr ls 0 rfl (by rw[bO];exact qQ1 rfl)) (bp (b_ (wa (j8 hr lx 1 rfl (by rw[bO])) (λz=>VE.to bw ?_) (λz=>VE.to (aj 1 rfl) ?_))))) rfl
    ·show aS ""=.str (if x="-" then "" else x);rw[qQ3 (qQ4 z)]
    ·show aS x=.str (if x="-" then "" else x);rw[qQ2 (qQ5 z)]
   ·have d2:s.tx≠"name or -":=by cases s<;>first|exact qQ7 rfl h2|exact qQ7 rfl h1|(dsimp;symm)
    have ev:iI s x=if x="-" then .none else .int (CG x):=by cases s<;>first|exact qQ7 rfl h1|exact qQ7 rfl h2|rfl
    rw[ev];refine aK (bP (j8 hr ls 0 rfl (by rw[bO];exact qQ0 d2)) bB) ?_
    refine bp (b_ (wa (j8 hr lx 1 rfl (by rw[bO])) (λz=>VE.to eP (by rw[qQ3 (qQ4 z)])) (λz=>VE.to (Pr (aj 1 rfl) (Aw (xo hf h1 h2 (qQ5 z))) (by have:=(zy (xo hf h1 h2 (qQ5 z))).2.1;omega) n.int) (by rw[qQ2 (qQ5 z)]))))
def Ql(pL:List Sh):ae:=.tuple (pL.map λs=>.str s.tx)
def r6(pL:List Sh)(ws:List Str):Bool:=decide (ws.length=pL.length)&&(pL.zip ws).all λp=>oj p.1 p.2
def qC(pL:List Sh)(ws:List Str):List ae:=(pL.zip ws).map λp=>iI p.1 p.2
def iW(pL:List Sh)(ws:List Str):ae:=if r6 pL ws then .tuple (qC pL ws)else .none
abbrev VD:List Str:=["shapes","words"]
theorem Yh:cn VD VD (a_ (top 36)):=by grind
def ZQ(ds:List ae)(d:ae):Prop:=∃(pL:List Sh)(ws:List Str),ds=[Ql pL,f9 ws]/\pL.length<=1000/\ws.length<=100002/\(∀x∈ws,x5 x)/\d=iW pL ws
def UU(x:Str):Sh:=if x="name" then .name else if x="number" then .number else if x="count" then .count else if x="share" then .share else if x="count or -" then .mS else if x="name or -" then .oi else .nE
theorem vA(s:Sh):UU s.tx=s:=by
 cases s<;>rfl
def zb1:ae->Option ae
 | .tuple [.str s,.str x]=>some (.bool (oj (UU s) x))
 |_=>none
def zb2:ae->Option ae
 | .tuple [.str s,.str x]=>some (iI (UU s) x)
 |_=>none
theorem r9:∀(pL:List Sh)(ws:List Str),y0 (pL.map λs=>aS s.tx) (ws.map aS)=(pL.zip ws).map λp=>.tuple [.str p.1.tx,.str p.2]
 | [],_=>rfl
 |_::_,[]=>rfl
 |s::pL,x::ws=>by
  have:=r9 pL ws;unfold y0 at this ⊢;rw[ay,ay,eT,eT,ay,ay,this]
theorem Es(pL:List Sh)(ws:List Str):(y0 (pL.map λs=>aS s.tx) (ws.map aS)).filterMap zb1=((pL.zip ws).map λp=>oj p.1 p.2).map .bool:=by
 rw[r9,b0,aB];exact filterMap_some λp _=>by show some (iE _)=_;rw[vA];rfl
theorem M9(pL:List Sh)(ws:List Str):(y0 (pL.map λs=>aS s.tx) (ws.map aS)).filterMap zb2=qC pL ws:=by
 rw[r9,b0];exact filterMap_some λp _=>by show some _=_;rw[vA]
theorem zb3(F:jQ K "values_of" "values_of" (top 36) f fd)(n:Na mg)(mz:mg "zip"=none)(C1:bD P w K mg base 4 "fits" K1 (gu K (VC true)))(C2:bD P w K mg base 1 "value_of" K1 (gu K Rvo)):dW P w K mg base gS 5 f fd VD (gu K ZQ):=
 iY F Yh (by ext) λ_ _ h=>by
  obtain⟨pL,ws,rfl,Rc,hw1,hok,rfl⟩:=h;intro e7 A outer sh H E hr;have hG:dB 1 _:=hr.mono ∅
  have nc:(["shape","word"]:List Str).Nodup:=∎
  have hzl:(y0 (pL.map λs=>aS s.tx) (ws.map aS)).length<=1000:=by rw[r9,ai,List.length_zip];omega
  have hlen:∀b,decide (ws.length=pL.length)=b->cP (.int ((ws.map aS).length:Nat)) (.int ((pL.map λs=>aS s.tx).length:Nat))=b:=λb hb=>by
   rw[jG,ai,ai,<-hb,eA,decide_eq_true_iff,decide_eq_true_iff];omega
  have vf:∀d∈y0 (pL.map λs=>aS s.tx) (ws.map aS),∃s x,d=.tuple [.str (Sh.tx s),.str x]/\(s,x)∈pL.zip ws/\x5 x:=λd hd=>by
   rw[r9]at hd;obtain⟨p,hp,rfl⟩:=av.mp hd;exact#[p.1,p.2,rfl,hp,hok _ (rj hp).2]
  by_cases hl:ws.length=pL.length
  ·have Dz:∀b,((pL.zip ws).all λp=>oj p.1 p.2)=b->qP ((pL.zip ws).map λp=>oj p.1 p.2)=b:=λb hb=>by
    unfold qP;rwa[E7]
   by_cases ha:((pL.zip ws).all λp=>oj p.1 p.2)=true
   ·have ev:iW pL ws=.tuple (qC pL ws):=by unfold iW r6;rw[ha,qQ1 hl];rfl
    rw[ev];refine aK (bP (VT.to (jS (k1:=false) (VT.to (oK hr (cu 20 _) (cu 20 _) (ie (aj 1 rfl) n.len) (ky (aj 0 rfl) n.len)) (by rw[hlen true (qQ1 hl)];rfl)) (λ_=>VT.to (lr (eQ (ji (rN rfl) DS (aq (VO.ve (VO.to (eB (own:=["shape","word"]) (cap:=[]) (cl:=[]) (tgt:=.tup [0,1]) rfl #[rfl,∎,∎,rfl,rfl,by simp] (Gc .tup .lst (aj 0 rfl) (aj 1 rfl) mz) (λf s3 H3=>gY rfl (bZ (gX 0 nc) (bZ (gX 1 nc) fM))) rfl
     (small ∅) (λd hd=>?_)) (Es pL ws))) aU) n.all rfl) (by show some _=some _;rw[Dz true ha]))) rfl)) rfl) bB) ?_
    ·obtain⟨s,x,rfl,hp,ox⟩:=vf d hd
     refine#[_,rfl,λf s3 H3=>m_,λr kQ f s3 H3=>?_]
     have kQ:some (iE _)=some r:=kQ;rw[vA]at kQ;cases kQ;exact bK C1 hr (aq (aj 0 rfl) (aq (aj 1 rfl) aU)) #[s,x,rfl,ox,.inl rfl,rfl]
    refine bp (b_ (jC lM yn (aq (VO.ve (VO.to (eB (own:=["shape","word"]) (cap:=[]) (cl:=[]) (tgt:=.tup [0,1]) rfl #[rfl,∎,∎,rfl,rfl,by simp] (Gc .tup .lst (aj 0 rfl) (aj 1 rfl) mz) (λf s3 H3=>gY rfl (bZ (gX 0 nc) (bZ (gX 1 nc) fM))) rfl
     (small ∅) (λd hd=>?_)) (M9 pL ws))) aU) n.tup rfl))
    obtain⟨s,x,rfl,hp,ox⟩:=vf d hd;refine#[_,rfl,λf s3 H3=>m_,λr kQ f s3 H3=>?_]
    have kQ:some _=some r:=kQ;rw[vA]at kQ;cases kQ;exact bK C2 hG (aq (aj 0 rfl) (aq (aj 1 rfl) aU)) #[s,x,rfl,ox,dO.mp ha (s,x) hp,rfl]
   ·have ha:=Bool.not_eq_true _▸ha
    have ev:iW pL ws=.none:=by unfold iW r6;rw[ha,AG];rfl
    rw[ev];refine dz (dU (VT.to (jS (k1:=false) (VT.to (oK hr (cu 20 _) (cu 20 _) (ie (aj 1 rfl) n.len) (ky (aj 0 rfl) n.len)) (by rw[hlen true (qQ1 hl)];rfl)) (λ_=>VT.to (lr (eQ (ji (rN rfl) DS (aq (VO.ve (VO.to (eB (own:=["shape","word"]) (cap:=[]) (cl:=[]) (tgt:=.tup [0,1]) rfl #[rfl,∎,∎,rfl,rfl,by simp] (Gc .tup .lst (aj 0 rfl) (aj 1 rfl) mz) (λf s3 H3=>gY rfl (bZ (gX 0 nc) (bZ (gX 1 nc) fM))) rfl
     (small ∅) (λd hd=>?_)) (Es pL ws))) aU) n.all rfl) (by show some _=some _;rw[Dz false ha]))) rfl)) rfl) (bp (b_ eP))) rfl
    obtain⟨s,x,rfl,hp,ox⟩:=vf d hd;refine#[_,rfl,λf s3 H3=>m_,λr kQ f s3 H3=>?_]
    have kQ:some (iE _)=some r:=kQ;rw[vA]at kQ;cases kQ;exact bK C1 hr (aq (aj 0 rfl) (aq (aj 1 rfl) aU)) #[s,x,rfl,ox,.inl rfl,rfl]
  ·have ev:iW pL ws=.none:=by unfold iW r6;rw[qQ0 hl];rfl
   rw[ev];exact dz (dU (VT.to (jS (k1:=true) (k2:=true) (VT.to (oK hr (cu 20 _) (cu 20 _) (ie (aj 1 rfl) n.len) (ky (aj 0 rfl) n.len)) (by rw[hlen false (qQ0 hl)];rfl)) (λz=>by cases z)) rfl) (bp (b_ eP))) rfl
end
def sf:Rl->Nat->Prop
 | .meet,n=>2<=n
 | .gather m a,_=>1<=m/\dg m/\dg a
 | .many m,_=>1<=m/\dg m
 | .rank none,_=>True
 | .rank (some b),_=>dg b
 | .turns s,n=>s.length=n/\∀z∈s,1<=z/\z<=9
 | .eldest,_=>True
theorem UW(h:dg n)(hx:CG x≠n):ej n≠x:=λz=>hx (by rw[<-z,Ep h])
theorem M_(h:dg n):ej n≠"-":=λz=>by
 have hd:45∈(ej n).cps.toList:=by rw[z];symm
 have:=lE h.1 hd;omega
theorem pM(h:dg n)(h1:1<=n):jU (ej n)=true:=by
 unfold jU;rw[zt h.1 h.2,qQ0 (UW h (by rw[show CG "0"=0 from by symm];omega))]
 rfl
theorem Km(h1:1<=n)(h9:n<=9):oj .share (ej n)=true:=by
 show(jU _&&decide (((ej n).length:Int)=1))=true
 rcases(by omega:n=1\/n=2\/n=3\/n=4\/n=5\/n=6\/n=7\/n=8\/n=9)with rfl|rfl|rfl|rfl|rfl|rfl|rfl|rfl|rfl<;>symm
theorem lQ{s:Sh}(h:dg n)(h1:s≠.name)(h2:s≠.oi):iI s (ej n)=.int n:=by
 have e:iI s (ej n)=if ej n="-" then .none else .int (CG (ej n)):=by cases s<;>first|exact qQ7 rfl h1|exact qQ7 rfl h2|rfl
 rw[e,qQ2 (M_ h),Ep h]
theorem vB:∀s:List Int,(∀z∈s,1<=z/\z<=9)->r6 (aY s.length .share) (s.map ej)=true/\qC (aY s.length .share) (s.map ej)=s.map .int
 | [],_=>#[rfl,rfl]
 |z::s,h=>by
  obtain⟨i1,i2⟩:=vB s λx hx=>h x (aT _ hx)
  obtain⟨z1,z9⟩:=h z aM;unfold r6 at i1 ⊢;unfold qC at i2 ⊢;obtain⟨j1,j2⟩:=g7.mp i1;rw[bR,dJ,ay,eT,List.all_cons,ay,ay,i2];refine#[?_,?_]
  ·rw[j2,show oj (Sh.share,ej z).1 (Sh.share,ej z).2=true from Km z1 z9]
   simp
  ·rw[show iI (Sh.share,ej z).1 (Sh.share,ej z).2=.int z from lQ #[∅,∅] (by intro z;cases z) (by intro z;cases z)]
def uG:Rl->List Sh
 | .rank _=>[.nE]
 | .many _=>[.count]
 | .gather _ _=>[.count,.number]
 |_=>[]
theorem Et{n:Nat}(h:sf r n)(ht:∀s,r≠.turns s):r6 (uG r) ((tj r).map fA)=true/\qC (uG r) ((tj r).map fA)=tj r:=by
 cases r with
 |meet=>exact#[rfl,rfl]
 |eldest=>exact#[rfl,rfl]
 |turns s=>exact qQ7 rfl (ht s)
 |many m=>
  obtain⟨h1,h2⟩:=h
  constructor
  ·show(true&&(jU (ej m)&&true))=true
   rw[pM h2 h1];rfl
  ·show [iI .count (ej m)]=[dD m]
   rw[lQ h2 (by intro z;cases z) (by intro z;cases z)]
 |gather m a=>
  obtain⟨h1,h2,h3⟩:=h
  constructor
  ·show(true&&(jU (ej m)&&(isNumber (ej a)&&true)))=true
   rw[pM h2 h1,zt h3.1 h3.2];rfl
  ·show [iI .count (ej m),iI .number (ej a)]=[dD m,.int a]
   rw[lQ h2 (by intro z;cases z) (by intro z;cases z),lQ h3 (by intro z;cases z) (by intro z;cases z)]
 |rank b=>
  cases b with
  |none=>exact#[∎,rfl]
  |some b=>
   constructor
   ·show(true&&((decide _||isNumber (ej b))&&true))=true
    rw[zt h.1 h.2];simp
   ·show [iI .nE (ej b)]=[dD b]
    rw[lQ h (by intro z;cases z) (by intro z;cases z)]
theorem sf.ok{n:Nat}(hn:n<=60)(h:sf r n):zu r:=by
 cases r with
 |meet=>trivial
 |eldest=>trivial
 |gather m a=>exact h.2
 |many m=>exact h.2
 |rank b=>cases b with|none=>trivial|some b=>exact h
 |turns s=>exact#[by have:=h.1;omega,λz hz=>by have:=h.2 z hz;exact#[∅,∅]]
abbrev qD:List (Str×List Str):=[("kind",[("name":Str),"count or -"]),("gate",[("name":Str)]),("line",[("name":Str),"count"]),("time",[("name":Str),"name","count"]),("open",[("name":Str),"number","number"]),("pace",[("name":Str),"name","count","count"])]
abbrev vC:List (Str×List Str):=[("eldest",[]),("rank",[("number or -":Str)]),("many",[("count":Str)]),("gather",[("count":Str),"number"]),("meet",[])]
structure Np(mg:Str->Option aD)(pr:Bx)(K:ao):Prop extends Na mg where
 zip:mg "zip"=none
 set:mg "set"=none
 any:mg "any"=none
 mp:∃t,mg "MOST_PLACES"=some (.int 6 t)
 fo:∃g,mg "FORMS"=some (.ref g)/\GD pr K g qD
 ru:∃g,mg "RULES"=some (.ref g)/\GD pr K g vC
theorem Eu{α:Type}(x:α):∀n,(aY n [x]).flatten=aY n x
 |0=>rfl
 |n+1=>by rw[dJ,eJ,Eu x n];rfl
theorem zz(x:ae)(l:List ae):L2.cutD (x::l) (some 1) none=l:=(mj (x::l) 1).trans rfl
section
variable{P:bA}{w:cg}{K:ao}{mg:Str->Option aD}{base:cM}{f:aF}{k:Nat}
abbrev zb4:List Str:=["words","many","shares","values"]
theorem Nb:cn zb4 ["words","many"] (a_ (top 39)):=by grind
def Yi(ds:List ae)(d:ae):Prop:=∃(r:Rl)(n:Nat),ds=[f9 (cR r),.int n]/\1<=n/\n<=6/\sf r n/\d=Ol r
theorem Yj(F:jQ K "rule_of" "rule_of" (top 39) f fd)(n:Np mg w.params K)(C:bD P w K mg base 5 "values_of" VD (gu K ZQ)):dW P w K mg base gS 6 f fd ["words","many"] (gu K Yi):=
 iY F Nb (by ext) λ_ _ h=>by
  obtain⟨r,m,rfl,m1,m6,hg,rfl⟩:=h;intro e7 A outer s H E hr;have nd:=Nb.nd;have Vx:=hg.ok ∅
  by_cases ht:∃sh,r=.turns sh
  ·obtain⟨sh,rfl⟩:=ht
   obtain⟨hl,hz⟩:=hg;obtain⟨v1,v2⟩:=vB sh hz;have ev:iW (aY m .share) (sh.map ej)=.tuple (sh.map .int):=by unfold iW;rw[<-hl,v1,v2];rfl
   refine dz (dU (VT.to (fx hr dG dG (fk (aj 0 rfl) aJ (cz rfl)) bw) (by rw[bO];exact qQ1 rfl)) (aK (df 2 (bK C hr (aq (VE.to (PK (e9 (aq bw aU)) (aj 1 rfl) ∅ ∅ ⋯ (by simp)) (by rw[Eu];unfold Ql;rw[List.map_replicate,dS];rfl)) (aq (VE.to (VO.ve (jh (aj 0 rfl) (.yes aJ) .no)) (by show mw (L2.cutD (_::_) _ _)=_;rw[zz];rfl)) aU)) #[_,_,rfl,by rw[cU];omega,by rw[ai];omega,λx hx=>?_,ev.symm]) nd) (bp (b_ (wa (VT.to (fY iF kG (aj 2 rfl) eP (eu _)) rfl) (λz=>by cases z) (λ_=>VE.to (e9 (aq bw (aq (aj 2 rfl) aU))) rfl)))))) rfl
   obtain⟨z,ZJ,rfl⟩:=av.mp hx;have:=hz z ZJ;exact o3 ∅ ∅
  ·have CD:=λsh z=>ht #[sh,z]
   obtain⟨v1,v2⟩:=Et hg CD;have M7:cR r=rh r::(tj r).map fA:=by
    cases r with
    |turns sh=>exact qQ7 rfl (CD sh)
    |_=>rfl
   have hw:rh r≠"turns":=by
    cases r with
    |turns sh=>exact qQ7 rfl (CD sh)
    |_=>dsimp only[rh];symm
   have oR:nV (rh r):=by cases r<;>dsimp only[rh,nV]<;>symm
   have hk:jJ vC (rh r)=some ((uG r).map Sh.tx):=by
    cases r with
    |turns sh=>exact qQ7 rfl (CD sh)
    |meet=>symm
    |eldest=>symm
    |rank b=>show jJ vC "rank"=some ([Sh.nE].map Sh.tx);symm
    |many m=>show jJ vC "many"=some ([Sh.count].map Sh.tx);symm
    |gather m a=>show jJ vC "gather"=some ([Sh.count,Sh.number].map Sh.tx);symm
   have hme:decide (rh r="meet")=true->¬(m:Int)<2:=by
    cases r with
    |meet=>intro _;have:2<=m:=hg;omega
    |turns sh=>exact qQ7 rfl (CD sh)
    |eldest=>intro z;exact qQ7 z ∎
    |rank b=>intro z;exact qQ7 z (show ¬decide ("rank"="meet")=true by symm)
    |many m=>intro z;exact qQ7 z (show ¬decide ("many"="meet")=true by symm)
    |gather m a=>intro z;exact qQ7 z (show ¬decide ("gather"="meet")=true by symm)
   have UC:(tj r).length<=2:=by cases r<;>simp[tj]
   have hok:=zv CD Vx;have hsl:(uG r).length<=2:=by cases r<;>simp[uG]
   have ev:iW (uG r) ((tj r).map fA)=.tuple (tj r):=by unfold iW;rw[v1,v2];rfl
   rw[M7];unfold Ol
   generalize hA:tj r=ra at *
   generalize hW:rh r=sD at *
   obtain⟨g1,q1,q2⟩:=n.ru;have a0:um ((sD::ra.map fA).map aS) 0=some _:=cz rfl;refine aK (bP (VT.to (fx hr (bH oR) dG (fk (aj 0 rfl) aJ a0) bw) (by rw[bO];exact qQ0 hw)) bB) ?_
   refine aK (bP (VT.to (jS (k1:=false) (VT.to (A9 q1 q2 (fk (aj 0 rfl) aJ a0)) (by rw[hk];rfl)) (λ_=>kx (VT.to (fx hr (bH oR) dG (fk (aj 0 rfl) aJ a0) bw) (by rw[bO])) (λ_=>A4 (aj 1 rfl) aJ))) ?_) bB) ?_
   ·cases hd:decide (sD="meet") with
    |false=>rfl
    |true=>rw[qQ0 (hme hd)];rfl
   refine aK (df 3 (bK C hr (aq (VE.to (Ir q1 q2 (fk (aj 0 rfl) aJ a0) hk) (by unfold Ql;rw[aB];rfl)) (aq (VE.to (VO.ve (jh (aj 0 rfl) (.yes aJ) .no)) (by show mw (L2.cutD (_::_) _ _)=_;rw[zz];rfl)) aU)) #[uG r,_,rfl,∅,by rw[ai];omega,λx hx=>?_,ev.symm]) nd) ?_
   ·obtain⟨z,hz,rfl⟩:=av.mp hx
    have:=hok z hz;cases z with
    |none=>exact#[⋯,by show cw _=true;symm]
    |int i=>exact o3 this.1 this.2
    |str x=>
     show x5 (if x="" then "-" else x)
     split
     ·exact#[⋯,by show cw _=true;symm]
     ·rename_i hx
      exact(this.resolve_left hx).ok
    |_=>exact this.elim
   ·exact bp (b_ (wa (VT.to (fY iF kG (aj 3 rfl) eP (eu _)) rfl) (λz=>by cases z) (λ_=>VE.to (yq (e9 (aq (fk (aj 0 rfl) aJ a0) aU)) (aj 3 rfl) (by simp) (small (by simp;omega))) rfl)))
theorem Yk:cn ["names"] ["names"] (a_ (top 40)):=by grind
def Nc(l:List Str):Prop:=1<=l.length/\l.length<=6/\l.Nodup/\∀x∈l,dQ x
def Rap(ds:List ae)(d:ae):Prop:=∃l:List Str,ds=[.tuple (l.map .str)]/\Nc l/\d=.bool true
def Yl:ae->Option ae
 | .str x=>some (.bool (isName x))
 |_=>none
theorem Kn(l:List Str):(l.map aS).filterMap Yl=(l.map isName).map .bool:=by
 rw[b0,aB];exact filterMap_some λk _=>rfl
theorem zb5(F:jQ K "are_places" "are_places" (top 40) f fd)(n:Np mg w.params K)(C:bD P w K mg base 2 "is_name" ["word"] (gu K X4)):dW P w K mg base gS 3 f fd ["names"] (gu K Rap):=
 iY F Yk (by ext) λ_ _ h=>by
  obtain⟨l,rfl,⟨l1,l6,lnd,Ym⟩,rfl⟩:=h;intro e7 A outer s H E hr;obtain⟨t,m6⟩:=n.mp;have nc:(["name"]:List Str).Nodup:=∎
  have hdd:dd [] l=l:=DQ ↑lnd
  have Dz:qP (l.map isName)=true:=by
   unfold qP;rw[E7,dO];intro x hx;exact(Ym x hx).is
  refine bp (b_ (VE.to (jL (k1:=true) (VE.to (Eb Ds Ds (Al 1 l.length) (Al l.length 6) aJ (VE.to (ky (aj 0 rfl) n.len) (by rw[ai])) (λ_=>II m6)) (by rw[qQ1 ∅,qQ1 ∅];rfl)) (λ_=>jL (VE.to (ji (rN rfl) DS (aq (VO.ve (VO.to (eB (own:=["name"]) (cap:=[]) (tgt:=.one 0) rfl #[rfl,∎,∎,rfl,rfl,by simp] (yS (aj 0 rfl)) (λf s3 H3=>gX 0 nc) rfl
   (small (by rw[ai];omega)) (λd hd=>?_)) (Kn _))) aU) n.all rfl) (by rw[Dz])) (λ_=>iG (qO hr (cu 20 _) (cu 20 _) (DX (aj 0 rfl) ∅ rfl n.len n.set) (ky (aj 0 rfl) n.len))))) ?_))
  ·obtain⟨z,hz,rfl⟩:=av.mp hd
   exact Fc rfl rfl λf s3 H3=>bK C hr (aq (aj 0 rfl) aU) #[z,rfl,(Ym z hz).ok.1,rfl]
  ·rw[jG,hdd,ai,qQ1 rfl];rfl
end
inductive Ent where
 |kind (n:Str) (k:Option Int)
 |gate (n:Str)
 |line (n:Str) (r:Int)
 |desk (d:Dk)
 |time (d k:Str) (w:Int)
 |hour (d:Str) (a b:Int)
variable{e:Ent}
def Ent.form:Ent->Str
 | .kind _ _=>"kind"
 | .gate _=>"gate"
 | .line _ _=>"line"
 | .desk _=>"desk"
 | .time _ _ _=>"time"
 | .hour _ _ _=>"open"
def Ent.rest:Ent->List ae
 | .kind n k=>[.str n,nW k]
 | .gate n=>[.str n]
 | .line n r=>[.str n,.int r]
 | .desk d=>[.str d.name,.str d.to,Ol d.rule,.tuple (d.places.map .str)]
 | .time d k w=>[.str d,.str k,.int w]
 | .hour d a b=>[.str d,.int a,.int b]
def Ko(e:Ent):ae:=.tuple (.str e.form::e.rest)
def jt(d:Dk):List Str:=[("desk":Str),d.name,"to",fA (.str d.to),"by"]++cR d.rule ++ [("from":Str)]++d.places
def GP:Ent->List Str
 | .kind n k=>[("kind":Str),n,fA (nW k)]
 | .gate n=>[("gate":Str),n]
 | .line n r=>[("line":Str),n,ej r]
 | .desk d=>jt d
 | .time d k w=>[("time":Str),d,k,ej w]
 | .hour d a b=>[("open":Str),d,ej a,ej b]
def GQ(d:Dk):Prop:=dQ d.name/\(d.to=""\/dQ d.to)/\sf d.rule d.places.length/\Nc d.places
def tW:Ent->Prop
 | .kind n k=>dQ n/\∀i,k=some i->1<=i/\dg i
 | .gate n=>dQ n
 | .line n r=>dQ n/\1<=r/\dg r
 | .desk d=>GQ d
 | .time d k w=>dQ d/\dQ k/\1<=w/\dg w
 | .hour d a b=>dQ d/\dg a/\dg b/\a<b
theorem CH(h:dQ x):x≠"-":=λz=>by
 have hd:45∈x.cps.toList:=by rw[z];symm
 have:=h.2.2 _ hd;omega
theorem Kq(h:dQ x):fA (.str x)=x:=by
 show(if x="" then("-":Str)else x)=x
 rw[qQ2 (gO h).1]
theorem vD(h:GF d):x5 (fA d):=by
 have h0:x5 "-":=#[⋯,by show cw _=true;symm]
 cases d with
 |none=>exact h0
 |int i=>exact o3 h.1 h.2
 |str x=>
  show x5 (if x="" then "-" else x)
  split
  ·exact h0
  ·rename_i hx
   exact(h.resolve_left hx).ok
 |_=>exact h.elim
theorem Ew(h:zu r):∀x∈cR r,x5 x:=by
 intro x hx;by_cases ht:∃sh,r=.turns sh
 ·obtain⟨sh,rfl⟩:=ht
  rcases ax.mp hx with rfl|hx
  ·exact#[⋯,by show cw _=true;symm]
  ·obtain⟨z,hz,rfl⟩:=av.mp hx
   exact o3 (h.2 z hz).1 (h.2 z hz).2
 ·have CD:=λsh z=>ht #[sh,z]
  have M7:cR r=rh r::(tj r).map fA:=by
   cases r with
   |turns sh=>exact qQ7 rfl (CD sh)
   |_=>rfl
  rw[M7]at hx;rcases ax.mp hx with rfl|hx
  ·cases r<;>(refine#[?_,?_]<;>dsimp[rh,nV]<;>symm)
  ·obtain⟨z,hz,rfl⟩:=av.mp hx
   exact vD (zv CD h z hz)
theorem Nf{n:Nat}(hn:n<=6)(h:sf r n):1<=(cR r).length/\(cR r).length<=7:=by
 cases r with
 |turns s=>have:=h.1;simp[cR];omega
 |_=>simp[cR,tj]
theorem CJ(h:zu r):∀x∈(cR r).drop 1,x≠"from":=by
 have hd:∀d,GF d->(∀x,d≠.str x)->fA d≠"from":=by
  intro d hd hs;cases d with
  |none=>symm
  |int i=>
   intro z;have:102∈(ej i).cps.toList:=by
    have z:ej i="from":=z;rw[z];symm
   have:=lE hd.1 this;omega
  |str x=>exact qQ7 rfl (hs x)
  |_=>exact hd.elim
 intro x hx;cases r with
 |turns s=>
  obtain⟨z,hz,rfl⟩:=av.mp hx
  exact hd (.int z) (h.2 z hz) (by intro x z;cases z)
 |meet=>cases hx
 |eldest=>cases hx
 |gather m a=>
  simp[cR,tj,ay,gx,uQ,kT,ax,a8,or_false]at hx;rcases hx with rfl|rfl
  ·exact hd _ h.1 (by intro x z;cases z)
  ·exact hd _ h.2 (by intro x z;cases z)
 |many m=>
  simp[cR,tj,ay,gx,uQ,kT,ax,a8,or_false]at hx;rw[hx];exact hd _ h (by intro x z;cases z)
 |rank b=>
  simp[cR,tj,ay,gx,uQ,kT,ax,a8,or_false]at hx;rw[hx];cases b with
  |none=>exact hd .none trivial (by intro x z;cases z)
  |some b=>exact hd _ h (by intro x z;cases z)
section
variable{P:bA}{w:cg}{K:ao}{mg:Str->Option aD}{base:cM}{f:aF}{k:Nat}
abbrev Nde:List Str:=["words","end","head","places","rule"]
theorem RD:cn Nde ["words"] (a_ (top 38)):=by grind
def Rde(ds:List ae)(d:ae):Prop:=∃q:Dk,ds=[f9 (jt q)]/\GQ q/\d=Ko (.desk q)
theorem zb6{α:Type}(l:List α)(a b:Nat)(ha:a<=b)(hb:b<=l.length):L2.cutD l (some (a:Int)) (some (b:Int))=(l.drop a).take (b-a):=by
 unfold L2.cutD;rw[HT.p_,HT.p_,nM hb,nM (show a<=l.length by omega)]
theorem CK(h:∀x∈l,x5 x):Lay 20 (f9 l):=yp λd hd=>by
 obtain⟨x,hx,rfl⟩:=av.mp hd;exact bH (h x hx).2
theorem qE(x:Str)(l:List Str):vg (.str x) (.list (l.map aS))=decide (x∈l):=by
 show((l.map aS).any λy=>cP y _)=_
 rw[List.any_map]
 induction l with
 |nil=>rfl
 |cons y l ih=>
  rw[mG,ih]
  show(cP _ _||decide (x∈l))=_
  rw[bO,eA];simp
  constructor
  ·rintro(h|h)
   ·exact .inl h.symm
   ·exact .inr h
  ·rintro(h|h)
   ·exact .inl h.symm
   ·exact .inr h
theorem zb7(F:jQ K "desk_entry" "desk_entry" (top 38) f fd)(n:Np mg w.params K)(C1:bD P w K mg base 5 "values_of" VD (gu K ZQ))(C2:bD P w K mg base 6 "rule_of" ["words","many"] (gu K Yi))(C3:bD P w K mg base 3 "are_places" ["names"] (gu K Rap)):dW P w K mg base gS 7 f fd ["words"] (gu K Rde):=
 iY F RD (by ext) λ_ _ h=>by
  obtain⟨q,rfl,⟨hn,ZO,X',Uh⟩,rfl⟩:=h;intro e7 A outer s H E hr;have nd:Nde.Nodup:=RD.nd;have zb8:=Uh;obtain⟨p1,p6,pnd,pnm⟩:=zb8;have Vx:=X'.ok ∅
  obtain⟨r1,r7⟩:=Nf p6 X';have rok:=Ew Vx;have rnf:=CJ Vx;have Yn:x5 (fA (.str q.to)):=vD ZO;obtain⟨rw0,rest,VF⟩:∃a l,cR q.rule=a::l:=by
   cases e:cR q.rule with
   |nil=>rw[e]at r1;simp at r1
   |cons a l=>exact#[a,l,rfl]
  have Yo:x5 "from":=#[⋯,by show cw _=true;symm]
  have hW:jt q=("desk":Str)::q.name::"to"::fA (.str q.to)::"by"::rw0::(rest++("from":Str)::q.places):=by
   unfold jt;rw[VF];simp
  have zhV:rest.length<=6:=by rw[VF]at r7;simp at r7;omega
  have lit:∀x:Str,cw (.str x)=true->x.length<=100000->x5 x:=λx h1 h2=>#[h2,h1]
  have hok:∀x∈jt q,x5 x:=by
   intro x hx;rw[hW]at hx;simp only[ax,aR]at hx;rcases hx with rfl|rfl|rfl|rfl|rfl|rfl|hx|rfl|hx
   ·exact lit _ ∎ ⋯
   ·exact hn.ok
   ·exact lit _ ∎ ⋯
   ·exact Yn
   ·exact lit _ ∎ ⋯
   ·exact rok _ (by rw[VF];exact aM)
   ·exact (λx hx=>rok x (by rw[VF];exact aT _ hx)) x hx
   ·exact Yo
   ·exact(pnm x hx).ok
  have hlay:=CK hok;have hlen:(jt q).length=7+rest.length+q.places.length:=by rw[hW];simp;omega
  have Yp:(jt q).drop 6=rest++("from":Str)::q.places:=by rw[hW];rfl
  have Yq:L2.cutD ((jt q).map aS) (some 6) none=(rest++("from":Str)::q.places).map aS:=by rw[<-Yp,pW];exact mj _ 6
  have Yr:Lay 20 (.list ((rest++("from":Str)::q.places).map aS)):=CK λx hx=>by
   refine hok x ?_
   rw[<-Yp]at hx;exact eX hx
  have RG:Lay 20 (.str "from"):=dG;have Qm:∀(j:Nat)(x:Str),(jt q)[j]?=some x->um ((jt q).map aS) (j:Int)=some (.str x):=λj x h=>cz (by rw[aG,h];rfl)
  have g1:(jt q)[1]?=some q.name:=by rw[hW];rfl
  have g2:(jt q)[2]?=some ("to":Str):=by rw[hW];rfl
  have g4:(jt q)[4]?=some ("by":Str):=by rw[hW];rfl
  have Pw:(jt q)[6+rest.length]?=some ("from":Str):=by
   have:(jt q)[6+rest.length]?=((jt q).drop 6)[rest.length]?:=by rw[List.getElem?_drop]
   rw[this,Yp,bS (aP _),rA]
   rfl
  have HX:∀j (h:j<(jt q).length),6<=j->j<6+rest.length->(jt q)[j]≠"from":=by
   intro j h j6 jr;have:(jt q)[j]?=((jt q).drop 6)[j-6]?:=by rw[List.getElem?_drop];congr 1;omega
   rw[Yp,bX ∅,au h,au ∅]at this
   rw[cD this];exact (λx hx=>rnf x (by rw[VF];exact hx)) _ (dP _)
  have Qn:L2.cutD ((jt q).map aS) (some ((6+rest.length:Nat)+1:Int)) none=q.places.map aS:=by
   rw[show((6+rest.length:Nat)+1:Int)=((6+rest.length+1:Nat):Int)from by omega,mj,<-pW]
   congr 1
   rw[show 6+rest.length+1=6+(rest.length+1)from by omega,<-List.drop_drop,Yp,List.drop_append,q5 ∅,show rest.length+1-rest.length=1 from by omega]
   rfl
  have Ys:L2.cutD ((jt q).map aS) (some 5) (some ((6+rest.length:Nat):Int))=(cR q.rule).map aS:=by
   rw[show(5:Int)=((5:Nat):Int)from rfl,zb6 _ 5 (6+rest.length) ∅ (by rw[ai];omega),<-pW,<-pV]
   congr 1
   rw[hW,VF]
   show((rw0::(rest++("from":Str)::q.places))).take _=rw0::rest
   rw[show 6+rest.length-5=rest.length+1 from by omega,List.take_succ_cons,List.take_left' rfl]
  refine aK (bP (VT.to (L3 (k1:=false) (k2:=false) (VT.to (L1 hr rfl RG Yr bw (VE.to (VO.ve (jh (aj 0 rfl) (.yes aJ) .no)) (by rw[Yq]))) (by rw[qE,qQ1 (by simp)];rfl)) (λ_=>VT.to (oK hr dG dG (fk (aj 0 rfl) aJ (Qm 2 _ g2)) bw) (by rw[bO,qQ1 rfl];rfl)) (λ_ _=>VT.to (oK hr dG dG (fk (aj 0 rfl) aJ (Qm 4 _ g4)) bw) (by rw[bO,qQ1 rfl];rfl))) rfl) bB) ?_
  refine aK (df 1 (JZ (i:=6) (j:=6+rest.length) hr (aj 0 rfl) bw aJ hlay RG ∅ #[by rw[ai];omega,?_] (λj h j6 jr=>?_)) nd) ?_
  ·have:(jt q)[6+rest.length]'∅="from":=by
    rw[au ∅]at Pw
    exact cD Pw
   rw[List.getElem_map,bO,this];exact qQ1 rfl
  ·rw[ai]at h
   rw[List.getElem_map,bO];exact qQ0 (HX j h j6 jr)
  have Lq:iW [.name,.oi] [q.name,fA (.str q.to)]=.tuple [.str q.name,.str q.to]:=by
   have f2:oj .oi (fA (.str q.to))=true/\iI .oi (fA (.str q.to))=.str q.to:=by
    rcases ZO with h|h
    ·rw[h];exact#[∎,rfl]
    ·rw[Kq h]
     refine#[?_,?_]
     ·show(decide (q.to="-")||isName q.to)=true
      rw[h.is,E8]
     ·show aS (if q.to="-" then "" else q.to)=_
      rw[qQ2 (CH h)]
   unfold iW r6 qC
   show(if(true&&(isName q.name&&(oj .oi _&&true)))=true then fc [.str q.name,iI .oi _]else .none)=_
   rw[hn.is,f2.1,f2.2];rfl
  refine aK (df 2 (bK C1 (hr.mono ∅) (aq (VE.to (e9 (aq bw (aq bw aU))) rfl) (aq (VE.to (VO.ve (fE (aq (fk (aj 0 rfl) aJ (Qm 1 _ g1)) (aq (fk (aj 0 rfl) aJ (Qm 3 _ (by rw[hW];rfl))) aU)))) rfl) aU)) #[_,_,rfl,by show 2<=1000;decide,by show 2<=100002;decide,λx hx=>?_,Lq.symm]) nd) ?_
  ·simp only[ax,a8,or_false]at hx
   rcases hx with rfl|rfl
   ·exact hn.ok
   ·exact Yn
  refine aK (df 3 (jC lM yn (aq (VE.to (VO.ve (jh (aj 0 rfl) (.yes (d_ (aj 1 rfl) aJ)) .no)) (by rw[Qn])) aU) n.tup rfl) nd) ?_
  refine aK (df 4 (bK C2 hr (aq (VE.to (VO.ve (jh (aj 0 rfl) (.yes aJ) (.yes (aj 1 rfl)))) (by rw[Ys];rfl)) (aq (VE.to (ky (aj 3 rfl) n.len) (by rw[ai])) aU)) #[q.rule,q.places.length,rfl,p1,p6,X',rfl]) nd) ?_
  refine aK (bP (VT.to (L3 (VT.to (fY iF kG (aj 2 rfl) eP (eu _)) rfl) (λ_=>VT.to (fY iF kG (aj 4 rfl) eP (eu _)) rfl) (λ_ _=>VT.to (lr (eQ (bK C3 (hr.mono ∅) (aq (aj 3 rfl) aU) #[q.places,rfl,Uh,rfl]) rfl)) rfl)) rfl) bB) ?_
  exact bp (b_ (VE.to (e9 (aq bw (aq (vh 2 0 rfl rfl) (aq (vh 2 1 rfl rfl) (aq (aj 4 rfl) (aq (aj 3 rfl) aU)))))) rfl))
abbrev Neo:List Str:=["words","form","values"]
theorem RH:cn Neo ["words"] (a_ (top 37)):=by grind
def Reo(ds:List ae)(d:ae):Prop:=∃e:Ent,ds=[f9 (GP e)]/\tW e/\d=Ko e
def Ey:Ent->List Sh
 | .kind _ _=>[.name,.mS]
 | .gate _=>[.name]
 | .line _ _=>[.name,.count]
 | .desk _=>[]
 | .time _ _ _=>[.name,.name,.count]
 | .hour _ _ _=>[.name,.number,.number]
theorem GR(h:tW e)(hd:∀q,e≠.desk q):∃ws,GP e=e.form::ws/\ws.length<=3/\(∀x∈ws,x5 x)/\iW (Ey e) ws=.tuple e.rest/\jJ qD e.form=some ((Ey e).map Sh.tx)/\e.form≠"desk"/\nV e.form:=by
 cases e with
 |desk q=>exact qQ7 rfl (hd q)
 |kind n k=>
  obtain⟨hn,hk⟩:=h;have ok2:x5 (fA (nW k))/\oj .mS (fA (nW k))=true/\iI .mS (fA (nW k))=nW k:=by
   cases k with
   |none=>exact#[vD trivial,∎,rfl]
   |some i=>
    obtain⟨h1,h2⟩:=hk i rfl;refine#[o3 h2.1 h2.2,?_,lQ h2 (by intro z;cases z) (by intro z;cases z)]
    show(decide _||jU (ej i))=true
    rw[pM h2 h1,E8]
  refine#[_,rfl,by show 2<=3;decide,λx hx=>?_,?_,(show jJ qD "kind"=some ([Sh.name,Sh.mS].map Sh.tx) by symm),(show("kind":Str)≠"desk" by symm),(show cw (.str "kind")=true by symm)]
  ·simp[ax,a8,or_false]at hx
   rcases hx with rfl|rfl
   ·exact hn.ok
   ·exact ok2.1
  ·show(if(true&&(isName n&&(oj .mS _&&true)))=true then fc [.str n,iI .mS _]else .none)=_
   rw[hn.is,ok2.2.1,ok2.2.2];rfl
 |gate n=>
  refine#[[n],rfl,by show 1<=3;decide,λx hx=>?_,?_,(show jJ qD "gate"=some ([Sh.name].map Sh.tx) by symm),(show("gate":Str)≠"desk" by symm),(show cw (.str "gate")=true by symm)]
  ·rw[aW.mp hx];exact(show dQ n from h).ok
  ·show(if(true&&(isName n&&true))=true then fc [.str n]else .none)=_
   rw[h.is];rfl
 |line n r=>
  obtain⟨hn,h1,h2⟩:=h;refine#[_,rfl,by show 2<=3;decide,λx hx=>?_,?_,(show jJ qD "line"=some ([Sh.name,Sh.count].map Sh.tx) by symm),(show("line":Str)≠"desk" by symm),(show cw (.str "line")=true by symm)]
  ·simp[ax,a8,or_false]at hx
   rcases hx with rfl|rfl
   ·exact hn.ok
   ·exact o3 h2.1 h2.2
  ·show(if(true&&(isName n&&(jU _&&true)))=true then fc [.str n,iI .count _]else .none)=_
   rw[hn.is,pM h2 h1,lQ h2 (by intro z;cases z) (by intro z;cases z)];rfl
 |time d k w=>
  obtain⟨hn,hk,h1,h2⟩:=h;refine#[_,rfl,by show 3<=3;decide,λx hx=>?_,?_,(show jJ qD "time"=some ([Sh.name,Sh.name,Sh.count].map Sh.tx) by symm),(show("time":Str)≠"desk" by symm),(show cw (.str "time")=true by symm)]
  ·simp[ax,a8,or_false]at hx
   rcases hx with rfl|rfl|rfl
   ·exact hn.ok
   ·exact hk.ok
   ·exact o3 h2.1 h2.2
  ·show(if(true&&(isName d&&(isName k&&(jU _&&true))))=true then fc [.str d,.str k,iI .count _]else .none)=_
   rw[hn.is,hk.is,pM h2 h1,lQ h2 (by intro z;cases z) (by intro z;cases z)];rfl
 |hour d a b=>
  obtain⟨hn,h1,h2,_⟩:=h;refine#[_,rfl,by show 3<=3;decide,λx hx=>?_,?_,(show jJ qD "open"=some ([Sh.name,Sh.number,Sh.number].map Sh.tx) by symm),(show("open":Str)≠"desk" by symm),(show cw (.str "open")=true by symm)]
  ·simp[ax,a8,or_false]at hx
   rcases hx with rfl|rfl|rfl
   ·exact hn.ok
   ·exact o3 h1.1 h1.2
   ·exact o3 h2.1 h2.2
  ·show(if(true&&(isName d&&(isNumber _&&(isNumber _&&true))))=true then fc [.str d,iI .number _,iI .number _]else .none)=_
   rw[hn.is,zt h1.1 h1.2,zt h2.1 h2.2,lQ h1 (by intro z;cases z) (by intro z;cases z),lQ h2 (by intro z;cases z) (by intro z;cases z)];rfl
theorem zcc(F:jQ K "entry_of" "entry_of" (top 37) f fd)(n:Np mg w.params K)(C1:bD P w K mg base 5 "values_of" VD (gu K ZQ))(C2:bD P w K mg base 7 "desk_entry" ["words"] (gu K Rde)):dW P w K mg base gS 8 f fd ["words"] (gu K Reo):=
 iY F RH (by ext) λ_ _ h=>by
  obtain⟨e,rfl,ok,rfl⟩:=h;intro e7 A outer s H E hr;have nd:=RH.nd;by_cases hd:∃q,e=.desk q
  ·obtain⟨q,rfl⟩:=hd
   exact aK (df 1 (fk (aj 0 rfl) aJ (cz rfl)) nd) (dz (dU (j8 hr dG 1 rfl (by rw[bO];exact qQ1 rfl)) (bp (b_ (bK C2 hr (aq (aj 0 rfl) aU) #[q,rfl,ok,rfl])))) rfl)
  ·have Vu:=λq z=>hd #[q,z]
   obtain⟨ws,w1,w2,w3,w4,w5,w6,w7⟩:=GR ok Vu;obtain⟨g1,q1,q2⟩:=n.fo;rw[w1];have hsl:(Ey e).length<=3:=by cases e<;>simp[Ey]
   refine aK (df 1 (fk (aj 0 rfl) aJ (cz rfl)) nd) ?_
   refine aK (bP (j8 hr (bH w7) 1 rfl (by rw[bO];exact qQ0 w6)) bB) ?_
   refine aK (bP (VT.to (A9 q1 q2 (aj 1 rfl)) (by rw[w5];rfl)) bB) ?_
   refine aK (df 2 (bK C1 (hr.mono ∅) (aq (VE.to (Ir q1 q2 (aj 1 rfl) w5) (by unfold Ql;rw[aB];rfl)) (aq (VE.to (VO.ve (jh (aj 0 rfl) (.yes aJ) .no)) (by show mw (L2.cutD (_::_) _ _)=_;rw[zz];rfl)) aU)) #[Ey e,ws,rfl,∅,∅,w3,w4.symm]) nd) ?_
   have X':e.rest.length<=4:=by cases e<;>simp[Ent.rest]
   refine aK (bP ?_ bB) (bp (b_ (VE.to (yq (e9 (aq (aj 1 rfl) aU)) (aj 2 rfl) (by simp) (small (by simp;omega))) rfl)))
   cases e with
   |hour d a b=>
    exact VT.to (jS (VT.to (fY iF kG (aj 2 rfl) eP (eu _)) rfl) (λ_=>VT.to (kx (k1:=true) (j8 hr (bH w7) 1 rfl (by rw[bO];exact qQ1 rfl)) (λ_=>VT.to (Ra (vh 2 1 rfl rfl) (vh 2 2 rfl rfl)) (qQ0 (by have:=ok.2.2.2;omega)))) rfl)) rfl
   |_=>
    exact VT.to (jS (VT.to (fY iF kG (aj 2 rfl) eP (eu _)) rfl) (λ_=>VT.to (kx (k1:=false) (k2:=false) (j8 hr (bH w7) 1 rfl (by rw[bO];dsimp only[Ent.form];exact qQ0 ∎)) (λz=>by cases z)) rfl)) rfl
end
def sj:List (Str×List (Int×Int))->Str->Int×Int->List (Str×List (Int×Int))
 | [],n,z=>[(n,[z])]
 |q::l,n,z=>if q.1=n then(q.1,q.2 ++ [z])::l else q::sj l n z
def fF(l:List (Str×Int×Int)):List (Str×List (Int×Int)):=l.foldl (λacc q=>sj acc q.1 q.2) []
def pairD(z:Int×Int):ae:=.tuple [.int z.1,.int z.2]
def kH(p:Pl):List (Str×ae):=p.kinds.map λq=>(q.1,nW q.2)
def kI(p:Pl):List (Str×ae):=p.lines.map λq=>(q.1,.int q.2)
def sQ(p:Pl):List ((Str×Str)×ae):=p.times.map λq=>((q.1,q.2.1),.int q.2.2)
def yw(p:Pl):List (Str×ae):=(fF p.hours).map λq=>(q.1,.list (q.2.map pairD))
def sS(p:Pl):List (Str×ae):=[("kinds",kP (kH p)),("gates",f9 p.gates),("lines",kP (kI p)),("desks",.list (p.desks.map fz)),("times",L_ (sQ p)),("hours",kP (yw p)),("paces",kP [])]
def iJ(p:Pl):ae:=Pt (sS p)
theorem zA(p:Pl):iT (sS p) "kinds"=some (kP (kH p)):=fy rfl
theorem Ez(p:Pl):iT (sS p) "gates"=some (f9 p.gates):=(cL (show ¬(("kinds":Str)="gates") by symm)).trans (fy rfl)
theorem vE(p:Pl):iT (sS p) "lines"=some (kP (kI p)):=(cL (show ¬(("kinds":Str)="lines") by symm)).trans ((cL (show ¬(("gates":Str)="lines") by symm)).trans (fy rfl))
theorem zB(p:Pl):iT (sS p) "desks"=some (.list (p.desks.map fz)):=(cL (show ¬(("kinds":Str)="desks") by symm)).trans ((cL (show ¬(("gates":Str)="desks") by symm)).trans ((cL (show ¬(("lines":Str)="desks") by symm)).trans (fy rfl)))
theorem Nh(p:Pl):iT (sS p) "times"=some (L_ (sQ p)):=(cL (show ¬(("kinds":Str)="times") by symm)).trans ((cL (show ¬(("gates":Str)="times") by symm)).trans ((cL (show ¬(("lines":Str)="times") by symm)).trans ((cL (show ¬(("desks":Str)="times") by symm)).trans (fy rfl))))
theorem ju{κ:Type}[DecidableEq κ]:∀(kvs:List (κ×ae))(x:κ),(iT kvs x).isSome=decide (x∈kvs.map (·.1))
 | [],x=>by simp[iT]
 |q::l,x=>by
  by_cases h:q.1=x
  ·rw[fy h,qQ1 (by simp[h])];rfl
  ·rw[cL h,ju l x,eA,decide_eq_true_iff,decide_eq_true_iff,ay,ax]
   exact#[.inr,λz=>z.resolve_left λe=>h e.symm]
theorem qG(p:Pl):(kH p).map (·.1)=p.kinds.map (·.1):=by unfold kH;rw[aB];rfl
theorem nF(p:Pl):(kI p).map (·.1)=p.lines.map (·.1):=by unfold kI;rw[aB];rfl
theorem CL(p:Pl):(sQ p).map (·.1)=p.times.map λq=>(q.1,q.2.1):=by unfold sQ;rw[aB];rfl
def pN(p:Pl)(x:Str):Prop:=x∈p.gates\/x∈p.lines.map (·.1)
instance (p : Pl) (x : Str) : Decidable (pN p x) := by unfold pN; infer_instance
def qH(p:Pl)(x:Str):Prop:=x∈p.desks.map (·.name)
instance (p : Pl) (x : Str) : Decidable (qH p x) := by unfold qH; infer_instance
def EA(p:Pl)(x:Str):Prop:=∃q∈p.desks,x∈q.places
def zC(p:Pl):Ent->Prop
 | .kind n _=>n∉p.kinds.map (·.1)
 | .gate n=>¬pN p n
 | .line n _=>¬pN p n
 | .desk d=>¬qH p d.name/\(∀x∈d.places,¬EA p x)/\(∀x∈d.places,pN p x)/\(d.to=""\/∃r:Int,iT (kI p) d.to=some (.int r)/\iH d.rule d.places.length<=r)
 | .time d k _=>(d,k)∉p.times.map (λq=>(q.1,q.2.1))/\qH p d/\k∈p.kinds.map (·.1)
 | .hour d _ _=>qH p d
section
variable{P:bA}{w:cg}{K:ao}{mg:Str->Option aD}{base:cM}{f:aF}{k:Nat}
abbrev Om:List Str:=["plant","name"]
abbrev ZR:List Str:=["plant","place"]
theorem Yt:cn Om Om (a_ (top 45)):=by grind
theorem Yu:cn Om Om (a_ (top 46)):=by grind
theorem Yv:cn ZR ZR (a_ (top 47)):=by grind
def Rip(ds:List ae)(d:ae):Prop:=∃(p:Pl)(x:Str),ds=[iJ p,.str x]/\lF p/\nV x/\d=.bool (decide (pN p x))
def Rid(ds:List ae)(d:ae):Prop:=∃(p:Pl)(x:Str),ds=[iJ p,.str x]/\lF p/\nV x/\d=.bool (decide (qH p x))
def zD(p:Pl)(x:Str):List Dk:=p.desks.filter λq=>decide (x∈q.places)
def Rit(ds es:List ae):Prop:=∃(p:Pl)(x:Str),ds=[iJ p,.str x]/\lF p/\nV x/\es=(zD p x).map fz
theorem GU{p:Pl}(h:¬EA p x):zD p x=[]:=by
 unfold zD;rw[q_];intro q hq z;exact h #[q,hq,qQ4 z]
theorem Bk(h:∀x∈l,dQ x):Lay 20 (.list (l.map aS)):=CK λx hx=>(h x hx).ok
theorem zcf(F:jQ K "is_place" "is_place" (top 45) f fd):dW P w K mg base gS 1 f fd Om (gu K Rip):=
 iY F Yt (by ext) λ_ _ h=>by
  obtain⟨p,x,rfl,ok,ox,rfl⟩:=h;intro e7 A outer s H E hr;refine bp (b_ (VE.to (vi (Rf hr rfl (bH ox) (Bk ok.gates) (aj 1 rfl) (lz (aj 0 rfl) (Ez p))) (λ_=>iG (F4 hr (aj 1 rfl) (lz (aj 0 rfl) (vE p))))) ?_))
  rw[qE,ju,nF]
  congr 1
  rw[eA];simp only[z8,decide_eq_true_eq];exact Iff.rfl
def Fdn:ae->Option ae
 | .tuple (x::_)=>some x
 |_=>none
theorem Qo(l:List Dk):(l.map fz).filterMap Fdn=(l.map (·.name)).map .str:=by
 rw[b0,aB];exact filterMap_some λk _=>rfl
theorem zcg(F:jQ K "is_desk" "is_desk" (top 46) f fd):dW P w K mg base gS 1 f fd Om (gu K Rid):=
 iY F Yu (by ext) λ_ _ h=>by
  obtain⟨p,x,rfl,ok,ox,rfl⟩:=h;intro e7 A outer s H E hr;have nc:(["desk"]:List Str).Nodup:=∎
  have hn:=ok.dn;refine bp (b_ (VE.to (Rf hr rfl (bH ox) (Bk λy hy=>?_) (aj 1 rfl) (VO.ve (VO.to (eB (own:=["desk"]) (cap:=[]) (tgt:=.one 0) rfl #[rfl,∎,∎,rfl,rfl,by simp] (dY (lz (aj 0 rfl) (zB p))) (λf s3 H3=>gX 0 nc) rfl
   (small (by rw[ai];omega)) (λd hd=>?_)) (Qo _)))) ?_))
  ·obtain⟨q,hq,rfl⟩:=av.mp hy
   exact(ok.desks q hq).1
  ·obtain⟨z,hz,rfl⟩:=av.mp hd
   exact Fc rfl rfl λf s3 H3=>vh 0 0 rfl rfl
  ·rw[qE];rfl
theorem xq(x:Str)(l:List Str):vg (.str x) (.tuple (l.map aS))=decide (x∈l):=qE x l
def Ni(x:Str):ae->Bool
 | .tuple [_,_,_,.tuple l]=>l.any λy=>cP y (.str x)
 |_=>false
def Fin(x:Str)(d:ae):Option ae:=if Ni x d=true then some d else none
theorem sk(x:Str)(q:Dk):Ni x (fz q)=decide (x∈q.places):=xq x q.places
theorem Qp(x:Str)(l:List Dk):(l.map fz).filterMap (Fin x)=(l.filter λq=>decide (x∈q.places)).map fz:=by
 induction l with
 |nil=>rfl
 |cons q l ih=>
  rw[ay,eE];by_cases h:x∈q.places
  ·rw[ef (by unfold Fin;rw[sk,qQ3 (qQ1 h)]),ih,qQ3 (qQ1 h),ay]
  ·rw[hU (by unfold Fin;rw[sk,qQ2 (by rw[qQ0 h];decide)]),ih,qQ2 (by rw[qQ0 h];decide)]
theorem zch(F:jQ K "takers_of" "takers_of" (top 47) f fd):dW P w K mg base gS 1 f fd ZR (F1 K Rit):=
 JK F Yv (by ext) λ_ _ h=>by
  obtain⟨p,x,rfl,ok,ox,rfl⟩:=h;intro e7 A outer s H E hr;have nc:(["desk","place"]:List Str).Nodup:=∎
  have hn:=ok.dn;refine bp (yo (VO.to (eB (own:=["desk"]) (cap:=[1]) (tgt:=.one 0) rfl #[rfl,∎,∎,rfl,rfl,?_] (dY (lz (aj 0 rfl) (zB p))) (λf s3 H3=>gX 0 nc) rfl
   (small (by rw[ai];omega)) (λd hd=>?_)) (Qp x _)))
  ·intro j hj
   rcases ax.mp hj with rfl|hj
   ·exact#[(by show(1:Nat)<2;decide),lJ rfl,rfl]
   ·cases hj
  ·obtain⟨z,hz,rfl⟩:=av.mp hd
   refine#[_,rfl,λf s3 H3=>?_,λr kQ f s3 H3=>?_]
   ·refine ng (VT.to (W_ hr rfl (bH ox) (Ii λd hd=>by obtain⟨y,hy,rfl⟩:=av.mp hd;exact bH ((ok.desks z hz).2.2.2.2 y hy).ok.2) (aj 1 rfl) (dq (aj 0 rfl) aJ (cz rfl))) ?_)
    unfold Fin;rw[sk,xq];by_cases h:x∈z.places
    ·rw[qQ1 h];rfl
    ·rw[qQ0 h];rfl
   ·unfold Fin at kQ
    split at kQ
    ·cases kQ;exact aj 0 rfl
    ·cases kQ
def Yw:Rl->Bool
 | .many _=>true
 | .gather _ _=>true
 |_=>false
theorem Yx:cn ["rule","many"] ["rule","many"] (a_ (top 6)):=by grind
theorem zci(F:jQ K "greatest_load" "greatest_load" (top 6) f fd):dW P w K mg base gS 1 f fd ["rule","many"] (gu K ZM):=
 iY F Yx (by ext) λ_ _ h=>by
  obtain⟨r,m,rfl,rfl⟩:=h;intro e7 A outer s H E hr;have oR:nV (rh r):=by cases r<;>dsimp[rh,nV]<;>symm
  have h0:um (aS (rh r)::tj r) 0=some _:=cz rfl;have N9:(decide (rh r="many")||decide (rh r="gather"))=Yw r:=by
   cases r with
   |meet=>symm
   |eldest=>symm
   |many m=>exact(show(decide ("many"="many")||decide ("many"="gather"))=true by symm)
   |gather m a=>exact(show(decide ("gather"="many")||decide ("gather"="gather"))=true by symm)
   |rank b=>exact(show(decide ("rank"="many")||decide ("rank"="gather"))=false by symm)
   |turns l=>exact(show(decide ("turns"="many")||decide ("turns"="gather"))=false by symm)
  by_cases h1:Yw r=true
  ·refine dz (dU (VT.to (jS (fx hr (bH oR) dG (dq (aj 0 rfl) aJ h0) bw) (λ_=>fx hr (bH oR) dG (dq (aj 0 rfl) aJ h0) bw)) (by rw[bO,bO,N9,h1])) (bp (b_ (dq (aj 0 rfl) aJ ?_)))) rfl
   cases r with
   |many m=>exact cz rfl
   |gather m a=>exact cz rfl
   |_=>cases h1
  ·have h1:=Bool.not_eq_true _▸h1
   refine aK (bP (VT.to (jS (fx hr (bH oR) dG (dq (aj 0 rfl) aJ h0) bw) (λ_=>fx hr (bH oR) dG (dq (aj 0 rfl) aJ h0) bw)) (by rw[bO,bO,N9,h1])) bB) ?_
   by_cases h2:rh r="meet"
   ·refine dz (dU (VT.to (fx hr (bH oR) dG (dq (aj 0 rfl) aJ h0) bw) (by rw[bO];exact qQ1 h2)) (bp (b_ (VE.to (aj 1 rfl) ?_)))) rfl
    cases r with
    |meet=>rfl
    |many m=>cases h1
    |gather m a=>cases h1
    |eldest=>exact qQ7 h2 ∎
    |rank b=>exact qQ7 h2 (show ¬(("rank":Str)="meet") by symm)
    |turns l=>exact qQ7 h2 (show ¬(("turns":Str)="meet") by symm)
   ·refine aK (bP (VT.to (fx hr (bH oR) dG (dq (aj 0 rfl) aJ h0) bw) (by rw[bO];exact qQ0 h2)) bB) ?_
    refine bp (b_ (VE.to aJ ?_))
    cases r with
    |meet=>exact qQ7 rfl h2
    |many m=>cases h1
    |gather m a=>cases h1
    |_=>rfl
end
theorem dm(e:Ent):nV e.form:=by cases e<;>(dsimp[Ent.form,nV];symm)
theorem sU(e:Ent):um (aS e.form::e.rest) 0=some (.str e.form):=cz rfl
def Ent.name:Ent->Str
 | .kind n _=>n
 | .gate n=>n
 | .line n _=>n
 | .desk d=>d.name
 | .time d _ _=>d
 | .hour d _ _=>d
theorem IW(e:Ent):um (aS e.form::e.rest) 1=some (.str e.name):=by cases e<;>exact cz rfl
theorem IX(h:tW e):dQ e.name:=by
 cases e with
 |gate n=>exact h
 |_=>exact h.1
theorem fW{a b:Str}(h:a≠b):cP (.str a) (.str b)=false:=by rw[bO];exact qQ0 h
theorem jv(a:Str):cP (.str a) (.str a)=true:=by rw[bO];exact qQ1 rfl
section
variable{P:bA}{w:cg}{K:ao}{mg:Str->Option aD}{base:cM}{f:aF}{k:Nat}
abbrev EB:List Str:=["plant","entry"]
def VG(ds:List ae)(d:ae):Prop:=∃(p:Pl)(e:Ent),ds=[iJ p,Ko e]/\lF p/\tW e/\zC p e/\d=.bool false
def Nj:ae->Option ae:=λ_=>some (.bool false)
theorem zE:∀l:List ae,l.filterMap Nj=(aY l.length false).map .bool
 | []=>rfl
 |d::l=>by rw[ef (f:=Nj) rfl,zE l];rfl
theorem Kr(n:Nat):Bb (aY n false)=false:=by
 rw[Bool.eq_false_iff];intro z;obtain⟨b,hb,h⟩:=jO.mp z;rw[(gI.mp hb).2]at h;cases h
abbrev Ntt:List Str:=["plant","entry","form","name"]
theorem RJ:cn Ntt EB (a_ (top 42)):=by grind
theorem zcj(F:jQ K "tells_twice" "tells_twice" (top 42) f fd)(n:Np mg w.params K)(C1:bD P w K mg base 1 "is_place" Om (gu K Rip))(C2:bD P w K mg base 1 "is_desk" Om (gu K Rid))(C3:bD P w K mg base 1 "takers_of" ZR (F1 K Rit)):dW P w K mg base gS 2 f fd EB (gu K VG):=
 iY F RJ (by ext) λ_ _ h=>by
  obtain⟨p,e,rfl,ok,oe,oa,rfl⟩:=h;intro e7 A outer s H E hr;have nd:Ntt.Nodup:=RJ.nd;have VH:=(IX oe).ok.2;have ofm:=dm e;refine aK (df 2 (dq (aj 1 rfl) aJ (sU e)) nd) ?_
  refine aK (df 3 (dq (aj 1 rfl) aJ (IW e)) nd) ?_
  cases e with
  |kind m k=>
   refine dz (dU (j8 hr (bH (dm _)) 2 rfl (jv _)) (bp (b_ (VE.to (F4 hr (aj 3 rfl) (lz (aj 0 rfl) (zA p))) ?_)))) rfl
   rw[ju,qG];exact qQ6 iE (qQ0 oa)
  |gate m=>
   refine aK (bP (j8 hr (bH (dm _)) 2 rfl (fW (show("gate":Str)≠"kind" by symm))) bB) ?_
   exact dz (dU (VT.to (jS (k2:=true) (j8 hr (bH (dm _)) 2 rfl (jv _)) (λz=>by cases z)) rfl) (bp (b_ (bK C1 hr (aq (aj 0 rfl) (aq (aj 3 rfl) aU)) #[p,m,rfl,ok,VH,by rw[qQ0 oa]])))) rfl
  |line m r=>
   refine aK (bP (j8 hr (bH (dm _)) 2 rfl (fW (show("line":Str)≠"kind" by symm))) bB) ?_
   exact dz (dU (VT.to (jS (j8 hr (bH (dm _)) 2 rfl (fW (show("line":Str)≠"gate" by symm))) (λ_=>j8 hr (bH (dm _)) 2 rfl (jv _))) rfl) (bp (b_ (bK C1 hr (aq (aj 0 rfl) (aq (aj 3 rfl) aU)) #[p,m,rfl,ok,VH,by rw[qQ0 oa]])))) rfl
  |desk q=>
   refine aK (bP (j8 hr (bH (dm _)) 2 rfl (fW (show("desk":Str)≠"kind" by symm))) bB) ?_
   refine aK (bP (VT.to (jS (j8 hr (bH (dm _)) 2 rfl (fW (show("desk":Str)≠"gate" by symm))) (λ_=>j8 hr (bH (dm _)) 2 rfl (fW (show("desk":Str)≠"line" by symm)))) rfl) bB) ?_
   have nc:(["place","plant"]:List Str).Nodup:=∎
   obtain⟨a1,a2,a3,a4⟩:=oa;have l6:=oe.2.2.2.2.1;refine dz (dU (j8 hr (bH (dm _)) 2 rfl (jv _)) (bp (b_ (VE.to (vi (bK C2 hr (aq (aj 0 rfl) (aq (aj 3 rfl) aU)) #[p,q.name,rfl,ok,VH,rfl]) (λ_=>iG (ji (Mr rfl) Xr (aq (VO.ve (VO.to (eB (own:=["place"]) (cap:=[0]) (tgt:=.one 0) rfl #[rfl,∎,∎,rfl,rfl,?_] (yS (dq (aj 1 rfl) aJ (cz (j:=4) rfl))) (λf s3 H3=>gX 0 nc) rfl
    (small (by rw[ai];omega)) (λd hd=>?_)) (zE _))) aU) n.any rfl))) ?_)))) rfl
   ·intro j hj
    rcases ax.mp hj with rfl|hj
    ·exact#[(by show(0:Nat)<4;decide),lJ rfl,rfl]
    ·cases hj
   ·obtain⟨z,hz,rfl⟩:=av.mp hd
    exact Fc rfl rfl λf s3 H3=>VE.to (L7 hr Ij Ij (VE.to (VO.ve (oO C3 hr (aq (aj 1 rfl) (aq (aj 0 rfl) aU)) #[p,z,rfl,ok,(oe.2.2.2.2.2.2 z hz).ok.2,rfl])) (by rw[GU (a2 z hz)];rfl)) (VO.ve (fE (ds:=[]) aU))) rfl
   ·rw[qQ0 a1,Kr];rfl
  |time d k wk=>
   refine aK (bP (j8 hr (bH (dm _)) 2 rfl (fW (show("time":Str)≠"kind" by symm))) bB) ?_
   refine aK (bP (VT.to (jS (j8 hr (bH (dm _)) 2 rfl (fW (show("time":Str)≠"gate" by symm))) (λ_=>j8 hr (bH (dm _)) 2 rfl (fW (show("time":Str)≠"line" by symm)))) rfl) bB) ?_
   refine aK (bP (j8 hr (bH (dm _)) 2 rfl (fW (show("time":Str)≠"desk" by symm))) bB) ?_
   refine dz (dU (j8 hr (bH (dm _)) 2 rfl (jv _)) (bp (b_ (VE.to (Pu hr (aj 3 rfl) (vh 1 2 rfl rfl) (lz (aj 0 rfl) (Nh p))) ?_)))) rfl
   refine qQ6 iE ?_
   rw[ju,CL];rw[Bool.eq_false_iff];intro z;exact oa.1 (@of_decide_eq_true _ (_) z)
  |hour d a b=>
   refine aK (bP (j8 hr (bH (dm _)) 2 rfl (fW (show("open":Str)≠"kind" by symm))) bB) ?_
   refine aK (bP (VT.to (jS (j8 hr (bH (dm _)) 2 rfl (fW (show("open":Str)≠"gate" by symm))) (λ_=>j8 hr (bH (dm _)) 2 rfl (fW (show("open":Str)≠"line" by symm)))) rfl) bB) ?_
   refine aK (bP (j8 hr (bH (dm _)) 2 rfl (fW (show("open":Str)≠"desk" by symm))) bB) ?_
   refine aK (bP (j8 hr (bH (dm _)) 2 rfl (fW (show("open":Str)≠"time" by symm))) bB) ?_
   exact bp (b_ (VE.to (jL (k2:=false) (VE.to (qO hr (bH (dm _)) dG (aj 2 rfl) bw) (qQ6 iE (fW (show("open":Str)≠"pace" by symm)))) (λz=>by cases z)) rfl))
abbrev Nln:List Str:=["plant","entry","form","into_line"]
theorem RK:cn Nln EB (a_ (top 43)):=by grind
theorem zck(F:jQ K "lacks_name" "lacks_name" (top 43) f fd)(n:Np mg w.params K)(C1:bD P w K mg base 1 "is_place" Om (gu K Rip))(C2:bD P w K mg base 1 "is_desk" Om (gu K Rid)):dW P w K mg base gS 2 f fd EB (gu K VG):=
 iY F RK (by ext) λ_ _ h=>by
  obtain⟨p,e,rfl,ok,oe,oa,rfl⟩:=h;intro e7 A outer s H E hr;have nd:Nln.Nodup:=RK.nd;have VH:=(IX oe).ok.2;refine aK (df 2 (dq (aj 1 rfl) aJ (sU e)) nd) ?_
  have pac:∀(e:Ent),e.form≠"pace":=λe=>by cases e<;>(dsimp only[Ent.form];symm)
  cases e with
  |desk q=>
   obtain⟨a1,a2,a3,a4⟩:=oa;have nc:(["place","plant"]:List Str).Nodup:=∎
   have ZS:nV q.to:=by
    rcases oe.2.1 with h|h
    ·rw[h];show cw (.str ("":Str))=true;symm
    ·exact h.ok.2
   have l6:=oe.2.2.2.2.1;refine dz (dU (j8 hr (bH (dm _)) 2 rfl (jv _)) (aK (df 3 (d:=.bool true) (VE.to (vi (qO hr (bH ZS) dG (vh 1 2 rfl rfl) bw) (λ_=>iG (F4 hr (vh 1 2 rfl rfl) (lz (aj 0 rfl) (vE p))))) ?_) nd) (bp (b_ (VE.to (vi (VE.to (vk (aj 3 rfl)) rfl) (λ_=>iG (VE.to (vk (ji (rN rfl) DS (aq (VO.ve (VO.to (eB (own:=["place"]) (cap:=[0]) (tgt:=.one 0) (F:=Fal) rfl #[rfl,∎,∎,rfl,rfl,?_] (yS (dq (aj 1 rfl) aJ (cz (j:=4) rfl))) (λf s3 H3=>gX 0 nc) rfl
    (small (by rw[ai];omega)) (λd hd=>?_)) (IQ _))) aU) n.all rfl)) (by rw[Kf];rfl)))) rfl))))) rfl
   ·rw[bO,ju,nF]
    congr 1
    rcases a4 with h|⟨r,h,_⟩
    ·rw[qQ1 h];rfl
    ·have:(iT (kI p) q.to).isSome=true:=by rw[h];rfl
     rw[ju,nF]at this;rw[this,E8]
   ·intro j hj
    rcases ax.mp hj with rfl|hj
    ·exact#[(by show(0:Nat)<4;decide),lJ rfl,rfl]
    ·cases hj
   ·obtain⟨z,hz,rfl⟩:=av.mp hd
    exact Fc rfl rfl λf s3 H3=>bK C1 hr (aq (aj 1 rfl) (aq (aj 0 rfl) aU)) #[p,z,rfl,ok,(oe.2.2.2.2.2.2 z hz).ok.2,by rw[qQ1 (a3 z hz)]]
  |time d k wk=>
   refine aK (bP (j8 hr (bH (dm _)) 2 rfl (fW (show("time":Str)≠"desk" by symm))) bB) ?_
   refine dz (dU (j8 hr (bH (dm _)) 2 rfl (jv _)) (bp (b_ (VE.to (vi (k1:=false) (VE.to (vk (bK C2 hr (aq (aj 0 rfl) (aq (vh 1 1 rfl rfl) aU)) #[p,d,rfl,ok,VH,rfl])) (by rw[qQ1 oa.2.1];rfl)) (λ_=>iG (JQ hr (vh 1 2 rfl rfl) (lz (aj 0 rfl) (zA p))))) ?_)))) rfl
   rw[ju,qG,qQ1 oa.2.2];rfl
  |hour d a b=>
   exact aK (bP (j8 hr (bH (dm _)) 2 rfl (fW (show("open":Str)≠"desk" by symm))) bB) (aK (bP (j8 hr (bH (dm _)) 2 rfl (fW (show("open":Str)≠"time" by symm))) bB) (dz (dU (j8 hr (bH (dm _)) 2 rfl (jv _)) (bp (b_ (VE.to (vk (bK C2 hr (aq (aj 0 rfl) (aq (vh 1 1 rfl rfl) aU)) #[p,d,rfl,ok,VH,rfl])) (by rw[qQ1 (show qH p d from oa)];rfl))))) rfl))
  |_=>
   refine aK (bP (j8 hr (bH (dm _)) 2 rfl (by rw[bO];dsimp only[Ent.form];exact qQ0 ∎)) bB) ?_
   exact aK (bP (j8 hr (bH (dm _)) 2 rfl (by rw[bO];dsimp only[Ent.form];exact qQ0 ∎)) bB) (aK (bP (j8 hr (bH (dm _)) 2 rfl (by rw[bO];dsimp only[Ent.form];exact qQ0 ∎)) bB) (bp (b_ (VE.to (jL (k1:=false) (k2:=false) (VE.to (qO hr (bH (dm _)) dG (aj 2 rfl) bw) (by rw[bO];exact qQ6 iE (qQ0 (pac _)))) (λz=>by cases z)) rfl))))
theorem UX:cn EB EB (a_ (top 44)):=by grind
theorem Yy(F:jQ K "lacks_room" "lacks_room" (top 44) f fd)(n:Np mg w.params K)(C1:bD P w K mg base 1 "greatest_load" ["rule","many"] (gu K ZM)):dW P w K mg base gS 2 f fd EB (gu K VG):=
 iY F UX (by ext) λ_ _ h=>by
  obtain⟨p,e,rfl,ok,oe,oa,rfl⟩:=h;intro e7 A outer s H E hr;by_cases hd:∃q,e=.desk q
  ·obtain⟨q,rfl⟩:=hd
   obtain⟨a1,a2,a3,a4⟩:=oa;have ZS:nV q.to:=by
    rcases oe.2.1 with h|h
    ·rw[h];show cw _=true;symm
    ·exact h.ok.2
   by_cases ht:q.to=""
   ·exact dz (dU (VT.to (jS (VT.to (oK hr (bH (dm _)) dG (dq (aj 1 rfl) aJ (sU _)) bw) (qQ6 (λb=>!b) (jv _))) (λ_=>VT.to (fx hr (bH ZS) dG (vh 1 2 rfl rfl) bw) (by rw[bO];exact qQ1 ht))) rfl) (bp (b_ xg))) rfl
   ·obtain⟨r,h1,h2⟩:=a4.resolve_left ht
    exact aK (bP (VT.to (jS (VT.to (oK hr (bH (dm _)) dG (dq (aj 1 rfl) aJ (sU _)) bw) (qQ6 (λb=>!b) (jv _))) (λ_=>VT.to (fx hr (bH ZS) dG (vh 1 2 rfl rfl) bw) (by rw[bO];exact qQ0 ht))) rfl) bB) (bp (b_ (VE.to (W8 (bK C1 hr (aq (dq (aj 1 rfl) aJ (cz rfl)) (aq (VE.to (ky (vh 1 4 rfl rfl) n.len) (by rw[ai])) aU)) #[q.rule,q.places.length,rfl,rfl]) (fN hr (lz (aj 0 rfl) (vE p)) (vh 1 2 rfl rfl) h1)) (qQ6 iE (qQ0 ∅)))))
  ·have hf:e.form≠"desk":=by
    cases e with
    |desk q=>exact qQ7 #[q,rfl] hd
    |_=>dsimp only[Ent.form];symm
   exact dz (dU (VT.to (jS (k1:=true) (k2:=true) (VT.to (oK hr (bH (dm e)) dG (dq (aj 1 rfl) aJ (sU _)) bw) (by rw[bO,qQ0 hf];rfl)) (λz=>by cases z)) rfl) (bp (b_ xg))) rfl
theorem Yz:cn EB EB (a_ (top 41)):=by grind
def Rfo(ds:List ae)(d:ae):Prop:=∃(p:Pl)(e:Ent),ds=[iJ p,Ko e]/\lF p/\tW e/\zC p e/\d=.str ""
theorem zcl(F:jQ K "fault_of" "fault_of" (top 41) f fd)(C1:bD P w K mg base 2 "tells_twice" EB (gu K VG))(C2:bD P w K mg base 2 "lacks_name" EB (gu K VG))(C3:bD P w K mg base 2 "lacks_room" EB (gu K VG)):dW P w K mg base gS 3 f fd EB (gu K Rfo):=
 iY F Yz (by ext) λ_ _ h=>by
  obtain⟨p,e,rfl,ok,oe,oa,rfl⟩:=h;intro e7 A outer s H E hr;refine aK (bP (VT.to (fY iF kG (aj 1 rfl) eP (eu _)) rfl) bB) ?_
  refine aK (bP (eQ (bK C1 hr (aq (aj 0 rfl) (aq (aj 1 rfl) aU)) #[p,e,rfl,ok,oe,oa,rfl]) rfl) bB) ?_
  exact aK (bP (eQ (bK C2 hr (aq (aj 0 rfl) (aq (aj 1 rfl) aU)) #[p,e,rfl,ok,oe,oa,rfl]) rfl) bB) (aK (bP (eQ (bK C3 hr (aq (aj 0 rfl) (aq (aj 1 rfl) aU)) #[p,e,rfl,ok,oe,oa,rfl]) rfl) bB) (bp (b_ bw)))
end
def Qq:Option Int->V
 |none=>.non
 |some i=>.int i
theorem Nk(o:Option Int):Rep K H (Qq o) (nW o):=by
 cases o with
 |none=>exact .non
 |some i=>exact .int i
theorem Rep.Qr{v:V}{o:Option Int}(r:Rep K H v (nW o)):v=Qq o:=by
 cases o with
 |none=>cases r;rfl
 |some i=>cases r;rfl
def uH(p:Pl):List (Key×V):=p.kinds.map λq=>(bo q.1,Qq q.2)
def uI(p:Pl):List (Key×V):=p.lines.map λq=>(bo q.1,V.int q.2)
def uJ(p:Pl):List (List Key×V):=p.times.map λq=>(Aq (q.1,q.2.1),V.int q.2.2)
def gk(h:List (Str×List (Int×Int)))(cs:List aF):List (Key×V):=(h.zip cs).map λz=>(bo z.1.1,V.ref z.2)
abbrev ZT:List Str:=["kinds","gates","lines","desks","times","hours","paces"]
def RL(ak ag al ad at_ ah ap:aF):List (Str×V):=[("kinds",.ref ak),("gates",.ref ag),("lines",.ref al),("desks",.ref ad),("times",.ref at_),("hours",.ref ah),("paces",.ref ap)]
structure PlW(K:ao)(p:aF)(st:Pl)(H0 H:Hp)(C dx ak ag al ad at_ ah ap:aF)(cs:List aF)(xd:List V):Prop where
 ins:H p=some (.ins C dx (RL ak ag al ad at_ ah ap))
 cls:qM K C
 tq:∀f∈ZT,eK K C f
 ki:H ak=some (.dK (uH st))
 ga:H ag=some (.lst (st.gates.map V.str))
 li:H al=some (.dK (uI st))
 de:H ad=some (.lst xd)
 dr:b9 K H0 xd (st.desks.map fz)
 ti:H at_=some (.dT (uJ st))
 ho:H ah=some (.dK (gk (fF st.hours) cs))
 hl:cs.length=(fF st.hours).length
 pa:H ap=some (.dK [])
 ce:∀(i:Nat)c q,cs[i]?=some c->(fF st.hours)[i]?=some q->∃xs,H c=some (.lst xs)/\b9 K H0 xs (q.2.map pairD)
def CM(K:ao)(p:aF)(st:Pl):OR:=λH0 H as=>∃C dx ak ag al ad at_ ah ap cs xd,as=p::ak::ag::al::ad::at_::ah::ap::cs/\as.Nodup/\PlW K p st H0 H C dx ak ag al ad at_ ah ap cs xd
theorem CM.mono{st:Pl}:cj (CM K p st):=by
 rintro H0 H Ha Hb as ⟨C,dx,ak,ag,al,ad,at_,ah,ap,cs,xd,rfl,nd,W⟩ s e
 exact#[C,dx,ak,ag,al,ad,at_,ah,ap,cs,xd,rfl,nd,(#[by rw[e p (by simp)];exact W.ins,W.cls,W.tq,by rw[e ak (by simp)];exact W.ki,by rw[e ag (by simp)];exact W.ga,by rw[e al (by simp)];exact W.li,by rw[e ad (by simp)];exact W.de,W.dr.mono s,by rw[e at_ (by simp)];exact W.ti,by rw[e ah (by simp)];exact W.ho,W.hl,by rw[e ap (by simp)];exact W.pa,λi c q e1 e2=>by
  obtain⟨xs,h1,h2⟩:=W.ce i c q e1 e2;refine#[xs,?_,h2.mono s]
  rw[e c (by simp[aQ e1])]
  exact h1])]
theorem vF{α:Type}{f:α->V}{g:α->ae}:∀{l:List α},(∀x∈l,Rep K H (f x) (g x))->b9 K H (l.map f) (l.map g)
 | [],_=>.nil
 |x::l,h=>.cons (h x aM) (vF λy hy=>h y (aT _ hy))
theorem EC{α:Type}{g:α->ae}:∀{l:List α}{cs:List aF},cs.length=l.length->(∀(i:Nat)c q,cs[i]?=some c->l[i]?=some q->Rep K H (.ref c) (g q))->b9 K H (cs.map V.ref) (l.map g)
 | [],[],_,_=>.nil
 | [],_::_,h,_=>by cases h
 |_::_,[],h,_=>by cases h
 |q::l,c::cs,h,k=>.cons (k 0 c q rfl rfl) (EC ↑h λi c' q' e1 e2=>k (i+1) c' q' ↑e1 ↑e2)
theorem xr:∀{h:List (Str×List (Int×Int))}{cs:List aF},cs.length=h.length->(gk h cs).map (·.1)=h.map λq=>(bo q.1:Key)
 | [],[],_=>rfl
 | [],_::_,e=>by cases e
 |_::_,[],e=>by cases e
 |q::h,c::cs,e=>by
  have:=xr ↑e
  unfold gk at this ⊢;rw[eT,ay,ay,this];rfl
theorem xt:∀{h:List (Str×List (Int×Int))}{cs:List aF},cs.length=h.length->(gk h cs).map (·.2)=cs.map V.ref
 | [],[],_=>rfl
 | [],_::_,e=>by cases e
 |_::_,[],e=>by cases e
 |q::h,c::cs,e=>by
  have:=xt ↑e
  unfold gk at this ⊢;rw[eT,ay,ay,this];rfl
theorem CM.rep{st:Pl}(Ha Hb:Hp)(as:List aF)(sb:cK Ha Hb)(h:CM K p st Ha Hb as):Rep K (jM as Hb Ha) (.ref p) (iJ st):=by
 obtain⟨C,dx,ak,ag,al,ad,at_,ah,ap,cs,xd,rfl,nd,W⟩:=h;have sm:=jl (as:=p::ak::ag::al::ad::at_::ah::ap::cs) sb
 generalize hM:jM (p::ak::ag::al::ad::at_::ah::ap::cs) Hb Ha=M at *
 have mm:∀a∈p::ak::ag::al::ad::at_::ah::ap::cs,M a=Hb a:=λa ha=>by rw[<-hM];exact hX ha
 refine Rep.obj ((mm p (by simp)).trans W.ins) W.cls W.tq rfl ?_
 refine .cons ?_ (.cons ?_ (.cons ?_ (.cons ?_ (.cons ?_ (.cons ?_ (.cons ?_ .nil))))))
 ·refine .dct ((mm ak (by simp)).trans W.ki) ?_ ?_
  ·unfold kH uH;simp only[aB];rfl
  ·unfold kH uH;simp;exact vF λq _=>Nk q.2
 ·exact .lst (jx.of ((mm ag (by simp)).trans W.ga)) (sJ _)
 ·refine .dct ((mm al (by simp)).trans W.li) ?_ ?_
  ·unfold kI uI;simp only[aB];rfl
  ·unfold kI uI;simp;exact vF λq _=>.int q.2
 ·exact .lst (jx.of ((mm ad (by simp)).trans W.de)) (W.dr.mono sm)
 ·refine .Tz ((mm at_ (by simp)).trans W.ti) ?_ ?_
  ·unfold sQ uJ;simp only[aB];rfl
  ·unfold sQ uJ;simp;exact vF λq _=>.int q.2.2
 ·refine .dct ((mm ah (by simp)).trans W.ho) ?_ ?_
  ·have:=xr W.hl
   have e:(gk (fF st.hours) cs).map (λq=>oB q.1)=((gk (fF st.hours) cs).map (·.1)).map oB:=by rw[aB];rfl
   rw[e,this];unfold yw;simp only[aB];rfl
  ·rw[xt W.hl]
   have e:((yw st).map λq=>(aS q.1,q.2)).map (·.2)=(fF st.hours).map λq=>mw (q.2.map pairD):=by
    unfold yw;simp only[aB];rfl
   rw[e];exact EC W.hl λi c q e1 e2=>by
    obtain⟨xs,h1,h2⟩:=W.ce i c q e1 e2;exact .lst (jx.of (by rw[mm c (by simp[aQ e1])];exact h1)) (h2.mono sm)
 ·exact .dct ((mm ap (by simp)).trans W.pa) rfl .nil
structure YB(H H1:Hp)(p C dx:aF)(fs:List (Str×V))(os:List (aF×HO)):Prop where
 ins:H1 p=some (.ins C dx fs)
 ob:∀q∈os,H1 q.1=some q.2
 nd:(p::os.map (·.1)).Nodup
 fresh:∀q∈os,H q.1=none
 old:∀b o,H b=some o->b≠p->H1 b=some o
theorem YB.step{H1: Hp}{C dx d: aF}{fs fs':List (Str×V)}{os:List (aF×HO)}{o:HO}(m:YB H H1 p C dx fs os)(hd:H1 d=none):YB H (upd (upd H1 d o) p (.ins C dx fs')) p C dx fs' (os ++ [(d,o)]):=by
 have ZU:d≠p:=λz=>by subst z;rw[m.ins]at hd;cases hd
 have E_:d∉os.map (·.1):=λz=>by
  obtain⟨q,hq,rfl⟩:=av.mp z;rw[m.ob q hq]at hd;cases hd
 refine#[bh,λq hq=>?_,?_,λq hq=>?_,λb o' e hb=>?_]
 ·rcases aR.mp hq with hq|hq
  ·have h1:q.1≠p:=λz=>((bY.mp m.nd).1) (by rw[<-z];exact av.mpr #[q,hq,rfl])
   have h2:q.1≠d:=λz=>E_ (by rw[<-z];exact av.mpr #[q,hq,rfl])
   rw[aO h1,aO h2];exact m.ob q hq
  ·rw[aW.mp hq,aO ZU];exact bh
 ·rw[aN,<-List.cons_append,cF]
  refine#[m.nd,by simp,λx hx y hy=>?_]
  rw[vQ,aW]at hy;subst hy;rcases ax.mp hx with rfl|hx
  ·exact bT ZU
  ·exact λz=>E_ (by rw[<-z];exact hx)
 ·rcases aR.mp hq with hq|hq
  ·exact m.fresh q hq
  ·rw[aW.mp hq]
   cases e:H d with
   |none=>rfl
   |some o'=>have:=m.old d o' e ZU;rw[hd]at this;cases this
 ·have h2:b≠d:=λz=>by subst z;have:=m.old b o' e hb;rw[hd]at this;cases this
  rw[aO hb,aO h2];exact m.old b o' e hb
theorem iu{f:Str}{v:V}:∀{fs:List (Str×V)},f∉fs.map (·.1)->iz f v fs=fs ++ [(f,v)]
 | [],_=>rfl
 |(g,x)::fs,h=>by
  show(if g=f then(g,v)::fs else(g,x)::iz f v fs)=_
  rw[qQ2 (λz=>h (by rw[z];simp)),iu λz=>h (by simp[z])]
  rfl
abbrev Bl:e6:=inClass (top 31) 0
def Nn(C:aF):Sp:=λvs H Q _=>∃p dx,vs=[.ref p]/\H p=some (.ins C dx [])/\∀ak ag al ad at_ ah ap H',YB H H' p C dx (RL ak ag al ad at_ ah ap) [(ak,.dK []),(ag,.lst []),(al,.dK []),(ad,.lst []),(at_,.dT []),(ah,.dK []),(ap,.dK [])]->Q .non H'
section
variable{P:bA}{w:cg}{K:ao}{mg:Str->Option aD}{base:cM}{f:aF}{k:Nat}
theorem YC:cn ["self"] ["self"] (a_ Bl):=by grind
theorem zcm{C:aF}(F:jQ K "__init__" "Plant.__init__" Bl f fd)(cl:qM K C)(na:∀f∈ZT,eK K C f):dW P w K mg base gS 1 f fd ["self"] (Nn C):=by
 refine F.ok YC (λvs H Q E h=>?_) (λe7 A outer s H vs Q E hr h=>?_)
 ·obtain⟨p,dx,rfl,_⟩:=h
  rfl
 ·obtain⟨p,dx,rfl,hp,q⟩:=h
  refine#[_,kr (oX (pv 0) pE rfl) (kr (oX (pv 0) (BW eV) rfl) (kr (oX (pv 0) pE rfl) (kr (oX (pv 0) (BW eV) rfl) (kr (oX (pv 0) Ly rfl) (kr (oX (pv 0) pE rfl) (BO (oX (pv 0) pE rfl))))))),?_]
  have m0:YB H H p C dx [] []:=#[hp,λq hq=>(by cases hq),by simp,λq hq=>(by cases hq),λb o e _=>e]
  intro ak hak;have p1:(upd H ak (.dK [])) p=some (.ins C dx []):=by rw[aO (bG hp hak)];exact hp
  refine#[_,rfl,p,C,dx,_,rfl,p1,cl,na _ ∎,⋯,?_]
  have m1:=m0.step (o:=.dK []) (fs':=[(("kinds":Str),V.ref ak)]) hak;rw[iu (show("kinds":Str)∉([]) by symm)];refine#[bx _,λag hag=>?_]
  refine#[_,rfl,p,C,dx,_,rfl,by rw[aO (bG m1.ins hag)];exact m1.ins,cl,na _ ∎,by show 1<1000;decide,?_]
  have m2:=m1.step (o:=.lst []) (fs':=[(("kinds":Str),V.ref ak),("gates",V.ref ag)]) hag;rw[iu (show("gates":Str)∉(["kinds"]:List Str) by symm)];intro al UC;refine#[_,rfl,p,C,dx,_,rfl,by rw[aO (bG m2.ins UC)];exact m2.ins,cl,na _ ∎,by show 2<1000;decide,?_]
  have m3:=m2.step (o:=.dK []) (fs':=[(("kinds":Str),V.ref ak),("gates",V.ref ag),("lines",V.ref al)]) UC;rw[iu (show("lines":Str)∉(["kinds","gates"]:List Str) by symm)];refine#[bx _,λad had=>?_]
  refine#[_,rfl,p,C,dx,_,rfl,by rw[aO (bG m3.ins had)];exact m3.ins,cl,na _ ∎,by show 3<1000;decide,?_]
  have m4:=m3.step (o:=.lst []) (fs':=[(("kinds":Str),V.ref ak),("gates",V.ref ag),("lines",V.ref al),("desks",V.ref ad)]) had;rw[iu (show("desks":Str)∉(["kinds","gates","lines"]:List Str) by symm)];intro at_ J2;refine#[_,rfl,p,C,dx,_,rfl,by rw[aO (bG m4.ins J2)];exact m4.ins,cl,na _ ∎,by show 4<1000;decide,?_]
  have m5:=m4.step (o:=.dT []) (fs':=[(("kinds":Str),V.ref ak),("gates",V.ref ag),("lines",V.ref al),("desks",V.ref ad),("times",V.ref at_)]) J2;rw[iu (show("times":Str)∉(["kinds","gates","lines","desks"]:List Str) by symm)];intro ah hah;refine#[_,rfl,p,C,dx,_,rfl,by rw[aO (bG m5.ins hah)];exact m5.ins,cl,na _ ∎,by show 5<1000;decide,?_]
  have m6:=m5.step (o:=.dK []) (fs':=[(("kinds":Str),V.ref ak),("gates",V.ref ag),("lines",V.ref al),("desks",V.ref ad),("times",V.ref at_),("hours",V.ref ah)]) hah;rw[iu (show("hours":Str)∉(["kinds","gates","lines","desks","times"]:List Str) by symm)];intro ap ZD;refine#[_,rfl,p,C,dx,_,rfl,by rw[aO (bG m6.ins ZD)];exact m6.ins,cl,na _ ∎,by show 6<1000;decide,?_]
  have m7:=m6.step (o:=.dK []) (fs':=[(("kinds":Str),V.ref ak),("gates",V.ref ag),("lines",V.ref al),("desks",V.ref ad),("times",V.ref at_),("hours",V.ref ah),("paces",V.ref ap)]) ZD;exact q ak ag al ad at_ ah ap _ m7
end
def sr(p:Pl):Ent->Pl
 | .kind n k=>{ p with kinds:=p.kinds ++ [(n,k)] }
 | .gate n=>{ p with gates:=p.gates ++ [n] }
 | .line n r=>{ p with lines:=p.lines ++ [(n,r)] }
 | .desk d=>{ p with desks:=p.desks ++ [d] }
 | .time d k w=>{ p with times:=p.times ++ [(d,k,w)] }
 | .hour d a b=>{ p with hours:=p.hours ++ [(d,a,b)] }
def RM(st:Pl)(d:ae)(yk:Pl):Prop:=∃e,d=Ko e/\lF st/\tW e/\zC st e/\yk=sr st e
theorem vG{κ:Type}[DecidableEq κ]:∀{kvs:List (κ×V)}{k:κ},(∀q∈kvs,q.1≠k)->ic kvs k=none
 | [],_,_=>rfl
 |q::l,k,h=>by rw[ku (h q aM)];exact vG λx hx=>h x (aT _ hx)
theorem zF(z:Int×Int)(n:Str):∀{h:List (Str×List (Int×Int))}{cs:List aF},cs.length=h.length->
  (ic (gk h cs) (bo n)=none/\sj h n z=h ++ [(n,[z])])\/∃i c q,h[i]?=some q/\cs[i]?=some c/\ic (gk h cs) (bo n)=some (.ref c)/\sj h n z=h.set i (q.1,q.2 ++ [z])
 | [],[],_=>.inl #[rfl,rfl]
 | [],_::_,e=>by cases e
 |_::_,[],e=>by cases e
 |q::h,c::cs,e=>by
  have hv:gk (q::h) (c::cs)=(bo q.1,V.ref c)::gk h cs:=rfl;by_cases hn:q.1=n
  ·refine .inr #[0,c,q,rfl,rfl,?_,?_]
   ·exact lV (by show(bo q.1)=bo n;rw[hn])
   ·show(if q.1=n then(q.1,q.2 ++ [z])::h else q::sj h n z)=_
    rw[qQ3 hn];rfl
  ·have ne:¬(bo q.1:Key)=bo n:=λw=>hn (by injection w)
   have ea:sj (q::h) n z=q::sj h n z:=by
    show(if q.1=n then(q.1,q.2 ++ [z])::h else q::sj h n z)=_
    rw[qQ2 hn]
   rcases zF z n ↑e with⟨h1,h2⟩|⟨i,c',q',h1,h2,h3,h4⟩
   ·exact .inl #[by rw[hv,ku ne];exact h1,by rw[ea,h2];rfl]
   ·exact .inr #[i+1,c',q',by simpa using h1,by simpa using h2,by rw[hv,ku ne];exact h3,by rw[ea,h4];rfl]
theorem xu:∀{h h':List (Str×List (Int×Int))}{cs:List aF},h'.map (·.1)=h.map (·.1)->gk h' cs=gk h cs
 | [],[],_,_=>rfl
 | [],_::_,_,e=>by cases e
 |_::_,[],_,e=>by cases e
 |q::h,q'::h',cs,e=>by
  obtain⟨e1,e2⟩:=iK e;cases cs with
  |nil=>rfl
  |cons c cs=>
   show(bo q'.1,V.ref c)::gk h' cs=(bo q.1,V.ref c)::gk h cs
   rw[show q'.1=q.1 from e1,xu e2]
theorem GV{h:List (Str×List (Int×Int))}{cs:List aF}(e:cs.length=h.length)(q:Str×List (Int×Int))(c:aF):gk (h ++ [q]) (cs ++ [c])=gk h cs ++ [(bo q.1,V.ref c)]:=by
 unfold gk;rw[List.zip_append ∅,aN]
 rfl
theorem GW(l:List (Str×Int×Int))(q:Str×Int×Int):fF (l ++ [q])=sj (fF l) q.1 q.2:=by
 unfold fF;rw[f6];rfl
theorem ED(z:Int×Int)(n:Str):∀h,(sj h n z).length<=h.length+1
 | []=>aP _
 |q::h=>by
  show(if q.1=n then(q.1,q.2 ++ [z])::h else q::sj h n z).length<=_
  split
  ·simp
  ·have:=ED z n h
   simp;omega
theorem GX(l:List (Str×Int×Int)):(fF l).length<=l.length:=by
 have go:∀(l:List (Str×Int×Int))(acc:List (Str×List (Int×Int))),(l.foldl (λacc q=>sj acc q.1 q.2) acc).length<=acc.length+l.length:=by
  intro l
  induction l with
  |nil=>intro acc;exact aP _
  |cons q l ih=>
   intro acc;have h1:=ih (sj acc q.1 q.2);have h2:=ED q.2 q.1 acc;rw[nH,bR];omega
 have:=go l [];rwa[dA,rn]at this
theorem zG(z:Int×Int)(n:Str):∀(h:List (Str×List (Int×Int)))(b:Nat),(∀q∈h,q.2.length<=b)->∀q∈sj h n z,q.2.length<=b+1
 | [],b,_,q,hq=>by rw[aW.mp hq];simp
 |p::h,b,hb,q,hq=>by
  have hq:q∈(if p.1=n then(p.1,p.2 ++ [z])::h else p::sj h n z):=hq
  split at hq
  ·rcases ax.mp hq with rfl|hq
   ·have:=hb p aM
    simp;omega
   ·have:=hb q (aT _ hq);omega
  ·rcases ax.mp hq with rfl|hq
   ·have:=hb q aM;omega
   ·exact zG z n h b (λx hx=>hb x (aT _ hx)) q hq
theorem EE(l:List (Str×Int×Int)):∀q∈fF l,q.2.length<=l.length:=by
 have go:∀(l:List (Str×Int×Int))(acc:List (Str×List (Int×Int)))(b:Nat),(∀q∈acc,q.2.length<=b)->∀q∈l.foldl (λacc q=>sj acc q.1 q.2) acc,q.2.length<=b+l.length:=by
  intro l
  induction l with
  |nil=>intro acc b hb q hq;exact hb q hq
  |cons q0 l ih=>
   intro acc b hb q hq;have:=ih _ (b+1) (zG q0.2 q0.1 acc b hb) q hq;rw[bR];omega
 intro q hq;have:=go l [] 0 (λq hq=>by cases hq) q hq
 omega
section
variable{X:Cx}{B0 B H0 H C0 C:Hp}{σ:L2.St}{D:Ends}{δ:List Slot}{x y z:Str}{k:Nat}{body orelse:List e6}{p0 p1 q0 pos:Pos}{j}
theorem uK(f:gy X.K B0 B H0 H σ δ)(g:c6 C0 C H0 H)(hr:dB k X.A)(hl:Lay 20 (.str z))(i:Nat)(h:δ[i]?=some (.val (.str z)))(e:cP (.str z) (.str y)=false)(q:∀Ha Hb,gy X.K B0 B Ha Hb σ δ->c6 C0 C Ha Hb->w_ X orelse D σ Hb)(hN:ow X i x:=by ac_rfl)(hy:cw (.str y)=true:=by symm):
  cS X (.If (.Compare (.Name x p0) [.Eq] [.Constant (.str y) j q0] p1) body orelse pos) D σ H:=XA f (VT.to (fx hr hl (dG hy) (aj i h hN) bw) e) λHa Hb g'=>q Ha Hb (f.grow g') (g.trans g')
theorem EF(f:gy X.K B0 B H0 H σ δ)(g:c6 C0 C H0 H)(hr:dB k X.A)(hl:Lay 20 (.str z))(i:Nat)(h:δ[i]?=some (.val (.str z)))(e:cP (.str z) (.str y)=true)(q:∀Ha Hb,gy X.K B0 B Ha Hb σ δ->c6 C0 C Ha Hb->w_ X body D σ Hb)(hN:ow X i x:=by ac_rfl)(hy:cw (.str y)=true:=by symm):
  cS X (.If (.Compare (.Name x p0) [.Eq] [.Constant (.str y) j q0] p1) body orelse pos) D σ H:=Rm f (VT.to (fx hr hl (dG hy) (aj i h hN) bw) e) λHa Hb g'=>q Ha Hb (f.grow g') (g.trans g')
end
section
variable{P:bA}{w:cg}{K:ao}{mg:Str->Option aD}{base:cM}{f:aF}{k:Nat}
abbrev Nae:List Str:=["plant","entry","form","name"]
theorem RN:cn Nae EB (a_ (top 48)):=by grind
theorem YD{ak ag al ad at_ ah ap:aF}:(RL ak ag al ad at_ ah ap).lookup ("kinds":Str)=some (.ref ak)/\(RL ak ag al ad at_ ah ap).lookup ("gates":Str)=some (.ref ag)/\(RL ak ag al ad at_ ah ap).lookup ("lines":Str)=some (.ref al)/\(RL ak ag al ad at_ ah ap).lookup ("desks":Str)=some (.ref ad)/\(RL ak ag al ad at_ ah ap).lookup ("times":Str)=some (.ref at_)/\(RL ak ag al ad at_ ah ap).lookup ("hours":Str)=some (.ref ah):=#[rfl,rfl,rfl,rfl,rfl,rfl]
theorem zco(F:jQ K "add_entry" "add_entry" (top 48) f fd):dW P w K mg base gS 1 f fd EB (Mt K Pl (CM K) RM):=by
 refine F.ok RN (λvs H Q E h=>?_) (λe7 A outer s H vs Q E hr h=>?_)
 ·obtain⟨_,_,_,_,_,_,_,rfl,_⟩:=h
  rfl
 ·obtain⟨H0,p,v,as,st,yk,d,rfl,sm,rv,own,W0,⟨e,rfl,ok,oe,oa,rfl⟩,q⟩:=h
  refine#[_,j7,?_]
  have nd:Nae.Nodup:=RN.nd;have f0:gy K H0 H H0 H (start Nae [.ref p,v]) [.ref p,.val (Ko e),.un,.un]:=by
   refine#[.refl sm,rfl,λi sl hi=>?_,λi j a b p' _ h1=>?_]
   ·match i,hi with
    |0,hi=>cases hi;exact rfl
    |1,hi=>cases hi;exact#[v,rfl,rv]
    |2,hi=>cases hi;exact trivial
    |3,hi=>cases hi;exact trivial
    |i+4,hi=>simp at hi
   ·match i,h1 with
    |0,h1=>cases h1
    |1,h1=>cases h1
    |2,h1=>cases h1
    |3,h1=>cases h1
    |i+4,h1=>simp at h1
  refine bM (Xz f0 (df 2 (d:=.str e.form) (dq (aj 1 rfl) aJ (sU e)) nd) λσ1 H1 cV s1 f1=>?_)
  refine bM (Xz f1 (df 3 (d:=.str e.name) (dq (aj 1 rfl) aJ (IW e)) nd) λσ2 H2 fS s2 f2=>?_)
  have W2:=CM.mono _ _ _ _ _ W0 f2.ent.e8 (λa ha=>f2.ent.big.eq (own a ha).2)
  obtain⟨C,dx,ak,ag,al,ad,at_,ah,ap,cs,xd,rfl,IY,W⟩:=W2;have o2:∀a∈p::ak::ag::al::ad::at_::ah::ap::cs,∃o,H a=some o/\H0 a=none:=λa ha=>by
   obtain⟨z1,z2⟩:=own a ha;cases e:H a with
   |none=>exact qQ7 e z2
   |some o=>exact#[o,rfl,z1]
  have YF:=IY;simp only[bY,ax,not_or]at YF;obtain⟨⟨pk,pg,pl,pd,pt,ph,pp,pc⟩,⟨kg,kl,kd,kt,kh,kp,kc⟩,⟨gl,gd,gt,gh,gp,gc⟩,⟨ld,lt,lh,lp,lc⟩,⟨dt,dh,dp,dc⟩,⟨th,tp,tc⟩,⟨hp,hc⟩,apc,ncs⟩:=YF;have fin:∀(Ha Hb:Hp)(a:aF)(o:HO),c6 H0 H Ha Hb->a∈p::ak::ag::al::ad::at_::ah::ap::cs->(∀xd',xd'=xd->CM K p (sr st e) Ha (upd Hb a o) (p::ak::ag::al::ad::at_::ah::ap::cs))->Q .non (upd Hb a o):=λHa Hb a o g ha hW=>by
   have fr:∀b∈p::ak::ag::al::ad::at_::ah::ap::cs,Ha b=none/\Hb b≠none:=λb hb=>by
    obtain⟨ob,e1,e2⟩:=o2 b hb;exact#[g.still e2 e1,by rw[g.big _ _ e1];simp]
   refine q Ha (upd Hb a o) _ g.e8 (λb u e=>?_) g.new (λb hb=>#[(fr b hb).1,?_,.inl hb]) (λb u e hb=>?_) (hW xd rfl)
   ·rw[aO (bG e (fr a ha).1)];exact g.sub b u e
   ·by_cases hba:b=a
    ·subst hba;rw[bh];simp
    ·rw[aO hba];exact(fr b hb).2
   ·rw[aO (λz=>hb (by rw[z];exact ha))];exact g.big b u e
  have Wg:∀Ha Hb,c6 H2 fS Ha Hb->PlW K p st Ha Hb C dx ak ag al ad at_ ah ap cs xd:=λHa Hb g=>by
   have M:=CM.mono (K:=K) (p:=p) (st:=st) H2 fS Ha Hb (p::ak::ag::al::ad::at_::ah::ap::cs) #[C,dx,ak,ag,al,ad,at_,ah,ap,cs,xd,rfl,IY,W] g.e8 (λa ha=>by
    obtain⟨o,e1,_⟩:=o2 a ha;exact g.big.eq (by rw[f2.ent.big _ _ e1];simp))
   exact#[g.big _ _ W.ins,W.cls,W.tq,g.big _ _ W.ki,g.big _ _ W.ga,g.big _ _ W.li,g.big _ _ W.de,W.dr.mono g.e8,g.big _ _ W.ti,g.big _ _ W.ho,W.hl,g.big _ _ W.pa,λi c q e1 e2=>by
    obtain⟨xs,h1,h2⟩:=W.ce i c q e1 e2;exact#[xs,g.big _ _ h1,h2.mono g.e8]]
  obtain⟨lk1,lk2,lk3,lk4,lk5,lk6⟩:=YD (ak:=ak) (ag:=ag) (al:=al) (ad:=ad) (at_:=at_) (ah:=ah) (ap:=ap);have lf:=bH (n:=20) (dm e);cases e with
  |kind m kk=>
   refine cx (Rm f2 (j8 hr lf 2 rfl (jv _)) λHa Hb g=>?_)
   have Wa:=Wg Ha Hb g;have hz:(uH st).length<sizeLine:=eL (by unfold uH;rw[ai];have:=ok.kn;omega)
   refine cx (Rn (f2.grow g) hr 0 rfl Wa.ins Wa.cls (Wa.tq _ ∎) lk1 Wa.ki (aj 3 rfl) (vh 1 2 rfl rfl) hz λv Hc Hd g2 r=>?_)
   have Wd:=Wg Hc Hd (g.trans g2);have hv:=Rep.Qr r;subst hv;refine fin Hc Hd ak _ (f2.ent.trans (g.trans g2)) (by simp) λ_ _=>#[C,dx,ak,ag,al,ad,at_,ah,ap,cs,xd,rfl,IY,?_]
   have hn:ic (uH st) (bo m)=none:=vG λq' FP=>by
    obtain⟨q0,h0,rfl⟩:=av.mp FP;intro z
    injection z with z
    exact oa (by rw[<-z];exact av.mpr #[q0,h0,rfl])
   refine#[by rw[aO pk];exact Wd.ins,Wd.cls,Wd.tq,?_,by rw[aO (bT kg)];exact Wd.ga,by rw[aO (bT kl)];exact Wd.li,by rw[aO (bT kd)];exact Wd.de,Wd.dr,by rw[aO (bT kt)];exact Wd.ti,by rw[aO (bT kh)];exact Wd.ho,Wd.hl,by rw[aO (bT kp)];exact Wd.pa,λi c q' e1 e2=>?_]
   ·rw[bh]
    show some (HO.dK (putK (uH st) (bo m) (Qq kk)))=some (.dK ((st.kinds ++ [(m,kk)]).map _));rw[u9 _ hn,aN];rfl
   ·obtain⟨xs,h1,h2⟩:=Wd.ce i c q' e1 e2
    exact#[xs,by rw[aO (λz=>kc (by rw[<-z];exact aQ e1))];exact h1,h2]
  |gate m=>
   refine cx (uK f2 (.refl f2.sub) hr lf 2 rfl (fW (show("gate":Str)≠"kind" by symm)) λYG YH Qs Qt=>?_)
   refine cx (EF Qs Qt hr lf 2 rfl (jv _) λVJ VL Qu Nq=>?_)
   have Wa:=Wg VJ VL Nq;have hz:(st.gates.map V.str).length<sizeLine:=eL (by rw[ai];have:=ok.gn;omega)
   refine cx (DY Qu 0 rfl Wa.ins Wa.cls (Wa.tq _ ∎) lk2 Wa.ga (aj 3 rfl) hz λv Hc Hd g9 r=>?_)
   have Wd:=Wg Hc Hd (Nq.trans g9);cases r;refine fin Hc Hd ag _ (f2.ent.trans (Nq.trans g9)) (by simp) λ_ _=>#[C,dx,ak,ag,al,ad,at_,ah,ap,cs,xd,rfl,IY,?_]
   refine#[by rw[aO (pg)];exact Wd.ins,Wd.cls,Wd.tq,by rw[aO (kg)];exact Wd.ki,?_,by rw[aO (bT gl)];exact Wd.li,by rw[aO (bT gd)];exact Wd.de,Wd.dr,by rw[aO (bT gt)];exact Wd.ti,by rw[aO (bT gh)];exact Wd.ho,Wd.hl,by rw[aO (bT gp)];exact Wd.pa,λi c q' e1 e2=>?_]
   ·rw[bh]
    show some (HO.lst (st.gates.map V.str ++ [V.str m]))=some (.lst ((st.gates ++ [m]).map V.str));rw[aN];rfl
   ·obtain⟨xs,h1,h2⟩:=Wd.ce i c q' e1 e2
    exact#[xs,by rw[aO (λz=>gc (by rw[<-z];exact aQ e1))];exact h1,h2]
  |line m rr=>
   refine cx (uK f2 (.refl f2.sub) hr lf 2 rfl (fW (show("line":Str)≠"kind" by symm)) λYG YH Qs Qt=>?_)
   refine cx (uK Qs Qt hr lf 2 rfl (fW (show("line":Str)≠"gate" by symm)) λVJ VL Qu Nq=>?_)
   refine cx (EF Qu Nq hr lf 2 rfl (jv _) λYJ YK UY Qv=>?_)
   have Wa:=Wg YJ YK Qv;have hz:(uI st).length<sizeLine:=eL (by unfold uI;rw[ai];have:=ok.ln;omega)
   refine cx (Rn UY hr 0 rfl Wa.ins Wa.cls (Wa.tq _ ∎) lk3 Wa.li (aj 3 rfl) (vh 1 2 rfl rfl) hz λv Hc Hd g9 r=>?_)
   have Wd:=Wg Hc Hd (Qv.trans g9);cases r;refine fin Hc Hd al _ (f2.ent.trans (Qv.trans g9)) (by simp) λ_ _=>#[C,dx,ak,ag,al,ad,at_,ah,ap,cs,xd,rfl,IY,?_]
   have hn:ic (uI st) (bo m)=none:=vG λq' FP=>by
    obtain⟨q0,h0,rfl⟩:=av.mp FP;intro z
    injection z with z
    exact oa (.inr (by rw[<-z];exact av.mpr #[q0,h0,rfl]))
   refine#[by rw[aO (pl)];exact Wd.ins,Wd.cls,Wd.tq,by rw[aO (kl)];exact Wd.ki,by rw[aO (gl)];exact Wd.ga,?_,by rw[aO (bT ld)];exact Wd.de,Wd.dr,by rw[aO (bT lt)];exact Wd.ti,by rw[aO (bT lh)];exact Wd.ho,Wd.hl,by rw[aO (bT lp)];exact Wd.pa,λi c q' e1 e2=>?_]
   ·rw[bh]
    show some (HO.dK (putK (uI st) (bo m) (V.int rr)))=some (.dK ((st.lines ++ [(m,rr)]).map _));rw[u9 _ hn,aN];rfl
   ·obtain⟨xs,h1,h2⟩:=Wd.ce i c q' e1 e2
    exact#[xs,by rw[aO (λz=>lc (by rw[<-z];exact aQ e1))];exact h1,h2]
  |desk q0=>
   refine cx (uK f2 (.refl f2.sub) hr lf 2 rfl (fW (show("desk":Str)≠"kind" by symm)) λYG YH Qs Qt=>?_)
   refine cx (uK Qs Qt hr lf 2 rfl (fW (show("desk":Str)≠"gate" by symm)) λVJ VL Qu Nq=>?_)
   refine cx (uK Qu Nq hr lf 2 rfl (fW (show("desk":Str)≠"line" by symm)) λYJ YK UY Qv=>?_)
   refine cx (EF UY Qv hr lf 2 rfl (jv _) λZV ZW YL UZ=>?_)
   have Wa:=Wg ZV ZW UZ;have Ul:=Wa.dr.length;rw[ai]at Ul;have hz:xd.length<sizeLine:=eL (by have:=ok.dn;omega)
   have M8:L2.cutD (aS "desk"::Ent.rest (.desk q0)) (some 1) none=Ent.rest (.desk q0):=(mj (aS "desk"::Ent.rest (.desk q0)) 1).trans rfl;refine cx (DY (d:=fz q0) YL 0 rfl Wa.ins Wa.cls (Wa.tq _ ∎) lk4 Wa.de (VE.to (wc (aj 1 rfl) (.yes aJ) .no ?_) (by show fc (L2.cutD (aS "desk"::Ent.rest (.desk q0)) (some 1) none)=_;rw[M8];rfl)) hz λv Hc Hd g9 r=>?_)
   ·intro z
    have:=z.1;rw[show(1:Int)=((1:Nat):Int)from rfl,HT.p_]at this
    exact qQ7 this (by show ¬(min 1 5=0);decide)
   have Wd:=Wg Hc Hd (UZ.trans g9);refine fin Hc Hd ad _ (f2.ent.trans (UZ.trans g9)) (by simp) λ_ _=>#[C,dx,ak,ag,al,ad,at_,ah,ap,cs,xd ++ [v],rfl,IY,?_]
   refine#[by rw[aO (pd)];exact Wd.ins,Wd.cls,Wd.tq,by rw[aO (kd)];exact Wd.ki,by rw[aO (gd)];exact Wd.ga,by rw[aO (ld)];exact Wd.li,bh,?_,by rw[aO (bT dt)];exact Wd.ti,by rw[aO (bT dh)];exact Wd.ho,Wd.hl,by rw[aO (bT dp)];exact Wd.pa,λi c q' e1 e2=>?_]
   ·show b9 K Hc (xd ++ [v]) ((st.desks ++ [q0]).map fz)
    rw[aN];exact Wd.dr.append (.cons r .nil)
   ·obtain⟨xs,h1,h2⟩:=Wd.ce i c q' e1 e2
    exact#[xs,by rw[aO (λz=>dc (by rw[<-z];exact aQ e1))];exact h1,h2]
  |time dk ZX wk=>
   refine cx (uK f2 (.refl f2.sub) hr lf 2 rfl (fW (show("time":Str)≠"kind" by symm)) λYG YH Qs Qt=>?_)
   refine cx (uK Qs Qt hr lf 2 rfl (fW (show("time":Str)≠"gate" by symm)) λVJ VL Qu Nq=>?_)
   refine cx (uK Qu Nq hr lf 2 rfl (fW (show("time":Str)≠"line" by symm)) λYJ YK UY Qv=>?_)
   refine cx (uK UY Qv hr lf 2 rfl (fW (show("time":Str)≠"desk" by symm)) λZV ZW YL UZ=>?_)
   refine cx (EF YL UZ hr lf 2 rfl (jv _) λHa5 Hb5 ff5 ZY=>?_)
   have Wa:=Wg Ha5 Hb5 ZY;have hz:(uJ st).length<sizeLine:=eL (by unfold uJ;rw[ai];have:=ok.tn;omega)
   refine cx (Uk ff5 hr 0 rfl Wa.ins Wa.cls (Wa.tq _ ∎) lk5 Wa.ti (aj 3 rfl) (vh 1 2 rfl rfl) (vh 1 3 rfl rfl) hz λv t Hc Hd g9 ht r=>?_)
   have gt9:c6 H2 fS Hc (upd Hd t (.tup [.str dk,.str ZX])):=(ZY.trans g9).trans (.loose g9.sub ht);have Wd:=Wg Hc _ gt9;cases r;refine fin Hc _ at_ _ (f2.ent.trans gt9) (by simp) λ_ _=>#[C,dx,ak,ag,al,ad,at_,ah,ap,cs,xd,rfl,IY,?_]
   have hn:ic (uJ st) (Aq (dk,ZX))=none:=vG λq' FP=>by
    obtain⟨q0,h0,rfl⟩:=av.mp FP;intro z;have:=DV z;exact oa.1 (by rw[<-this];exact av.mpr #[q0,h0,rfl])
   refine#[by rw[aO (pt)];exact Wd.ins,Wd.cls,Wd.tq,by rw[aO (kt)];exact Wd.ki,by rw[aO (gt)];exact Wd.ga,by rw[aO (lt)];exact Wd.li,by rw[aO (dt)];exact Wd.de,Wd.dr,?_,by rw[aO (bT th)];exact Wd.ho,Wd.hl,by rw[aO (bT tp)];exact Wd.pa,λi c q' e1 e2=>?_]
   ·rw[bh]
    show some (HO.dT (putK (uJ st) (Aq (dk,ZX)) (V.int wk)))=some (.dT ((st.times ++ [(dk,ZX,wk)]).map _));rw[u9 _ hn,aN];rfl
   ·obtain⟨xs,h1,h2⟩:=Wd.ce i c q' e1 e2
    exact#[xs,by rw[aO (λz=>tc (by rw[<-z];exact aQ e1))];exact h1,h2]
  |hour dk ha hb=>
   refine cx (uK f2 (.refl f2.sub) hr lf 2 rfl (fW (show("open":Str)≠"kind" by symm)) λYG YH Qs Qt=>?_)
   refine cx (uK Qs Qt hr lf 2 rfl (fW (show("open":Str)≠"gate" by symm)) λVJ VL Qu Nq=>?_)
   refine cx (uK Qu Nq hr lf 2 rfl (fW (show("open":Str)≠"line" by symm)) λYJ YK UY Qv=>?_)
   refine cx (uK UY Qv hr lf 2 rfl (fW (show("open":Str)≠"desk" by symm)) λZV ZW YL UZ=>?_)
   refine cx (uK YL UZ hr lf 2 rfl (fW (show("open":Str)≠"time" by symm)) λHa5 Hb5 ff5 ZY=>?_)
   refine cx (EF ff5 ZY hr lf 2 rfl (jv _) λHa6 Hb6 ff6 YM=>?_)
   have Wa:=Wg Ha6 Hb6 YM;have hll:=GX st.hours;have F6:=EE st.hours;have okh:=ok.hn;have hz:(gk (fF st.hours) cs).length<sizeLine:=eL (by unfold gk;rw[ai,List.length_zip];omega)
   have M8:L2.cutD (aS "open"::Ent.rest (.hour dk ha hb)) (some 2) none=[.int ha,.int hb]:=(mj (aS "open"::Ent.rest (.hour dk ha hb)) 2).trans rfl;have ha0:Ha6 ah=none:=by
    obtain⟨o,e1,e2⟩:=o2 ah (by simp)
    exact(f2.ent.trans YM).still e2 e1
   have Jy:fF (st.hours ++ [(dk,ha,hb)])=sj (fF st.hours) dk (ha,hb):=GW _ _;have Nr:=zF (ha,hb) dk W.hl;refine cx (Mv (d:=pairD (ha,hb)) ff6 0 rfl Wa.ins Wa.cls (Wa.tq _ ∎) lk6 Wa.ho (aj 3 rfl) (VE.to (wc (aj 1 rfl) (.yes aJ) .no ?_) (by show fc (L2.cutD (aS "open"::Ent.rest (.hour dk ha hb)) (some 2) none)=_;rw[M8];rfl)) hz rfl ha0 (λv hv=>?_) (λc xs v t Hc Hd Gd Ot htt g9 ht0 r=>?_) (λv c Hc Hd Gd ZK s9 s10 nw old ZZ hdc hc0 ha9 r=>?_))
   ·intro z
    have:=z.1;rw[show(2:Int)=((2:Nat):Int)from rfl,HT.p_]at this
    exact qQ7 this (by show ¬(min 2 4=0);decide)
   ·rcases Nr with⟨h1,_⟩|⟨i,c,q',h1,h2,h3,h4⟩
    ·have hv:ic (gk (fF st.hours) cs) (bo dk)=some v:=hv
     rw[h1]at hv;cases hv
    ·have hv:some v=some (V.ref c):=hv.symm.trans h3
     cases hv;obtain⟨xs,x1,x2⟩:=Wa.ce i c q' h2 h1;refine#[c,xs,rfl,x1,eL ?_]
     have:=x2.length;rw[ai]at this;have:=F6 q' (aQ h1);omega
   ·rcases Nr with⟨h1,_⟩|⟨i,c',q',h1,h2,h3,h4⟩
    ·have Gd:ic (gk (fF st.hours) cs) (bo dk)=some (V.ref c):=Gd
     rw[h1]at Gd;cases Gd
    ·have Gd:some (V.ref c')=some (V.ref c):=h3.symm.trans Gd
     cases Gd;have Wd:=Wg Hc Hd (YM.trans g9);have Wz:c∈cs:=aQ h2;obtain⟨xs',x1,x2⟩:=Wd.ce i c q' h2 h1;have ex:xs'=xs:=by
      have:=g9.big _ _ Ot;rw[this]at x1;cases x1;rfl
     subst ex;have hil:i<(fF st.hours).length:=(aH.mp h1).1
     have GY:fF (sr st (.hour dk ha hb)).hours=(fF st.hours).set i (q'.1,q'.2 ++ [(ha,hb)]):=by
      show fF (st.hours ++ [(dk,ha,hb)])=_;rw[Jy,h4]
     refine fin Hc Hd c _ (f2.ent.trans (YM.trans g9)) (by simp[Wz]) λ_ _=>#[C,dx,ak,ag,al,ad,at_,ah,ap,cs,xd,rfl,IY,?_]
     have nc:∀x,x∉cs->x≠c:=λx hx z=>hx (by rw[z];exact Wz)
     refine#[by rw[aO (nc _ pc)];exact Wd.ins,Wd.cls,Wd.tq,by rw[aO (nc _ kc)];exact Wd.ki,by rw[aO (nc _ gc)];exact Wd.ga,by rw[aO (nc _ lc)];exact Wd.li,by rw[aO (nc _ dc)];exact Wd.de,Wd.dr,by rw[aO (nc _ tc)];exact Wd.ti,?_,?_,by rw[aO (nc _ apc)];exact Wd.pa,λj c2 q2 e1 e2=>?_]
     ·rw[aO (nc _ hc),Wd.ho,GY]
      congr 2
      refine(xu ?_).symm
      rw[qZ];refine je λn=>?_
      by_cases hn:n=i
      ·subst hn;rw[bf (by rw[ai];exact hil),aG,h1];rfl
      ·rw[a9 (bT hn)]
     ·rw[GY,nJ];exact Wd.hl
     ·rw[GY]at e2
      by_cases hj:j=i
      ·subst hj
       rw[h2]at e1;cases e1;rw[bf hil]at e2
       cases e2;refine#[xs' ++ [v],bh,?_]
       rw[aN];exact x2.append (.cons r .nil)
      ·rw[a9 (bT hj)]at e2
       obtain⟨ys,y1,y2⟩:=Wd.ce j c2 q2 e1 e2;have DM:c2≠c:=λz=>by
        subst z;have l1:=aH.mp e1
        have l2:=aH.mp h2
        obtain⟨l1a,l1b⟩:=l1;obtain⟨l2a,l2b⟩:=l2;rcases Nat.lt_or_gt_of_ne hj with mL|mL
        ·exact o9.mp ncs j i l1a l2a mL (by rw[l1b,l2b])
        ·exact o9.mp ncs i j l2a l1a mL (by rw[l1b,l2b])
       exact#[ys,by rw[aO DM];exact y1,y2]
   ·rcases Nr with⟨h1,h4⟩|⟨i,c',q',h1,h2,h3,h4⟩
    ·have gH:=f2.ent.trans YM
     have hcH:H c=none:=gH.big.free ZK;have Qw:c∉p::ak::ag::al::ad::at_::ah::ap::cs:=λz=>by
      obtain⟨o,e1,_⟩:=o2 c z;rw[hcH]at e1;cases e1
     have GY:fF (sr st (.hour dk ha hb)).hours=fF st.hours ++ [(dk,[(ha,hb)])]:=by
      show fF (st.hours ++ [(dk,ha,hb)])=_;rw[Jy,h4]
     have zcu:∀x∈p::ak::ag::al::ad::at_::ah::ap::cs,Hc x=none:=λx hx=>by
      obtain⟨o,e1,e2⟩:=o2 x hx;have:Ha6 x=none:=gH.still e2 e1;cases e:Hc x with
      |none=>rfl
      |some u=>
       rcases nw x (by rw[e];simp)with z|z
       ·exact qQ7 this z
       ·rw[gH.big _ _ e1]at z;cases z
     have RP:∀x∈p::ak::ag::al::ad::at_::ah::ap::cs,x≠ah->∀u,Hb6 x=some u->(upd Hd c (.lst [v])) x=some u:=λx hx Z0 u e=>by
      rw[aO (λz=>Qw (by rw[<-z];exact hx))];exact old x u e Z0
     refine q Hc (upd Hd c (.lst [v])) (p::ak::ag::al::ad::at_::ah::ap::(cs ++ [c])) (gH.e8.trans s9) (λb u e=>?_) (λb z=>?_) (λx hx=>?_) (λb u e T8=>?_) #[C,dx,ak,ag,al,ad,at_,ah,ap,cs ++ [c],xd,rfl,?_,?_]
     ·rw[aO (bG e hc0)];exact s10 b u e
     ·rcases nw b z with z|z
      ·exact gH.new b z
      ·exact .inr (gH.big.free z)
     ·have hx:x∈(p::ak::ag::al::ad::at_::ah::ap::cs) ++ [c]:=by simpa using hx
      rcases aR.mp hx with hx|hx
      ·refine#[zcu x hx,?_,.inl hx]
       rw[aO (λz=>Qw (by rw[<-z];exact hx))]
       obtain⟨o,e1,_⟩:=o2 x hx;by_cases Z0:x=ah
       ·rw[Z0,ZZ];simp
       ·rw[old x o (gH.big _ _ e1) Z0];simp
      ·rw[aW.mp hx]
       exact#[hc0,by rw[bh];simp,.inr hcH]
     ·have hbc:b≠c:=λz=>by rw[z,hcH]at e;cases e
      rw[aO hbc];exact old b u (gH.big _ _ e) (λz=>T8 (by rw[z];simp))
     ·have:(p::ak::ag::al::ad::at_::ah::ap::(cs ++ [c]))=(p::ak::ag::al::ad::at_::ah::ap::cs) ++ [c]:=by simp
      rw[this,cF];exact#[IY,by simp,λx hx y hy z=>Qw (by rw[<-aW.mp hy,<-z];exact hx)]
     ·refine#[RP p (by simp) ph _ Wa.ins,Wa.cls,Wa.tq,RP ak (by simp) kh _ Wa.ki,RP ag (by simp) gh _ Wa.ga,RP al (by simp) lh _ Wa.li,RP ad (by simp) dh _ Wa.de,Wa.dr.mono s9,RP at_ (by simp) th _ Wa.ti,?_,?_,RP ap (by simp) (bT hp) _ Wa.pa,λj c2 q2 e1 e2=>?_]
      ·have ZZ:Hd ah=some (.dK (putK (gk (fF st.hours) cs) (bo dk) (.ref c))):=ZZ
       rw[aO (λz=>Qw (by rw[<-z];simp)),ZZ,GY,u9 _ h1,GV W.hl]
      ·rw[GY,aV,aV,W.hl];rfl
      ·rw[GY]at e2
       by_cases hj:j<cs.length
       ·rw[bX hj]at e1
        rw[bX (by rw[<-W.hl];exact hj)]at e2
        obtain⟨ys,y1,y2⟩:=Wa.ce j c2 q2 e1 e2;have hm:c2∈cs:=aQ e1;exact#[ys,RP c2 (by simp[hm]) (λz=>hc (by rw[<-z];exact hm)) _ y1,y2.mono s9]
       ·have hl:=W.hl
        have hj2:j=cs.length:=by
         have:=(aH.mp e1).1
         rw[aV,fH]at this;omega
        subst hj2;rw[bS (aP _),rA]at e1
        rw[bS ∅,show cs.length-(fF st.hours).length=0 from by omega]at e2
        cases e1;cases e2;exact#[[v],bh,.cons r .nil]
    ·have Gd:ic (gk (fF st.hours) cs) (bo dk)=none:=Gd
     rw[h3]at Gd;cases Gd
end
def GZ:Pl:=#[[],[],[],[],[],[]]
def zH(es:List Ent)(i:Nat):Pl:=(es.take i).foldl sr GZ
theorem Ks{es:List Ent}{i:Nat}(h:es[i]?=some e):zH es (i+1)=sr (zH es i) e:=by
 unfold zH;rw[ck,h,f6];rfl
theorem Nt(es:List Ent):zH es es.length=es.foldl sr GZ:=by unfold zH;rw[c9]
structure YN(es:List Ent):Prop where
 ent:∀e∈es,tW e
 pl:∀i,i<=es.length->lF (zH es i)
 add:∀(i:Nat)e,es[i]?=some e->zC (zH es i) e
section
variable{P:bA}{w:cg}{K:ao}{mg:Str->Option aD}{base:cM}{f:aF}{k:Nat}
structure PlC(P:bA)(w:cg)(K:ao)(mg:Str->Option aD)(base:cM):Prop where
 ex:∃C fi fd,mg "Plant"=some (.ref C)/\qM K C/\(∀f∈ZT,eK K C f)/\Mk K C fi/\dW P w K mg base gS 1 fi fd ["self"] (Nn C)/\Binds K fd ["self"] []
abbrev Nrp:List Str:=["text","plant","number","words","entry","word"]
theorem RQ:cn Nrp ["text"] (a_ (top 32)):=by grind
def Rrp(ds:List ae)(d:ae):Prop:=∃(x:Str)(es:List Ent),ds=[.str x]/\x5 x/\(rowsOf x).map (·.2)=es.map GP/\YN es/\d=iJ (es.foldl sr GZ)
theorem zcw(F:jQ K "read_plant" "read_plant" (top 32) f fd)(n:Np mg w.params K)(T:PlC P w K mg base)(C1:bD P w K mg base 2 "rows_of" ["text"] (F1 K Rro))(C2:bD P w K mg base 8 "entry_of" ["words"] (gu K Reo))(C3:bD P w K mg base 3 "fault_of" EB (gu K Rfo))(C4:bD P w K mg base 1 "add_entry" EB (Mt K Pl (CM K) RM)):dW P w K mg base gS 9 f fd ["text"] (gu K Rrp):=
 iY F RQ (by ext) λ_ _ h=>by
  obtain⟨x,es,rfl,ox,RV,U0,rfl⟩:=h;intro e7 A outer s H E hr;have nd:Nrp.Nodup:=RQ.nd;obtain⟨C,fi,fdi,mC,cl,na,M,FI,bI⟩:=T.ex;have hlen:(rowsOf x).length=es.length:=by have:=qQ6 dC RV;simpa using this
  refine vm λB0 B σ H0 Hh D fr okD=>?_
  refine bM (Uj 1 M FI (hr.mono ∅) mC bI (λp dx E' hp hdx ZU=>?_) nd)
  refine#[p,dx,rfl,bh,λak ag al ad at_ ah ap H' mid=>#[rfl,?_]]
  have Dp:∀b,(upd (upd Hh dx (.own p)) p (.ins C dx [])) b=none->Hh b=none:=λb hb=>by
   have h1:b≠p:=λz=>by rw[z,bh]at hb;cases hb
   rw[aO h1]at hb;have h2:b≠dx:=λz=>by rw[z,bh]at hb;cases hb
   rwa[aO h2]at hb
  have RW:∀b o,Hh b=some o->H' b=some o:=λb o e=>by
   have h1:b≠p:=bG e hp;refine mid.old b o ?_ h1
   rw[aO h1,aO (bG e hdx)];exact e
  have G0:OF K B0 B (CM K p (zH es 0)) H0 H' (σ.set 1 (some (.ref p))) [.val (.str x),.ref p,.un,.un,.un,.un]:=by
   refine#[(fr.grow (#[RW,cK.refl _,λb u e=>RW b u (fr.sub b u e),λ_ z=>.inl z])).uv (i:=1) rfl rfl,rfl,_,λa ha=>?_,C,dx,ak,ag,al,ad,at_,ah,ap,[],[],rfl,by simpa using mid.nd,?_]
   ·have Nu:Hh a=none/\H' a≠none:=by
     rcases ax.mp ha with rfl|ha
     ·exact#[hp,by rw[mid.ins];simp]
     ·have ha':∃q∈[(ak,HO.dK []),(ag,.lst []),(al,.dK []),(ad,.lst []),(at_,.dT []),(ah,.dK []),(ap,.dK [])],q.1=a:=by
       simp only[ax,a8,or_false]at ha;rcases ha with rfl|rfl|rfl|rfl|rfl|rfl|rfl<;>simp
      obtain⟨q,hq,rfl⟩:=ha';exact#[Dp _ (mid.fresh q hq),by rw[mid.ob q hq];simp]
    exact#[fr.sub.free Nu.1,fr.ent.big.free Nu.1,Nu.2]
   ·exact#[mid.ins,cl,na,mid.ob (ak,.dK []) (by simp),mid.ob (ag,.lst []) (by simp),mid.ob (al,.dK []) (by simp),mid.ob (ad,.lst []) (by simp),.nil,mid.ob (at_,.dT []) (by simp),mid.ob (ah,.dK []) (by simp),rfl,mid.ob (ap,.dK []) (by simp),λi c q e1=>by simp at e1]
  refine bM (vo (tgt:=.tup [2,3]) (λi=>CM K p (zH es i)) (λi=>CM.mono) G0 bU rfl (dY (VO.ve (oO C1 (hr.mono ∅) (aq (aj 0 rfl) aU) #[x,rfl,ox,rfl])))
   (gY rfl (bZ (gX 2 nd) (bZ (gX 3 nd) fM))) (λi d hd=>?_) (λσ2 Ha Hb G=>?_))
  ·obtain⟨r,hri,rfl⟩:∃r,(rowsOf x)[i]?=some r/\d=IJ r:=by
    rw[aG]at hd
    cases e:(rowsOf x)[i]? with
    |none=>rw[e]at hd;cases hd
    |some r=>rw[e]at hd;cases hd;exact#[r,rfl,rfl]
   have hil:i<(rowsOf x).length:=(aH.mp hri).1
   have Vo:es[i]?=some es[i]:=au ∅
   have hw:r.2=GP es[i]:=by
    have h1:((rowsOf x).map (·.2))[i]?=some r.2:=by rw[aG,hri];rfl
    rw[RV,aG,Vo]at h1
    exact(cD h1).symm
   have oe:=U0.ent _ (dP (by omega:i<es.length))
   have oa:=U0.add i _ Vo;have op:=U0.pl i ∅
   generalize es[i]=e at *
   refine#[_,rfl,rfl,λD C0 σ' cZ cV G q=>?_]
   refine bM (Cd CM.mono G (df 4 (bK C2 hr (aq (aj 3 rfl) aU) #[e,by rw[hw];rfl,oe,rfl]) nd) rfl λσ1 YG YH G1=>?_)
   refine bM (Ug CM.mono G1 1 5 rfl CM.rep (bK C3 (hr.mono ∅) (aq (aj 1 rfl) (aq (aj 4 rfl) aU)) #[zH es i,e,rfl,op,oe,oa,rfl]) rfl rfl (λσ2 VJ VL G2=>?_) nd)
   refine bM (Cd CM.mono G2 (bP (VT.to (oK hr dG dG (aj 5 rfl) bw) (qQ6 (λb=>!b) (jv _))) bB) rfl λσ3 YJ YK G3=>?_)
   refine cx (Xw C4 (hr.mono ∅) G3 CM.mono 1 rfl (aj 4 rfl) #[e,rfl,op,oe,oa,(Ks Vo)] λZV ZW G4=>?_)
   exact q _ _ _ (G4.forget CM.mono #[.inr rfl,.inr rfl,.inl rfl,.inl rfl,.inl rfl,.inl rfl,trivial] rfl)
  ·have e:zH es ((rowsOf x).map IJ).length=es.foldl sr GZ:=by rw[ai,hlen,Nt]
   rw[e]at G;exact cx (Rk G 1 rfl CM.rep okD)
end
end Mg
namespace Mg
open L2 PySem PyProof.Rows
variable{many nn:Nat}{p:Pl}
structure qI(p:Pl):Prop where
 kn:(p.kinds.map (·.1)).Nodup
 pn:(p.gates++p.lines.map (·.1)).Nodup
 dn:(p.desks.map (·.name)).Nodup
 dk:∀d∈p.desks,GQ d/\(∀x∈d.places,x∈p.gates++p.lines.map (·.1))/\(d.to=""\/∃r,(d.to,r)∈p.lines/\iH d.rule d.places.length<=r)
 dj:(p.desks.map (·.places)).flatten.Nodup
 tn:(p.times.map λq=>(q.1,q.2.1)).Nodup
 tm:∀q∈p.times,q.1∈p.desks.map (·.name)/\q.2.1∈p.kinds.map (·.1)/\1<=q.2.2
 hr:∀q∈p.hours,q.1∈p.desks.map (·.name)/\q.2.1<q.2.2
 kk:∀q∈p.kinds,∀i,q.2=some i->1<=i/\dg i
 ll:∀q∈p.lines,1<=q.2
def EG(p:Pl):List Ent:=p.kinds.map (λq=>Ent.kind q.1 q.2)++p.gates.map Ent.gate++p.lines.map (λq=>Ent.line q.1 q.2)++p.desks.map Ent.desk++p.times.map (λq=>Ent.time q.1 q.2.1 q.2.2)++p.hours.map (λq=>Ent.hour q.1 q.2.1 q.2.2)
def tX:Pl->List Ent->Prop
 |st,[]=>lF st
 |st,e::es=>lF st/\tW e/\zC st e/\tX (sr st e) es
theorem tX.app:∀{A B:List Ent}{st:Pl},tX st A->tX (A.foldl sr st) B->tX st (A++B)
 | [],_,_,_,h=>h
 |_::_,_,_,#[h1,h2,h3,h4],h=>#[h1,h2,h3,h4.app h]
theorem tX.es:∀{es:List Ent}{st:Pl},tX st es->(∀e∈es,tW e)/\(∀i,i<=es.length->lF ((es.take i).foldl sr st))/\∀(i:Nat)e,es[i]?=some e->zC ((es.take i).foldl sr st) e
 | [],st,h=>#[λe he=>(by cases he),λi hi=>by rw[List.take_nil];exact h,λi e he=>by simp at he]
 |e::es,st,#[h1,h2,h3,h4]=>by
  obtain⟨a,b,c⟩:=h4.es;refine#[λx hx=>?_,λi hi=>?_,λi x hx=>?_]
  ·rcases ax.mp hx with rfl|hx
   ·exact h2
   ·exact a x hx
  ·cases i with
   |zero=>exact h1
   |succ i=>exact b i ↑hi
  ·cases i with
   |zero=>cases hx;exact h3
   |succ i=>exact c i x ↑hx
theorem seg{α:Type}(mk:α->Ent)(put:List α->Pl)(h1:∀l x,sr (put l) (mk x)=put (l ++ [x]))(l:List α)(hok:∀pre x post,l=pre++x::post->lF (put pre)/\tW (mk x)/\zC (put pre) (mk x))(zcx:lF (put l)):
  tX (put []) (l.map mk)/\(l.map mk).foldl sr (put [])=put l:=by
 have go:∀(rest pre:List α),l=pre++rest->tX (put pre) (rest.map mk)/\(rest.map mk).foldl sr (put pre)=put l:=by
  intro rest
  induction rest with
  |nil=>intro pre e;rw[cy]at e;subst e;exact#[zcx,rfl]
  |cons x rest ih=>
   intro pre e;obtain⟨a,b,c⟩:=hok pre x rest e;obtain⟨i1,i2⟩:=ih (pre ++ [x]) (by rw[e];simp)
   rw[ay];refine#[#[a,b,c,?_],?_]
   ·rwa[h1]
   ·rwa[nH,h1]
 exact go l [] rfl
theorem kJ{q: Pl}(h:lF p)(k1:q.kinds.length<=p.kinds.length)(k2:∀x∈q.kinds,x∈p.kinds)(g1:q.gates.length<=p.gates.length)(g2:∀x∈q.gates,x∈p.gates)(l1:q.lines.length<=p.lines.length)(l2:∀x∈q.lines,x∈p.lines)(d1:q.desks.length<=p.desks.length)(d2:∀x∈q.desks,x∈p.desks)(t1:q.times.length<=p.times.length)(t2:∀x∈q.times,x∈p.times)(h1:q.hours.length<=p.hours.length)(h2:∀x∈q.hours,x∈p.hours):lF q:=
 #[bQ k1 h.kn,bQ g1 h.gn,bQ l1 h.ln,bQ d1 h.dn,bQ t1 h.tn,bQ h1 h.hn,λx hx=>h.kinds x (k2 x hx),λx hx=>h.gates x (g2 x hx),λx hx=>h.lines x (l2 x hx),λx hx=>h.desks x (d2 x hx),λx hx=>h.times x (t2 x hx),λx hx=>h.hours x (h2 x hx)]
theorem zI{κ:Type}[DecidableEq κ]:∀{kvs:List (κ×ae)}{k:κ}{v:ae},(kvs.map (·.1)).Nodup->(k,v)∈kvs->iT kvs k=some v
 | [],_,_,_,h=>by cases h
 |q::l,k,v,nd,h=>by
  rw[ay,bY]at nd;rcases ax.mp h with rfl|h
  ·exact fy rfl
  ·rw[cL (λe=>nd.1 (by rw[e];exact av.mpr #[(k,v),h,rfl]))]
   exact zI nd.2 h
theorem wI{α:Type}{l pre post:List α}{x:α}(e:l=pre++x::post):pre.length<=l.length/\∀y∈pre,y∈l:=by
 subst e;exact#[by rw[aV];omega,λy hy=>bF _ hy]
theorem lG{α β:Type}{f:α->β}{l pre post:List α}{x:α}(nd:(l.map f).Nodup)(e:l=pre++x::post):f x∉pre.map f:=by
 subst e;rw[aN,ay,cF]at nd;intro z;exact nd.2.2 _ z _ aM rfl
theorem Nv(ok:lF p)(g:qI p):tX GZ (EG p)/\(EG p).foldl sr GZ=p:=by
 have n0:∀{α:Type}(x:α),x∈([])->False:=λx h=>by cases h
 have s1:=seg (λq:Str×Option Int=>Ent.kind q.1 q.2) (λl=>#[l,[],[],[],[],[]]) (λ_ _=>rfl) p.kinds (λpre x post e=>by
  obtain⟨e1,e2⟩:=wI e;have hx:x∈p.kinds:=by rw[e];simp
  exact#[kJ ok e1 e2 (bx _) (λx h=>(n0 x h).elim) (bx _) (λx h=>(n0 x h).elim) (bx _) (λx h=>(n0 x h).elim) (bx _) (λx h=>(n0 x h).elim) (bx _) (λx h=>(n0 x h).elim),#[(ok.kinds x hx).1,g.kk x hx],lG g.kn e])
  (kJ ok (aP _) (λ_ h=>h) (bx _) (λx h=>(n0 x h).elim) (bx _) (λx h=>(n0 x h).elim) (bx _) (λx h=>(n0 x h).elim) (bx _) (λx h=>(n0 x h).elim) (bx _) (λx h=>(n0 x h).elim))
 have pn:=g.pn;rw[cF]at pn;have s2:=seg Ent.gate (λl=>#[_,l,[],[],[],[]]) (λ_ _=>rfl) p.gates (λpre x post e=>by
  obtain⟨e1,e2⟩:=wI e;have hx:x∈p.gates:=by rw[e];simp
  refine#[kJ ok (aP _) (λ_ h=>h) e1 e2 (bx _) (λx h=>(n0 x h).elim) (bx _) (λx h=>(n0 x h).elim) (bx _) (λx h=>(n0 x h).elim) (bx _) (λx h=>(n0 x h).elim),ok.gates x hx,?_]
  rintro(h|h)
  ·have:=lG (f:=id) ↑pn.1 e
   exact this ↑h
  ·cases h)
  (kJ ok (aP _) (λ_ h=>h) (aP _) (λ_ h=>h) (bx _) (λx h=>(n0 x h).elim) (bx _) (λx h=>(n0 x h).elim) (bx _) (λx h=>(n0 x h).elim) (bx _) (λx h=>(n0 x h).elim))
 have s3:=seg (λq:Str×Int=>Ent.line q.1 q.2) (λl=>#[_,_,l,[],[],[]]) (λ_ _=>rfl) p.lines (λpre x post e=>by
  obtain⟨e1,e2⟩:=wI e;have hx:x∈p.lines:=by rw[e];simp
  refine#[kJ ok (aP _) (λ_ h=>h) (aP _) (λ_ h=>h) e1 e2 (bx _) (λx h=>(n0 x h).elim) (bx _) (λx h=>(n0 x h).elim) (bx _) (λx h=>(n0 x h).elim),#[(ok.lines x hx).1,g.ll x hx,(ok.lines x hx).2],?_]
  rintro(h|h)
  ·exact pn.2.2 _ h _ (av.mpr #[x,hx,rfl]) rfl
  ·exact lG pn.2.1 e h)
  (kJ ok (aP _) (λ_ h=>h) (aP _) (λ_ h=>h) (aP _) (λ_ h=>h) (bx _) (λx h=>(n0 x h).elim) (bx _) (λx h=>(n0 x h).elim) (bx _) (λx h=>(n0 x h).elim))
 have s4:=seg Ent.desk (λl=>#[_,_,_,l,[],[]]) (λ_ _=>rfl) p.desks (λpre x post e=>by
  obtain⟨e1,e2⟩:=wI e;have hx:x∈p.desks:=by rw[e];simp
  obtain⟨q1,q2,q3⟩:=g.dk x hx;refine#[kJ ok (aP _) (λ_ h=>h) (aP _) (λ_ h=>h) (aP _) (λ_ h=>h) e1 e2 (bx _) (λx h=>(n0 x h).elim) (bx _) (λx h=>(n0 x h).elim),q1,lG g.dn e,λy hy hz=>?_,λy hy=>aR.mp (q2 y hy),?_]
  ·obtain⟨d,hd,hyd⟩:=hz
   have dj:=g.dj;rw[e,aN,List.flatten_append,cF]at dj;exact dj.2.2 y (List.mem_flatten.mpr #[d.places,av.mpr #[d,hd,rfl],hyd]) y (List.mem_flatten.mpr #[x.places,by simp,hy]) rfl
  ·rcases q3 with h|⟨r,h,hr⟩
   ·exact .inl h
   ·refine .inr #[r,zI ?_ (av.mpr #[(x.to,r),h,rfl]),hr]
    rw[nF];exact pn.2.1)
  (kJ ok (aP _) (λ_ h=>h) (aP _) (λ_ h=>h) (aP _) (λ_ h=>h) (aP _) (λ_ h=>h) (bx _) (λx h=>(n0 x h).elim) (bx _) (λx h=>(n0 x h).elim))
 have s5:=seg (λq:Str×Str×Int=>Ent.time q.1 q.2.1 q.2.2) (λl=>#[_,_,_,_,l,[]]) (λ_ _=>rfl) p.times (λpre x post e=>by
  obtain⟨e1,e2⟩:=wI e;have hx:x∈p.times:=by rw[e];simp
  obtain⟨q1,q2,q3⟩:=g.tm x hx;obtain⟨r1,r2,r3⟩:=ok.times x hx;exact#[kJ ok (aP _) (λ_ h=>h) (aP _) (λ_ h=>h) (aP _) (λ_ h=>h) (aP _) (λ_ h=>h) e1 e2 (bx _) (λx h=>(n0 x h).elim),#[r1,r2,q3,r3],lG g.tn e,q1,q2])
  (kJ ok (aP _) (λ_ h=>h) (aP _) (λ_ h=>h) (aP _) (λ_ h=>h) (aP _) (λ_ h=>h) (aP _) (λ_ h=>h) (bx _) (λx h=>(n0 x h).elim))
 have s6:=seg (λq:Str×Int×Int=>Ent.hour q.1 q.2.1 q.2.2) (λl=>#[_,_,_,_,_,l]) (λ_ _=>rfl) p.hours (λpre x post e=>by
  obtain⟨e1,e2⟩:=wI e;have hx:x∈p.hours:=by rw[e];simp
  obtain⟨q1,q2⟩:=g.hr x hx;obtain⟨r1,r2,r3⟩:=ok.hours x hx;exact#[kJ ok (aP _) (λ_ h=>h) (aP _) (λ_ h=>h) (aP _) (λ_ h=>h) (aP _) (λ_ h=>h) (aP _) (λ_ h=>h) e1 e2,#[r1,r2,r3,q2],q1])
  ok
 unfold EG;simp only[cp];refine#[s1.1.app ?_,?_]
 ·rw[s1.2]
  refine s2.1.app ?_
  rw[s2.2];refine s3.1.app ?_
  rw[s3.2];refine s4.1.app ?_
  rw[s4.2];refine s5.1.app ?_
  rw[s5.2];exact s6.1
 ·rw[f6,show GZ=#[[],[],[],[],[],[]]from rfl,s1.2,f6,s2.2,f6,s3.2,f6,s4.2,f6,s5.2,s6.2]
theorem YQ(ok:lF p)(g:qI p):YN (EG p):=by
 obtain⟨a,b,c⟩:=(Nv ok g).1.es;exact#[a,b,c]
theorem gb{x y:Str}{c:Nat}(h1:c∉x.cps.toList)(h2:c∉y.cps.toList):c∉(x++y).cps.toList:=by rw[add_list,aR];exact λz=>z.elim h1 h2
theorem vH{c:Nat}{y:Str}(hy:c∉y.cps.toList):∀{l:List Str},(∀x∈l,c∉x.cps.toList)->c∉(cX y l).cps.toList
 | [],_=>by show c∉([]);simp
 | [x],h=>h x aM
 |x::z::l,h=>by
  exact gb (gb (h x aM) hy) (vH hy λu hu=>h u (aT _ hu))
theorem G_(ok:lF p):(∀r∈dZ p,10∉r.cps.toList)/\(dZ p).map wordsOf=(EG p).map GP:=by
 have nn:∀{x:Str},dQ x->10∉x.cps.toList:=λh=>(gO h).2.2
 have dn:∀{d:ae},GF d->10∉(fA d).cps.toList:=λh=>(sP h).2.2
 have nm:∀{i:Int},dg i->10∉(ej i).cps.toList:=λh=>(nX h.1 h.2).2.2
 constructor
 ·intro r hr
  unfold dZ n_ at hr;simp only[aR,av]at hr;rcases hr with((((⟨q,hq,rfl⟩|⟨q,hq,rfl⟩)|⟨q,hq,rfl⟩)|⟨q,hq,rfl⟩)|⟨q,hq,rfl⟩)|⟨q,hq,rfl⟩
  ·obtain⟨h1,h2⟩:=ok.kinds q hq
   exact gb (gb (gb ∎ (nn h1)) ∎) (dn h2)
  ·exact gb ∎ (nn (ok.gates q hq))
  ·obtain⟨h1,h2⟩:=ok.lines q hq
   exact gb (gb (gb ∎ (nn h1)) ∎) (nm h2)
  ·obtain⟨h1,h2,h3,h4,h5⟩:=ok.desks q hq
   refine gb (gb (gb (gb (gb (gb (gb ∎ (nn h1)) ∎) (dn (d:=.str q.to) h2)) ∎) (vH ∎ λx hx=>(uF h3 x hx).2.2)) ∎) (vH ∎ λx hx=>nn (h5 x hx))
  ·obtain⟨h1,h2,h3⟩:=ok.times q hq
   refine vH ∎ λx hx=>?_
   simp only[ax,a8,or_false]at hx;rcases hx with rfl|rfl|rfl|rfl
   ·symm
   ·exact nn h1
   ·exact nn h2
   ·exact nm h3
  ·obtain⟨h1,h2,h3⟩:=ok.hours q hq
   refine vH ∎ λx hx=>?_
   simp only[ax,a8,or_false]at hx;rcases hx with rfl|rfl|rfl|rfl
   ·symm
   ·exact nn h1
   ·exact nm h2
   ·exact nm h3
 ·unfold dZ n_ EG
  simp only[aN,aB]
  congr 1
  congr 1
  congr 1
  congr 1
  congr 1
  ·exact cW λq hq=>GH (ok.kinds q hq)
  ·exact cW λq hq=>GJ (ok.gates q hq)
  ·exact cW λq hq=>GK (ok.lines q hq)
  ·exact cW λq hq=>GL (ok.desks q hq)
  ·exact cW λq hq=>GN (ok.times q hq)
  ·exact cW λq hq=>GO (ok.hours q hq)
theorem Qx(e:Ent):(GP e).isEmpty=false:=by cases e<;>rfl
theorem Kt(l:List Str):∀k,((l.zipIdx k).filterMap λp=>if(wordsOf p.1).isEmpty then none else some (p.2,wordsOf p.1)).map (·.2)=(l.map wordsOf).filter λws=>!ws.isEmpty:=by
 induction l with
 |nil=>intro k;rfl
 |cons x l ih=>
  intro k;rw[List.zipIdx_cons,ay,eE];cases hx:(wordsOf x).isEmpty with
  |true=>rw[hU (by simp only[hx];rfl),ih];rfl
  |false=>rw[ef (by simp only[hx];rfl),ay,ih];rfl
theorem EH(ok:lF p)(hk:p.kinds≠[]):(rowsOf (oV p)).map (·.2)=(EG p).map GP:=by
 obtain⟨h1,h2⟩:=G_ ok;unfold oV;rw[Kk (λz=>?_) h1,Kt,h2,nO.mpr]
 ·intro ws M7
  obtain⟨e,_,rfl⟩:=av.mp M7;rw[Qx];rfl
 ·unfold dZ n_ at z
  cases hkk:p.kinds with
  |nil=>exact hk hkk
  |cons q l=>rw[hkk]at z;simp at z
theorem Hg(m:Int)(k:Nat):(tS m k).cps.toList=(stemOf m).cps.toList.take (m/624%(1+m/78%8)).toNat++(97+((m/3+5*k)%26).toNat)::(stemOf m).cps.toList.drop (m/624%(1+m/78%8)+1).toNat:=by
 have hl:(stemOf m).cps.toList.length=(1+m/78%8).toNat:=by rw[wD m,cU]
 have p1:0<=m/624%(1+m/78%8):=cJ _ ∅
 have p2:m/624%(1+m/78%8)<1+m/78%8:=dF _ ∅
 have e1:mJ _ none _=_:=Dl #[p1,by rw[hl];omega]
 have e2:mJ _ (some (m/624%(1+m/78%8)+1)) none=_:=BH #[∅,by rw[hl];omega]
 unfold tS;rw[e1,e2]
 show((_++_++_:Array Nat)).toList=_
 simp only[HJ,kT,Int.sub_zero,Ef,one];rw[c0 (l:=List.drop _ _) (by rw[cN];omega),cp]
 rfl
theorem xx{β:Type}{f:Nat->β}:∀{n:Nat},(∀i j,i<n->j<n->f i=f j->i=j)->((aX n).map f).Nodup:=by
 intro n h;rw[List.Nodup,List.pairwise_map,o9];intro i j hi hj yj e;rw[cG]at hi hj;rw[List.getElem_range,List.getElem_range]at e;exact qQ7 (h i j hi hj e) ∅
theorem o4(cell:Int)(hm:many<=26):(namesOf cell many).Nodup:=by
 unfold namesOf
 split
 ·refine xx λi j hi hj e=>?_
  have e1:∀k,(nameA (cQ cell 3) many k).cps.toList=aY (many-k) _:=λk=>Cv _ _
  have:=qQ6 (λx:Str=>x.cps.toList.length) e
  simp[e1,cU]at this;omega
 ·refine xx λi j hi hj e=>?_
  have:=qQ6 (λx:Str=>x.cps.toList) e
  simp only[Hg]at this;have:=List.append_cancel_left this;have:=(iK this).1
  generalize cQ cell 3/3=a at *
  omega
theorem uL(l:List Str):(aX l.length).map (λk=>l.getD k "")=l:=by
 refine je λi=>?_
 rw[aG]
 by_cases h:i<l.length
 ·rw[fu h,au h]
  show some (l.getD i "")=_;rw[aI,au h];rfl
 ·rw[eO ↑h,eO ↑h];rfl
theorem xA{α:Type}:∀(L:List (List α))(i:Nat)(j:Nat)(y:α),i<L.length->(L.set i (rR (L.getD i []) j y)).flatten.Perm (y::L.flatten)
 | [],i,_,_,h=>by simp at h
 |r::L,0,j,y,_=>by
  show(rR r j y++L.flatten).Perm (y::(r++L.flatten))
  have:(rR r j y).Perm (y::r):=by
   exact List.perm_middle.trans (by rw[gK])
  exact this.append_right _
 |r::L,i+1,j,y,h=>by
  show(r++(L.set i _).flatten).Perm (y::(r++L.flatten))
  exact((xA L i j y ↑h).append_left r).trans List.perm_middle
theorem zJ(cell:Int)(h1:1<=nn)(places:List Str):∀k,k<=places.length->(dR cell nn places k).flatten.Perm (places.take k)
 |0,_=>by
  show(aY nn ([])).flatten.Perm []
  rw[List.flatten_replicate_nil]
 |k+1,hk=>by
  have e:places.take (k+1)=places.take k ++ [places.getD k ""]:=by
   rw[ck,au ∅,aI,au ∅];rfl
  rw[e];refine(xA _ _ _ _ (by rw[gC];exact Bf cell h1 k)).trans ?_
  exact((zJ cell h1 places k ∅).cons _).trans ((List.perm_append_singleton _ _).symm)
theorem vI(cell:Int)(h1:1<=nn)(places:List Str):∀k,∀j,j<k->j<nn->(dR cell nn places k).getD j []≠[]
 |0,_,h,_=>∅
 |k+1,j,hj,hn=>by
  have ex:∀(L:List (List Str))(i:Nat)(r:List Str),L.length=nn->(L.set i r).getD j []=if i=j then r else L.getD j []:=λL i r e=>by
   rw[aI,List.getElem?_set]
   by_cases yj:i=j
   ·subst yj;rw[qQ3 rfl,qQ3 ∅,qQ3 rfl];rfl
   ·rw[qQ2 yj,qQ2 yj,aI]
  show((dR cell nn places k).set _ _).getD j []≠[]
  rw[ex _ _ _ (gC cell nn places k)]
  split
  ·intro z
   have:=qQ6 dC z;rw[xn]at this;simp at this
  ·rename_i DM
   by_cases Ib:j<k
   ·exact vI cell h1 places k j Ib hn
   ·exfalso
    apply DM;have:j=k:=∅
    subst this;unfold fZ;rw[qQ3 hn]
theorem Ku(m:Int):sf (kB m many) many:=by
 unfold kB
 split
 ·rename_i h;exact h.2
 ·split
  ·exact#[∅,gv _ 1 ⋯ ⋯ ⋯,oh _ ⋯ ⋯]
  ·split
   ·exact#[∅,gv _ 1 ⋯ ⋯ ⋯]
   ·split
    ·split
     ·trivial
     ·exact oh _ ⋯ ⋯
    ·split
     ·refine#[by simp,λz hz=>?_]
      obtain⟨k,_,rfl⟩:=av.mp hz;unfold Cw;omega
     ·trivial
theorem EI(cell:Int)(places lines:List Str):(kD cell places lines).map (·.name)=namesOf (cQ cell 31) (kC cell places.length):=by
 unfold kD;rw[aB];have:=uL (namesOf (cQ cell 31) (kC cell places.length));rwa[gB]at this
theorem CN(cell:Int)(places lines:List Str):(kD cell places lines).map (·.places)=dR cell (kC cell places.length) places places.length:=by
 unfold kD;rw[aB];have hl:=gC cell (kC cell places.length) places places.length;refine je λi=>?_
 rw[aG]
 by_cases h:i<kC cell places.length
 ·rw[fu h]
  show some ((dR cell _ places places.length).getD i [])=_;rw[aI,au ∅];rfl
 ·rw[eO ↑h,eO ∅];rfl
theorem zK(c:Int)(g0:List Dk)(kinds:List (Str×Option Int))(hk:(kinds.map (·.1)).Nodup)(hd:(g0.map (·.name)).Nodup):∀i,i<=g0.length->((fV c g0 kinds i).map λq=>(q.1,q.2.1)).Nodup/\∀q∈fV c g0 kinds i,q.1∈(g0.take i).map (·.name)/\q.2.1∈kinds.map (·.1)/\1<=q.2.2
 |0,_=>#[by simp[fV],λq hq=>by simp[fV]at hq]
 |i+1,hi=>by
  obtain⟨a,b⟩:=zK c g0 kinds hk hd i ∅
  have hg:g0[i]?=some g0[i]:=au ∅
  rw[qv hg,ck,hg];have row:∀j,((fQ (cQ c (110+i)) g0[i].name kinds j).map λq=>(q.1,q.2.1)).Nodup/\∀q∈fQ (cQ c (110+i)) g0[i].name kinds j,q.1=g0[i].name/\q.2.1∈(kinds.take j).map (·.1)/\1<=q.2.2:=by
   intro j
   induction j with
   |zero=>exact#[by simp[fQ],λq hq=>by simp[fQ]at hq]
   |succ j ih=>
    by_cases hj:j<kinds.length
    ·have U1:=au hj
     rw[tU U1,ck,U1];unfold uB
     split
     ·rw[aN]
      refine#[?_,λq hq=>?_]
      ·rw[cF]
       refine#[ih.1,by simp,λx hx y hy z=>?_]
       obtain⟨q,hq,rfl⟩:=av.mp hx;have h2:=(ih.2 q hq).2.1;have hy:y=(g0[i].name,kinds[j].1):=by simpa using hy
       rw[hy]at z;have z2:q.2.1=kinds[j].1:=qQ6 (λw:Str×Str=>w.2) z
       rw[z2]at h2;have:kinds=kinds.take j++kinds[j]::kinds.drop (j+1):=by rw[E9,gK]
       exact lG hk this h2
      ·rcases aR.mp hq with hq|hq
       ·obtain⟨h1,h2,h3⟩:=ih.2 q hq
        exact#[h1,by rw[aN];exact bF _ h2,h3]
       ·have hq:q=(g0[i].name,kinds[j].1,1+cQ c (110+i)/(j*j+2)%6):=by simpa using hq
        rw[hq];refine#[rfl,by rw[aN];exact bu _ (av.mpr #[kinds[j],aW.mpr rfl,rfl]),?_]
        have:=cJ (cQ c (110+i)/(j*j+2)) (b:=6) ⋯
        show 1<=1+cQ c _/(j*j+2)%6;omega
     ·refine#[by simpa using ih.1,λq hq=>?_]
      obtain⟨h1,h2,h3⟩:=ih.2 q ↑hq
      exact#[h1,by rw[aN];exact bF _ h2,h3]
    ·have e1:fQ (cQ c (110+i)) g0[i].name kinds (j+1)=fQ (cQ c (110+i)) g0[i].name kinds j:=by
      unfold fQ;rw[c0 (by simp;omega),c0 (by simp;omega)]
     rw[e1,c0 ∅]
     rwa[c0 ∅]at ih
  obtain⟨r1,r2⟩:=row kinds.length;rw[c9]at r2;have Jy:g0[i].name∉(g0.take i).map (·.name):=by
   have:g0=g0.take i++g0[i]::g0.drop (i+1):=by rw[E9,gK]
   exact lG hd this
  refine#[?_,λq hq=>?_]
  ·rw[aN,cF]
   refine#[a,r1,λx hx y hy z=>?_]
   obtain⟨q,hq,rfl⟩:=av.mp hx;obtain⟨q2,Fb,rfl⟩:=av.mp hy;have z1:=qQ6 (λw:Str×Str=>w.1) z
   have:=(b q hq).1;rw[z1,(r2 q2 Fb).1]at this;exact Jy this
  ·rcases aR.mp hq with hq|hq
   ·obtain⟨h1,h2,h3⟩:=b q hq
    exact#[by rw[aN];exact bF _ h1,h2,h3]
   ·obtain⟨h1,h2,h3⟩:=r2 q hq
    exact#[by rw[h1,aN];exact bu _ (av.mpr #[g0[i],aW.mpr rfl,rfl]),h2,h3]
theorem zL{α:Type}:∀{L:List (List α)},L.flatten.Nodup->∀r∈L,r.Nodup
 | [],_,r,h=>by cases h
 |x::L,nd,r,h=>by
  rw[eJ,cF]at nd;rcases ax.mp h with rfl|h
  ·exact nd.1
  ·exact zL nd.2.1 r h
theorem Kv(ns:List Int):qI (c7 ns):=by
 obtain⟨k1,k4⟩:=mh (lC ns);obtain⟨g1,g3⟩:=jq (er ns);obtain⟨p1,p6⟩:=kF (er ns);have Oc:(nr ns).length=(placesOf (er ns)).length:=by
  unfold nr orderOf;rw[aV,cN,bJ];have:=sN (er ns) ∅
  omega
 have pnd:(placesOf (er ns)).Nodup:=o4 _ ∅
 have hpm:(nr ns).Perm (placesOf (er ns)):=by
  exact List.perm_append_comm.trans (by rw[gK])
 have U2:(gL ns).map (·.1)=namesOf (lC ns) (iO (lC ns)):=by
  unfold gL qp;rw[aB];have:=uL (namesOf (lC ns) (iO (lC ns)));rwa[gB]at this
 have knd:((gL ns).map (·.1)).Nodup:=by rw[U2];exact o4 _ ∅
 obtain⟨m1,m4,mp⟩:=lZ (lO ns) (n:=(nr ns).length) ∅
 have dnd:((eY ns).map (·.name)).Nodup:=by rw[EI (lO ns) (nr ns) (eC ns)];exact o4 _ ∅
 have tp:=zJ (lO ns) m1 (nr ns) _ (aP _);rw[c9]at tp;have dj:((eY ns).map (·.places)).flatten.Nodup:=by
  rw[CN (lO ns) (nr ns) (eC ns)];exact(tp.trans hpm).nodup_iff.mpr pnd
 have Ei:∀d∈eY ns,_:=λd hd=>IV ∅ ∅ hd
 have YR:∀d∈eY ns,d.places≠[]/\d.places.Nodup/\sf d.rule d.places.length:=λd hd=>by
  refine#[?_,?_,?_]
  ·obtain⟨k,hk,rfl⟩:=av.mp hd
   have hk:=bW.mp hk;exact vI _ m1 _ _ k ∅ hk
  ·exact zL dj _ (av.mpr #[d,hd,rfl])
  ·obtain⟨k,hk,rfl⟩:=av.mp hd
   exact Ku _
 have tk:=zK (lO ns) _ _ knd dnd _ (aP _)
 generalize hD:eY ns=g0 at *
 have e0:c7 ns=#[gL ns,kE (er ns),(aX (eC ns).length).map (roomAt (er ns) g0 (eC ns)),g0,fV (lO ns) g0 (gL ns) g0.length,hZ (lO ns) g0 g0.length]:=by rw[<-hD];rfl
 have Ym:((aX (eC ns).length).map (roomAt (er ns) g0 (eC ns))).map (·.1)=eC ns:=by
  rw[aB];exact uL _
 have gl:kE _++eC ns=placesOf _:=gK _ _;rw[e0];rw[c9]at tk;refine#[knd,by rw[Ym,gl];exact pnd,dnd,λd hd=>?_,dj,tk.1,tk.2,λq hq=>?_,λq hq i hi=>?_,λq hq=>?_]
 ·obtain⟨a1,a2,a3,a4,a5,a6⟩:=Ei d hd
  obtain⟨f1,f2,f3⟩:=YR d hd;have hpx:=λx hx=>hpm.mem_iff.mp (a5 x hx)
  refine#[#[a1,?_,f3,?_,∅,f2,λx hx=>jY (hpx x hx)],λx hx=>by rw[Ym,gl];exact hpx x hx,?_]
  ·rcases aR.mp a2 with h|h
   ·exact .inr ((λx hx=>jY (eX hx)) _ h)
   ·exact .inl (aW.mp h)
  ·cases hp:d.places with
   |nil=>exact qQ7 hp f1
   |cons _ _=>simp
  ·rcases aR.mp a2 with h|h
   ·obtain⟨k,hk,he⟩:=tK.mp h
    have hgd:(eC ns).getD k ""=d.to:=by rw[aI,au hk,he];rfl
    refine .inr #[(roomAt (er ns) g0 (eC ns) k).2,av.mpr #[k,bW.mpr hk,?_],?_]
    ·show roomAt _ g0 _ k=(d.to,_)
     rw[<-hgd];rfl
    ·show _<=maxOf _+cQ _ (20+k)%3
     have:=(qu (jo g0 ((eC ns).getD k ""))).2 _ (aT _ (ka.mpr #[d,hd,by rw[hgd,qQ1 rfl];rfl]))
     omega
   ·exact .inl (aW.mp h)
 ·obtain⟨⟨d,i⟩,hd,hq⟩:=yf.mp hq
  have Yd:=jI (ez hd);unfold jT at hq
  split at hq
  ·rcases ax.mp hq with rfl|hq
   ·exact#[av.mpr #[d,Yd,rfl],by show _%9<9+_%20;omega]
   ·rw[aW.mp hq]
    exact#[av.mpr #[d,Yd,rfl],by show 25+_%20<50+_%40;omega]
  ·cases hq
 ·obtain⟨k,hk,rfl⟩:=av.mp hq
  have hi:uA _=some i:=hi;unfold uA at hi
  split at hi
  ·cases hi
   exact#[∅,gv _ 1 ⋯ ⋯ ⋯]
  ·cases hi
 ·obtain⟨k,hk,rfl⟩:=av.mp hq
  show 1<=maxOf _+_%3;have:=(qu (jo g0 ((eC ns).getD k ""))).2 1 aM
  omega
theorem om(ns:List Int):(c7 ns).kinds≠[]/\(c7 ns).gates≠[]:=by
 obtain⟨k1,k4⟩:=mh (lC ns);obtain⟨g1,g3⟩:=jq (er ns);obtain⟨p1,p6⟩:=kF (er ns);refine#[λz=>?_,λz=>?_]
 ·have:=qQ6 dC z
  have:(gL ns).length=0:=this;simp[qp,ai,cG]at this;omega
 ·have:=qQ6 dC z
  have:(kE _).length=0:=this;unfold kE at this;rw[bJ]at this;omega
end Mg
namespace Mg
open L2 PySem PyProof.Rows
seal L2.VE L2.VS L2.xV L2.VT L2.VO L2.N_
variable{fd:eU}{kl:List (Str×List ae)}{day:List iP}{d:ae}{m x:Str}{v:V}
theorem gR(x y:Str):(x++y).length=x.length+y.length:=by simp only[cq]
theorem h_{y: Str}(h1:nV x)(h2:nV y):nV (x++y):=(nq _).mpr λc hc=>by
 rw[add_list]at hc;rcases aR.mp hc with hc|hc
 ·exact(nq _).mp h1 c hc
 ·exact(nq _).mp h2 c hc
theorem pO{y:Str}(hy:nV y):∀{l:List Str},(∀x∈l,nV x)->nV (cX y l)
 | [],_=>(nq _).mpr λc hc=>by cases hc
 | [x],h=>h x aM
 |x::z::l,h=>h_ (h_ (h x aM) hy) (pO hy λu hu=>h u (aT _ hu))
theorem fX(h:cw (.str x)=true:=by symm):nV x:=h
theorem Kw{p:Pl}(ok:lF p):∀r∈dZ p,nV r/\r.length<=1400:=by
 intro r hr;have nn:∀{x:Str},dQ x->nV x/\x.length<=8:=λh=>#[h.ok.2,h.short]
 have dn:∀{d:ae},GF d->nV _/\(fA d).length<=8:=λh=>#[(vD h).2,jZ h]
 have nm:∀{i:Int},dg i->nV _/\(ej i).length<=6:=λh=>#[(o3 h.1 h.2).2,gP h]
 unfold dZ n_ at hr;simp only[aR,av]at hr;rcases hr with((((⟨q,hq,rfl⟩|⟨q,hq,rfl⟩)|⟨q,hq,rfl⟩)|⟨q,hq,rfl⟩)|⟨q,hq,rfl⟩)|⟨q,hq,rfl⟩
 ·obtain⟨h1,h2⟩:=ok.kinds q hq
  refine#[h_ (h_ (h_ fX (nn h1).1) fX) (dn h2).1,?_]
  have a:=(nn h1).2;have b:=(dn h2).2;unfold qz;rw[gR,gR,gR,show("kind ":Str).length=5 from by decide,show(" ":Str).length=1 from by decide]
  omega
 ·have h1:=ok.gates q hq
  refine#[h_ fX (nn h1).1,?_]
  have a:=(nn h1).2;unfold ny;rw[gR,show("gate ":Str).length=5 from by decide]
  omega
 ·obtain⟨h1,h2⟩:=ok.lines q hq
  refine#[h_ (h_ (h_ fX (nn h1).1) fX) (nm h2).1,?_]
  have a:=(nn h1).2;have b:=(nm h2).2;unfold nz;rw[gR,gR,gR,show("line ":Str).length=5 from by decide,show(" ":Str).length=1 from by decide]
  omega
 ·obtain⟨h1,h2,h3,h4,h5⟩:=ok.desks q hq
  refine#[h_ (h_ (h_ (h_ (h_ (h_ (h_ fX (nn h1).1) fX) (dn (d:=.str q.to) h2).1) fX) (pO fX λx hx=>(Ew h3 x hx).2)) fX) (pO fX λx hx=>(nn (h5 x hx)).1),?_]
  have a:=(nn h1).2;have b:=(dn (d:=.str q.to) h2).2;have c:=nZ h3;have d:=g6 (y:=(" ")) ⋯ λx hx=>(nn (h5 x hx)).2
  unfold lP nY;rw[gR,gR,gR,gR,gR,gR,gR,show("desk ":Str).length=5 from by decide,show(" to ":Str).length=4 from by decide,show(" by ":Str).length=4 from by decide,show(" from ":Str).length=6 from by decide]
  omega
 ·obtain⟨h1,h2,h3⟩:=ok.times q hq
  have YS:∀x∈[("time":Str),q.1,q.2.1,ej q.2.2],nV x/\x.length<=8:=λx hx=>by
   simp[ax,a8,or_false]at hx;rcases hx with rfl|rfl|rfl|rfl
   ·exact#[fX,⋯]
   ·exact nn h1
   ·exact nn h2
   ·exact#[(nm h3).1,by have:=(nm h3).2;omega]
  refine#[pO fX λx hx=>(YS x hx).1,?_]
  have:=g6 (y:=(" ")) ⋯ λx hx=>(YS x hx).2
  unfold nD;simp[bR,dA]at this;omega
 ·obtain⟨h1,h2,h3⟩:=ok.hours q hq
  have YS:∀x∈[("open":Str),q.1,ej q.2.1,ej q.2.2],nV x/\x.length<=8:=λx hx=>by
   simp[ax,a8,or_false]at hx;rcases hx with rfl|rfl|rfl|rfl
   ·exact#[fX,⋯]
   ·exact nn h1
   ·exact#[(nm h2).1,by have:=(nm h2).2;omega]
   ·exact#[(nm h3).1,by have:=(nm h3).2;omega]
  refine#[pO fX λx hx=>(YS x hx).1,?_]
  have:=g6 (y:=(" ")) ⋯ λx hx=>(YS x hx).2
  unfold oU;simp[bR,dA]at this;omega
theorem Kx(ns:List Int):(dZ (c7 ns)).length<=44:=by
 obtain⟨k1,k4⟩:=mh (lC ns);obtain⟨p1,p6⟩:=kF (er ns);have Oc:(nr ns).length=(placesOf (er ns)).length:=by
  unfold nr orderOf;rw[aV,cN,bJ];have:=sN (er ns) (by have:=(jq (er ns)).1;omega)
  omega
 have g1:=(jq (er ns)).1;have UQ:(gL ns).length=iO (lC ns):=by simp[qp]
 have F7:(eY ns).length<=4:=by rw[qy];exact(lZ _ ∅).2.1
 have htl:=qw (lO ns) (eY ns) (gL ns) ∅ _ (aP _)
 have VB:=qx (lO ns) (eY ns) _ (aP _)
 generalize hD:eY ns=g0 at *
 have e0:c7 ns=#[gL ns,kE (er ns),(aX (eC ns).length).map (roomAt (er ns) g0 (eC ns)),g0,fV (lO ns) g0 (gL ns) g0.length,hZ (lO ns) g0 g0.length]:=by rw[<-hD];rfl
 have hg:(kE (er ns)).length+(eC ns).length<=6:=by unfold kE eC linesOf;rw[bJ,cN];omega
 rw[e0];unfold dZ n_;simp;omega
theorem Ky(ns:List Int):x5 (oV (c7 ns)):=by
 have hr:=Kw (CF ns);refine#[?_,pO fX λx hx=>(hr x hx).1]
 have:=g6 (y:="\n") ⋯ λx hx=>(hr x hx).2
 unfold oV;have:(dZ _).length*(1400+1)<=44*1401:=iC (Kx ns) ∅;omega
structure Fs where
 came:Nat
 wait:List (Str×List (Nat×Int))
 loads:List (Str×Option (List Nat×Int))
 turns:List (Str×Int×Int)
variable{s:Fs}
def i_(l:List Nat):List ae:=l.map λ(g:Nat)=>dD (g:Int)
def Nx:Option (List Nat×Int)->ae
 |none=>.none
 |some q=>.tuple [.tuple (i_ q.1),.int q.2]
def zM(q:Int×Int):ae:=.tuple [.int q.1,.int q.2]
def goodW(day:List iP)(g:Nat):iP:=day.getD g (0,"","","")
def x6(day:List iP)(q:Nat×Int):ae:=.tuple [.int (q.1:Int),.int q.2,.str (goodW day q.1).2.2.1,.str (goodW day q.1).2.2.2]
def vJ(day:List iP)(s:Fs):List (Str×List ae):=s.wait.map λq=>(q.1,q.2.map (x6 day))
def lR(s:Fs):List (Str×ae):=s.loads.map λq=>(q.1,Nx q.2)
def CP(s:Fs):List (Str×ae):=s.turns.map λq=>(q.1,zM q.2)
abbrev VM:List Str:=["plant","day","came","waiting","loads","turns"]
def IZ(p:Pl)(day:List iP)(s:Fs)(w:ae):List (Str×ae):=[("plant",iJ p),("day",.list (day.map gM)),("came",.int (s.came:Int)),("waiting",w),("loads",kP (lR s)),("turns",kP (CP s))]
def Hi(C:aF)(p:Pl)(day:List iP)(s:Fs)(w:ae):ae:=J5 C (IZ p day s w)
theorem YT(p:Pl)(day:List iP)(s:Fs)(w:ae):((IZ p day s w).map (·.1)).Nodup:=show VM.Nodup by symm
theorem Ny(p:Pl)(day:List iP)(s:Fs)(w:ae)(h:m∉VM):m∉(IZ p day s w).map (·.1):=h
theorem EJ:∀{fs:List (Str×ae)}{i:Nat}{x:Str}{d:ae},(fs.map (·.1)).Nodup->fs[i]?=some (x,d)->iT fs x=some d
 | [],_,_,_,_,h=>by simp at h
 |q::l,0,x,d,_,h=>by
  have e:q=(x,d):=by simpa using h
  subst e;exact fy rfl
 |q::l,i+1,x,d,hn,h=>by
  obtain⟨n1,n2⟩:=bY.mp hn;have h':l[i]?=some (x,d):=by simpa using h
  exact(cL λz=>n1 (by show q.1∈_;rw[z];exact av.mpr #[_,aQ h',rfl])).trans (EJ n2 h')
theorem su{g:Nat}(h:g<day.length):(day.map gM)[g]?=some (gM (goodW day g)):=by
 unfold goodW;rw[aG,aI,au h];rfl
section
variable{X:Cx}{δ:List Slot}{C:aF}{p:Pl}{day:List iP}{s:Fs}{w:ae}{o:bC}{pos:Pos}
theorem oo(i:Nat){f:Str}(h:VE X o δ (Hi C p day s w))(hf:(IZ p day s w)[i]?=some (f,d))(hb:uS X o f:=by rfl):VE X (.Attribute o f pos) δ d:=P1 h (EJ (YT p day s w) hf) hb
end
structure I0(K:ao)(C:aF):Prop where
 cl:qM K C
 na:∀f∈VM,eK K C f
def Bm(pv:V)(ad aw al at_:aF)(n:Nat):List (Str×V):=[("plant",pv),("day",.ref ad),("came",.int (n:Int)),("waiting",.ref aw),("loads",.ref al),("turns",.ref at_)]
def Qy(ns:List Str)(vs:List V):List (Key×V):=(ns.zip vs).map λz=>(bo z.1,z.2)
theorem yx:∀{ns:List Str}{vs:List V},vs.length=ns.length->(Qy ns vs).map (·.1)=ns.map (λx=>(bo x:Key))/\(Qy ns vs).map (·.2)=vs
 | [],[],_=>#[rfl,rfl]
 | [],_::_,h=>by cases h
 |_::_,[],h=>by cases h
 |q::ns,v::vs,h=>by
  obtain⟨i1,i2⟩:=yx (ns:=ns) (vs:=vs) ↑h
  unfold Qy at i1 i2 ⊢;exact#[by rw[eT,ay,ay,i1];rfl,by rw[eT,ay,ay,i2]]
def o_(K:ao)(C:aF)(p:Pl)(day:List iP)(r aw:aF)(s:Fs):OR:=λH0 H as=>∃dx pv ad al at_ dv lv tv,as=[r,ad,al,at_]/\as.Nodup/\H r=some (.ins C dx (Bm pv ad aw al at_ s.came))/\Rep K H0 pv (iJ p)/\H ad=some (.lst dv)/\b9 K H0 dv (day.map gM)/\H al=some (.dK (Qy (s.loads.map (·.1)) lv))/\b9 K H0 lv (s.loads.map λq=>Nx q.2)/\H at_=some (.dK (Qy (s.turns.map (·.1)) tv))/\b9 K H0 tv (s.turns.map λq=>zM q.2)
def eW(K:ao)(C:aF)(p:Pl)(day:List iP)(r:aF)(s:Fs):OR:=λH0 H as=>∃aw cs,Sep (o_ K C p day r aw s) (DC K aw cs (vJ day s)) H0 H as
section
variable{K:ao}{C:aF}{p:Pl}{day:List iP}{H0 H Ha Hb B0 B:Hp}{r aw:aF}{s:Fs}{as cs:List aF}{σ:L2.St}{δ:List Slot}{F:OR}{w:ae}
theorem o_.mono:cj (o_ K C p day r aw s):=by
 rintro H0 H Ha Hb as ⟨dx,pv,ad,al,at_,dv,lv,tv,rfl,nd,h1,h2,h3,h4,h5,h6,h7,h8⟩ sm e
 exact#[dx,pv,ad,al,at_,dv,lv,tv,rfl,nd,by rw[e r (by simp)];exact h1,h2.mono sm,by rw[e ad (by simp)];exact h3,h4.mono sm,by rw[e al (by simp)];exact h5,h6.mono sm,by rw[e at_ (by simp)];exact h7,h8.mono sm]
theorem o_.nt:yt (o_ K C p day r aw s):=by
 rintro H0 H as ⟨dx,pv,ad,al,at_,dv,lv,tv,rfl,nd,h1,h2,h3,h4,h5,h6,h7,h8⟩ a ha
 simp only[ax,a8,or_false]at ha;unfold vt;rcases ha with rfl|rfl|rfl|rfl
 ·rw[h1];exact λys=>#[nofun,λo=>nofun]
 ·rw[h3];exact λys=>#[nofun,λo=>nofun]
 ·rw[h5];exact λys=>#[nofun,λo=>nofun]
 ·rw[h7];exact λys=>#[nofun,λo=>nofun]
theorem o_.see{a1:List aF}{M:Hp}(c:I0 K C)(sb:cK Ha Hb)(h:o_ K C p day r aw s Ha Hb a1)(hw:Rep K M (.ref aw) w)(sm:cK (jM a1 Hb Ha) M):Rep K M (.ref r) (Hi C p day s w):=by
 obtain⟨dx,pv,ad,al,at_,dv,lv,tv,rfl,nd,h1,h2,h3,h4,h5,h6,h7,h8⟩:=h;have Z1:=(jl (as:=[r,ad,al,at_]) sb).trans sm;have mm:∀x∈[r,ad,al,at_],∀o,Hb x=some o->M x=some o:=λx hx o e=>sm x o (by rw[hX hx];exact e)
 have ll:=h6.length;have lt:=h8.length;rw[ai]at ll lt;obtain⟨k1,k2⟩:=yx (ns:=s.loads.map (·.1)) (vs:=lv) (by rw[ai];exact ll)
 obtain⟨k3,k4⟩:=yx (ns:=s.turns.map (·.1)) (vs:=tv) (by rw[ai];exact lt)
 refine Rep.TF (fs:=Bm pv ad aw al at_ s.came) (mm r (by simp) _ h1) c.cl c.na rfl (.cons (h2.mono Z1) (.cons (.lst (jx.of (mm ad (by simp) _ h3)) (h4.mono Z1)) (.cons (.int _) (.cons hw (.cons ?_ (.cons ?_ .nil))))))
 ·refine Ck (mm al (by simp) _ h5) (by rw[k1];unfold lR;rw[aB,aB];rfl) ?_
  rw[k2];unfold lR;rw[aB];exact h6.mono Z1
 ·refine Ck (mm at_ (by simp) _ h7) (by rw[k3];unfold CP;rw[aB,aB];rfl) ?_
  rw[k4];unfold CP;rw[aB];exact h8.mono Z1
theorem o_.ins(hm:m∉VM)(Ha Hb:Hp)(as:List aF)(h:o_ K C p day r aw s Ha Hb as):∃dx fs,Hb r=some (.ins C dx fs)/\fs.lookup m=none:=by
 obtain⟨dx,pv,ad,al,at_,dv,lv,tv,rfl,nd,h1,_⟩:=h;exact#[dx,_,h1,ux hm]
theorem eW.mono:cj (eW K C p day r s):=by
 rintro H0 H Ha Hb as ⟨aw,cs,h⟩ sm e
 exact#[aw,cs,Sep.mono o_.mono DC.mono _ _ _ _ _ h sm e]
theorem eW.nt:yt (eW K C p day r s):=by
 rintro H0 H as ⟨aw,cs,h⟩
 exact Sep.nt o_.nt DC.nt _ _ _ h
theorem eW.ins(hm:m∉VM)(Ha Hb:Hp)(as:List aF)(h:eW K C p day r s Ha Hb as):∃dx fs,Hb r=some (.ins C dx fs)/\fs.lookup m=none:=by
 obtain⟨aw,cs,a1,a2,rfl,dj,h1,h2⟩:=h;exact o_.ins hm Ha Hb a1 h1
abbrev wtD(day:List iP)(s:Fs):ae:=kP (wz (vJ day s))
theorem o_.zcy(c:I0 K C):qj K (Sep (o_ K C p day r aw s) (DC K aw cs (vJ day s))) r (Hi C p day s (wtD day s)):=by
 rintro Ha Hb as sb ⟨a1,a2,rfl,dj,h1,h2⟩
 exact h1.see c sb ((DC.see Ha Hb a2 sb h2).mono (uy sb λa ha=>bu _ ha)) (uy sb λa ha=>bF _ ha)
theorem eW.see(c:I0 K C):qj K (eW K C p day r s) r (Hi C p day s (wtD day s)):=by
 rintro Ha Hb as sb ⟨aw,cs,h⟩
 exact o_.zcy c Ha Hb as sb h
theorem OF.fl(G:OF K B0 B (eW K C p day r s) H0 H σ δ):∃aw cs,OF K B0 B (Sep (o_ K C p day r aw s) (DC K aw cs (vJ day s))) H0 H σ δ:=by
 obtain⟨as,h1,aw,cs,h2⟩:=G.ex;exact#[aw,cs,G.fr,G.no,as,h1,h2]
theorem OF.fl'(G:OF K B0 B (Sep (o_ K C p day r aw s) (DC K aw cs (vJ day s))) H0 H σ δ):OF K B0 B (eW K C p day r s) H0 H σ δ:=by
 obtain⟨as,h1,h2⟩:=G.ex;exact#[G.fr,G.no,as,h1,aw,cs,h2]
theorem OF.unit(G:OF K B0 B F H0 H σ δ):OF K B0 B (Sep (qW K .none .non) F) H0 H σ δ:=by
 obtain⟨as,h1,h2⟩:=G.ex;exact#[G.fr,G.no,as,h1,[],as,rfl,λa ha=>(by cases ha),#[rfl,.non],h2]
theorem OF.zcz(G:OF K B0 B F H0 H σ δ)(h:Rep K H0 v d):OF K B0 B (Sep (qW K d v) F) H0 H σ δ:=by
 obtain⟨as,h1,h2⟩:=G.ex;exact#[G.fr,G.no,as,h1,[],as,rfl,λa ha=>(by cases ha),#[rfl,h],h2]
end
def zN(p:Pl)(x:Str):Option Int:=((p.kinds.find? λq=>decide (q.1=x)).map (·.2)).getD none
theorem EK{p:Pl}(h:x∈p.kinds.map (·.1)):iT (kH p) x=some (nW (zN p x)):=by
 unfold iT kH zN
 generalize p.kinds=l at h
 induction l with
 |nil=>cases h
 |cons q l ih=>
  rw[ay,cI,cI]
  by_cases e:q.1=x
  ·rw[qQ1 e];rfl
  ·rw[qQ0 e]
   refine ih ?_
   rcases ax.mp h with h|h
   ·exact qQ7 h.symm e
   ·exact h
def wJ(p:Pl)(day:List iP)(g:Nat):Option Int:=(zN p (goodW day g).2.2.1).map λk=>(goodW day g).1+k
def Bn(p:Pl)(day:List iP)(g:Nat)(t:Int):Bool:=match wJ p day g with|none=>false|some x=>decide (x<=t)
structure VN(p:Pl)(day:List iP):Prop where
 gt:∀g,g<day.length->(goodW day g).2.1∈p.gates
 kd:∀g,g<day.length->(goodW day g).2.2.1∈p.kinds.map (·.1)
 dl:day.length<=63
section
variable{P:bA}{w:cg}{K:ao}{mg:Str->Option aD}{base:cM}{f:aF}{k:Nat}{C:aF}
abbrev pP(i:Nat):e6:=inClass (top 50) i
abbrev Nst:List Str:=["self","good","told","keep"]
theorem RX:cn Nst ["self","good"] (a_ (pP 8)):=by grind
def Rst(C:aF)(ds:List ae)(d:ae):Prop:=∃(p:Pl)(day:List iP)(s:Fs)(w:ae)(g:Nat),ds=[Hi C p day s w,.int (g:Int)]/\g<day.length/\(goodW day g).2.2.1∈p.kinds.map (·.1)/\d=nW (wJ p day g)
theorem zcA(F:jQ K "spoil_time" "Floor.spoil_time" (pP 8) f fd):dW P w K mg base gS 1 f fd ["self","good"] (gu K (Rst C)):=
 iY F RX (by ext) λ_ _ h=>by
  obtain⟨p,day,s,w,g,rfl,hg,hk,rfl⟩:=h;intro e7 A outer s0 H E hr;have nd:Nst.Nodup:=RX.nd;refine aK (df 2 (d:=gM (goodW day g)) (fk (oo 1 (aj 0 rfl) rfl) (aj 1 rfl) (cz (su hg))) nd) ?_
  refine aK (df 3 (d:=nW (zN p (goodW day g).2.2.1)) (fN hr (lz (oo 0 (aj 0 rfl) rfl) (zA p)) (vh 2 2 rfl rfl) (EK hk)) nd) ?_
  unfold wJ;cases e:zN p (goodW day g).2.2.1 with
  |none=>exact bp (b_ (wa (k:=true) (VT.to (fY iF kG (aj 3 rfl) eP (eu _)) rfl) (λ_=>eP) (λz=>by cases z)))
  |some i=>exact bp (b_ (wa (k:=false) (VT.to (fY iF kG (aj 3 rfl) eP (eu _)) rfl) (λz=>by cases z) (λ_=>d_ (dq (d:=.int (goodW day g).1) (aj 2 rfl) aJ (cz (j:=0) rfl)) (aj 3 rfl))))
abbrev Nis:List Str:=["self","good","t","time"]
theorem RZ:cn Nis ["self","good","t"] (a_ (pP 9)):=by grind
def Ris(C:aF)(ds:List ae)(d:ae):Prop:=∃(p:Pl)(day:List iP)(s:Fs)(w:ae)(g:Nat)(t:Int),ds=[Hi C p day s w,.int (g:Int),.int t]/\g<day.length/\(goodW day g).2.2.1∈p.kinds.map (·.1)/\d=.bool (Bn p day g t)
theorem zcB(F:jQ K "is_spoilt" "Floor.is_spoilt" (pP 9) f fd)(C1:rT P w K mg base 1 C "spoil_time" ["self","good"] (gu K (Rst C))):dW P w K mg base gS 2 f fd ["self","good","t"] (gu K (Ris C)):=
 iY F RZ (by ext) λ_ _ h=>by
  obtain⟨p,day,s,w,g,t,rfl,hg,hk,rfl⟩:=h;intro e7 A outer s0 H E hr;have nd:Nis.Nodup:=RZ.nd;refine aK (df 3 (d:=nW (wJ p day g)) (Cp C1 hr (aj 0 rfl) (Ny p day s w ∎) (aq (aj 1 rfl) aU) #[p,day,s,w,g,rfl,hg,hk,rfl]) nd) ?_
  unfold Bn;cases e:wJ p day g with
  |none=>exact bp (b_ (VE.to (jL (k1:=false) (k2:=false) (mM uY (B9 (d:=.none)) (aj 3 rfl) eP (eu _)) (λz=>by cases z)) rfl))
  |some i=>exact bp (b_ (VE.to (jL (k1:=true) (mM uY (B9 (d:=.int i)) (aj 3 rfl) eP (eu _)) (λ_=>iG (W9 (aj 2 rfl) (aj 3 rfl)))) rfl))
def x8(s:Fs)(x:Str)(f:List (Nat×Int)->List (Nat×Int)):Fs:={ s with wait:=s.wait.map λq=>if q.1=x then(q.1,f q.2)else q }
def zO(s:Fs)(x:Str):List (Nat×Int):=((s.wait.find? λq=>decide (q.1=x)).map (·.2)).getD []
theorem Nz(hn:(s.wait.map (·.1)).Nodup)(hx:x∈s.wait.map (·.1)):∃j,s.wait[j]?=some (x,zO s x)/\∀f,(x8 s x f).wait=s.wait.set j (x,f (zO s x)):=by
 unfold x8 zO
 dsimp only
 generalize s.wait=l at hn hx
 induction l with
 |nil=>cases hx
 |cons q l ih=>
  obtain⟨n1,n2⟩:=bY.mp hn;by_cases e:q.1=x
  ·refine#[0,?_,λf=>?_]
   ·rw[cI,qQ1 e];show some q=some (x,q.2);rw[<-e]
   ·rw[cI,qQ1 e,ay,qQ3 e,e]
    show _::_=_::l
    congr 1
    rw[cW (g:=id) λz hz=>qQ2 λw:z.1=x=>n1 (by show q.1∈_;rw[e,<-w];exact av.mpr #[z,hz,rfl]),ko]
  ·obtain⟨j,h1,h2⟩:=ih n2 (by rcases ax.mp hx with h|h;exact qQ7 h.symm e;exact h)
   refine#[j+1,?_,λf=>?_]
   ·rw[cI,qQ0 e];exact h1
   ·rw[cI,qQ0 e,ay,qQ2 e,h2 f];rfl
abbrev Nwi:List Str:=["self","place","good","t","told"]
theorem R0:cn Nwi ["self","place","good","t"] (a_ (pP 7)):=by grind
def YV(K:ao)(day:List iP)(s:Fs)(d2:List ae)(s':Fs)(U:UV):Prop:=∃(x:Str)(g:Nat)(t:Int),d2=[.str x,.int (g:Int),.int t]/\g<day.length/\(s.wait.map (·.1)).Nodup/\x∈s.wait.map (·.1)/\(∀q∈s.wait,q.2.length<=100000)/\s'=x8 s x (λl=>l ++ [(g,t)])/\U=qW K .none
theorem U3(day:List iP)(q:Nat×Int):vp (x6 day q):=.tup λd hd=>by
 simp only[ax,a8,or_false]at hd;rcases hd with rfl|rfl|rfl|rfl
 ·exact .int _
 ·exact .int _
 ·exact .str _
 ·exact .str _
theorem NB(g:iP):vp (gM g):=.tup λd hd=>by
 simp only[ax,a8,or_false]at hd;rcases hd with rfl|rfl|rfl|rfl
 ·exact .int _
 ·exact .str _
 ·exact .str _
 ·exact .str _
variable{pl:Pl}{day:List iP}
theorem Qz(s:Fs)(j:Nat)(x:Str)(l:List (Nat×Int)){s':Fs}(h:s'.wait=s.wait.set j (x,l)):vJ day s'=(vJ day s).set j (x,l.map (x6 day)):=by
 unfold vJ;rw[h,qZ]
theorem zcC(F:jQ K "wait_in" "Floor.wait_in" (pP 7) f fd)(c:I0 K C):dW P w K mg base gS 1 f fd ["self","place","good","t"] (D9 K Fs (eW K C pl day) (YV K day)):=
 J_ F R0 (by simp) (λ_ _ _ _ h=>by obtain⟨_,_,_,rfl,_⟩:=h;rfl) λr s d2 s' U h=>by
  obtain⟨x,g,t,rfl,hg,hn,hx,hl,rfl,rfl⟩:=h;intro e7 A outer s0 H E hr B0 B H0 Hh σ D G qr qn;have nd:Nwi.Nodup:=R0.nd;have hG:dB 0 _:=hr;refine bM (Gg (d:=gM (goodW day g)) eW.mono eW.nt G 4 (Cr eW.nt (Seen.refl.set 0 rfl (eW.see c)) (fk (oo 1 (aj 0 rfl) rfl) (aj 2 rfl) (cz (su hg))) (NB _)) rfl (λσ1 H1 cV G1=>?_) nd)
  obtain⟨aw,cs,G2⟩:=OF.fl G1;obtain⟨_,_,dx,pv,ad,al,at_,dv,lv,tv,rfl,IY,h1,_⟩:=G2.at;have G3:=G2.swap;obtain⟨_,_,rfl,ndc,k1,k2⟩:=G3.at;obtain⟨j,hj,hm⟩:=Nz hn hx;have U1:(vJ day s)[j]?=some (x,(zO s x).map (x6 day)):=by unfold vJ;rw[aG,hj];rfl
  have hjl:=(aH.mp U1).1
  obtain⟨cc,hc⟩:∃cc,cs[j]?=some cc:=#[cs[j]'(by rw[k2.1];exact hjl),au _]
  obtain⟨xs,x1,x2⟩:=k2.2 j cc _ hc U1;have VQ:((vJ day s).map (·.1)).Nodup:=by unfold vJ;rw[aB];exact hn
  have Ul:=x2.length;rw[ai]at Ul;refine cx (XI (κ:=bo x) (d:=x6 day (g,t)) (Sep.mono DC.mono o_.mono) G3 hG 0 rfl h1 c.cl (c.na _ ∎) rfl k1 (jm (aj 1 rfl)) (Cm VQ U1 hc) x1 (jm (VE.to (e9 (aq (aj 2 rfl) (aq (aj 3 rfl) (aq (vh 4 2 rfl rfl) (aq (vh 4 3 rfl rfl) aU))))) rfl)) (eL (by have:=hl _ (aQ hj);simp only at this;omega)) λv Ha Hb gr rr=>?_)
  have G4:=G3.putL (R':=DC K aw cs ((vJ day s).set j (x,(zO s x).map (x6 day) ++ [x6 day (g,t)]))) (x:=cc) DC.mono o_.mono gr λas hd=>#[by rw[hd.1];simp[aQ hc],as,λ_ z=>z,hd.row U1 hc ((x2.mono gr.e8).append (.cons rr .nil))]
  have ew:vJ day (x8 s x λl=>l ++ [(g,t)])=(vJ day s).set j (x,(zO s x).map (x6 day) ++ [x6 day (g,t)]):=by
   rw[Qz (day:=day) s j x (zO s x ++ [(g,t)]) (hm _),aN];rfl
  rw[<-ew]at G4;exact qn _ _ _ _ (OF.unit (OF.fl' (s:=x8 s x λl=>l ++ [(g,t)]) G4.swap))
end
def stC(day:List iP)(t:Int)(s:Fs):Nat->Fs
 |0=>s
 |k+1=>{ x8 (stC day t s k) (goodW day (stC day t s k).came).2.1 (λl=>l ++ [((stC day t s k).came,t)])with came:=(stC day t s k).came+1 }
theorem vK(day:List iP)(t:Int)(s:Fs):∀k,(stC day t s k).came=s.came+k
 |0=>rfl
 |k+1=>by show(stC day t s k).came+1=_;rw[vK day t s k];omega
theorem Hj(s:Fs)(x:Str)(f:List (Nat×Int)->List (Nat×Int)):(x8 s x f).wait.map (·.1)=s.wait.map (·.1):=by
 show(s.wait.map λq=>if q.1=x then(q.1,f q.2)else q).map (·.1)=_
 rw[aB];refine cW λq _=>?_
 show(if q.1=x then(q.1,f q.2)else q).1=q.1
 split<;>rfl
theorem Bo(day:List iP)(t:Int)(s:Fs):∀k,(stC day t s k).wait.map (·.1)=s.wait.map (·.1)
 |0=>rfl
 |k+1=>(show _=_ from Hj (stC day t s k) (goodW day (stC day t s k).came).2.1 (λl=>l ++ [((stC day t s k).came,t)])).trans (Bo day t s k)
theorem NC{f:List (Nat×Int)->List (Nat×Int)}{n:Nat}(h:∀q∈s.wait,q.2.length<=n)(hf:∀l,(f l).length<=l.length+1):∀q∈(x8 s x f).wait,q.2.length<=n+1:=by
 intro q hq;obtain⟨z,hz,rfl⟩:=av.mp hq;have:=h z hz
 split
 ·exact bQ (hf _) ∅
 ·omega
theorem I_{t:Int}{n:Nat}(h:∀q∈s.wait,q.2.length<=n):∀k,∀q∈(stC day t s k).wait,q.2.length<=n+k
 |0=>h
 |k+1=>NC (x:=(goodW day (stC day t s k).came).2.1) (f:=λl=>l ++ [((stC day t s k).came,t)]) (I_ h k) λl=>by rw[aV];exact aP _
def zP(t:Int)(g:Nat):ae:=.tuple [.str "come",.int t,.int (g:Int)]
def uM(s:Fs)(t:Int)(k:Nat):List ae:=(aX k).map λi=>zP t (s.came+i)
theorem EL(s:Fs)(t:Int)(k:Nat):uM s t (k+1)=uM s t k ++ [zP t (s.came+k)]:=by unfold uM;rw[j_,aN];rfl
section
variable{P:bA}{w:cg}{K:ao}{mg:Str->Option aD}{base:cM}{f:aF}{k:Nat}{C:aF}{pl:Pl}{day:List iP}
theorem zQ(pv:V)(ad aw al at_:aF)(n:Nat):iz "came" (.int ((n:Int)+1)) (Bm pv ad aw al at_ n)=Bm pv ad aw al at_ (n+1):=by
 unfold Bm iz iz iz;rfl
theorem U4{X:Cx}{B0 B H0 H:Hp}{σ:L2.St}{D:Ends}{δ:List Slot}{F:OR}{r:aF}{px po p0 pos:Pos}{kk}(c:I0 X.K C)(mF:cj F)(G:OF X.K B0 B (Sep (eW X.K C pl day r s) F) H0 H σ δ)(i:Nat)(hi:δ[i]?=some (.ref r))(q:∀Hb,OF X.K B0 B (Sep (eW X.K C pl day r { s with came:=s.came+1 }) F) H0 Hb σ δ->D.nx σ Hb)
  (hN:ow X i x:=by ac_rfl):
  cS X (.AugAssign (.Attribute (.Name x px) "came" po) .Add (.Constant (.int 1) kk p0) pos) D σ H:=by
 obtain⟨_,_,aw,cs,a1,a2,rfl,dj,⟨dx,pv,ad,al,at_,dv,lv,tv,rfl,nd,h1,h2,h3,h4,h5,h6,h7,h8⟩,hd⟩:=G.at;refine XR G i hi h1 c.cl (c.na _ ∎) (by show 6<1000;decide) (n:=(s.came:Int)) rfl (q _ ?_) hN
 rw[zQ];refine G.putL (x:=r) eW.mono mF (.refl G.fr.sub) ?_
 rintro as ⟨VR,Z2,b1,b2,rfl,dj',⟨Li,R4,Kz,KC,at',dv',lv',tv',rfl,YW,k1,k2,k3,k4,k5,k6,k7,k8⟩,SF⟩
 have e:=k1.symm.trans h1;have e2:Bm R4 Kz VR KC at' s.came=Bm pv ad aw al at_ s.came/\Li=dx:=by injection e with e;injection e with _ e1 e2;exact#[e2,e1]
 obtain⟨e2,rfl⟩:=e2;have nx:∀x∈[Kz,KC,at'],x≠r:=λx hx z=>(bY.mp YW).1 (by rw[<-z];exact hx)
 have e3:Bm pv ad aw al at_ (s.came+1)=Bm R4 Kz VR KC at' (s.came+1):=by
  rw[<-zQ,<-zQ,e2]
 refine#[by simp,_,λ_ z=>z,VR,Z2,[r,Kz,KC,at'],b2,rfl,dj',#[Li,R4,Kz,KC,at',dv',lv',tv',rfl,YW,by rw[bh,e3],k2,by rw[aO (nx Kz (by simp))];exact k3,k4,by rw[aO (nx KC (by simp))];exact k5,k6,by rw[aO (nx at' (by simp))];exact k7,k8],DC.mono _ _ _ _ _ SF (cK.refl _) λa ha=>aO λz=>dj' r (by simp) (by rw[<-z];exact ha)]
abbrev Ncm:List Str:=["self","t","entries"]
theorem R5:cn Ncm ["self","t"] (a_ (pP 1)):=by grind
def YX(K:ao)(pl:Pl)(day:List iP)(s:Fs)(d2:List ae)(s':Fs)(U:UV):Prop:=∃(t:Int)(M:Nat),d2=[.int t]/\VN pl day/\s.wait.map (·.1)=pl.gates++pl.lines.map (·.1)/\(pl.gates++pl.lines.map (·.1)).Nodup/\(∀q∈s.wait,q.2.length<=1000)/\s.came+M<=day.length/\(∀k,k<M->(goodW day (s.came+k)).1=t)/\(s.came+M<day.length->(goodW day (s.came+M)).1≠t)/\s'=stC day t s M/\U=MF K (uM s t M)
theorem zcH(F:jQ K "come" "Floor.come" (pP 1) f fd)(n:Na mg)(c:I0 K C)(C1:rT P w K mg base 1 C "wait_in" ["self","place","good","t"] (D9 K Fs (eW K C pl day) (YV K day))):dW P w K mg base gS 2 f fd ["self","t"] (D9 K Fs (eW K C pl day) (YX K pl day)):=
 J_ F R5 (by simp) (λ_ _ _ _ h=>by obtain⟨_,_,rfl,_⟩:=h;rfl) λr s d2 s' U h=>by
  obtain⟨t,M,rfl,Dh,ZN,Vu,hl,hM,Tx,ht2,rfl,rfl⟩:=h;intro e7 A outer s0 H E hr B0 B H0 Hh σ D G qr qn;have nd:Ncm.Nodup:=R5.nd;have hG:dB 1 _:=hr;have F7:=Dh.dl;refine bM (Gm (ds:=[]) eW.mono G 2 (wB G (fE aU)) (λ_=>rfl) (λl σ1 H1 cV G1=>?_) nd)
  refine bM (P5 (δ:=[.ref r,.val (.int t),.ref l]) (λk=>Sep (LR K l (uM s t k)) (eW K C pl day r (stC day t s k))) M (λ_=>Sep.mono LR.mono eW.mono) G1 bU (λk hk=>?_) (λk hk D C0 σ' cZ H' G post=>?_) λσ2 Ha Hb G2=>?_)
  ·refine#[_,Seen.refl.set 0 rfl (Sep.XJ (eW.see c)),?_]
   have e1:decide (((stC day t s k).came:Int)<((day.map gM).length:Int))=decide (s.came+k<day.length):=by rw[vK,ai];exact decide_eq_decide.mpr ∅
   refine VT.to (kx (k2:=decide (k<M)) (VT.to (A4 (oo 2 (aj 0 rfl) rfl) (ie (ds:=day.map gM) (oo 1 (aj 0 rfl) rfl) n.len)) e1) λmL=>?_) ?_
   ·have Pm:=qQ4 mL
    refine VT.to (fx hG (cu 20 _) (cu 20 _) (dq (d:=.int (goodW day (s.came+k)).1) (fk (oo 1 (aj 0 rfl) rfl) (oo 2 (aj 0 rfl) rfl) (by rw[vK];exact cz (su Pm))) aJ (cz (j:=0) rfl)) (aj 1 rfl)) ?_
    rw[jG];refine decide_eq_decide.mpr #[λh=>?_,λh=>Tx k h]
    rcases lb k M with z|z
    ·exact z
    ·have:k=M:=∅
     subst this;exact qQ7 h (ht2 Pm)
   ·rcases lb k M with z|z
    ·rw[qQ1 z,qQ1 ∅];rfl
    ·rw[qQ0 (by omega:¬k<M),AG]
  ·have mL:s.came+k<day.length:=∅
   have VQ:=Bo day t s k;have Z3:=vK day t s k;have zcI:(stC day t s k).came<day.length:=by rw[Z3];exact mL
   refine bM (Uz (Ct (s:=stC day t s k) (s':=x8 (stC day t s k) (goodW day (stC day t s k).came).2.1 λl=>l ++ [((stC day t s k).came,t)]) (U:=qW K .none) C1 hG eW.mono LR.mono G.swap (eW.ins ∎) 0 rfl (oP (Sep.mono eW.mono LR.mono) (Cr (Sep.nt eW.nt LR.nt) (Seen.refl.set 0 rfl (Sep.xZ (eW.see c))) (dq (d:=.str (goodW day (stC day t s k).came).2.1) (fk (oo 1 (aj 0 rfl) rfl) (oo 2 (aj 0 rfl) rfl) (cz (su zcI))) aJ (cz (j:=1) rfl)) (.str _)) (oP (Sep.mono eW.mono LR.mono) (Cr (Sep.nt eW.nt LR.nt) (Seen.refl.set 0 rfl (Sep.xZ (eW.see c))) (oo 2 (aj 0 rfl) rfl) (.int _)) (oP (Sep.mono eW.mono LR.mono) (jm (aj 1 rfl)) Cq))) #[_,_,t,rfl,by rw[Z3];exact mL,by rw[VQ,ZN];exact Vu,by rw[VQ,ZN,Z3];exact bF _ (Dh.gt _ mL),λq hq=>bQ (I_ hl k q hq) ∅,rfl,rfl] λv Ha Hb G2=>?_))
   have G3:=(OF.dat (X:=(lU gS P w K mg base Ncm "Floor.come" (a_ (pP 1)) f e7 A outer s0 H E).xQ) (Sep.mono eW.mono LR.mono) G2).2.swap;refine bM (IG (d:=zP t (s.came+k)) eW.mono G3 2 rfl (Cr (Sep.nt LR.nt eW.nt) (Seen.refl.set 0 rfl (Sep.XJ (eW.see c))) (VE.to (e9 (aq bw (aq (aj 1 rfl) (aq (oo 2 (aj 0 rfl) rfl) aU)))) (by show fc [_,_,.int ((stC day t s k).came:Int)]=_;rw[Z3];rfl)) (.tup λd hd=>?_)) (eL (by unfold uM;rw[ai,cG];omega)) λHa Hb G4=>?_)
   ·simp only[ax,a8,or_false]at hd
    rcases hd with rfl|rfl|rfl
    ·exact .str _
    ·exact .int _
    ·exact .int _
   rw[<-EL]at G4;exact cx (U4 c LR.mono G4.swap 0 rfl λHb G5=>post _ _ _ G5.swap)
  ·exact cx (MJ G2.fr 2 rfl (qr _ _ _ _ _ (G2.Ea λas h=>#[l,rfl,h])))
end
theorem vL{l:List Str}{k:Nat}(hn:l.Nodup)(h:l[k]?=some x):x∉l.take k:=by
 intro hm;obtain⟨i,hi,e⟩:=tK.mp hm;rw[List.getElem_take]at e;rw[bJ]at hi;have h3:l[i]?=some x:=by rw[au ∅,e]
 have:=(wR ∅ hn).mp (h3.trans h.symm)
 omega
theorem NF(n:Nat):∀l:List Nat,(∀x∈l,x<=n)->l.sum<=l.length*n
 | [],_=>bx _
 |x::l,h=>by
  have h1:=h x aM;have h2:=NF n l λy hy=>h y (aT _ hy)
  rw[uW,bR,xG];omega
def KD:ae->Nat
 | .tuple (.int g::_)=>g.toNat
 |_=>0
theorem sv(day:List iP)(q:Nat×Int):KD (x6 day q)=q.1:=dS _
def YY(p:Pl)(day:List iP)(t:Int)(d:ae):Option ae:=if Bn p day (KD d) t=true then none else some d
def YZ(p:Pl)(day:List iP)(t:Int)(d:ae):Option ae:=if Bn p day (KD d) t=true then some (.int (KD d:Int))else none
def xB(p:Pl)(day:List iP)(t:Int)(l:List (Nat×Int)):List (Nat×Int):=l.filter λq=>!Bn p day q.1 t
def Ax(p:Pl)(day:List iP)(t:Int)(l:List (Nat×Int)):List Nat:=(l.filter λq=>Bn p day q.1 t).map (·.1)
theorem Ja(p:Pl)(day:List iP)(t:Int):∀l:List (Nat×Int),(l.map (x6 day)).filterMap (YY p day t)=(xB p day t l).map (x6 day)
 | []=>rfl
 |q::l=>by
  have ih:=Ja p day t l;unfold xB at ih ⊢;rw[ay,fq,eE];unfold YY;rw[sv];cases Bn p day q.1 t with
  |true=>exact ih
  |false=>show x6 day q::_=x6 day q::_;congr 1
theorem Jb(p:Pl)(day:List iP)(t:Int):∀l:List (Nat×Int),(l.map (x6 day)).filterMap (YZ p day t)=i_ (Ax p day t l)
 | []=>rfl
 |q::l=>by
  have ih:=Jb p day t l;unfold Ax i_ at ih ⊢;rw[ay,fq,eE];unfold YZ;rw[sv];cases Bn p day q.1 t with
  |true=>show dD _::_=dD _::_;congr 1
  |false=>exact ih
def qQ(p:Pl)(day:List iP)(t:Int)(l:List (Str×List (Nat×Int))):List (Str×List ae):=l.map λq=>(q.1,(xB p day t q.2).map (x6 day))
def uN(p:Pl)(day:List iP)(t:Int)(l:List (Str×List (Nat×Int))):List Nat:=(l.map λq=>Ax p day t q.2).flatten
def sx(p:Pl)(day:List iP)(t:Int)(s:Fs):Fs:={ s with wait:=s.wait.map λq=>(q.1,xB p day t q.2) }
def wK(t:Int)(g:Nat):ae:=.tuple [.str "spoil",.int t,.int (g:Int)]
theorem jV(l:List Nat):(i_ l).length=l.length:=ai _
theorem QB(a b:List Nat):i_ (a++b)=i_ a++i_ b:=by unfold i_;rw[aN]
theorem yy(gs:List Nat):i_ gs=(gs.map λ(g:Nat)=>(g:Int)).map dD:=by unfold i_;rw[aB];rfl
theorem ER(p:Pl)(day:List iP)(t:Int)(l:List (Nat×Int)):(Ax p day t l).length<=l.length:=by unfold Ax;rw[ai];exact gJ _ _
def U5(t:Int)(d:ae):Option ae:=some (.tuple [.str "spoil",.int t,d])
theorem EV(t:Int)(zs:List Nat):(i_ zs).filterMap (U5 t)=zs.map (wK t):=by
 unfold i_;rw[b0];show tL (some∘wK t) zs=_;rw[lS]
section
variable{K:ao}{C:aF}{p:Pl}{day:List iP}{H0 H B0 B:Hp}{r aw:aF}{s:Fs}{cs:List aF}{σ:L2.St}{δ:List Slot}{F R:OR}{o:Obj}{kl:List (Str×List ae)}
theorem NK(c:I0 K C)(h1:x4 R (o_ K C p day r aw s))(h2:x4 R (DZ K o aw cs kl)):qj K R r (Hi C p day s (wx (wz kl))):=λHa Hb as sb z=>by
 obtain⟨a1,y1,y2⟩:=h1 Ha Hb as z;obtain⟨a2,y3,y4⟩:=h2 Ha Hb as z;exact y2.see c sb ((DZ.see Ha Hb a2 sb y4).mono (uy sb y3)) (uy sb y1)
theorem OF.flx(G:OF K B0 B (Sep (eW K C p day r s) F) H0 H σ δ):∃aw cs,OF K B0 B (Sep (DC K aw cs (vJ day s)) (Sep F (o_ K C p day r aw s))) H0 H σ δ:=by
 obtain⟨as,h,a1,a2,e,dj,⟨aw,cs,z1⟩,z2⟩:=G.ex;have G1:OF K B0 B (Sep (Sep (o_ K C p day r aw s) (DC K aw cs (vJ day s))) F) H0 H σ δ:=#[G.fr,G.no,as,h,a1,a2,e,dj,z1,z2];exact#[aw,cs,G1.assoc.qk]
end
section
variable{P:bA}{w:cg}{K:ao}{mg:Str->Option aD}{base:cM}{f:aF}{k:Nat}{C:aF}{pl:Pl}{day:List iP}
theorem zR(pv:V)(ad aw VR al at_:aF)(n:Nat):iz "waiting" (.ref VR) (Bm pv ad aw al at_ n)=Bm pv ad VR al at_ n:=by
 unfold Bm iz iz iz iz;rfl
abbrev Z4:List Str:=["self","t","spoilt","left","name","goods"]
theorem R6:cn Z4 ["self","t"] (a_ (pP 2)):=by grind
structure Z5(pl:Pl)(day:List iP)(s:Fs):Prop where
 d:VN pl day
 nm:s.wait.map (·.1)=pl.gates++pl.lines.map (·.1)
 nd:(pl.gates++pl.lines.map (·.1)).Nodup
 pn:(pl.gates++pl.lines.map (·.1)).length<=200
 ln:∀q∈s.wait,q.2.length<=1000
 gd:∀q∈s.wait,∀z∈q.2,z.1<day.length
def Y0(K:ao)(pl:Pl)(day:List iP)(s:Fs)(d2:List ae)(s':Fs)(U:UV):Prop:=∃(t:Int)(zs:List Nat),d2=[.int t]/\Z5 pl day s/\zs.Perm (uN pl day t s.wait)/\zs.Pairwise (·<=·)/\zs.length<64/\s'=sx pl day t s/\U=MF K (zs.map (wK t))
theorem zcJ(F:jQ K "spoil" "Floor.spoil" (pP 2) f fd)(n:Na mg)(ms:mg "sorted"=none)(c:I0 K C)(C1:rT P w K mg base 2 C "is_spoilt" ["self","good","t"] (gu K (Ris C))):dW P w K mg base gS 3 f fd ["self","t"] (D9 K Fs (eW K C pl day) (Y0 K pl day)):=
 J_ F R6 (by simp) (λ_ _ _ _ h=>by obtain⟨_,_,rfl,_⟩:=h;rfl) λr s d2 s' U h=>by
  obtain⟨t,zs,rfl,ok,hzp,hzs,zih,rfl,rfl⟩:=h;intro e7 A outer s0 H E hr B0 B H0 Hh σ D G qr qn;have nd:Z4.Nodup:=R6.nd;have hG:dB 1 _:=hr.mono ∅
  have nc:(["good","self","t"]:List Str).Nodup:=∎
  have nc2:(["good","t"]:List Str).Nodup:=∎
  have Tc:s.wait.length<=200:=by have:=qQ6 dC ok.nm;rw[ai]at this;have:=ok.pn;omega
  refine bM (Gm (ds:=[]) eW.mono G 2 (wB G (fE aU)) (λ_=>rfl) (λls σ1 H1 cV G1=>?_) nd)
  refine bM (Gn (Sep.mono LR.mono eW.mono) G1 3 (λ_=>rfl) (λla σ2 H2 fS G2=>?_) nd)
  obtain⟨aw,cs,G3⟩:=OF.flx G2.qk.qk;refine zo (Sep.mono (Sep.mono DL.mono LR.mono) o_.mono) G3 λo H3 hn0 G4=>?_
  have UQ:(vJ day s).length=s.wait.length:=by unfold vJ;rw[ai]
  obtain⟨_,_,dx,pv,ad,al,at_,dv,lv,tv,rfl,IY,i1,i2⟩:=(G4.qk.qk).at;refine bM (IE (δ:=[.ref r,.val (.int t),.ref ls,.ref la,.un,.un]) (λk=>Sep (Sep (DL K la (qQ pl day t (s.wait.take k))) (LR K ls (i_ (uN pl day t (s.wait.take k))))) (o_ K C pl day r aw s)) 4 5 (λ_=>Sep.mono (Sep.mono DL.mono LR.mono) o_.mono) G4 bU rfl (λQ q pins s1 I=>?_) (gY rfl (bZ (gX 4 nd) (bZ (gX 5 nd) fM))) (λ_ _=>rfl) (λ_ _=>#[.inr rfl,.inr rfl,.inr rfl,.inr rfl,.inl rfl,.inl rfl,trivial]) (λk q cc hq Ot D C0 σ' cZ H' G5 post=>?_) λσ4 Ha Hb G5=>?_)
  ·exact mK (BM (i:=0) rfl (Or.inr (lJ rfl))) rfl pins s1 _ _ Q I #[.ref r,G4.fr.slot 0 _ rfl,r,C,dx,_,.ref aw,rfl,i1,c.cl,c.na _ ∎,rfl,q]
  ·obtain⟨z,hz,rfl⟩:∃z,s.wait[k]?=some z/\q=(z.1,z.2.map (x6 day)):=by
    unfold vJ at hq;rw[aG]at hq
    cases e:s.wait[k]? with
    |none=>rw[e]at hq;cases hq
    |some z=>rw[e]at hq;cases hq;exact#[z,rfl,rfl]
   have zcL:=(aH.mp hz).1
   have Og:s.wait.take (k+1)=s.wait.take k ++ [z]:=by rw[ck,hz];rfl
   have hzl:=ok.ln z (aQ hz);have Z6:=ok.gd z (aQ hz);have U6:z.1∉(qQ pl day t (s.wait.take k)).map (·.1):=by
    have e1:(qQ pl day t (s.wait.take k)).map (·.1)=(s.wait.map (·.1)).take k:=by unfold qQ;rw[aB,pV];rfl
    rw[e1];exact vL (by rw[ok.nm];exact ok.nd) (by rw[aG,hz];rfl)
   have G6:=G5.qk.assoc;have nt6:yt (Sep (DL K la (qQ pl day t (s.wait.take k))) (Sep (LR K ls (i_ (uN pl day t (s.wait.take k)))) (Sep (o_ K C pl day r aw s) (DZ K o aw cs (vJ day s))))):=Sep.nt DL.nt (Sep.nt LR.nt (Sep.nt o_.nt DZ.nt));refine bM (Gp (Sep.mono LR.mono (Sep.mono o_.mono DZ.mono)) G6 hG 3 rfl (jm (aj 4 rfl)) U6 (zl G6 nt6 ((Seen.refl.set 0 rfl (NK c (x4.refl.l.r.r) (x4.refl.r.r.r))).set 5 rfl ((DZ.xZ Ot hq).has (x4.refl.r.r.r))) (VO.to (eB (own:=["good"]) (cap:=[0,1]) (N:=["good","self","t"]) (tgt:=.one 0) (F:=YY pl day t) (ds:=z.2.map (x6 day)) rfl #[rfl,∎,∎,rfl,rfl,?_] (dY (aj 5 rfl)) (λf s3 H3=>gX 0 nc) rfl (small (by rw[ai];omega)) (λd hd=>?_)) (Ja pl day t z.2)) (λd hd=>?_)) (eL (by unfold qQ;rw[ai,bJ];omega)) λHa Hb G7=>?_)
   ·intro j hj
    rcases ax.mp hj with rfl|hj
    ·exact#[(by show(0:Nat)<6;decide),(by left),rfl]
    rcases ax.mp hj with rfl|hj
    ·exact#[(by show(1:Nat)<6;decide),(by left),rfl]
    ·cases hj
   ·obtain⟨y,hy,rfl⟩:=av.mp hd
    refine#[_,rfl,λf s3 H3=>ng (VT.to (lr (eQ (Cp C1 hr (aj 1 rfl) (Ny pl day s _ ∎) (aq (vh 0 0 rfl rfl) (aq (aj 2 rfl) aU)) #[pl,day,s,_,y.1,t,rfl,Z6 y hy,ok.d.kd _ (Z6 y hy),rfl]) rfl)) ?_),λr kQ f s3 H3=>?_]
    ·unfold YY
     rw[sv];cases Bn pl day y.1 t<;>rfl
    ·unfold YY at kQ
     rw[sv]at kQ
     split at kQ
     ·cases kQ
     ·cases kQ;exact aj 0 rfl
   ·obtain⟨y,_,rfl⟩:=av.mp hd
    exact U3 day y
   have G8:=G7.qk;have nt8:yt (Sep (LR K ls (i_ (uN pl day t (s.wait.take k)))) (Sep (Sep (o_ K C pl day r aw s) (DZ K o aw cs (vJ day s))) (DL K la (qQ pl day t (s.wait.take k) ++ [(z.1,(xB pl day t z.2).map (x6 day))])))):=Sep.nt LR.nt (Sep.nt (Sep.nt o_.nt DZ.nt) DL.nt);have zil:(uN pl day t (s.wait.take k)).length<=200*1000:=by
    unfold uN;rw[List.length_flatten];have h1:∀x∈((s.wait.take k).map λq=>Ax pl day t q.2).map dC,x<=1000:=λx hx=>by
     obtain⟨l,hl,rfl⟩:=av.mp hx;obtain⟨q,hq,rfl⟩:=av.mp hl;exact bQ (ER _ _ _ _) (ok.ln q (ez hq))
    have h2:=NF 1000 _ h1;rw[ai,ai,bJ]at h2;exact bQ h2 (Nat.mul_le_mul_right _ ∅)
   refine cx (XW (es:=i_ (Ax pl day t z.2)) (Sep.mono (Sep.mono o_.mono DZ.mono) DL.mono) G8 2 rfl (zl G8 nt8 ((Seen.refl.set 0 rfl (NK c (x4.refl.l.l.r) (x4.refl.r.l.r))).set 5 rfl ((DZ.xZ Ot hq).has (x4.refl.r.l.r))) (VO.to (eB (own:=["good"]) (cap:=[0,1]) (N:=["good","self","t"]) (tgt:=.one 0) (F:=YZ pl day t) (ds:=z.2.map (x6 day)) rfl #[rfl,∎,∎,rfl,rfl,?_] (dY (aj 5 rfl)) (λf s3 H3=>gX 0 nc) rfl (small (by rw[ai];omega)) (λd hd=>?_)) (Jb pl day t z.2)) (λd hd=>?_)) (small (by rw[jV,jV];have:=ER pl day t z.2;omega)) λHa Hb G9=>?_)
   ·intro j hj
    rcases ax.mp hj with rfl|hj
    ·exact#[(by show(0:Nat)<6;decide),(by left),rfl]
    rcases ax.mp hj with rfl|hj
    ·exact#[(by show(1:Nat)<6;decide),(by left),rfl]
    ·cases hj
   ·obtain⟨y,hy,rfl⟩:=av.mp hd
    refine#[_,rfl,λf s3 H3=>ng (VT.to (eQ (Cp C1 hr (aj 1 rfl) (Ny pl day s _ ∎) (aq (vh 0 0 rfl rfl) (aq (aj 2 rfl) aU)) #[pl,day,s,_,y.1,t,rfl,Z6 y hy,ok.d.kd _ (Z6 y hy),rfl]) rfl) ?_),λr kQ f s3 H3=>?_]
    ·unfold YZ
     rw[sv];cases Bn pl day y.1 t<;>rfl
    ·unfold YZ at kQ
     rw[sv]at kQ
     split at kQ
     ·cases kQ;exact vh 0 0 rfl rfl
     ·cases kQ
   ·obtain⟨y,_,rfl⟩:=av.mp hd
    exact .int _
   refine post _ Ha _ (OF.forget (H0:=Ha) (Sep.mono DZ.mono (Sep.mono (Sep.mono DL.mono LR.mono) o_.mono)) (δ:=[.ref r,.val (.int t),.ref ls,.ref la,.val (.str z.1),.ref cc]) ?_ #[.inr rfl,.inr rfl,.inr rfl,.inr rfl,.inl rfl,.inl rfl,trivial] rfl)
   have e1:qQ pl day t (s.wait.take (k+1))=qQ pl day t (s.wait.take k) ++ [(z.1,(xB pl day t z.2).map (x6 day))]:=by rw[Og];unfold qQ;rw[aN];rfl
   have e2:i_ (uN pl day t (s.wait.take (k+1)))=i_ (uN pl day t (s.wait.take k))++i_ (Ax pl day t z.2):=by
    rw[Og,<-QB];unfold uN;rw[aN,List.flatten_append];simp
   rw[e1,e2];exact G9.qk.assoc.qk
  ·rw[UQ,c9]at G5
   have G6:=G5.qk.qk;obtain⟨_,_,dx,pv,ad,al,at_,dv,lv,tv,rfl,IY,i1,i2,i3,i4,i5,i6,i7,i8⟩:=G6.at;refine bM (UA G6 0 3 rfl rfl i1 c.cl (c.na _ ∎) (by show 6<1000;decide) ?_)
   rw[zR];have G7:=G6.putL (R':=o_ K C pl day r la (sx pl day t s)) (x:=r) (ob:=.ins C dx (Bm pv ad la al at_ s.came)) o_.mono (Sep.mono DZ.mono (Sep.mono DL.mono LR.mono)) (.refl G6.fr.sub) λas #[Li,R4,Kz,KC,at',dv',lv',tv',e,YW,k1,k2,k3,k4,k5,k6,k7,k8]=>by
    subst e;have e:=k1.symm.trans i1;have e2:Bm R4 Kz aw KC at' s.came=Bm pv ad aw al at_ s.came/\Li=dx:=by injection e with e;injection e with _ e1 e2;exact#[e2,e1]
    obtain⟨e2,rfl⟩:=e2;have nx:∀x∈[Kz,KC,at'],x≠r:=λx hx z=>(bY.mp YW).1 (by rw[<-z];exact hx)
    exact#[by simp,_,λ_ z=>z,Li,R4,Kz,KC,at',dv',lv',tv',rfl,YW,by rw[bh];show some (HO.ins C Li (Bm pv ad la al at_ s.came))=some (HO.ins C Li (Bm R4 Kz la KC at' s.came));rw[<-zR pv ad aw la al at_,<-zR R4 Kz aw la KC at',e2],k2,by rw[aO (nx Kz (by simp))];exact k3,k4,by rw[aO (nx KC (by simp))];exact k5,k6,by rw[aO (nx at' (by simp))];exact k7,k8]
   have G8:OF K B0 B (Sep (LR K ls (i_ (uN pl day t s.wait))) (eW K C pl day r (sx pl day t s))) _ _ _ _:=(OF.drop (X:=(lU gS P w K mg base Z4 "Floor.spoil" (a_ (pP 2)) f e7 A outer s0 H E).xQ) (Sep.mono (Sep.mono DL.mono LR.mono) o_.mono) G7.qk).assoc.qk.XU λas #[a1,a2,e,dj,z1,z2]=>by
    obtain⟨Z2,z3⟩:=z2.dc;refine#[la,Z2,a1,a2,e,dj,z1,?_]
    have e1:vJ day (sx pl day t s)=qQ pl day t s.wait:=by unfold vJ sx qQ;rw[aB];rfl
    rw[e1];exact z3
   have hz:zs.length=(uN pl day t s.wait).length:=hzp.length_eq;refine cx (Rp (zl G8 (Sep.nt LR.nt eW.nt) (Seen.refl.set 2 rfl (Sep.xZ LR.see)) (VO.to (eB (own:=["good"]) (cap:=[1]) (N:=["good","t"]) (tgt:=.one 0) (F:=U5 t) (ds:=i_ zs) rfl #[rfl,∎,∎,rfl,rfl,?_] (dY (VO.ve (VO.to (yR wA (J8 (ns:=(uN pl day t s.wait).map λ(g:Nat)=>(g:Int)) (zs:=zs.map λ(g:Nat)=>(g:Int)) (hzp.map _) (mW _ (λa b h=>Int.ofNat_le.mpr h) hzs) (by rw[ai];omega)) (aq (VE.to (aj 2 rfl) (by rw[yy])) aU) ms boot_sorted) (yy zs).symm))) (λf s3 H3=>gX 0 nc2) rfl (small (by rw[jV];omega)) (λd hd=>?_)) (EV t zs)) (λd hd=>?_) _ λl2 ob Ha Hb g z1 z2 z3 z4=>?_))
   ·intro j hj
    rcases ax.mp hj with rfl|hj
    ·exact#[(by show(1:Nat)<6;decide),(by left),rfl]
    ·cases hj
   ·exact Fc rfl rfl λf s3 H3=>VE.to (e9 (aq bw (aq (aj 1 rfl) (aq (aj 0 rfl) aU)))) rfl
   ·obtain⟨y,_,rfl⟩:=av.mp hd
    refine .tup λd hd=>?_
    simp only[ax,a8,or_false]at hd;rcases hd with rfl|rfl|rfl
    ·exact .str _
    ·exact .int _
    ·exact .int _
   ·obtain⟨xs,rfl,rr⟩:=z4
    have G9:=G8.add (R':=LR K l2 (zs.map (wK t))) (Sep.mono LR.mono eW.mono) g z1 z2 z3 #[rfl,xs,z3,rr];exact qr _ _ _ _ _ ((OF.drop (X:=(lU gS P w K mg base Z4 "Floor.spoil" (a_ (pP 2)) f e7 A outer s0 H E).xQ) (Sep.mono eW.mono LR.mono) G9.qk).swap.Ea λas h=>#[l2,rfl,h])
end
def Fg0(d:ae):Option ae:=some (.int (KD d:Int))
theorem QC(day:List iP)(l:List (Nat×Int)):(l.map (x6 day)).filterMap Fg0=i_ (l.map (·.1)):=by
 unfold i_;rw[b0,aB];show tL (some∘λq=>dD (KD (x6 day q):Int)) l=_
 rw[lS];refine cW λq _=>?_
 rw[sv];rfl
def tD(l:List (Str×List (Nat×Int))):List (Str×List ae):=l.map λq=>(q.1,i_ (q.2.map (·.1)))
section
variable{P:bA}{w:cg}{K:ao}{mg:Str->Option aD}{base:cM}{f:aF}{k:Nat}{C:aF}{pl:Pl}{day:List iP}
abbrev Y1:List Str:=["self","places","name","goods"]
theorem NM:cn Y1 ["self"] (a_ (pP 4)):=by grind
def Y2(K:ao)(pl:Pl)(day:List iP)(s:Fs)(d2:List ae)(s':Fs)(U:UV):Prop:=d2=[]/\Z5 pl day s/\s'=s/\U=Rt K (tD s.wait)
theorem zcM(F:jQ K "places_now" "Floor.places_now" (pP 4) f fd)(c:I0 K C):dW P w K mg base gS 1 f fd ["self"] (D9 K Fs (eW K C pl day) (Y2 K pl day)):=
 J_ F NM (by simp) (λ_ _ _ _ h=>by obtain⟨rfl,_⟩:=h;rfl) λr s d2 s' U h=>by
  obtain⟨rfl,ok,rfl,rfl⟩:=h;intro e7 A outer s0 H E hr B0 B H0 Hh σ D G qr qn;have nd:Y1.Nodup:=NM.nd;have hG:dB 0 _:=hr;have nc:(["good"]:List Str).Nodup:=∎
  have Tc:s'.wait.length<=200:=by have:=qQ6 dC ok.nm;rw[ai]at this;have:=ok.pn;omega
  refine bM (Gn eW.mono G 1 (λ_=>rfl) (λla σ2 H2 fS G2=>?_) nd)
  obtain⟨aw,cs,G3⟩:=OF.flx G2.swap;refine zo (Sep.mono DL.mono o_.mono) G3 λo H3 hn0 G4=>?_
  have UQ:(vJ day s').length=s'.wait.length:=by unfold vJ;rw[ai]
  obtain⟨_,_,dx,pv,ad,al,at_,dv,lv,tv,rfl,IY,i1,i2⟩:=(G4.qk.qk).at;refine bM (IE (δ:=[.ref r,.ref la,.un,.un]) (λk=>Sep (DL K la (tD (s'.wait.take k))) (o_ K C pl day r aw s')) 2 3 (λ_=>Sep.mono DL.mono o_.mono) G4 bU rfl (λQ q pins s1 I=>?_) (gY rfl (bZ (gX 2 nd) (bZ (gX 3 nd) fM))) (λ_ _=>rfl) (λ_ _=>#[.inr rfl,.inr rfl,.inl rfl,.inl rfl,trivial]) (λk q cc hq Ot D C0 σ' cZ H' G5 post=>?_) λσ4 Ha Hb G5=>?_)
  ·exact mK (BM (i:=0) rfl (lJ rfl)) rfl pins s1 _ _ Q I #[.ref r,G4.fr.slot 0 _ rfl,r,C,dx,_,.ref aw,rfl,i1,c.cl,c.na _ ∎,rfl,q]
  ·obtain⟨z,hz,rfl⟩:∃z,s'.wait[k]?=some z/\q=(z.1,z.2.map (x6 day)):=by
    unfold vJ at hq;rw[aG]at hq
    cases e:s'.wait[k]? with
    |none=>rw[e]at hq;cases hq
    |some z=>rw[e]at hq;cases hq;exact#[z,rfl,rfl]
   have zcL:=(aH.mp hz).1
   have Og:s'.wait.take (k+1)=s'.wait.take k ++ [z]:=by rw[ck,hz];rfl
   have hzl:=ok.ln z (aQ hz);have U6:z.1∉(tD (s'.wait.take k)).map (·.1):=by
    have e1:(tD (s'.wait.take k)).map (·.1)=(s'.wait.map (·.1)).take k:=by unfold tD;rw[aB,pV];rfl
    rw[e1];exact vL (by rw[ok.nm];exact ok.nd) (by rw[aG,hz];rfl)
   have G6:=G5.qk;refine cx (Gp (es:=i_ (z.2.map (·.1))) (Sep.mono o_.mono DZ.mono) G6 hG 1 rfl (jm (aj 2 rfl)) U6 (zl G6 (Sep.nt DL.nt (Sep.nt o_.nt DZ.nt)) (Seen.refl.set 3 rfl ((DZ.xZ Ot hq).has (x4.refl.r.r))) (VO.to (eB (own:=["good"]) (cap:=[]) (N:=["good"]) (tgt:=.one 0) (F:=Fg0) (ds:=z.2.map (x6 day)) rfl #[rfl,∎,∎,rfl,rfl,λj hj=>(by cases hj)] (dY (aj 3 rfl)) (λf s3 H3=>gX 0 nc) rfl (small (by rw[ai];omega)) (λd hd=>?_)) (QC day z.2)) (λd hd=>?_)) (eL (by unfold tD;rw[ai,bJ];omega)) λHa Hb G7=>?_)
   ·obtain⟨y,hy,rfl⟩:=av.mp hd
    exact Fc rfl rfl λf s3 H3=>VE.to (vh 0 0 rfl rfl) (by rw[sv])
   ·obtain⟨y,_,rfl⟩:=av.mp hd
    exact .int _
   refine post _ Ha _ (OF.forget (H0:=Ha) (Sep.mono DZ.mono (Sep.mono DL.mono o_.mono)) (δ:=[.ref r,.ref la,.val (.str z.1),.ref cc]) ?_ #[.inr rfl,.inr rfl,.inl rfl,.inl rfl,trivial] rfl)
   have e1:tD (s'.wait.take (k+1))=tD (s'.wait.take k) ++ [(z.1,i_ (z.2.map (·.1)))]:=by rw[Og];unfold tD;rw[aN];rfl
   rw[e1];exact G7.qk.qk
  ·rw[UQ,c9]at G5
   refine J7 (Sep.mono DL.mono o_.mono) G5 hn0 λH6 G6=>?_
   have G7:OF K B0 B (Sep (DL K la (tD s'.wait)) (eW K C pl day r s')) _ _ _ _:=G6.qk.XU λas h=>#[aw,cs,h]
   exact cx (MJ G7.fr 1 rfl (qr _ _ _ _ _ (G7.Ea λas h=>#[la,rfl,h])))
theorem U7:cn ["self"] ["self"] (a_ (pP 5)):=by grind
def Y3(K:ao)(s:Fs)(d2:List ae)(s':Fs)(U:UV):Prop:=d2=[]/\s'=s/\U=UDR K (lR s)
theorem Y4(F:jQ K "loads_now" "Floor.loads_now" (pP 5) f fd)(md:mg "dict"=none)(c:I0 K C):dW P w K mg base gS 1 f fd ["self"] (D9 K Fs (eW K C pl day) (Y3 K)):=
 J_ F U7 (by simp) (λ_ _ _ _ h=>by obtain⟨rfl,_⟩:=h;rfl) λr s d2 s' U h=>by
  obtain⟨rfl,rfl,rfl⟩:=h;intro e7 A outer s0 H E hr B0 B H0 Hh σ D G qr qn;obtain⟨aw,cs,G1⟩:=OF.fl G;obtain⟨_,_,dx,pv,ad,al,at_,dv,lv,tv,rfl,IY,i1,i2,i3,i4,i5,i6,i7,i8⟩:=G1.at;have ll:=i6.length;rw[ai]at ll;obtain⟨k1,k2⟩:=yx (ns:=s'.loads.map (·.1)) (vs:=lv) (by rw[ai];exact ll)
  refine cx (Rp λpins s1 I=>?_)
  refine sE Ge (by rfl) md (by rfl) (cY (mK (BM (i:=0) rfl (lJ rfl)) rfl) eV (by rfl)) ⋯ ⋯ (by rfl) (by rfl) pins s1 _ _ _ I ?_
  refine#[.ref r,G.fr.slot 0 _ rfl,r,C,dx,_,.ref al,rfl,i1,c.cl,c.na _ ∎,rfl,al,_,rfl,i5,λp hp=>?_]
  have G2:=G.add (R':=DR K p (lR s')) eW.mono (.loose G.fr.sub hp) hp (G.fr.sub.free hp) bh #[rfl,_,bh,by rw[k1];unfold lR;rw[aB,aB];rfl,by rw[k2];unfold lR;rw[aB];exact i6]
  exact qr _ _ _ _ _ (G2.Ea λas h=>#[p,rfl,h])
end
def qJ(p:Pl):Fs:=#[0,(p.gates++p.lines.map (·.1)).map λx=>(x,[]),p.desks.map λd=>(d.name,none),p.desks.map λd=>(d.name,0,0)]
def NP(K:ao)(C:aF)(p:Pl)(day:List iP):Sp:=λvs H Q _=>∃(H0:Hp)(r dx:aF)(v1:V)(lh:aF)(xs:List V),vs=[.ref r,v1,.ref lh]/\cK H0 H/\H0 r=none/\H r=some (.ins C dx [])/\H0 lh=none/\H lh=some (.lst xs)/\b9 K H0 xs (day.map gM)/\Rep K H0 v1 (iJ p)/\lF p/\qI p/\
 ∀(cZ H':Hp)(as':List aF),cK H0 cZ->cK cZ H'->(∀a,cZ a≠none->H0 a≠none\/H a=none)->(∀a∈as',cZ a=none/\H' a≠none/\(a=r\/H a=none))->(∀b o,H b=some o->b≠r->H' b=some o)->eW K C p day r (qJ p) cZ H' as'->Q .non H'
theorem NQ:∀{kv:List (Key×V)}{ns:List Str},kv.map (·.1)=ns.map (λx=>(bo x:Key))->kv=Qy ns (kv.map (·.2))
 | [],[],_=>rfl
 | [],_::_,h=>by cases h
 |_::_,[],h=>by cases h
 |q::kv,x::ns,h=>by
  rw[ay,ay]at h
  injection h with h1 h2
  have ih:=NQ h2;show q::kv=(bo x,q.2)::Qy ns (kv.map (·.2))
  rw[<-ih,<-h1]
section
variable{P:bA}{w:cg}{K:ao}{mg:Str->Option aD}{base:cM}{f:aF}{k:Nat}{C:aF}{pl:Pl}{day:List iP}
abbrev U8:List Str:=["self","plant","day","name","desk"]
theorem R7:cn U8 ["self","plant","day"] (a_ (pP 0)):=by grind
theorem zcN(F:jQ K "__init__" "Floor.__init__" (pP 0) f fd)(n:Na mg)(c:I0 K C):dW P w K mg base gS 1 f fd ["self","plant","day"] (NP K C pl day):=by
 refine F.ok R7 (λvs H Q E h=>?_) (λe7 A outer s0 H vs Q E hr h=>?_)
 ·obtain⟨H0,r,dx,v1,lh,xs,rfl,_⟩:=h
  rfl
 ·obtain⟨H0,r,dx,v1,lh,xs,rfl,sm,Z7,QD,hl0,Z8,q2,q1,tE,gd,q⟩:=h
  refine#[_,j7,?_]
  have nd:U8.Nodup:=R7.nd;have hG:dB 0 _:=hr;have nrl:r≠lh:=λz=>by rw[z,Z8]at QD;cases QD
  have gn:=tE.gn;have ln:=tE.ln;have dn:=tE.dn;have f0:gy K H0 H H0 H (start U8 [.ref r,v1,.ref lh]) [.ref r,.val (iJ pl),.ref lh,.un,.un]:=by
   refine#[.refl sm,rfl,λi sl hi=>?_,λi j a b p' _ h1=>?_]
   ·match i,hi with
    |0,hi=>cases hi;exact rfl
    |1,hi=>cases hi;exact#[_,rfl,q1]
    |2,hi=>cases hi;exact rfl
    |3,hi=>cases hi;exact trivial
    |4,hi=>cases hi;exact trivial
    |i+5,hi=>simp at hi
   ·exact qQ7 h1 (iN (δ:=[.ref r,.val (iJ pl),.ref lh,.un,.un]) rfl i _)
  have own:∀a∈[r] ++ [lh],H0 a=none/\H a≠none:=λa ha=>by
   rcases aR.mp ha with ha|ha
   ·rw[aW.mp ha,QD];exact#[Z7,nofun]
   ·rw[aW.mp ha,Z8];exact#[hl0,nofun]
  have G0:OF K H0 (lB ([r] ++ [lh]) H) (Sep (IN C r dx []) (LQ K lh xs (day.map gM))) H0 H (start U8 [.ref r,v1,.ref lh]) [.ref r,.val (iJ pl),.ref lh,.un,.un]:=IC (X:=(lU gS P w K mg base U8 "Floor.__init__" (a_ (pP 0)) f e7 A outer s0 H E).xQ) own #[[r],[lh],rfl,λa ha hb=>nrl ((aW.mp ha).symm.trans (aW.mp hb)),#[rfl,QD],rfl,Z8,q2] f0 rfl
  refine bM (MK LQ.mono G0 0 rfl c.cl (c.na _ ∎) (by show 0<1000;decide) (jm (aj 1 rfl)) λpv Ha Hb G1=>?_)
  rw[show iz "plant" pv ([]:List (Str×V))=[(("plant":Str),pv)]from iu (show("plant":Str)∉([]:List Str) by symm)]at G1
  have m1:cj (Sep (qW K (iJ pl) pv) (LQ K lh xs (day.map gM))):=Sep.mono qW.mono LQ.mono;refine bM (Cu (R':=λl=>LR K l (day.map gM)) m1 (λ_=>LR.mono) G1 0 rfl c.cl (c.na _ ∎) (by show 1<1000;decide) (zl G1 (Sep.nt IN.nt (Sep.nt qW.nt LQ.nt)) (Seen.refl.set 2 rfl (LQ.see.has x4.refl.r.r)) (lu qd L4 (aq (aj 2 rfl) aU) n.lst rfl) (λd hd=>by obtain⟨g,_,rfl⟩:=av.mp hd;exact NB g)) (λl o Ha Hb #[xs,e,rr] h=>#[rfl,xs,by rw[h,e],rr]) λad Ha Hb G2=>?_)
  rw[show iz "day" (.ref ad) [(("plant":Str),pv)]=[(("plant":Str),pv),("day",.ref ad)]from iu (show("day":Str)∉(["plant"]:List Str) by symm)]at G2
  generalize hR2:Sep (Sep (qW K (iJ pl) pv) (LQ K lh xs (day.map gM))) (LR K ad (day.map gM))=R2 at G2
  have m2:cj R2:=by rw[<-hR2];exact Sep.mono m1 LR.mono
  refine bM (MK m2 G2 0 rfl c.cl (c.na _ ∎) (by show 2<1000;decide) (jm aJ) λcv Ha Hb G3=>?_)
  obtain⟨_,_,⟨_,rcv⟩⟩:=(G3.qk).at;cases rcv;have G3':=(OF.drop (X:=(lU gS P w K mg base U8 "Floor.__init__" (a_ (pP 0)) f e7 A outer s0 H E).xQ) (Sep.mono m2 IN.mono) G3.qk).swap;rw[show iz "came" (.int 0) [(("plant":Str),pv),("day",.ref ad)]=[(("plant":Str),pv),("day",.ref ad),("came",.int 0)]from iu (show("came":Str)∉(["plant","day"]:List Str) by symm)]at G3'
  refine bM (Cu (R':=λl=>DL K l []) m2 (λ_=>DL.mono) G3' 0 rfl c.cl (c.na _ ∎) (by show 3<1000;decide) (vv G3'.fr.sub) (λl o Ha Hb e h=>#[[],rfl,by simp,by rw[h,e];rfl,rfl,λi c q e1=>by simp at e1]) λaw Ha Hb G4=>?_)
  rw[show iz "waiting" (.ref aw) [(("plant":Str),pv),("day",.ref ad),("came",.int 0)]=[(("plant":Str),pv),("day",.ref ad),("came",.int 0),("waiting",.ref aw)]from iu (show("waiting":Str)∉(["plant","day","came"]:List Str) by symm)]at G4
  generalize FU:pl.gates++pl.lines.map (·.1)=ns
  have nsn:ns.Nodup:=by rw[<-FU];exact gd.pn
  have nsl:ns.length<=120:=by rw[<-FU,aV,ai];omega
  have G4':OF K H0 (lB ([r] ++ [lh]) H) (Sep (DL K aw ((ns.take 0).map λx=>(x,[]))) (Sep (IN C r dx [(("plant":Str),pv),("day",.ref ad),("came",.int 0),("waiting",.ref aw)]) R2)) _ _ _ _:=G4.qk.qk
  refine bM (vo (tgt:=.one 3) (ds:=ns.map .str) (λk=>Sep (DL K aw ((ns.take k).map λx=>(x,[]))) (Sep (IN C r dx [(("plant":Str),pv),("day",.ref ad),("came",.int 0),("waiting",.ref aw)]) R2)) (λ_=>Sep.mono DL.mono (Sep.mono IN.mono m2)) G4' bU rfl (dY (VE.to (VO.ve (mN (d1:=pl.gates.map .str) (d2:=(kI pl).map λq=>.str q.1) (lz (aj 1 rfl) (Ez pl)) (VO.ve (lu (nU rfl) Ce (aq (lz (aj 1 rfl) (vE pl)) aU) n.lst rfl)) (small (by unfold kI;rw[ai,ai,ai];omega)))) (by rw[<-FU,aN];unfold kI;rw[aB,aB];rfl))) (gX 3 nd) (λk d hd=>?_) λσ2 H2 fS G6=>?_)
  ·obtain⟨x,hx,rfl⟩:∃x,ns[k]?=some x/\d=.str x:=by
    rw[aG]at hd
    cases e:ns[k]? with
    |none=>rw[e]at hd;cases hd
    |some z=>rw[e]at hd;cases hd;exact#[z,rfl,rfl]
   have e1:ns.take (k+1)=ns.take k ++ [x]:=by rw[ck,hx];rfl
   refine#[_,rfl,rfl,λD C0 σ' cZ H' G1 post=>?_]
   refine cx (UD (es:=[]) m2 G1 hG 0 rfl c.cl (c.na _ ∎) rfl (aj 3 rfl) (by rw[aB];show x∉(ns.take k).map id;rw[ko];exact vL nsn hx) (wB G1 (fE aU)) (eL (by rw[ai,bJ];omega)) λHa Hb G2=>?_)
   refine post _ Ha _ (OF.forget (H0:=Ha) (δ:=[.ref r,.val (iJ pl),.ref lh,.val (.str x),.un]) (Sep.mono DL.mono (Sep.mono IN.mono m2)) ?_ #[.inr rfl,.inr rfl,.inr rfl,.inl rfl,.inr rfl,trivial] rfl)
   rw[e1,aN];exact G2
  rw[ai,c9]at G6;have G6':=G6.qk
  generalize hR3:Sep R2 (DL K aw (ns.map λx=>(x,[])))=R3 at G6'
  have m3:cj R3:=by rw[<-hR3];exact Sep.mono m2 DL.mono
  have dr0:∀(l:aF)(o:HO)(Ha Hb:Hp),o=HO.dK []->Hb l=some o->DR K l [] Ha Hb [l]:=λl o Ha Hb e h=>#[rfl,[],by rw[h,e],rfl,.nil]
  refine bM (Cu (R':=λl=>DR K l []) m3 (λ_=>DR.mono) G6' 0 rfl c.cl (c.na _ ∎) (by show 4<1000;decide) (vv G6'.fr.sub) dr0 λal Ha Hb G7=>?_)
  rw[show iz "loads" (.ref al) [(("plant":Str),pv),("day",.ref ad),("came",.int 0),("waiting",.ref aw)]=[(("plant":Str),pv),("day",.ref ad),("came",.int 0),("waiting",.ref aw),("loads",.ref al)]from iu (show("loads":Str)∉(["plant","day","came","waiting"]:List Str) by symm)]at G7
  refine bM (Cu (R':=λl=>DR K l []) (Sep.mono m3 DR.mono) (λ_=>DR.mono) G7 0 rfl c.cl (c.na _ ∎) (by show 5<1000;decide) (vv G7.fr.sub) dr0 λat_ Ha Hb G8=>?_)
  rw[show iz "turns" (.ref at_) [(("plant":Str),pv),("day",.ref ad),("came",.int 0),("waiting",.ref aw),("loads",.ref al)]=Bm pv ad aw al at_ 0 from iu (show("turns":Str)∉(["plant","day","came","waiting","loads"]:List Str) by symm)]at G8
  generalize E_:pl.desks.map (·.name)=ds
  have dsn:ds.Nodup:=by rw[<-E_];exact gd.dn
  have dsl:ds.length<=60:=by rw[<-E_,ai];exact dn
  have Y5:OF K H0 (lB ([r] ++ [lh]) H) (Sep (DR K al ((ds.take 0).map λx=>(x,xO))) (Sep (IN C r dx (Bm pv ad aw al at_ 0)) (Sep (DR K at_ ((ds.take 0).map λx=>(x,zM (0,0)))) R3))) _ _ _ _:=G8.zbA
  refine cx (vo (tgt:=.one 4) (ds:=pl.desks.map fz) (λk=>Sep (DR K al ((ds.take k).map λx=>(x,xO))) (Sep (IN C r dx (Bm pv ad aw al at_ 0)) (Sep (DR K at_ ((ds.take k).map λx=>(x,zM (0,0)))) R3))) (λ_=>Sep.mono DR.mono (Sep.mono IN.mono (Sep.mono DR.mono m3))) Y5 bU rfl (dY (lz (aj 1 rfl) (zB pl))) (gX 4 nd) (λk d hd=>?_) λσ3 H3 xU G9=>?_)
  ·obtain⟨z,hz,rfl⟩:∃z,pl.desks[k]?=some z/\d=fz z:=by
    rw[aG]at hd
    cases e:pl.desks[k]? with
    |none=>rw[e]at hd;cases hd
    |some z=>rw[e]at hd;cases hd;exact#[z,rfl,rfl]
   have Ei:ds[k]?=some z.name:=by rw[<-E_,aG,hz];rfl
   have e1:ds.take (k+1)=ds.take k ++ [z.name]:=by rw[ck,Ei];rfl
   have nk:∀{d:ae},z.name∉((ds.take k).map λx=>(x,d)).map (·.1):=λ{d}=>by rw[aB];show z.name∉(ds.take k).map id;rw[ko];exact vL dsn Ei
   refine#[_,rfl,rfl,λD C0 σ' cZ H' G1 post=>?_]
   refine bM (ML (d:=.none) (Sep.mono DR.mono m3) G1 hG 0 rfl c.cl (c.na _ ∎) rfl (vh 4 0 rfl rfl) nk eP (eL (by rw[ai,bJ];omega)) λHa Hb G2=>?_)
   refine cx (ML (d:=zM (0,0)) (Sep.mono DR.mono m3) G2.XX hG 0 rfl c.cl (c.na _ ∎) rfl (vh 4 0 rfl rfl) nk (VE.to (e9 (aq aJ (aq aJ aU))) rfl) (eL (by rw[ai,bJ];omega)) λHa Hb G3=>?_)
   refine post _ Ha _ (OF.forget (H0:=Ha) (δ:=[.ref r,.val (iJ pl),.ref lh,.un,.val (fz z)]) (Sep.mono DR.mono (Sep.mono IN.mono (Sep.mono DR.mono m3))) ?_ #[.inr rfl,.inr rfl,.inr rfl,.inr rfl,.inl rfl,trivial] rfl)
   rw[e1,aN,aN];exact G3.XX
  ·rw[ai,show ds.take pl.desks.length=ds by rw[<-E_,<-ai (f:=(·.name)),c9]]at G9
   subst hR3;subst hR2;obtain⟨as',z1,z2,z3,z4,z5,z6⟩:=Rq (X:=(lU gS P w K mg base U8 "Floor.__init__" (a_ (pP 0)) f e7 A outer s0 H E).xQ) G9;obtain⟨_,_,rfl,R8,⟨rfl,kv1,l1,l2,l3⟩,_,_,rfl,Ff,⟨rfl,hi⟩,_,_,rfl,Oj,⟨rfl,kv2,t1,t2,t3⟩,_,wd,rfl,Z9,⟨_,_,rfl,dj5,⟨_,_,rfl,dj6,⟨rfl,hpv⟩,⟨rfl,JW,Fb⟩⟩,⟨rfl,dv,hd1,hd2⟩⟩,F7⟩:=z6;obtain⟨cs,hdc⟩:=F7.dc;simp only[gU]at *;have e1:kv1=Qy ((qJ pl).loads.map (·.1)) (kv1.map (·.2)):=by
    refine NQ ?_
    rw[l2];unfold qJ;rw[<-E_];simp only[aB];rfl
   have e2:kv2=Qy ((qJ pl).turns.map (·.1)) (kv2.map (·.2)):=by
    refine NQ ?_
    rw[t2];unfold qJ;rw[<-E_];simp only[aB];rfl
   have hrn:=(z5 r (by simp)).1
   have UO:=(z5 lh (by simp)).1
   refine q _ _ ([r,ad,al,at_]++wd) z1 z2 (λa ha=>?_) (λa ha=>?_) (λb o hb DM=>?_) #[aw,cs,[r,ad,al,at_],wd,rfl,λa ha hb=>?_,#[dx,pv,ad,al,at_,dv,kv1.map (·.2),kv2.map (·.2),rfl,?_,hi,hpv,hd1,hd2,by rw[<-e1];exact l1,?_,by rw[<-e2];exact t1,?_],?_]
   ·rcases z3 a ha with y|y|y
    ·exact .inl y
    ·exact .inr y
    ·simp only[ax,aR,a8,or_false]at y
     rcases y with rfl|rfl
     ·exact qQ7 hrn ha
     ·exact qQ7 UO ha
   ·have hm:a∈[al]++([r]++([at_]++([lh] ++ [ad]++wd))):=by
     simp only[ax,aR,a8,or_false]at ha ⊢;rcases ha with(h|h|h|h)|h<;>simp[h]
    obtain⟨y1,y2,y3⟩:=z5 a hm;refine#[y1,y2,?_]
    rcases y3 with y|y
    ·simp only[ax,aR,a8,or_false]at y
     rcases y with y|y
     ·exact .inl y
     ·exfalso
      simp only[ax,aR,a8,or_false]at ha R8 Ff Oj Z9 dj5;subst y;rcases ha with(h|h|h|h)|h
      ·exact nrl h.symm
      ·exact dj5 _ rfl h
      ·exact R8 _ h (by simp)
      ·exact Oj _ h (by simp)
      ·exact Z9 a (by simp) h
    ·exact .inr y
   ·by_cases Vq:b=lh
    ·subst Vq
     rw[Z8]at hb;cases hb;exact JW
    ·exact z4 b o hb (by simp only[ax,aR,a8,or_false,not_or];exact#[DM,Vq])
   ·simp only[ax,aR,a8,or_false]at ha R8 Ff Oj Z9
    rcases ha with h|h|h|h
    ·exact Ff a h (by simp[hb])
    ·exact Z9 a (by simp[h]) hb
    ·exact R8 a h (by simp[hb])
    ·exact Oj a h (by simp[hb])
   ·simp only[ax,aR,a8,or_false,forall_eq,not_or]at R8 Ff Oj
    simp only[bY,ax,a8,or_false,not_or,not_false_eq_true,kR,and_true];refine#[#[Ff.2.1.2,λz=>R8.1 z.symm,Ff.1],#[λz=>R8.2.2.1.2 z.symm,λz=>Oj.1.2 z.symm],R8.2.1]
   ·have:(qJ pl).loads.map (λq=>Nx q.2)=(ds.map λx=>(x,xO)).map (·.2):=by rw[<-E_];unfold qJ;simp only[aB];rfl
    rw[this];exact l3
   ·have:(qJ pl).turns.map (λq=>zM q.2)=(ds.map λx=>(x,zM (0,0))).map (·.2):=by rw[<-E_];unfold qJ;simp only[aB];rfl
    rw[this];exact t3
   ·have:vJ day (qJ pl)=ns.map λx=>(x,[]):=by rw[<-FU];unfold vJ qJ;simp only[aB];rfl
    rw[this];exact hdc
end
section
variable{P:bA}{w:cg}{K:ao}{mg:Str->Option aD}{base:cM}{f:aF}{k:Nat}
theorem Y6:cn ["_law_x"] ["_law_x"] (a_ (top 63)):=by grind
def Z_(ds:List ae)(d:ae):Prop:=∃i:Int,ds=[.int i]/\d=.bool true
theorem zcU(F:jQ K "_law_number" "_law_number" (top 63) f fd)(n:Na mg)(kt:Ka K):dW P w K mg base gS 1 f fd ["_law_x"] (gu K Z_):=
 iY F Y6 (by ext) λ_ _ h=>by
  obtain⟨i,rfl,rfl⟩:=h;intro e7 A outer s0 H E hr;exact bp (b_ (VE.to (jL (jK (tn:="int") (aj 0 rfl) rfl kt.ii rfl n.DP n.int rfl) (λ_=>iG (vk (jK (tn:="bool") (aj 0 rfl) rfl kt.ib rfl n.DP n.bool rfl)))) rfl))
abbrev Z':List Str:=["_law_found","_law_due","_law_k"]
theorem NR:cn Z' ["_law_found","_law_due"] (a_ (top 64)):=by grind
def U9(n:Nat)(ds:List ae)(d:ae):Prop:=∃x,ds=[x,x]/\UR n x/\d=.bool true
theorem R9(n:Na mg)(kt:Ka K)(si:cA K (.type "str") (.type "int")=some false)(C1:bD P w K mg base 1 "_law_number" ["_law_x"] (gu K Z_))(hk:1<=k){x:ae}(h:M4 x):xi P w K mg base Z' "_law_equal" (top 64) f k [x,x] (.rt (.bool true)):=by
 intro e7 A outer s H E hr;have hG:dB 1 _:=hr.mono hk;cases x with
 |none=>exact dz (dU (VT.to (fY iF kG (aj 1 rfl) eP (eu _)) rfl) (bp (b_ (VE.to (mM iF kG (aj 0 rfl) eP (eu _)) rfl)))) rfl
 |int i=>
  refine aK (bP (VT.to (fY iF kG (aj 1 rfl) eP (eu _)) rfl) bB) ?_
  refine dz (dU (eQ (jK (tn:="int") (aj 1 rfl) rfl kt.ii rfl n.DP n.int rfl) rfl) (bp (b_ (VE.to (jL (k1:=true) (bK C1 hG (aq (aj 0 rfl) aU) #[i,rfl,rfl]) (λ_=>iG (qO hG (cu 20 _) (cu 20 _) (aj 0 rfl) (aj 1 rfl)))) ?_)))) rfl
  rw[jG,qQ1 rfl];rfl
 |str z=>
  refine aK (bP (VT.to (fY iF kG (aj 1 rfl) eP (eu _)) rfl) bB) ?_
  refine aK (bP (eQ (jK (tn:="int") (aj 1 rfl) rfl si rfl n.DP n.int rfl) rfl) bB) ?_
  refine dz (dU (eQ (jK (tn:="str") (aj 1 rfl) rfl kt.ss rfl n.DP n.str rfl) rfl) (bp (b_ (VE.to (jL (jK (tn:="str") (aj 0 rfl) rfl kt.ss rfl n.DP n.str rfl) (λ_=>iG (qO hG (bH h) (bH h) (aj 0 rfl) (aj 1 rfl)))) ?_)))) rfl
  rw[bO,qQ1 rfl];rfl
 |_=>exact h.elim
theorem Y7{m:Nat}(n:Na mg)(kt:Ka K)(C:bD P w K mg base (m+2) "_law_equal" ["_law_found","_law_due"] (gu K (U9 m))){x:ae}{xs:List ae}(hx:x=.tuple xs\/x=.list xs)(hl:xs.length<=1000)(ho:∀e∈xs,UR m e):xi P w K mg base Z' "_law_equal" (top 64) f (m+2) [x,x] (.rt (.bool true)):=by
 intro e7 A outer s H E hr;have nd:Z'.Nodup:=NR.nd;have J2:∀i,i<xs.length->um xs (i:Int)=some (xs.getD i .none):=λi hi=>cz (by rw[aI,au hi];rfl)
 have vf:∀i,i<xs.length->xs.getD i .none∈xs:=λi hi=>by rw[aI,au hi];exact dP _
 rcases hx with rfl|rfl
 ·refine aK (bP (VT.to (fY iF kG (aj 1 rfl) eP (eu _)) rfl) bB) ?_
  refine aK (bP (eQ (jK (tn:="int") (aj 1 rfl) rfl kt.ti rfl n.DP n.int rfl) rfl) bB) ?_
  refine aK (bP (eQ (jK (tn:="str") (aj 1 rfl) rfl kt.ts rfl n.DP n.str rfl) rfl) bB) ?_
  refine aK (bP (VT.to (kx (k1:=true) (k2:=false) (eQ (jK (tn:="tuple") (aj 1 rfl) rfl kt.tt rfl n.DP n.tup rfl) rfl) (λ_=>VT.to (lr (eQ (jK (tn:="tuple") (aj 0 rfl) rfl kt.tt rfl n.DP n.tup rfl) rfl)) rfl)) rfl) bB) ?_
  refine aK (bP (VT.to (kx (k1:=false) (k2:=false) (eQ (jK (tn:="list") (aj 1 rfl) rfl kt.tl rfl n.DP n.lst rfl) rfl) (λz=>by cases z)) rfl) bB) ?_
  refine aK (bP (VT.to (oK hr (cu 20 _) (cu 20 _) (ky (aj 0 rfl) n.len) (ky (aj 1 rfl) n.len)) (by rw[jG,qQ1 rfl];rfl)) bB) ?_
  refine aK (mO (tgt:=.one 2) (ds:=ik xs.length) (o:=.nx [.val (.tuple xs),.val (.tuple xs),.un]) bU rfl (nS (n:=(xs.length:Int)) (ky (aj 1 rfl) n.len) n.rng ∅ ∅) (gX 2 nd) (λ_=>[.val (.tuple xs),.val (.tuple xs),.un]) xs.length rfl (by rw[eZ];exact aP _) (λi d hi hd=>?_) (.inl #[by rw[eZ],rfl])) (bp (b_ xg))
  obtain rfl:d=.int (i:Int):=by unfold ik at hd;rw[aG,fu hi]at hd;cases hd;rfl
  exact#[_,rfl,iV (bp (bP (VT.to (lr (eQ (bK C hr (aq (dq (aj 0 rfl) (aj 2 rfl) (J2 i hi)) (aq (dq (aj 1 rfl) (aj 2 rfl) (J2 i hi)) aU)) #[xs.getD i .none,rfl,ho _ (vf i hi),rfl]) rfl)) rfl) bB)) #[.inr rfl,.inr rfl,.inl rfl,trivial]]
 ·refine aK (bP (VT.to (fY iF kG (aj 1 rfl) eP (eu _)) rfl) bB) ?_
  refine aK (bP (eQ (jK (tn:="int") (aj 1 rfl) rfl kt.li rfl n.DP n.int rfl) rfl) bB) ?_
  refine aK (bP (eQ (jK (tn:="str") (aj 1 rfl) rfl kt.ls rfl n.DP n.str rfl) rfl) bB) ?_
  refine aK (bP (VT.to (kx (k1:=false) (k2:=false) (eQ (jK (tn:="tuple") (aj 1 rfl) rfl kt.lt rfl n.DP n.tup rfl) rfl) (λz=>by cases z)) rfl) bB) ?_
  refine aK (bP (VT.to (kx (k1:=true) (k2:=false) (eQ (jK (tn:="list") (aj 1 rfl) rfl kt.ll rfl n.DP n.lst rfl) rfl) (λ_=>VT.to (lr (eQ (jK (tn:="list") (aj 0 rfl) rfl kt.ll rfl n.DP n.lst rfl) rfl)) rfl)) rfl) bB) ?_
  refine aK (bP (VT.to (oK hr (cu 20 _) (cu 20 _) (ie (aj 0 rfl) n.len) (ie (aj 1 rfl) n.len)) (by rw[jG,qQ1 rfl];rfl)) bB) ?_
  refine aK (mO (tgt:=.one 2) (ds:=ik xs.length) (o:=.nx [.val (.list xs),.val (.list xs),.un]) bU rfl (nS (n:=(xs.length:Int)) (ie (aj 1 rfl) n.len) n.rng ∅ ∅) (gX 2 nd) (λ_=>[.val (.list xs),.val (.list xs),.un]) xs.length rfl (by rw[eZ];exact aP _) (λi d hi hd=>?_) (.inl #[by rw[eZ],rfl])) (bp (b_ xg))
  obtain rfl:d=.int (i:Int):=by unfold ik at hd;rw[aG,fu hi]at hd;cases hd;rfl
  exact#[_,rfl,iV (bp (bP (VT.to (lr (eQ (bK C hr (aq (fk (aj 0 rfl) (aj 2 rfl) (J2 i hi)) (aq (fk (aj 1 rfl) (aj 2 rfl) (J2 i hi)) aU)) #[xs.getD i .none,rfl,ho _ (vf i hi),rfl]) rfl)) rfl) bB)) #[.inr rfl,.inr rfl,.inl rfl,trivial]]
theorem Y8(F:jQ K "_law_equal" "_law_equal" (top 64) f fd)(n:Na mg)(kt:Ka K)(si:cA K (.type "str") (.type "int")=some false)(C1:bD P w K mg base 1 "_law_number" ["_law_x"] (gu K Z_)):dW P w K mg base gS 2 f fd ["_law_found","_law_due"] (gu K (U9 0)):=
 iY F NR (by ext) λ_ _ h=>by
  obtain⟨x,rfl,ho,rfl⟩:=h;exact R9 n kt si C1 (aP _) ho
theorem R_{m:Nat}(F:jQ K "_law_equal" "_law_equal" (top 64) f fd)(n:Na mg)(kt:Ka K)(si:cA K (.type "str") (.type "int")=some false)(C1:bD P w K mg base 1 "_law_number" ["_law_x"] (gu K Z_))(C:bD P w K mg base (m+2) "_law_equal" ["_law_found","_law_due"] (gu K (U9 m))):dW P w K mg base gS (m+3) f fd ["_law_found","_law_due"] (gu K (U9 (m+1))):=
 iY F NR (by ext) λ_ _ h=>by
  obtain⟨x,rfl,ho,rfl⟩:=h;rcases ho with ho|⟨xs,h1,h2,h3⟩
  ·exact R9 n kt si C1 ∅ ho
  ·exact Y7 n kt C h1 h2 h3
abbrev Nso:List Str:=["_law_h","_law_day_here","_law_good","_law_t","_law_keep"]
theorem Sb:cn Nso ["_law_h","_law_day_here","_law_good","_law_t"] (a_ (top 67)):=by grind
def Rso(ds:List ae)(d:ae):Prop:=∃(p:Pl)(day:List iP)(g:Nat)(t:Int),ds=[eM p,.list (day.map gM),.int (g:Int),.int t]/\lF p/\qI p/\VN p day/\g<day.length/\d=.bool (Bn p day g t)
theorem EW(p:Pl):p.kinds.map kX=(kH p).map L2.pairD:=by
 unfold kH;rw[aB];rfl
theorem zcV(F:jQ K "_law_spoilt" "_law_spoilt" (top 67) f fd)(n:Na mg)(md:mg "dict"=none):dW P w K mg base gS 2 f fd ["_law_h","_law_day_here","_law_good","_law_t"] (gu K Rso):=
 iY F Sb (by ext) λ_ _ h=>by
  obtain⟨p,day,g,t,rfl,tE,gd,Dh,hg,rfl⟩:=h;intro e7 A outer s0 H E hr;have nd:Nso.Nodup:=Sb.nd;refine aK (df 4 (d:=nW (zN p (goodW day g).2.2.1)) (fN hr (Mz (l:=kH p) (VE.to (fN hr (aj 0 rfl) bw (rW p)) (by rw[EW])) (by rw[qG];exact gd.kn) rfl md) (dq (d:=.str (goodW day g).2.2.1) (fk (aj 1 rfl) (aj 2 rfl) (cz (su hg))) aJ (cz (j:=2) rfl)) (EK (Dh.kd g hg))) nd) ?_
  unfold Bn wJ;cases e:zN p (goodW day g).2.2.1 with
  |none=>exact bp (b_ (VE.to (jL (k1:=false) (k2:=false) (mM uY (B9 (d:=.none)) (aj 4 rfl) eP (eu _)) (λz=>by cases z)) rfl))
  |some i=>exact bp (b_ (VE.to (jL (k1:=true) (mM uY (B9 (d:=.int i)) (aj 4 rfl) eP (eu _)) (λ_=>iG (W7 (d_ (dq (d:=.int (goodW day g).1) (fk (aj 1 rfl) (aj 2 rfl) (cz (su hg))) aJ (cz (j:=0) rfl)) (aj 4 rfl)) (aj 3 rfl)))) rfl))
end
def NS:ae->Nat
 | .int i=>i.toNat
 |_=>0
def Fd(day:List iP)(x:Str)(d:ae):Option ae:=if(goodW day (NS d)).2.1=x then some d else none
def VW(day:List iP)(x:Str)(here:List Nat):List Nat:=here.filter λg=>decide ((goodW day g).2.1=x)
theorem Jc(day:List iP)(x:Str):∀l:List Nat,(i_ l).filterMap (Fd day x)=i_ (VW day x l)
 | []=>rfl
 |g::l=>by
  have ih:=Jc day x l;unfold i_ VW at ih ⊢;rw[ay,fq,eE];unfold Fd;rw[show NS (.int (g:Int))=g from dS _]
  by_cases h:(goodW day g).2.1=x
  ·rw[qQ3 h,qQ1 h];show dD _::_=dD _::_;congr 1
  ·rw[qQ2 h,qQ0 h];exact ih
def EX(day:List iP)(here:List Nat)(ns:List Str):List (Str×List ae):=ns.map λx=>(x,i_ (VW day x here))
def Fln:ae->Option ae
 | .tuple (d::_)=>some d
 |_=>none
theorem QF(p:Pl):(p.lines.map oS).filterMap Fln=(p.lines.map (·.1)).map .str:=by
 rw[b0,aB];show tL (some∘λq:Str×Int=>aS q.1) p.lines=_
 rw[lS];rfl
abbrev pq(p:Pl):List Str:=p.gates++p.lines.map (·.1)
section
variable{P:bA}{w:cg}{K:ao}{mg:Str->Option aD}{base:cM}{f:aF}{k:Nat}
abbrev Nlp:List Str:=["_law_h","_law_day_here","_law_here","_law_places_here","_law_name"]
theorem Sd:cn Nlp ["_law_h","_law_day_here","_law_here"] (a_ (top 65)):=by grind
def Rlp(ds:List ae)(d:ae):Prop:=∃(p:Pl)(day:List iP)(here:List Nat),ds=[eM p,.list (day.map gM),.list (i_ here)]/\lF p/\qI p/\VN p day/\(∀g∈here,g<day.length)/\here.length<=1000/\d=wx (wz (EX day here (pq p)))
theorem zcX(F:jQ K "_law_places" "_law_places" (top 65) f fd):dW P w K mg base gS 1 f fd ["_law_h","_law_day_here","_law_here"] (gu K Rlp):=
 iY F Sd (by ext) λ_ _ h=>by
  obtain⟨p,day,here,rfl,tE,gd,Dh,hh,hl,rfl⟩:=h;intro e7 A outer s0 H E hr;have nd:Nlp.Nodup:=Sd.nd;have hG:dB 0 _:=hr;have nc:(["_law_good","_law_day_here","_law_name"]:List Str).Nodup:=∎
  have n2:(["_law_line"]:List Str).Nodup:=∎
  have gn:=tE.gn;have ln:=tE.ln;have nsl:(pq p).length<=120:=by rw[aV,ai];omega
  refine vm λB0 B σ H0 Hh D fr okk=>?_
  have G0:=Ru fr rfl;refine bM (Gn EM.mono G0 3 (λ_=>rfl) (λla σ1 H1 cV G1=>?_) nd)
  have G1':OF K B0 B (Sep (DL K la (EX day here ((pq p).take 0))) EM) H1 cV σ1 [.val (eM p),.val (.list (day.map gM)),.val (.list (i_ here)),.ref la,.un]:=G1;refine bM (vo (tgt:=.one 4) (ds:=(pq p).map .str) (λk=>Sep (DL K la (EX day here ((pq p).take k))) EM) (λ_=>Sep.mono DL.mono EM.mono) G1' bU rfl (dY (VE.to (VO.ve (mN (d1:=p.gates.map .str) (d2:=(p.lines.map (·.1)).map .str) (fN hG (aj 0 rfl) bw (rX p)) (VO.ve (VO.to (eB (own:=["_law_line"]) (cap:=[]) (N:=["_law_line"]) (cl:=[]) (tgt:=.one 0) (F:=Fln) (ds:=p.lines.map oS) rfl #[rfl,∎,∎,rfl,rfl,by simp] (dY (fN hG (aj 0 rfl) bw (Ej p))) (λf s3 H3=>gX 0 n2) rfl (small (by rw[ai];omega)) (λd hd=>?_)) (QF p))) (small (by rw[ai,ai,ai];omega)))) (by rw[aN]))) (gX 4 nd) (λk d hd=>?_) λσ2 H2 fS G2=>?_)
  ·obtain⟨q,hq,rfl⟩:=av.mp hd
   exact Fc rfl rfl λf s3 H3=>vh 0 0 rfl rfl
  ·obtain⟨x,hx,rfl⟩:∃x,(pq p)[k]?=some x/\d=.str x:=by
    rw[aG]at hd
    cases e:(pq p)[k]? with
    |none=>rw[e]at hd;cases hd
    |some z=>rw[e]at hd;cases hd;exact#[z,rfl,rfl]
   have e1:(pq p).take (k+1)=(pq p).take k ++ [x]:=by rw[ck,hx];rfl
   have ox:nV x:=by
    rcases aR.mp (aQ hx)with h|h
    ·exact(tE.gates _ h).ok.2
    ·obtain⟨y,hy,e⟩:=av.mp h
     rw[<-e];exact(tE.lines y hy).1.ok.2
   refine#[_,rfl,rfl,λD C0 σ' cZ H' G3 post=>?_]
   have VQ:x∉(EX day here ((pq p).take k)).map (·.1):=by
    unfold EX;rw[aB];show x∉((pq p).take k).map id;rw[ko];exact vL gd.pn hx
   refine cx (Gp (es:=i_ (VW day x here)) EM.mono G3 hG 3 rfl (jm (aj 4 rfl)) VQ (wB G3 (VO.to (eB (own:=["_law_good"]) (cap:=[1,4]) (N:=["_law_good","_law_day_here","_law_name"]) (tgt:=.one 0) (F:=Fd day x) (ds:=i_ here) rfl #[rfl,∎,∎,rfl,rfl,?_] (dY (aj 2 rfl)) (λf s3 H3=>gX 0 nc) rfl (small (by rw[jV];omega)) (λd hd=>?_)) (Jc day x here))) (eL (by unfold EX;rw[ai,bJ];omega)) λHa Hb G4=>?_)
   ·intro j hj
    rcases ax.mp hj with rfl|hj
    ·exact#[(by show(1:Nat)<5;decide),(by left),rfl]
    rcases ax.mp hj with rfl|hj
    ·exact#[(by show(4:Nat)<5;decide),(by left),rfl]
    ·cases hj
   ·obtain⟨g,hg,rfl⟩:=av.mp hd
    have og:nV (goodW day g).2.1:=(tE.gates _ (Dh.gt g (hh g hg))).ok.2;have eg:NS (.int (g:Int))=g:=dS _;refine#[_,rfl,λf s3 H3=>ng (VT.to (fx hG (bH og) (bH ox) (dq (d:=.str (goodW day g).2.1) (fk (aj 1 rfl) (aj 0 rfl) (cz (su (hh g hg)))) aJ (cz (j:=1) rfl)) (aj 2 rfl)) ?_),λr kQ f s3 H3=>?_]
    ·rw[bO]
     unfold Fd;rw[eg];by_cases h:(goodW day g).2.1=x
     ·rw[qQ3 h,qQ1 h];rfl
     ·rw[qQ2 h,qQ0 h];rfl
    ·unfold Fd at kQ
     split at kQ
     ·cases kQ;exact aj 0 rfl
     ·cases kQ
   refine post _ Ha _ (OF.forget (H0:=Ha) (δ:=[.val (eM p),.val (.list (day.map gM)),.val (.list (i_ here)),.ref la,.val (.str x)]) (Sep.mono DL.mono EM.mono) ?_ #[.inr rfl,.inr rfl,.inr rfl,.inr rfl,.inl rfl,trivial] rfl)
   rw[e1];unfold EX;rw[aN];exact G4
  ·rw[ai,c9]at G2
   obtain⟨cs,G3⟩:=G2.dlx;refine zo EM.mono G3 λo H4 hn0 G4=>?_
   exact cx (Rk G4 3 rfl (Sep.xZ DZ.see) okk)
abbrev Nsm:List Str:=["_law_found","_law_due","_law_name"]
theorem Se:cn Nsm ["_law_found","_law_due"] (a_ (top 66)):=by grind
def Rsm(ds:List ae)(d:ae):Prop:=∃kl:List (Str×List ae),ds=[kP (wz kl),wx (wz kl)]/\(kl.map (·.1)).Nodup/\(∀q∈kl,nV q.1/\UR 1 (.list q.2))/\kl.length<=1000/\d=.bool true
theorem zc0(F:jQ K "_law_same" "_law_same" (top 66) f fd)(n:Na mg)(md:mg "dict"=none)(kd:cA K (.type "dict") (.type "dict")=some true)(C:bD P w K mg base 3 "_law_equal" ["_law_found","_law_due"] (gu K (U9 1))):dW P w K mg base gS 4 f fd ["_law_found","_law_due"] (gu K Rsm):=
 iY F Se (by ext) λ_ _ h=>by
  obtain⟨kl,rfl,hn,hq,hl,rfl⟩:=h;intro e7 A outer s0 H E hr;have nd:Nsm.Nodup:=Se.nd;have hG:dB 1 _:=hr.mono ∅
  have Qk:((wz kl).map (·.1)).Nodup:=by unfold wz;rw[aB];exact hn
  have ly:Lay 20 (.list ((wz kl).map λq=>aS q.1)):=yp (n:=19) λd hd=>by
   obtain⟨q,FP,rfl⟩:=av.mp hd;obtain⟨z,hz,rfl⟩:=av.mp FP;exact bH (hq z hz).1
  refine aK (bP (VT.to (jS (k1:=false) (k2:=false) (VT.to (lr (eQ (Gf (tn:="dict") (aj 0 rfl) kd rfl n.DP md rfl) rfl)) rfl) (λ_=>VT.to (oK hG ly ly (VO.ve (lu (nU rfl) Ce (aq (aj 0 rfl) aU) n.lst rfl)) (VO.ve (lu (xY rfl) P4 (aq (aj 1 rfl) aU) n.lst rfl))) (by rw[SeqAt.eqv_refl _ ly.1];rfl))) rfl) bB) ?_
  refine aK (mO (tgt:=.one 2) (ds:=(wz kl).map λq=>.str q.1) (o:=.nx [.val (kP (wz kl)),.val (wx (wz kl)),.un]) bU rfl (MB (aj 1 rfl)) (gX 2 nd) (λ_=>[.val (kP (wz kl)),.val (wx (wz kl)),.un]) (wz kl).length rfl (by rw[ai];exact aP _) (λi d hi hd=>?_) (.inl #[by rw[ai],rfl])) (bp (b_ xg))
  rw[aG]at hd
  cases e:(wz kl)[i]? with
  |none=>rw[e]at hd;cases hd
  |some q=>
   rw[e]at hd;cases hd;have hm:=aQ e;have hv:=zI Qk (show(q.1,q.2)∈wz kl from hm)
   obtain⟨z,hz,e2⟩:=av.mp hm;exact#[_,rfl,iV (bp (bP (VT.to (lr (eQ (bK C hr (aq (fN hG (aj 0 rfl) (aj 2 rfl) hv) (aq (MC hG (aj 1 rfl) (aj 2 rfl) hv) aU)) #[q.2,rfl,by rw[<-e2];exact(hq z hz).2,rfl]) rfl)) rfl) bB)) #[.inr rfl,.inr rfl,.inl rfl,trivial]]
end
def QG(K:ao)(a:aF)(ns:List Str)(m:Nat):OR:=λH0 H as=>∃kl,kl.map (·.1)=ns/\(∀q∈kl,q.2.length<=m)/\DL K a kl H0 H as
theorem QG.mono{K:ao}{a:aF}{ns:List Str}{m:Nat}:cj (QG K a ns m):=λ_ _ _ _ _ #[kl,h1,h2,h3] sm hb=>#[kl,h1,h2,DL.mono _ _ _ _ _ h3 sm hb]
def VX(l:List Dk):List (Str×ae):=l.map λd=>(d.name,.none)
section
variable{K:ao}{B0 B H0 H:Hp}{σ:L2.St}{δ:List Slot}{R F:OR}{U:UV}
theorem OF.udl(G:OF K B0 B (Sep (Rt K kl v) F) H0 H σ δ):∃a,v=.ref a/\OF K B0 B (Sep (DL K a kl) F) H0 H σ δ:=by
 obtain⟨as,h1,a1,a2,e,dj,⟨a,rfl,z1⟩,z2⟩:=G.ex;exact#[a,rfl,G.fr,G.no,as,h1,a1,a2,e,dj,z1,z2]
theorem OF.udr{kv:List (Str×ae)}(G:OF K B0 B (Sep (UDR K kv v) F) H0 H σ δ):∃a,v=.ref a/\OF K B0 B (Sep (DR K a kv) F) H0 H σ δ:=by
 obtain⟨as,h1,a1,a2,e,dj,⟨a,rfl,z1⟩,z2⟩:=G.ex;exact#[a,rfl,G.fr,G.no,as,h1,a1,a2,e,dj,z1,z2]
theorem OF.Y9{ds:List ae}(G:OF K B0 B (Sep (MF K ds v) F) H0 H σ δ):∃a,v=.ref a/\OF K B0 B (Sep (LR K a ds) F) H0 H σ δ:=by
 obtain⟨as,h1,a1,a2,e,dj,⟨a,rfl,z1⟩,z2⟩:=G.ex;exact#[a,rfl,G.fr,G.no,as,h1,a1,a2,e,dj,z1,z2]
theorem Rt.mono:cj (Rt K kl v):=λ_ _ _ _ _ #[a,e,h] sm hb=>#[a,e,DL.mono _ _ _ _ _ h sm hb]
end
section
variable{P:bA}{w:cg}{K:ao}{mg:Str->Option aD}{base:cM}{f:aF}{k:Nat}{C:aF}{pl:Pl}{day:List iP}
abbrev U_:List Str:=["_law_floor","_law_h","_law_day_here","_law_here","_law_found","_law_name","_law_loads","_law_to","_law_rule_here","_law_places_here"]
theorem Sf:cn U_ ["_law_floor","_law_h","_law_day_here","_law_here"] (a_ (top 68)):=by grind
def Y_(K:ao)(pl:Pl)(day:List iP)(s:Fs)(d2:List ae)(s':Fs)(U:UV):Prop:=∃here:List Nat,d2=[eM pl,.list (day.map gM),.list (i_ here)]/\Z5 pl day s/\lF pl/\qI pl/\(∀g∈here,g<day.length)/\here.length<=1000/\tD s.wait=EX day here (pq pl)/\s.loads=pl.desks.map (λd=>(d.name,none))/\s'=s/\U=qW K (.bool true)
theorem zc1(F:jQ K "_law_looked" "_law_looked" (top 68) f fd)(n:Na mg)(c:I0 K C)(C1:rT P w K mg base 1 C "places_now" ["self"] (D9 K Fs (eW K C pl day) (Y2 K pl day)))(C2:rT P w K mg base 1 C "loads_now" ["self"] (D9 K Fs (eW K C pl day) (Y3 K)))(C3:bD P w K mg base 1 "_law_places" ["_law_h","_law_day_here","_law_here"] (gu K Rlp))(C4:bD P w K mg base 4 "_law_same" ["_law_found","_law_due"] (gu K Rsm)):dW P w K mg base gS 5 f fd ["_law_floor","_law_h","_law_day_here","_law_here"] (D9 K Fs (eW K C pl day) (Y_ K pl day)):=
 J_ F Sf (by simp) (λ_ _ _ _ h=>by obtain⟨_,rfl,_⟩:=h;rfl) λr s d2 s' U h=>by
  obtain⟨here,rfl,ok,tE,gd,hh,VB,mX,hlo,rfl,rfl⟩:=h;intro e7 A outer s0 H E hr B0 B H0 Hh σ D G qr qn;have nd:U_.Nodup:=Sf.nd;have hG:dB 1 _:=hr.mono ∅
  have gn:=tE.gn;have ln:=tE.ln;have nsl:(pq pl).length<=120:=by rw[aV,ai];omega
  have lp:Rlp [eM pl,.list (day.map gM),.list (i_ here)] (wx (wz (EX day here (pq pl)))):=#[pl,day,here,rfl,tE,gd,ok.d,hh,VB,rfl];have Qk:(EX day here (pq pl)).map (·.1)=pq pl:=by unfold EX;rw[aB];show(pq pl).map id=_;rw[ko]
  have UC:∀x,(VW day x here).length<=1000:=λx=>bQ (gJ _ _) VB
  have sm:Rsm [kP (wz (EX day here (pq pl))),wx (wz (EX day here (pq pl)))] (.bool true):=by
   refine#[EX day here (pq pl),rfl,by rw[Qk];exact gd.pn,λq hq=>?_,by unfold EX;rw[ai];omega,rfl]
   obtain⟨x,hx,rfl⟩:=av.mp hq;refine#[?_,.inr #[_,.inr rfl,by rw[jV];exact UC x,λe he=>by obtain⟨g,_,rfl⟩:=av.mp he;exact trivial]]
   rcases aR.mp hx with h|h
   ·exact(tE.gates _ h).ok.2
   ·obtain⟨y,hy,e⟩:=av.mp h
    show nV x;rw[<-e];exact(tE.lines y hy).1.ok.2
  refine bM (D_ 4 (zm (U:=Rt K (tD s'.wait)) C1 hG eW.mono EM.mono G.em (eW.ins ∎) 0 rfl #[rfl,ok,rfl,rfl] λv Ha Hb G1=>?_) nd)
  obtain⟨la,rfl,G2⟩:=OF.udl G1;rw[mX]at G2;have G3:=OF.J6 (X:=(lU gS P w K mg base U_ "_law_looked" (a_ (top 68)) f e7 A outer s0 H E).xQ) (Sep.mono DL.mono (Sep.mono eW.mono EM.mono)) G2 (a:=la) 4 rfl;refine bM (IB (kb:=false) (Sep.mono DL.mono (Sep.mono eW.mono EM.mono)) G3 (Seen.refl.set 4 rfl (Sep.xZ DL.see)) (VT.to (lr (eQ (bK C4 hr (aq (aj 4 rfl) (aq (bK C3 hG (aq (aj 1 rfl) (aq (aj 2 rfl) (aq (aj 3 rfl) aU))) lp) aU)) sm) rfl)) rfl) (λz=>by cases z) λ_ H4 G4=>sL ?_)
  have G4':OF K B0 B (Sep (QG K la (pq pl) (1000+0)) (Sep (eW K C pl day r s') EM)) _ H4 _ [.ref r,.val (eM pl),.val (.list (day.map gM)),.val (.list (i_ here)),.ref la,.un,.un,.un,.un,.un]:=G4.Ea λas h=>#[_,Qk,λq hq=>by obtain⟨x,_,rfl⟩:=av.mp hq;show(i_ _).length<=_;rw[jV];exact UC x,h]
  refine bM (UE (tgt:=.one 5) (λk=>Sep (QG K la (pq pl) (1000+k)) (Sep (eW K C pl day r s') EM)) (λ_=>Sep.mono QG.mono (Sep.mono eW.mono EM.mono)) G4' bU rfl (ds:=(pq pl).map .str) (λHx Hy Gx Q q=>?_) (gX 5 nd) (λk d hd=>?_) λσ5 Ha Hb G5=>?_)
  ·obtain⟨as,h1,a1,a2,e,dj,⟨kl,w1,w2,w3⟩,z2⟩:=Gx.ex
   exact Uu (X:=(lU gS P w K mg base U_ "_law_looked" (a_ (top 68)) f e7 A outer s0 H E).xQ) (B0:=B0) (B:=B) (R:=Sep (DL K la kl) (Sep (eW K C pl day r s') EM)) (δ:=[.ref r,.val (eM pl),.val (.list (day.map gM)),.val (.list (i_ here)),.ref la,.un,.un,.un,.un,.un]) 4 rfl (Sep.xZ DL.see) (VO.to (lu (nU rfl) Ce (aq (aj 4 rfl) aU) n.lst rfl) (by unfold wz;rw[aB,<-w1,aB];rfl)) (λd hd=>by obtain⟨z,_,rfl⟩:=av.mp hd;rfl) Hx Hy #[Gx.fr,Gx.no,as,h1,a1,a2,e,dj,w3,z2] Q q
  ·obtain⟨x,hx,rfl⟩:∃x,(pq pl)[k]?=some x/\d=.str x:=by
    rw[aG]at hd
    cases e:(pq pl)[k]? with
    |none=>rw[e]at hd;cases hd
    |some z=>rw[e]at hd;cases hd;exact#[z,rfl,rfl]
   refine#[_,rfl,rfl,λD C0 σ' cZ H' G6 post=>?_]
   obtain⟨as,h1,a1,a2,e,dj,⟨kl,w1,w2,w3⟩,z2⟩:=G6.ex;obtain⟨cs,w4⟩:=w3.dc;have G7:OF K C0 B (Sep (DC K la cs kl) (Sep (eW K C pl day r s') EM)) cZ H' σ' [.ref r,.val (eM pl),.val (.list (day.map gM)),.val (.list (i_ here)),.ref la,.val (.str x),.un,.un,.un,.un]:=#[G6.fr,G6.no,as,h1,a1,a2,e,dj,w4,z2];obtain⟨rfl,ndc,k1,k2⟩:=w4;obtain⟨q,hq⟩:∃q,kl[k]?=some q:=by
    cases e:kl[k]? with
    |none=>rw[<-w1,aG,e]at hx;cases hx
    |some q=>exact#[q,rfl]
   have hqx:q.1=x:=by rw[<-w1,aG,hq]at hx;exact cD hx
   obtain⟨cc,hc⟩:∃cc,cs[k]?=some cc:=#[cs[k]'(by rw[k2.1];exact(aH.mp hq).1),au _]
   obtain⟨xs,x1,x2⟩:=k2.2 k cc q hc hq;have zc2:(kl.map (·.1)).Nodup:=by rw[w1];exact gd.pn
   have hqm:=w2 q (aQ hq);have UQ:k<120:=bE (aH.mp hx).1 nsl
   have hv:=Cm zc2 hq hc;rw[hqx]at hv;refine cx (Ur (κ:=bo x) (d:=.int 0) G7.own hG 4 rfl k1 (aj 5 rfl) hv x1 aJ (eL (by rw[x2.length];omega)) λv Ha Hb gr rr=>?_)
   have rr:Rep K Ha v (.int 0):=rr;have G8:=G7.putL (R':=DC K la cs (kl.set k (q.1,q.2 ++ [.int 0]))) (x:=cc) DC.mono (Sep.mono eW.mono EM.mono) gr λas hd=>#[by rw[hd.1];simp[aQ hc],as,λ_ z=>z,hd.row (y:=q.1) (ds:=q.2) hq hc ((x2.mono gr.e8).append (.cons rr .nil))]
   refine post _ Ha _ (OF.forget (H0:=Ha) (δ:=[.ref r,.val (eM pl),.val (.list (day.map gM)),.val (.list (i_ here)),.ref la,.val (.str x),.un,.un,.un,.un]) (Sep.mono QG.mono (Sep.mono eW.mono EM.mono)) (G8.Ea λas h=>#[_,?_,?_,.of h]) #[.inr rfl,.inr rfl,.inr rfl,.inr rfl,.inr rfl,.inl rfl,.inr rfl,.inr rfl,.inr rfl,.inr rfl,trivial] rfl)
   ·rw[qZ,<-w1]
    have:=set_same (f:=Prod.fst) (y:=(q.1,q.2 ++ [dD 0])) hq rfl;exact this
   ·intro z hz
    rcases BI hz with h|h
    ·exact bQ (w2 z h) ∅
    ·rw[h];show(q.2 ++ [_]).length<=_;rw[aV,fH];omega
  ·have G6:OF K B0 B (Sep (QG K la (pq pl) (1000+((pq pl).map aS).length)) (Sep (eW K C pl day r s') EM)) Ha Hb σ5 [.ref r,.val (eM pl),.val (.list (day.map gM)),.val (.list (i_ here)),.ref la,.un,.un,.un,.un,.un]:=G5
   obtain⟨as,h1,a1,a2,e,dj,⟨kl,w1,w2,cs,w4,w5,w6,w7⟩,z2⟩:=G6.ex;have hlen:(uT kl cs).length<=120:=by
    have h1:=qQ6 dC (lY (kl:=kl) (cs:=cs) w7.1);have h2:=qQ6 dC w1;rw[ai,ai]at h1;rw[ai]at h2;omega
   refine bM (MG (κ:=bo "other") (Sep.mono QG.mono (Sep.mono eW.mono EM.mono)) G6 hG 4 rfl w6 (jm bw) (wB G6 (fE (ds:=[]) aU)) (eL ∅) (λl o Ha Hb g y1 y2 y3 y4=>?_) (λHa Hb o s #[xs,e,rx]=>#[xs,e,rx.mono s]))
   have G7:=(OF.drop (X:=(lU gS P w K mg base U_ "_law_looked" (a_ (top 68)) f e7 A outer s0 H E).xQ) (Sep.mono eW.mono EM.mono) (G6.putL (R':=λ_ _ as=>as=[la]) (x:=la) (ob:=.dK (putK (uT kl cs) (bo "other") (.ref l))) QG.mono (Sep.mono eW.mono EM.mono) g λas #[ZH,_,_,Z2,e,_]=>#[by rw[e];simp,[la],λa ha=>by rw[aW.mp ha,e];simp,rfl])).em'
   refine bM (D_ 6 (zm (U:=UDR K (lR s')) C2 hG eW.mono EM.mono G7.em (eW.ins ∎) 0 rfl #[rfl,rfl,rfl] λv Ha Hb G8=>?_) nd)
   obtain⟨ll,rfl,G9⟩:=OF.udr G8;have VY:=OF.J6 (X:=(lU gS P w K mg base U_ "_law_looked" (a_ (top 68)) f e7 A outer s0 H E).xQ) (Sep.mono DR.mono (Sep.mono eW.mono EM.mono)) G9 (a:=ll) 6 rfl;have elo:lR s'=VX (pl.desks.drop 0):=by unfold lR VX;rw[hlo,aB];rfl
   rw[elo]at VY;have zc3:OF K B0 B (Sep (DR K ll (VX (pl.desks.drop 0))) (Sep (eW K C pl day r s') EM)) Ha Hb _ [.ref r,.val (eM pl),.val (.list (day.map gM)),.val (.list (i_ here)),.ref la,.un,.ref ll,.un,.un,.un]:=VY;refine bM (vo (tgt:=.tup [5,7,8,9]) (ds:=pl.desks.map fz) (λk=>Sep (DR K ll (VX (pl.desks.drop k))) (Sep (eW K C pl day r s') EM)) (λ_=>Sep.mono DR.mono (Sep.mono eW.mono EM.mono)) zc3 bU rfl (dY (fN hG (aj 1 rfl) bw (Ek pl))) (gY rfl (bZ (gX 5 nd) (bZ (gX 7 nd) (bZ (gX 8 nd) (bZ (gX 9 nd) fM))))) (λk d hd=>?_) λσ6 Hc Hd G11=>?_)
   ·obtain⟨z,hz,rfl⟩:∃z,pl.desks[k]?=some z/\d=fz z:=by
     rw[aG]at hd
     cases e:pl.desks[k]? with
     |none=>rw[e]at hd;cases hd
     |some z=>rw[e]at hd;cases hd;exact#[z,rfl,rfl]
    have hk:=(aH.mp hz).1
    have edr:pl.desks.drop k=z::pl.desks.drop (k+1):=by rw[List.drop_eq_getElem_cons hk,(aH.mp hz).2]
    refine#[_,rfl,rfl,λD C0 σ' cZ H' Sg post=>?_]
    rw[edr]at Sg;have hzn:z.name∉(VX (pl.desks.drop (k+1))).map (·.1):=by
     unfold VX;rw[aB];show z.name∉(pl.desks.drop (k+1)).map (·.name)
     have h:=gd.dn;rw[<-gK k pl.desks,aN,cF]at h;have h2:=h.2.1;rw[edr,ay,bY]at h2;exact h2.1
    exact cx (UG (z:=z.name) (Sep.mono eW.mono EM.mono) Sg 6 rfl (aj 5 rfl) hzn λHa Hb G13=>sL (post _ Ha _ (OF.forget (H0:=Ha) (Sep.mono DR.mono (Sep.mono eW.mono EM.mono)) G13 #[.inr rfl,.inr rfl,.inr rfl,.inr rfl,.inr rfl,.inl rfl,.inr rfl,.inl rfl,.inl rfl,.inl rfl,trivial] rfl)))
   ·rw[ai,List.drop_length]at G11
    refine cx (P9 (Sep.mono eW.mono EM.mono) G11 hG 6 rfl (λHa Hb Sg Q q=>?_) λv Hc Hd Sg rv=>qr v _ _ _ _ (OF.zcz Sg.em' rv))
    refine P7 (U:=Rt K (tD s'.wait)) C4 hr (λ_=>Rt.mono) (Sep.mono eW.mono EM.mono) (λQ q=>zm (U:=Rt K (tD s'.wait)) C1 hG eW.mono EM.mono (OF.drop (X:=(lU gS P w K mg base U_ "_law_looked" (a_ (top 68)) f e7 A outer s0 H E).xQ) (Sep.mono eW.mono EM.mono) Sg) (eW.ins ∎) 0 rfl #[rfl,ok,rfl,rfl] q) (λv Ha Hb as sb #[a,e,h]=>?_) (bK C3 hG (aq (aj 1 rfl) (aq (aj 2 rfl) (aq (aj 3 rfl) aU))) lp) sm rfl q
    rw[mX]at h;rw[e];exact DL.see Ha Hb as sb h
end
end Mg
namespace Mg
open L2 PySem PyProof.Rows
variable{t:Int}{day:List iP}{gone:List Nat}{c:Nat}{p:Pl}
abbrev mn(day:List iP)(g:Nat):Str:=(goodW day g).2.1
abbrev o5(day:List iP)(g:Nat):Int:=(goodW day g).1
def mY(day:List iP)(c:Nat)(gone:List Nat)(x:Str):List Nat:=(aX c).filter λg=>decide (mn day g=x) && !decide (g∈gone)
def iZ(p:Pl)(day:List iP)(c:Nat)(gone:List Nat):Fs:=#[c,(pq p).map λx=>(x,(mY day c gone x).map λg=>(g,o5 day g)),p.desks.map λd=>(d.name,none),p.desks.map λd=>(d.name,0,0)]
theorem Va(p:Pl)(day:List iP):qJ p=iZ p day 0 []:=rfl
theorem Jd{p:Pl}{day:List iP}{c:Nat}{gone:List Nat}{t:Int}(hg:∀g∈gone,g<c):∀k,(∀i,i<k->o5 day (c+i)=t)->stC day t (iZ p day c gone) k=iZ p day (c+k) gone
 |0,_=>rfl
 |k+1,h=>by
  have ih:=Jd (p:=p) (t:=t) hg k λi hi=>h i ∅
  have e0:stC day t (iZ p day c gone) (k+1)={ x8 (stC day t (iZ p day c gone) k) (goodW day (stC day t (iZ p day c gone) k).came).2.1 (λl=>l ++ [((stC day t (iZ p day c gone) k).came,t)])with came:=(stC day t (iZ p day c gone) k).came+1 }:=rfl
  rw[e0,ih];have hn:c+k∉gone:=λz=>by have:=hg _ z;omega
  have e:(x8 (iZ p day (c+k) gone) (mn day (c+k)) λl=>l ++ [(c+k,t)]).wait=(iZ p day (c+(k+1)) gone).wait:=by
   show((pq p).map _).map _=(pq p).map _
   rw[aB];refine cW λx _=>?_
   have e2:mY day (c+(k+1)) gone x=mY day (c+k) gone x++if mn day (c+k)=x then [c+k]else []:=by
    unfold mY;rw[<-Nat.add_assoc,j_,oG]
    congr 1
    rw[eE,qQ0 hn];by_cases hx:mn day (c+k)=x
    ·rw[qQ1 hx,qQ3 hx];rfl
    ·rw[qQ0 hx,qQ2 hx];rfl
   show(if x=mn day (c+k)then _ else _)=_
   rw[e2];by_cases hx:mn day (c+k)=x
   ·rw[qQ3 hx.symm,qQ3 hx,aN]
    show(x,_ ++ [(c+k,t)])=(x,_ ++ [(c+k,o5 day (c+k))])
    rw[h k ∅]
   ·rw[qQ2 λz=>hx z.symm,qQ2 hx,cy]
  show Fs.mk _ (x8 (iZ p day (c+k) gone) (mn day (c+k)) λl=>l ++ [(c+k,t)]).wait _ _=Fs.mk _ (iZ p day (c+(k+1)) gone).wait _ _
  rw[e];rfl
def jN(p:Pl)(day:List iP)(c:Nat)(gone:List Nat)(t:Int):List Nat:=(aX c).filter λg=>!decide (g∈gone)&&Bn p day g t
theorem Hn(p:Pl)(day:List iP)(c:Nat)(gone:List Nat)(t:Int)(x:Str):mY day c (gone++jN p day c gone t) x=(mY day c gone x).filter λg=>!Bn p day g t:=by
 unfold mY;rw[iQ];refine kW λg hg=>?_
 have e:decide (g∈gone++jN p day c gone t)=(decide (g∈gone)||Bn p day g t):=by
  rw[eA,decide_eq_true_iff,aR,z8,decide_eq_true_iff];unfold jN;rw[gf,eD,Bool.not_eq_true',decide_eq_false_iff_not];by_cases h:g∈gone
  ·simp[h]
  ·simp[h,hg]
 rw[e];cases decide (mn day g=x)<;>cases decide (g∈gone)<;>cases Bn p day g t<;>rfl
theorem NT(p:Pl)(day:List iP)(c:Nat)(gone:List Nat)(t:Int):sx p day t (iZ p day c gone)=iZ p day c (gone++jN p day c gone t):=by
 have e:(sx p day t (iZ p day c gone)).wait=(iZ p day c (gone++jN p day c gone t)).wait:=by
  show((pq p).map _).map _=(pq p).map _
  rw[aB];refine cW λx _=>?_
  show(x,xB p day t ((mY day c gone x).map λg=>(g,o5 day g)))=(x,(mY day c (gone++jN p day c gone t) x).map λg=>(g,o5 day g))
  rw[Hn];unfold xB;rw[List.filter_map];rfl
 show Fs.mk _ (sx p day t (iZ p day c gone)).wait _ _=Fs.mk _ (iZ p day c (gone++jN p day c gone t)).wait _ _;rw[e];rfl
theorem zS{α:Type}(key:α->Str)(l:List α):∀ns:List Str,ns.Nodup->((ns.map λx=>l.filter λa=>decide (key a=x)).flatten).Perm (l.filter λa=>decide (key a∈ns))
 | [],_=>by simp
 |x::ns,h=>by
  obtain⟨n1,n2⟩:=bY.mp h;rw[ay,eJ];refine((zS key l ns n2).append_left _).trans ?_
  have e1:l.filter (λa=>decide (key a=x))=(l.filter λa=>decide (key a∈x::ns)).filter λa=>decide (key a=x):=by
   rw[iQ];refine kW λa _=>?_
   by_cases hx:key a=x
   ·rw[qQ1 hx,qQ1 (by rw[hx];exact aM)];rfl
   ·rw[qQ0 hx];rfl
  have e2:l.filter (λa=>decide (key a∈ns))=(l.filter λa=>decide (key a∈x::ns)).filter λa=>!decide (key a=x):=by
   rw[iQ];refine kW λa _=>?_
   by_cases hx:key a=x
   ·rw[qQ1 hx,qQ0 (by rw[hx];exact n1)];rfl
   ·rw[qQ0 hx]
    show _=(true&&_);rw[iX];refine decide_eq_decide.mpr #[λz=>aT _ z,λz=>?_]
    rcases ax.mp z with z|z
    ·exact qQ7 z hx
    ·exact z
  rw[e1,e2];exact List.filter_append_perm _ _
theorem NV(hn:(pq p).Nodup)(hk:∀g,g<c->mn day g∈pq p)(gone:List Nat)(t:Int):(uN p day t (iZ p day c gone).wait).Perm (jN p day c gone t):=by
 have e:(uN p day t (iZ p day c gone).wait)=((pq p).map λx=>(jN p day c gone t).filter λa=>decide (mn day a=x)).flatten:=by
  unfold uN
  congr 1
  show((pq p).map _).map _=_
  rw[aB];refine cW λx _=>?_
  show Ax p day t ((mY day c gone x).map λg=>(g,o5 day g))=_
  unfold Ax mY jN;rw[List.filter_map,aB,iQ,iQ];show oF id _=_;rw[ko];refine kW λg _=>?_
  show(Bn p day g t&&(decide (mn day g=x) && !decide (g∈gone)))=(decide (mn day g=x)&&(!decide (g∈gone)&&Bn p day g t))
  cases decide (mn day g=x)<;>cases decide (g∈gone)<;>cases Bn p day g t<;>rfl
 rw[e];refine(zS (mn day) _ _ hn).trans ?_
 have e2:(jN p day c gone t).filter (λa=>decide (mn day a∈pq p))=jN p day c gone t:=nO.mpr λg hg=>qQ1 (hk g (bW.mp (gf.mp hg).1))
 rw[e2]
theorem EY(c:Nat):(aX c).Pairwise (·<=·):=List.Pairwise.imp ou List.pairwise_lt_range
theorem Vb(p:Pl)(day:List iP)(c:Nat)(gone:List Nat)(t:Int):(jN p day c gone t).Pairwise (·<=·):=(EY c).filter _
theorem QH(p:Pl)(day:List iP)(c:Nat)(gone:List Nat)(t:Int):(jN p day c gone t).length<=c:=by unfold jN;exact bQ (gJ _ _) (by rw[cG];exact aP _)
def zT(c:Nat)(gone:List Nat):List Nat:=(aX c).filter λg=>!decide (g∈gone)
theorem Vc(p:Pl)(day:List iP)(c:Nat)(gone:List Nat):tD (iZ p day c gone).wait=EX day (zT c gone) (pq p):=by
 unfold tD EX
 show((pq p).map _).map _=_
 rw[aB];refine cW λx _=>?_
 show(x,i_ (((mY day c gone x).map λg=>(g,o5 day g)).map (·.1)))=_
 rw[aB]
 show(x,i_ ((mY day c gone x).map id))=_
 rw[ko];unfold VW zT mY;rw[iQ]
theorem Je(tE:lF p)(gd:qI p)(Dh:VN p day)(hc:c<=day.length):Z5 p day (iZ p day c gone):=by
 have F7:=Dh.dl;refine#[Dh,?_,gd.pn,?_,λq hq=>?_,λq hq z hz=>?_]
 ·show((pq p).map _).map _=_
  rw[aB]
  show(pq p).map id=_
  rw[ko]
 ·have:=tE.gn;have:=tE.ln;rw[aV,ai];omega
 ·obtain⟨x,_,rfl⟩:=av.mp hq
  show((mY day c gone x).map _).length<=1000
  rw[ai];unfold mY;have:=gJ (λg=>decide (mn day g=x) && !decide (g∈gone)) (aX c)
  rw[cG]at this;omega
 ·obtain⟨x,_,rfl⟩:=av.mp hq
  obtain⟨g,hg,rfl⟩:=av.mp hz;exact bE (bW.mp ((gf.mp hg).1)) hc
def UpD(day:List iP):Prop:=(∀g h,g<=h->h<day.length->o5 day g<=o5 day h)/\∀g,g<day.length->0<=o5 day g
theorem Bp(P:Nat->Bool):∀n,(∀g h,g<=h->h<n->P h=true->P g=true)->∃c,c<=n/\∀g,g<n->(g<c↔P g=true)
 |0,_=>#[0,aP _,λg h=>qQ7 h (Ai _)]
 |n+1,h=>by
  by_cases hp:P n=true
  ·exact#[n+1,aP _,λg hg=>#[λ_=>h g n ∅ ∅ hp,λ_=>hg]]
  ·obtain⟨c,h1,h2⟩:=Bp P n λg k a b=>h g k a ∅
   refine#[c,∅,λg hg=>?_]
   rcases lb g n with z|z
   ·exact h2 g z
   ·have:g=n:=∅
    subst this;exact#[λy=>∅,λy=>qQ7 y hp]
theorem NW(h:UpD day)(t:Int):∃c,c<=day.length/\∀g,g<day.length->(g<c↔o5 day g<=t):=by
 obtain⟨c,h1,h2⟩:=Bp (λg=>decide (o5 day g<=t)) day.length λg k a b hk=>qQ1 (xN (h.1 g k a b) (qQ4 hk))
 exact#[c,h1,λg hg=>(h2 g hg).trans decide_eq_true_iff]
theorem KG{n e: Nat}(h1:c<=e)(h2:e<=n):(aX n).filter (λg=>decide (c<=g)&&decide (g<e))=(aX (e-c)).map λi=>c+i:=by
 have e1:aX n=aX c++((aX (e-c)).map (λi=>c+i)++(aX (n-e)).map (λi=>e+i)):=by
  have a1:aX e=aX c++(aX (e-c)).map (λi=>c+i):=by
   have:=AH (n:=c) (m:=e-c);rw[show c+(e-c)=e by omega]at this;exact this
  have a2:aX n=aX e++(aX (n-e)).map (λi=>e+i):=by
   have:=AH (n:=e) (m:=n-e);rw[show e+(n-e)=n by omega]at this;exact this
  rw[a2,a1,cp]
 rw[e1,oG,oG];rw[q_.mpr,nO.mpr,q_.mpr,gU,cy]
 ·intro g hg
  obtain⟨i,_,rfl⟩:=av.mp hg;rw[eD,decide_eq_true_iff,decide_eq_true_iff];omega
 ·intro g hg
  obtain⟨i,hi,rfl⟩:=av.mp hg;have:=bW.mp hi;rw[eD,decide_eq_true_iff,decide_eq_true_iff];omega
 ·intro g hg
  have:=bW.mp hg;rw[eD,decide_eq_true_iff,decide_eq_true_iff];omega
def o6(day:List iP)(c:Nat)(t:Int):List Nat:=(aX day.length).filter λg=>decide (o5 day g=t) && !decide (g∈aX c)
theorem NX{e: Nat}{t0: Int}(ht:t=t0\/t=t0+1)(hc:∀g,g<day.length->(g<c↔o5 day g<=t0))(he:e<=day.length)(h:∀g,g<day.length->(g<e↔o5 day g<=t))(F6:c<=day.length):c<=e/\o6 day c t=(aX (e-c)).map (λi=>c+i)/\(∀i,i<e-c->o5 day (c+i)=t)/\(c+(e-c)<day.length->o5 day (c+(e-c))≠t):=by
 have K0:c<=e:=by
  rcases lb e c with z|z
  ·have h1:=(hc e ∅).mp z
   have:=(h e ∅).mpr ∅
   omega
  ·exact z
 have key:∀g,g<day.length->(o5 day g=t/\¬g<c↔c<=g/\g<e):=λg hg=>by
  have a:=hc g hg;have b:=h g hg;omega
 refine#[K0,?_,λi hi=>((key (c+i) ∅).mpr #[∅,∅]).1,λhl z=>?_]
 ·rw[<-KG K0 he]
  unfold o6;refine kW λg hg=>?_
  have hg':=bW.mp hg;rw[eA,eD,eD,decide_eq_true_iff,decide_eq_true_iff,decide_eq_true_iff,Bool.not_eq_true',decide_eq_false_iff_not,bW];exact key g hg'
 ·have:=(h _ hl).mpr ∅
  omega
theorem zU{e: Nat}(h:c<=e):aX c++(aX (e-c)).map (λi=>c+i)=aX e:=by
 have:=AH (n:=c) (m:=e-c);rw[show c+(e-c)=e by omega]at this
 exact this.symm
def qR(l:List Int):Int:=l.getLast?.getD (-1)
def Ho(l:List Int):Prop:=∀k t,l[k]?=some t->t=qR (l.take k)\/t=qR (l.take k)+1
theorem wL(l:List Int)(t:Int):qR (l ++ [t])=t:=by unfold qR;rw[List.getLast?_append];rfl
theorem Ho.snoc{l:List Int}(h:Ho l)(ht:t=qR l\/t=qR l+1):Ho (l ++ [t]):=by
 intro k u hu;rcases lb k l.length with z|z
 ·rw[bX z]at hu
  rw[yE (ou z)];exact h k u hu
 ·have hk:k=l.length:=by
   have:=(aH.mp hu).1
   rw[aV,fH]at this;omega
  subst hk;rw[bS (aP _),rA]at hu
  cases hu;rw[yE (aP _),c9];exact ht
def CQ(b:Bool)(t:Int):List Int:=aY (if b=true then 2 else 1) t
def o7(b:Nat->Bool):Nat->List Int
 |0=>[]
 |n+1=>o7 b n++CQ (b n) n
theorem Hq(b:Nat->Bool):∀n,Ho (o7 b n)/\qR (o7 b n)=(n:Int)-1/\(o7 b n).length<=2*n
 |0=>#[λk t h=>by simp[o7]at h,rfl,aP _]
 |n+1=>by
  obtain⟨h1,h2,h3⟩:=Hq b n;have h4:Ho (o7 b n ++ [(n:Int)]):=h1.snoc (.inr (by rw[h2];omega))
  have h5:=wL (o7 b n) (n:Int);show Ho (o7 b n++CQ (b n) n)/\qR (o7 b n++CQ (b n) n)=_/\(o7 b n++CQ (b n) n).length<=_;cases b n with
  |false=>
   show Ho (o7 b n ++ [(n:Int)])/\qR (o7 b n ++ [(n:Int)])=_/\(o7 b n ++ [(n:Int)]).length<=_;exact#[h4,by rw[h5];omega,by rw[aV,fH];omega]
  |true=>
   have e:o7 b n++CQ true n=(o7 b n ++ [(n:Int)]) ++ [(n:Int)]:=by rw[cp];rfl
   rw[e];exact#[h4.snoc (.inl h5.symm),by rw[wL];omega,by rw[aV,aV,fH];omega]
structure FlK(P:bA)(w:cg)(K:ao)(mg:Str->Option aD)(base:cM)(C:aF):Prop where
 c:I0 K C
 at_:mg "Floor"=some (.ref C)
 mi:∃fi fd,Mk K C fi/\(∀pl day,dW P w K mg base gS 1 fi fd ["self","plant","day"] (NP K C pl day))/\Binds K fd ["self","plant","day"] []
 cm:∀pl day,rT P w K mg base 2 C "come" ["self","t"] (D9 K Fs (eW K C pl day) (YX K pl day))
 sp:∀pl day,rT P w K mg base 3 C "spoil" ["self","t"] (D9 K Fs (eW K C pl day) (Y0 K pl day))
 lk:∀pl day,bD P w K mg base 5 "_law_looked" ["_law_floor","_law_h","_law_day_here","_law_here"] (D9 K Fs (eW K C pl day) (Y_ K pl day))
section
variable{C:aF}{pl:Pl}{day:List iP}
theorem Vd{X:Cx}{B0 B H0 H:Hp}{σ:L2.St}{D:Ends}{δ:List Slot}{F:OR}{lh:aF}{e1:bC}{px pk pos p0 p2:Pos}{y x2:Str}(R:FlK X.prog X.w X.K X.mg X.base C)(hr:dB 2 X.A)(mF:cj F)(G:OF X.K B0 B (Sep (LR X.K lh (day.map gM)) F) H0 H σ δ)(i j:Nat)(hj:δ[j]?=some (.ref lh))(h1:VE X e1 δ (iJ pl))(tE:lF pl)(gd:qI pl)(hn:∀r,noOwn (δ.set i (.ref r))=true)
  (q:∀r σ' cZ H',OF X.K B0 B (Sep (eW X.K C pl day r (qJ pl)) (Sep (LR X.K lh (day.map gM)) F)) cZ H' σ' (δ.set i (.ref r))->D.nx σ' H')
  (hN:X.N.Nodup)(hi:X.N[i]?=some y:=by rfl)(hx:Loc X.env.scope y:=by left)(hs:uX X pos (.Call (.Name "Floor" p0) [e1,.Name x2 p2] [] pk) (.Name y px):=by rfl)(hf:AJ X y:=by left)
  (hN2:ow X j x2:=by ac_rfl)
  (hg:Gl X "Floor":=by rfl)(he:starEach [e1,.Name x2 p2] X.env=(false,eval e1 X.env)::starEach [.Name x2 p2] X.env:=by rfl)(Pg:starEach [.Name x2 p2] X.env=(false,eval (.Name x2 p2) X.env)::starEach [] X.env:=by rfl)(mX:rC X pk [.Name x2 p2]:=by rfl):cS X (.Assign [.Name y px] (.Call (.Name "Floor" p0) [e1,.Name x2 p2] [] pk) pos) D σ H:=λpins s I=>by
 obtain⟨fi,fd,M,Fn,hb⟩:=R.mi;refine ui (i:=i) hN hi hx (OI M (Fn pl day) hr hg R.at_ hb .nil tN (cY cB (cY (ug hN2) eV Pg) he) ⋯ he mX) hs hf pins s σ H D I ?_
 refine h1 H0 H σ H0 H _ G.own λv1 H1 cV g r1=>?_
 have mm:cj (Sep (LR X.K lh (day.map gM)) F):=Sep.mono LR.mono mF;have G1:=G.go mm (G.own.grow g) G.no;refine#[.ref lh,G1.fr.slot j _ hj,λr dx z1 z2 z3=>?_]
 obtain⟨as,o1,rfl,xs,l1,l2⟩:=G1.at;have Z7:H1 r=none:=G1.fr.sub.free z1;have hd0:H1 dx=none:=G1.fr.sub.free z2;have nlr:lh≠r:=λz=>by rw[z,z1]at l1;cases l1
 have nld:lh≠dx:=λz=>by rw[z,z2]at l1;cases l1
 show NP X.K C pl day [.ref r,v1,.ref lh] _ _ _;refine#[H1,r,dx,v1,lh,xs,rfl,λb u e=>?_,Z7,bh,(o1 lh (by simp)).1,by rw[aO nlr,aO nld];exact l1,l2,r1,tE,gd,λcZ H' as' y1 y2 y3 y5 y4 W=>#[rfl,?_]]
 ·rw[aO (bG e Z7),aO (bG e hd0)];exact G1.fr.sub b u e
 have old:∀b u,cV b=some u->H' b=some u:=λb u e=>y4 b u (by rw[aO (bG e z1),aO (bG e z2)];exact e) (bG e z1)
 have free:∀a,upd (upd cV dx (.own r)) r (.ins C dx []) a=none->cV a=none:=λa z=>by
  by_cases h:a=r
  ·rw[h];exact z1
  ·rw[aO h]at z
   by_cases h2:a=dx
   ·rw[h2];exact z2
   ·rw[aO h2]at z;exact z
 have gg:c6 H1 cV cZ H':=#[old,y1,y2,λa z=>(y3 a z).imp id (free a)]
 have G2:=G1.new (R':=eW X.K C pl day r (qJ pl)) mm (λ_ _ _=>#[as',λa ha=>#[(y5 a ha).2.2.elim (λe=>by rw[e];exact z1) (free a),(y5 a ha).1,(y5 a ha).2.1],W]) gg
 exact q r _ cZ H' (G2.J6 (Sep.mono eW.mono mm) i (hn r))
end
seal L2.VE L2.VS L2.xV L2.VT L2.VO L2.N_
def QI(b:Nat->Bool)(d:ae):Option ae:=if b (NS d)=true then some d else none
theorem Jf(g:Nat):NS (.int (g:Int))=g:=dS _
theorem yz(b:Nat->Bool):∀l:List Nat,(i_ l).filterMap (QI b)=i_ (l.filter b)
 | []=>rfl
 |g::l=>by
  have ih:=yz b l;unfold i_ at ih ⊢;rw[ay,fq,eE];unfold QI;rw[Jf];cases b g with
  |true=>show dD _::_=dD _::_;congr 1
  |false=>exact ih
theorem KH(n:Nat):ik n=i_ (aX n):=rfl
theorem zV{b:Nat->Bool}{g:Nat}{r:ae}(h:QI b (.int (g:Int))=some r):r=.int (g:Int):=by
 unfold QI at h
 split at h
 ·cases h;rfl
 ·cases h
theorem Hr(b:Nat->Bool)(g:Nat):(QI b (.int (g:Int))).isSome=b g:=by
 unfold QI;rw[Jf];cases b g<;>rfl
def Fcm(t:Int)(d:ae):Option ae:=some (.tuple [.str "come",.int t,d])
theorem QJ(t:Int)(zs:List Nat):(i_ zs).filterMap (Fcm t)=zs.map (zP t):=by
 unfold i_;rw[b0];show tL (some∘zP t) zs=_;rw[lS]
theorem NZ(t:Int)(w:Str)(hw:nV w)(g:Nat):UR 1 (.tuple [.str w,.int t,.int (g:Int)]):=.inr #[_,.inl rfl,by show 3<=1000;omega,λe he=>by
 simp only[ax,a8,or_false]at he;rcases he with rfl|rfl|rfl
 ·exact hw
 ·exact trivial
 ·exact trivial]
theorem N0{l:List ae}(hl:l.length<=1000)(h:∀e∈l,UR 1 e):UR 2 (.list l):=.inr #[_,.inr rfl,hl,h]
abbrev lH(l:List Nat):List Int:=l.map λ(g:Nat)=>(g:Int)
theorem sy{g:Nat}{l:List Nat}:((g:Int)∈lH l)↔g∈l:=#[λh=>by
 obtain⟨z,hz,e⟩:=av.mp h;rw[<-Int.ofNat.inj e];exact hz,λh=>av.mpr #[g,h,rfl]]
structure LawC(P:bA)(w:cg)(K:ao)(mg:Str->Option aD)(base:cM):Prop where
 n:Na mg
 ca:bD P w K mg base 1 "_law_cell_at" ["_law_script","_law_k"] (gu K IK)
 mx:bD P w K mg base 1 "_law_mix" ["_law_cell","_law_k"] (gu K Gv)
 pl:bD P w K mg base 4 "_law_plant" ["_law_script"] (gu K Rpl)
 pt:bD P w K mg base 3 "_law_plant_text" ["_law_h"] (gu K Rpt)
 rp:bD P w K mg base 9 "read_plant" ["text"] (gu K Rrp)
 dy:bD P w K mg base 2 "_law_day" ["_law_h","_law_cells"] (F1 K Rdy)
 eq:bD P w K mg base 4 "_law_equal" ["_law_found","_law_due"] (gu K (U9 2))
 so:bD P w K mg base 2 "_law_spoilt" ["_law_h","_law_day_here","_law_good","_law_t"] (gu K Rso)
 fl:∃C,FlK P w K mg base C
def RT(K:ao)(C:aF)(p:Pl)(day:List iP)(r lc lg:aF)(ts:List Int)(k:Nat):OR:=λH0 H as=>∃c gone,c<=day.length/\(∀g,g<day.length->(g<c↔o5 day g<=qR (ts.take k)))/\(∀g∈gone,g<c)/\gone.Nodup/\Sep (eW K C p day r (iZ p day c gone)) (Sep EM (Sep (DI K lg (lH gone)) (DI K lc (lH (aX c))))) H0 H as
theorem RT.mono{K:ao}{C:aF}{r lc lg:aF}{ts:List Int}{k:Nat}:cj (RT K C p day r lc lg ts k):=λ_ _ _ _ _ #[c,gone,h1,h2,h3,h4,h5] sm hb=>#[c,gone,h1,h2,h3,h4,Sep.mono eW.mono (Sep.mono EM.mono (Sep.mono DI.mono DI.mono)) _ _ _ _ _ h5 sm hb]
abbrev CT:List Str:=["_law_script","_law_h","_law_day_here","_law_handed","_law_floor","_law_come","_law_gone","_law_times","_law_t","_law_due","_law_found","_law_good","_law_here"]
abbrev slT(ns:List Int)(p:Pl)(day:List iP)(lh r lc lg:aF)(ts:List Int):List Slot:=[.val (f7 ns),.val (eM p),.val (.list (day.map gM)),.ref lh,.ref r,.ref lc,.ref lg,.val (f7 ts),.un,.un,.un,.un,.un]
section
variable{P:bA}{w:cg}{K:ao}{mg:Str->Option aD}{base:cM}{f:aF}{k:Nat}
theorem N1:cn CT ["_law_script"] (a_ (top 69)):=by grind
def Y'(ds:List ae)(d:ae):Prop:=∃ns:List Int,ds=[f7 ns]/\ns.length<=63/\d=.bool true
end
end Mg
namespace Mg
open L2 PySem PyProof.Rows
seal L2.VE L2.VS L2.xV L2.VT L2.VO L2.N_
variable{cells:List Int}
theorem Bq(p:Pl)(cells:List Int):(rZ p cells).length=cells.length:=by unfold rZ;rw[ai,cG]
theorem pQ{p:Pl}{g:Nat}(h:g<(rZ p cells).length):goodW (rZ p cells) g=GA p cells g:=by
 unfold goodW;rw[Bq]at h;unfold rZ;rw[aI,aG,fu h];rfl
theorem QK(m:Int)(h:0<=m):0<=rY m:=by
 unfold rY
 split
 ·omega
 split
 ·omega
 split<;>omega
theorem KJ(cells:List Int):∀k,mQ cells k<=mQ cells (k+1):=λk=>by
 show mQ cells k<=mQ cells k+rY _;have:=QK (cQ (cells.getD k 0) k) (yu _ _);omega
theorem sA(cells:List Int)(i:Nat):∀j,i<=j->mQ cells i<=mQ cells j
 |0,h=>by
  have:i=0:=∅
  subst this;exact Int.le_refl _
 |j+1,h=>by
  rcases lb i (j+1)with z|z
  ·exact xN (sA cells i j ∅) (KJ cells j)
  ·have:i=j+1:=∅
   subst this;exact Int.le_refl _
theorem Ve(p:Pl)(cells:List Int):UpD (rZ p cells):=by
 refine#[λg h hg hl=>?_,λg hg=>?_]
 ·show(goodW _ g).1<=(goodW _ h).1
  rw[pQ hl,pQ ∅]
  exact sA cells _ _ ∅
 ·show 0<=(goodW _ g).1
  rw[pQ hg];exact sA cells 0 (g+1) ∅
theorem Vf(ns:List Int)(h:cells.length<=63):VN (c7 ns) (rZ (c7 ns) cells):=by
 refine#[λg hg=>?_,λg hg=>?_,by rw[Bq];exact h]
 ·rw[pQ hg]
  exact(sO (F:=aS) (iy.mpr (om ns).2) _).2
 ·rw[pQ hg]
  exact av.mpr #[_,(sO (F:=λ(q:Str×Option Int)=>aS q.1) (iy.mpr (om ns).1) _).2,rfl]
theorem KL(m:Int):nV (pI m):=by
 have h:∀x∈([("":Str),"p","q","pp","r"]:List Str),nV x:=λx hx=>by
  simp[ax,a8,or_false]at hx;rcases hx with rfl|rfl|rfl|rfl|rfl<;>exact fX
 unfold pI;rw[aI]
 cases e:([("":Str),"p","q","pp","r"])[(m/10000%5).toNat]? with
 |none=>exact fX
 |some x=>exact h x (aQ e)
theorem N2(ns cells:List Int):Lay 20 (.list ((rZ (c7 ns) cells).map gM)):=yp λd hd=>by
 obtain⟨g,hg,rfl⟩:=av.mp hd;obtain⟨k,hk,rfl⟩:=av.mp hg;have ok:=CF ns;refine Ii λz hz=>?_
 simp[ax,a8,or_false]at hz;rcases hz with rfl|rfl|rfl|rfl
 ·exact cu _ _
 ·exact bH (ok.gates _ (sO (F:=aS) (iy.mpr (om ns).2) _).2).ok.2
 ·exact bH (ok.kinds _ (sO (F:=λ(q:Str×Option Int)=>aS q.1) (iy.mpr (om ns).1) _).2).1.ok.2
 ·exact bH (KL _)
theorem Hs{α:Type}(l:List α)(lo hi:Option Int):(L2.cutD l lo hi).length<=l.length:=by
 unfold L2.cutD;rw[bJ,cN];omega
theorem CV{l:List Nat}:∀d∈i_ l,vp d:=λd hd=>by obtain⟨g,_,rfl⟩:=av.mp hd;exact .int _
theorem vM(c:Nat):(lH (aX c)).Pairwise (·<=·):=mW _ (λa b h=>Int.ofNat_le.mpr h) (EY c)
theorem Br:∀(c:Nat)(l:List Nat),l.Nodup->(∀g∈l,g<c)->l.length<=c
 |0,l,_,h=>by
  cases l with
  |nil=>exact aP _
  |cons g l=>exact qQ7 (h g aM) (Ai _)
 |c+1,l,hn,h=>by
  have ih:=Br c (l.erase c) (hn.erase c) λg hg=>by
   have h1:=h g (List.mem_of_mem_erase hg);have h2:=(hn.mem_erase_iff.mp hg).1;omega
  rw[List.length_erase]at ih
  split at ih<;>omega
def KN(ns:List Int)(k:Nat):Bool:=decide (cQ (ns.getD (3+k) 0) 200%4=1)
section
variable{P:bA}{w:cg}{K:ao}{mg:Str->Option aD}{base:cM}{f:aF}{k:Nat}
theorem Za(C:LawC P w K mg base){ds:List ae}{d:ae}(h:Y' ds d):xi P w K mg base CT "law" (top 69) f 9 ds (.rt d):=by
 obtain⟨ns,rfl,hn,rfl⟩:=h;intro e7 A outer s0 H E hr;have n:=C.n;have nd:CT.Nodup:=N1.nd;have hG:dB 1 _:=hr.mono ∅
 have MY:dB 2 _:=hr.mono ∅
 have hr3:dB 3 _:=hr.mono ∅
 have hr4:dB 4 _:=hr.mono ∅
 have hr5:dB 5 _:=hr.mono ∅
 have tE:=CF ns;have N3:=Kv ns;obtain⟨WV,hg0⟩:=om ns;have otx:=Ky ns;refine aK (df 1 (d:=eM (c7 ns)) (bK C.pl hr4 (aq (aj 0 rfl) aU) #[ns,rfl,rfl]) nd) ?_
 have F6:(L2.cutD ns (some 3) (some 33)).length<=63:=bQ (Hs _ _ _) hn;refine aK (df 2 (d:=.list ((rZ (c7 ns) (L2.cutD ns (some 3) (some 33))).map gM)) (VO.ve (oO C.dy MY (aq (aj 1 rfl) (aq (VO.ve (VO.to (jh (ds:=ns.map dD) (aj 0 rfl) (.yes aJ) (.yes aJ)) (vy _ _ _ _))) aU)) #[c7 ns,L2.cutD ns (some 3) (some 33),rfl,iy.mpr hg0,iy.mpr WV,F6,rfl])) nd) ?_
 have Dh:=Vf ns F6;have hup:=Ve (c7 ns) (L2.cutD ns (some 3) (some 33));have hLd:=N2 ns (L2.cutD ns (some 3) (some 33));have hpw:=EH tE WV;have hes:=YQ tE N3;have her:=(Nv tE N3).2
 generalize rZ (c7 ns) (L2.cutD ns (some 3) (some 33))=day at *
 have hrp:Rrp [.str (oV (c7 ns))] (iJ (c7 ns)):=#[oV (c7 ns),EG (c7 ns),rfl,otx,hpw,hes,by rw[her]]
 have zc9:Rpt [eM (c7 ns)] (.str (oV (c7 ns))):=#[c7 ns,rfl,tE,rfl]
 clear otx hpw hes her
 generalize c7 ns=p at *
 have F7:=Dh.dl;obtain⟨Cf,R⟩:=C.fl;refine vm λB0 B σ H0 Hh D fr okk=>?_
 have G0:=Ru fr rfl;refine bM (Gm (ds:=day.map gM) EM.mono G0 3 (wB G0 (lu qd L4 (aq (aj 2 rfl) aU) n.lst rfl)) (λ_=>rfl) (λlh σ1 H1 cV G1=>?_) nd)
 refine bM (Vd R MY EM.mono G1 4 3 rfl (bK C.rp hr (aq (bK C.pt hr3 (aq (aj 1 rfl) aU) zc9) aU) hrp) tE N3 (λ_=>rfl) (λr σ2 H2 fS G2=>?_) nd)
 refine bM (IB (kb:=false) (Sep.mono eW.mono (Sep.mono LR.mono EM.mono)) G2 (Seen.refl.set 3 rfl (LR.see.has x4.refl.l.r)) (VT.to (oK hG hLd hLd (aj 3 rfl) (aj 2 rfl)) (by rw[SeqAt.eqv_refl _ hLd.1];rfl)) (λz=>by cases z) λ_ H3 G3=>sL ?_)
 refine bM (IG (d:=.tuple [.int 0,.str (p.gates.getD 0 ""),.str (p.kinds.getD 0 ("",none)).1,.str ""]) (Sep.mono EM.mono eW.mono) G3.qk 3 rfl (jm (VE.to (e9 (aq aJ (aq (fk (d:=.str (p.gates.getD 0 "")) (fN hG (aj 1 rfl) bw (rX p)) aJ (cz (j:=0) ?_)) (aq (dq (d:=.str (p.kinds.getD 0 ("",none)).1) (fk (d:=kX (p.kinds.getD 0 ("",none))) (fN hG (aj 1 rfl) bw (rW p)) aJ (cz (j:=0) ?_)) aJ (cz (j:=0) rfl)) (aq bw aU))))) rfl)) (eL (by rw[ai];omega)) λHa Hb G4=>?_)
 ·cases e:p.gates with
  |nil=>exact qQ7 e hg0
  |cons x l=>rfl
 ·cases e:p.kinds with
  |nil=>exact qQ7 e WV
  |cons x l=>rfl
 have G5:=(OF.drop (X:=(lU gS P w K mg base CT "law" (a_ (top 69)) f e7 A outer s0 H E).xQ) (Sep.mono EM.mono eW.mono) G4).swap;have m5:cj (Sep (eW K Cf p day r (qJ p)) EM):=Sep.mono eW.mono EM.mono;refine bM (MN m5 G5 5 (λ_=>rfl) (λlc σ6 H6 H6' G6=>?_) nd)
 refine bM (MN (Sep.mono DI.mono m5) G6 6 (λ_=>rfl) (λlg σ7 H7 H7' G7=>?_) nd)
 have m7:cj (Sep (DI K lg []) (Sep (DI K lc []) (Sep (eW K Cf p day r (qJ p)) EM))):=Sep.mono DI.mono (Sep.mono DI.mono m5);have n7:yt (Sep (DI K lg []) (Sep (DI K lc []) (Sep (eW K Cf p day r (qJ p)) EM))):=Sep.nt DI.nt (Sep.nt DI.nt (Sep.nt eW.nt EM.nt));refine bM (Gg (d:=f7 []) m7 n7 G7 7 (jm (VE.to (VO.ve (fE (ds:=[]) aU)) rfl)) rfl (λσ8 H8 H8' G8=>?_) nd)
 have Y5:OF K B0 B (Sep (DI K lg []) (Sep (DI K lc []) (Sep (eW K Cf p day r (qJ p)) EM))) H8 H8' σ8 (slT ns p day lh r lc lg (o7 (KN ns) 0)):=G8;refine bM (Ms (tgt:=.one 8) (ds:=ik 46) (λ_=>Sep (DI K lg []) (Sep (DI K lc []) (Sep (eW K Cf p day r (qJ p)) EM))) (λk=>slT ns p day lh r lc lg (o7 (KN ns) k)) (λ_=>m7) Y5 bU rfl (nS (n:=46) aJ n.rng ⋯ ⋯) (gX 8 nd) (λk d hd=>?_) λσ9 H9 H9' G9=>?_)
 ·have zda:k<46:=by
   have:=(aH.mp hd).1
   rwa [eZ]at this
  obtain rfl:d=.int (k:Int):=by unfold ik at hd;rw[aG,fu zda]at hd;cases hd;rfl
  refine#[_,rfl,rfl,λD C0 σ' cZ H' G post=>?_]
  have htl:=(Hq (KN ns) k).2.2;refine cx (Gg (d:=f7 (o7 (KN ns) (k+1))) m7 n7 G 7 (jm (VE.to (VO.ve (mN (d1:=(o7 (KN ns) k).map .int) (d2:=(CQ (KN ns k) k).map .int) (aj 7 rfl) (VE.to (VO.ve (TV (n:=1+if KN ns k=true then 1 else 0) (fE (aq (aj 8 rfl) aU)) (d_ aJ (VE.to (PQ (qO hG (cu 20 _) (cu 20 _) (cO (bK C.mx hG (aq (bK C.ca hG (aq (aj 0 rfl) (aq (VE.to (d_ aJ (aj 8 rfl)) (show dD (3+(k:Int))=.int ((3+k:Nat):Int) by congr 1)) aU)) #[ns,3+k,rfl,rfl]) (aq aJ aU)) #[ns.getD (3+k) 0,200,rfl,⋯,⋯,rfl]) aJ ⋯) aJ) n.int) ?_)) (by split<;>omega) (by show 1<=100;omega))) ?_) (small (by rw[ai,ai];unfold CQ;rw[cU];split<;>omega)))) ?_)) rfl (λσ2 Ha Hb G2=>?_) nd)
  ·rw[jG]
   unfold KN;by_cases hb:cQ (ns.getD (3+k) 0) 200%4=1
   ·rw[qQ1 hb]
   ·rw[qQ0 hb]
  ·unfold CQ
   cases KN ns k<;>rfl
  ·show mw _=mw ((o7 (KN ns) k++CQ (KN ns k) k).map .int)
   rw[aN]
  ·refine post _ Ha _ (OF.forget (H0:=Ha) m7 G2 #[.inr rfl,.inr rfl,.inr rfl,.inr rfl,.inr rfl,.inr rfl,.inr rfl,.inr rfl,.inl rfl,.inr rfl,.inr rfl,.inr rfl,.inr rfl,trivial] rfl)
 rw[eZ]at G9;have hts:=Hq (KN ns) 46
 generalize o7 (KN ns) 46=ts at *
 obtain⟨Tx,_,ht3⟩:=hts;have VY:OF K B0 B (RT K Cf p day r lc lg ts 0) H9 H9' σ9 (slT ns p day lh r lc lg ts):=(G9.qk.qk.assoc).imp λas h=>#[0,[],bx _,λg hg=>#[λz=>qQ7 z (Ai _),λz=>by have:=hup.2 g hg;have:qR (ts.take 0)=-1:=rfl;omega],λg hg=>(by cases hg),kR,by rw[<-Va];exact h]
 refine bM (vo (tgt:=.one 8) (ds:=ts.map .int) (λk=>RT K Cf p day r lc lg ts k) (λ_=>RT.mono) VY bU rfl (dY (aj 7 rfl)) (gX 8 nd) (λk d hd=>?_) λσa Ha Hb Ga=>?_)
 ·obtain⟨t,ht,rfl⟩:∃t,ts[k]?=some t/\d=.int t:=by
   rw[aG]at hd
   cases e:ts[k]? with
   |none=>rw[e]at hd;cases hd
   |some z=>rw[e]at hd;cases hd;exact#[z,rfl,rfl]
  have QZ:=Tx k t ht;have Og:qR (ts.take (k+1))=t:=by rw[ck,ht];exact wL _ _
  refine#[_,rfl,rfl,λD C0 σ' cZ H' G post=>?_]
  obtain⟨fG,nG,as,o1,c,gone,hc,hct,hgc,hgn,hS⟩:=G;have G1:OF K C0 B (Sep (eW K Cf p day r (iZ p day c gone)) (Sep EM (Sep (DI K lg (lH gone)) (DI K lc (lH (aX c)))))) cZ H' σ' [.val (f7 ns),.val (eM p),.val (.list (day.map gM)),.ref lh,.ref r,.ref lc,.ref lg,.val (f7 ts),.val (.int t),.un,.un,.un,.un]:=#[fG,nG,as,o1,hS]
  clear hS o1 fG nG
  obtain⟨e,VZ,hee⟩:=NW hup t;obtain⟨K0,N4,hti,htn⟩:=NX QZ hct VZ hee hc;have mI:∀{a b:List Int},cj (Sep EM (Sep (DI K lg a) (DI K lc b))):=λ{a b}=>Sep.mono EM.mono (Sep.mono DI.mono DI.mono)
  have nI:∀{a b:List Int},yt (Sep EM (Sep (DI K lg a) (DI K lc b))):=λ{a b}=>Sep.nt EM.nt (Sep.nt DI.nt DI.nt)
  have mA:∀{s:Fs}{a b:List Int},cj (Sep (eW K Cf p day r s) (Sep EM (Sep (DI K lg a) (DI K lc b)))):=λ{s a b}=>Sep.mono eW.mono mI
  have nA:∀{s:Fs}{a b:List Int},yt (Sep (eW K Cf p day r s) (Sep EM (Sep (DI K lg a) (DI K lc b)))):=λ{s a b}=>Sep.nt eW.nt nI
  have hdc:(o6 day c t).length<=63:=by rw[N4,ai,cG];omega
  have Yd:∀g∈o6 day c t,g<day.length:=λg hg=>bW.mp (gf.mp hg).1
  have n1:(["_law_good","_law_day_here","_law_t","_law_come"]:List Str).Nodup:=∎
  have n2:(["_law_good","_law_t"]:List Str).Nodup:=∎
  have n3:(["_law_good","_law_gone","_law_h","_law_day_here","_law_t"]:List Str).Nodup:=∎
  have n4:(["_law_good","_law_gone"]:List Str).Nodup:=∎
  refine bM (Gq (es:=i_ (o6 day c t)) mA nA G1 (Seen.refl.set 5 rfl (DI.see.has x4.refl.r.r.r)) 9 (own:=["_law_good"]) (cap:=[2,8,5]) (N:=["_law_good","_law_day_here","_law_t","_law_come"]) (tgt:=.one 0) (F:=QI λg=>decide (o5 day g=t) && !decide (g∈aX c)) (ds:=ik day.length) rfl #[rfl,∎,∎,rfl,rfl,?_] (nS (n:=(day.length:Int)) (VE.to (ie (ds:=day.map gM) (aj 2 rfl) n.len) (by rw[ai])) n.rng ∅ ∅) (λf s3 H3=>gX 0 n1) rfl (small (by rw[eZ];omega)) (λd hd=>?_) (by rw[KH,yz];rfl) CV rfl (λσ2 H2 fS G2=>?_) nd)
  ·intro j hj
   simp only[ax,a8,or_false]at hj;rcases hj with rfl|rfl|rfl
   ·exact#[(by show(2:Nat)<13;decide),(by left),rfl]
   ·exact#[(by show(8:Nat)<13;decide),(by left),rfl]
   ·exact#[(by show(5:Nat)<13;decide),(by left),rfl]
  ·obtain⟨g,hg,rfl⟩:=av.mp hd
   have Vy:=bW.mp hg;refine#[_,rfl,λf s3 H3=>ng (VT.to (kx (VT.to (fx hG (cu 20 _) (cu 20 _) (dq (d:=.int (o5 day g)) (fk (aj 1 rfl) (aj 0 rfl) (cz (su Vy))) aJ (cz (j:=0) rfl)) (aj 2 rfl)) (jG _ _)) (λ_=>uw hG (aj 0 rfl) (aj 3 rfl))) ?_),λr kQ f s3 H3=>?_]
   ·rw[Hr,decide_eq_decide.mpr (sy (g:=g) (l:=aX c))]
   ·rw[zV kQ];exact aj 0 rfl
  refine bM (D_ 10 (Ct (s:=iZ p day c gone) (s':=iZ p day e gone) (U:=MF K ((o6 day c t).map (zP t))) (R.cm p day) MY eW.mono mI G2 (eW.ins ∎) 4 rfl (oP mA (jm (aj 8 rfl)) Cq) #[t,e-c,rfl,Dh,(Je tE N3 Dh hc).nm,N3.pn,(Je tE N3 Dh hc).ln,by show c+(e-c)<=_;omega,hti,htn,by rw[Jd hgc _ hti,show c+(e-c)=e by omega],by rw[N4];unfold uM;rw[aB];rfl] λv Ha Hb G3=>?_) nd)
  obtain⟨lf,rfl,G4⟩:=OF.Y9 G3;have mB:∀{l:aF}{ds:List ae}{s:Fs}{a b:List Int},cj (Sep (LR K l ds) (Sep (eW K Cf p day r s) (Sep EM (Sep (DI K lg a) (DI K lc b))))):=λ{l ds s a b}=>Sep.mono LR.mono mA
  have G5:=OF.J6 (X:=(lU gS P w K mg base CT "law" (a_ (top 69)) f e7 A outer s0 H E).xQ) mB G4 (a:=lf) 10 rfl;have oke:∀(w:Str)(F:Nat->ae)(l:List Nat),nV w->(∀g,F g=.tuple [.str w,.int t,.int (g:Int)])->l.length<=1000->U9 2 [.list (l.map F),.list (l.map F)] (.bool true):=λw F l hw hF hl=>#[_,rfl,N0 (by rw[ai];exact hl) λx hx=>by obtain⟨g,_,rfl⟩:=av.mp hx;rw[hF];exact NZ t w hw g,rfl]
  refine bM (IB (kb:=false) mB G5 (Seen.refl.set 10 rfl (Sep.xZ LR.see)) (VT.to (lr (eQ (bK C.eq hr4 (aq (aj 10 rfl) (aq (VO.ve (VO.to (eB (own:=["_law_good"]) (cap:=[8]) (N:=["_law_good","_law_t"]) (tgt:=.one 0) (F:=Fcm t) (ds:=i_ (o6 day c t)) rfl #[rfl,∎,∎,rfl,rfl,?_] (dY (aj 9 rfl)) (λf s3 H3=>gX 0 n2) rfl (small (by rw[jV];omega)) (λd hd=>?_)) (QJ t _))) aU)) (oke "come" (zP t) _ fX (λ_=>rfl) ∅)) rfl)) rfl) (λz=>by cases z) λ_ H6 G6=>sL ?_)
  ·intro j hj
   obtain rfl:=aW.mp hj;exact#[(by show(8:Nat)<13;decide),(by left),rfl]
  ·exact Fc rfl rfl λf s3 H3=>VE.to (e9 (aq bw (aq (aj 1 rfl) (aq (aj 0 rfl) aU)))) rfl
  refine bM (IG (d:=.int 1) mA G6 10 rfl (jm aJ) (eL (by rw[ai];omega)) λHa Hb G7=>?_)
  have G8:=(OF.drop (X:=(lU gS P w K mg base CT "law" (a_ (top 69)) f e7 A outer s0 H E).xQ) mA G7).qk.qk.assoc.qk;have mC:∀{s:Fs}{a b:List Int},cj (Sep (DI K lc b) (Sep (Sep (eW K Cf p day r s) EM) (DI K lg a))):=λ{s a b}=>Sep.mono DI.mono (Sep.mono (Sep.mono eW.mono EM.mono) DI.mono)
  have Y5:OF K C0 B (Sep (DI K lc (lH (aX c++(o6 day c t).take 0))) (Sep (Sep (eW K Cf p day r (iZ p day e gone)) EM) (DI K lg (lH gone)))) Ha _ _ [.val (f7 ns),.val (eM p),.val (.list (day.map gM)),.ref lh,.ref r,.ref lc,.ref lg,.val (f7 ts),.val (.int t),.val (.list (i_ (o6 day c t))),.ref lf,.un,.un]:=G8.Ea λas h=>by rw[tJ,cy];exact h
  have dn:(aX c++o6 day c t).Nodup:=by rw[N4,zU K0];exact List.nodup_range
  refine bM (vo (tgt:=.one 11) (ds:=i_ (o6 day c t)) (λk=>Sep (DI K lc (lH (aX c++(o6 day c t).take k))) (Sep (Sep (eW K Cf p day r (iZ p day e gone)) EM) (DI K lg (lH gone)))) (λ_=>mC) Y5 bU rfl (dY (aj 9 rfl)) (gX 11 nd) (λk2 d hd=>?_) λσ9 Ha Hb G9=>?_)
  ·obtain⟨g,hg,rfl⟩:∃g:Nat,(o6 day c t)[k2]?=some g/\d=.int (g:Int):=by
    unfold i_ at hd;rw[aG]at hd
    cases e:(o6 day c t)[k2]? with
    |none=>rw[e]at hd;cases hd
    |some z=>rw[e]at hd;cases hd;exact#[z,rfl,rfl]
   have e1:(o6 day c t).take (k2+1)=(o6 day c t).take k2 ++ [g]:=by rw[ck,hg];rfl
   refine#[_,rfl,rfl,λD C1 σ' cZ H' Gx post=>?_]
   have hng:(g:Int)∉lH (aX c++(o6 day c t).take k2):=λz=>by
    have z:=sy.mp z;have h1:(aX c++(o6 day c t).take (k2+1)).Nodup:=dn.sublist ((wO _ _).append_left _);rw[e1,<-cp]at h1;exact(cF.mp h1).2.2 g z g (by simp) rfl
   refine cx (MP (Sep.mono (Sep.mono eW.mono EM.mono) DI.mono) Gx hG 5 rfl (aj 11 rfl) xg hng (eL (by rw[ai,aV,cG,bJ];omega)) λHa Hb Gy=>?_)
   refine post _ Ha _ (OF.forget (H0:=Ha) (δ:=[.val (f7 ns),.val (eM p),.val (.list (day.map gM)),.ref lh,.ref r,.ref lc,.ref lg,.val (f7 ts),.val (.int t),.val (.list (i_ (o6 day c t))),.ref lf,.val (.int (g:Int)),.un]) mC ?_ #[.inr rfl,.inr rfl,.inr rfl,.inr rfl,.inr rfl,.inr rfl,.inr rfl,.inr rfl,.inr rfl,.inr rfl,.inr rfl,.inl rfl,.inr rfl,trivial] rfl)
   rw[e1,<-cp];unfold lH;rw[aN];exact Gy
  rw[jV,c9,N4,zU K0]at G9;rw[<-N4]at G9;have VY:=G9.qk.assoc;have hsr:∀{c:Nat},(lH (aX c)).Perm (lH (aX c)):=λ{c}=>List.Perm.refl _
  have Zb:Seen K (Sep (eW K Cf p day r (iZ p day e gone)) (Sep EM (Sep (DI K lg (lH gone)) (DI K lc (lH (aX e)))))) [.val (f7 ns),.val (eM p),.val (.list (day.map gM)),.ref lh,.ref r,.ref lc,.ref lg,.val (f7 ts),.val (.int t),.val (.list (i_ (o6 day c t))),.ref lf,.un,.un] [.val (f7 ns),.val (eM p),.val (.list (day.map gM)),.ref lh,.ref r,.val (D3 (lH (aX e))),.val (D3 (lH gone)),.val (f7 ts),.val (.int t),.val (.list (i_ (o6 day c t))),.ref lf,.un,.un]:=(Seen.refl.set 5 rfl (DI.see.has x4.refl.r.r.r)).set 6 rfl (DI.see.has x4.refl.l.r.r);have Si:(lH (aX e)).length<64:=by rw[ai,cG];omega
  refine bM (Gq (es:=i_ (jN p day e gone t)) mA nA VY Zb 9 (own:=["_law_good"]) (cap:=[6,1,2,8]) (N:=["_law_good","_law_gone","_law_h","_law_day_here","_law_t"]) (tgt:=.one 0) (F:=QI λg=>!decide (g∈gone)&&Bn p day g t) (ds:=i_ (aX e)) rfl #[rfl,∎,∎,rfl,rfl,?_] (dY (VO.ve (VO.to (yR (oQ rfl) (zp hsr (vM e) Si) (aq (aj 5 rfl) aU) n.srt rfl) (yy _).symm))) (λf s3 H3=>gX 0 n3) rfl (small (by rw[jV,cG];omega)) (λd hd=>?_) (by rw[yz];rfl) CV rfl (λσ11 H11 ziL G11=>?_) nd)
  ·intro j hj
   simp only[ax,a8,or_false]at hj;rcases hj with rfl|rfl|rfl|rfl
   ·exact#[(by show(6:Nat)<13;decide),(by left),rfl]
   ·exact#[(by show(1:Nat)<13;decide),(by left),rfl]
   ·exact#[(by show(2:Nat)<13;decide),(by left),rfl]
   ·exact#[(by show(8:Nat)<13;decide),(by left),rfl]
  ·obtain⟨g,hg,rfl⟩:=av.mp hd
   have Vy:=bE (bW.mp hg) VZ;refine#[_,rfl,λf s3 H3=>ng (VT.to (kx (uw hG (aj 0 rfl) (aj 1 rfl)) (λ_=>eQ (bK C.so MY (aq (aj 2 rfl) (aq (aj 3 rfl) (aq (aj 0 rfl) (aq (aj 4 rfl) aU)))) #[p,day,g,t,rfl,tE,N3,Dh,Vy,rfl]) rfl)) ?_),λr kQ f s3 H3=>?_]
   ·rw[Hr,decide_eq_decide.mpr (sy (g:=g) (l:=gone))]
   ·rw[zV kQ];exact aj 0 rfl
  have hdp:=QH p day e gone t;have Qk:∀g,g<e->mn day g∈pq p:=λg hg=>bF _ (Dh.gt g ∅)
  refine bM (D_ 10 (Ct (s:=iZ p day e gone) (s':=iZ p day e (gone++jN p day e gone t)) (U:=MF K ((jN p day e gone t).map (wK t))) (R.sp p day) hr3 eW.mono mI G11 (eW.ins ∎) 4 rfl (oP mA (jm (aj 8 rfl)) Cq) #[t,jN p day e gone t,rfl,Je tE N3 Dh VZ,(NV N3.pn Qk gone t).symm,Vb p day e gone t,∅,(NT p day e gone t).symm,rfl] λv Ha Hb Sg=>?_) nd)
  obtain⟨lf2,rfl,G13⟩:=OF.Y9 Sg;have G14:=OF.J6 (X:=(lU gS P w K mg base CT "law" (a_ (top 69)) f e7 A outer s0 H E).xQ) mB G13 (a:=lf2) 10 rfl;refine bM (IB (kb:=false) mB G14 (Seen.refl.set 10 rfl (Sep.xZ LR.see)) (VT.to (lr (eQ (bK C.eq hr4 (aq (aj 10 rfl) (aq (VO.ve (VO.to (eB (own:=["_law_good"]) (cap:=[8]) (N:=["_law_good","_law_t"]) (tgt:=.one 0) (F:=U5 t) (ds:=i_ (jN p day e gone t)) rfl #[rfl,∎,∎,rfl,rfl,?_] (dY (aj 9 rfl)) (λf s3 H3=>gX 0 n2) rfl (small (by rw[jV];omega)) (λd hd=>?_)) (EV t _))) aU)) (oke "spoil" (wK t) _ fX (λ_=>rfl) ∅)) rfl)) rfl) (λz=>by cases z) λ_ H15 G15=>sL ?_)
  ·intro j hj
   obtain rfl:=aW.mp hj;exact#[(by show(8:Nat)<13;decide),(by left),rfl]
  ·exact Fc rfl rfl λf s3 H3=>VE.to (e9 (aq bw (aq (aj 1 rfl) (aq (aj 0 rfl) aU)))) rfl
  refine bM (IG (d:=.int 1) mA G15 10 rfl (jm aJ) (eL (by rw[ai];omega)) λHa Hb G16=>?_)
  have G17:=(OF.drop (X:=(lU gS P w K mg base CT "law" (a_ (top 69)) f e7 A outer s0 H E).xQ) mA G16).qk.qk.assoc
  generalize Ob:gone++jN p day e gone t=mq at *
  have dn2:mq.Nodup:=by
   rw[<-Ob];refine cF.mpr #[hgn,List.Pairwise.filter _ List.nodup_range,λa ha b hb z=>?_]
   subst z;have:=(gf.mp hb).2;rw[qQ1 ha]at this;cases this
  have zdd:∀g∈mq,g<e:=λg hg=>by
   rw[<-Ob]at hg;rcases aR.mp hg with h|h
   ·exact bE (hgc g h) K0
   ·exact bW.mp (gf.mp h).1
  have mD:∀{s:Fs}{a b:List Int},cj (Sep (DI K lg a) (Sep (DI K lc b) (Sep (eW K Cf p day r s) EM))):=λ{s a b}=>Sep.mono DI.mono (Sep.mono DI.mono (Sep.mono eW.mono EM.mono))
  have zde:OF K C0 B (Sep (DI K lg (lH (gone++(jN p day e gone t).take 0))) (Sep (DI K lc (lH (aX e))) (Sep (eW K Cf p day r (iZ p day e mq)) EM))) Ha _ _ [.val (f7 ns),.val (eM p),.val (.list (day.map gM)),.ref lh,.ref r,.ref lc,.ref lg,.val (f7 ts),.val (.int t),.val (.list (i_ (jN p day e gone t))),.ref lf2,.un,.un]:=G17.Ea λas h=>by rw[tJ,cy];exact h
  have Vy:gone.length<=63:=by
   have h1:=Br c gone hgn hgc;omega
  refine bM (vo (tgt:=.one 11) (ds:=i_ (jN p day e gone t)) (λk=>Sep (DI K lg (lH (gone++(jN p day e gone t).take k))) (Sep (DI K lc (lH (aX e))) (Sep (eW K Cf p day r (iZ p day e mq)) EM))) (λ_=>mD) zde bU rfl (dY (aj 9 rfl)) (gX 11 nd) (λk2 d hd=>?_) λσ18 Ha Hb G18=>?_)
  ·obtain⟨g,hg,rfl⟩:∃g:Nat,(jN p day e gone t)[k2]?=some g/\d=.int (g:Int):=by
    unfold i_ at hd;rw[aG]at hd
    cases e:(jN p day e gone t)[k2]? with
    |none=>rw[e]at hd;cases hd
    |some z=>rw[e]at hd;cases hd;exact#[z,rfl,rfl]
   have e1:(jN p day e gone t).take (k2+1)=(jN p day e gone t).take k2 ++ [g]:=by rw[ck,hg];rfl
   refine#[_,rfl,rfl,λD C1 σ' cZ H' Gx post=>?_]
   have hng:(g:Int)∉lH (gone++(jN p day e gone t).take k2):=λz=>by
    have z:=sy.mp z;have h0:=dn2;rw[<-Ob]at h0;have h1:(gone++(jN p day e gone t).take (k2+1)).Nodup:=h0.sublist ((wO _ _).append_left _);rw[e1,<-cp]at h1;exact(cF.mp h1).2.2 g z g (by simp) rfl
   refine cx (MP (Sep.mono DI.mono (Sep.mono eW.mono EM.mono)) Gx hG 6 rfl (aj 11 rfl) xg hng (eL (by rw[ai,aV,bJ];omega)) λHa Hb Gy=>?_)
   refine post _ Ha _ (OF.forget (H0:=Ha) (δ:=[.val (f7 ns),.val (eM p),.val (.list (day.map gM)),.ref lh,.ref r,.ref lc,.ref lg,.val (f7 ts),.val (.int t),.val (.list (i_ (jN p day e gone t))),.ref lf2,.val (.int (g:Int)),.un]) mD ?_ #[.inr rfl,.inr rfl,.inr rfl,.inr rfl,.inr rfl,.inr rfl,.inr rfl,.inr rfl,.inr rfl,.inr rfl,.inr rfl,.inl rfl,.inr rfl,trivial] rfl)
   rw[e1,<-cp];unfold lH;rw[aN];exact Gy
  rw[jV,c9,Ob]at G18;have G19:=G18.qk.qk.assoc;refine bM (Gq (es:=i_ (zT e mq)) mA nA G19 ((Seen.refl.set 5 rfl (DI.see.has x4.refl.r.r.r)).set 6 rfl (DI.see.has x4.refl.l.r.r)) 12 (own:=["_law_good"]) (cap:=[6]) (N:=["_law_good","_law_gone"]) (tgt:=.one 0) (F:=QI λg=>!decide (g∈mq)) (ds:=i_ (aX e)) rfl #[rfl,∎,∎,rfl,rfl,?_] (dY (VO.ve (VO.to (yR (oQ rfl) (zp hsr (vM e) Si) (aq (aj 5 rfl) aU) n.srt rfl) (yy _).symm))) (λf s3 H3=>gX 0 n4) rfl (small (by rw[jV,cG];omega)) (λd hd=>?_) (by rw[yz];rfl) CV rfl (λσ20 H20 ziR G20=>?_) nd)
  ·intro j hj
   obtain rfl:=aW.mp hj;exact#[(by show(6:Nat)<13;decide),(by left),rfl]
  ·obtain⟨g,hg,rfl⟩:=av.mp hd
   refine#[_,rfl,λf s3 H3=>ng (VT.to (uw hG (aj 0 rfl) (aj 1 rfl)) ?_),λr kQ f s3 H3=>?_]
   ·rw[Hr,decide_eq_decide.mpr (sy (g:=g) (l:=mq))]
   ·rw[zV kQ];exact aj 0 rfl
  have VB:(zT e mq).length<=1000:=bQ (gJ _ _) (by rw[cG];omega)
  have hhm:∀g∈zT e mq,g<day.length:=λg hg=>bE (bW.mp (gf.mp hg).1) VZ
  refine cx (P_ (B0:=C0) (B:=B) (δ:=[.val (f7 ns),.val (eM p),.val (.list (day.map gM)),.ref lh,.ref r,.ref lc,.ref lg,.val (f7 ts),.val (.int t),.val (.list (i_ (jN p day e gone t))),.ref lf2,.un,.val (.list (i_ (zT e mq)))]) (R:=Sep (eW K Cf p day r (iZ p day e mq)) (Sep EM (Sep (DI K lg (lH mq)) (DI K lc (lH (aX e)))))) (λQ q=>P6 (s:=iZ p day e mq) (s':=iZ p day e mq) (U:=qW K (.bool true)) (R.lk p day) hr5 eW.mono mI G20 4 rfl (oP mA (jm (aj 1 rfl)) (oP mA (jm (aj 2 rfl)) (oP mA (jm (aj 12 rfl)) Cq))) #[zT e mq,rfl,Je tE N3 Dh VZ,tE,N3,hhm,VB,Vc p day e mq,rfl,rfl,rfl] λv Ha Hb G21=>?_) λHa Hb G22=>sL ?_)
  ·obtain⟨rv,G22⟩:=OF.dat (X:=(lU gS P w K mg base CT "law" (a_ (top 69)) f e7 A outer s0 H E).xQ) mA G21
   exact q v Ha Hb G22 rv
  ·refine post _ Ha _ (OF.forget (H0:=Ha) RT.mono (G22.imp λas h=>#[e,mq,VZ,λg hg=>by rw[Og];exact hee g hg,zdd,dn2,h]) #[.inr rfl,.inr rfl,.inr rfl,.inr rfl,.inr rfl,.inr rfl,.inr rfl,.inr rfl,.inl rfl,.inl rfl,.inl rfl,.inl rfl,.inl rfl,trivial] rfl)
 ·exact cx (Us Ga xg okk)
end
end Mg
namespace Mg
open L2 PySem PyProof.Rows
variable{C f g:aF}{Jw:Array (Option aD)}{fd:eU}{h:cM}{ps:List Str}{an od:Option aF}{K:ao}{st:e6}{e7 doc oc:aD}
structure eN(K:ao)(mg:Str->Option aD)(g x:Str)(st:e6)(ps:List Str):Prop where
 ex:∃f fd,jQ K x x st f fd/\mg g=some (.ref f)/\∀us:List aD,us.length=ps.length->bindArgs fd #[us,[]]=pure (ps.zip us)
theorem CW{mg:Str->Option aD}{g x:Str}{kV pm ct: aD}(X:K.In h)(G:h.Ns mainGlobals mg)
  (hb:∀(kV doc pm:aD)(an:Option aF)(e7 ct:aD)(us:List aD),us.length=ps.length->bindArgs (fJ x x (lN st) (jB st) (a_ st) .none kV doc pm an e7 ct) #[us,[]]=pure (ps.zip us))
  (a:BJ K mainGlobals g=some (some (.ref f)))(l:K.lookup f=some #[oc,od,.func (fJ x x (lN st) (jB st) (a_ st) .none kV doc pm an e7 ct),Jw])
  (c:jb K e7 x=true)(k:eI K (.ref f)=true):eN K mg g x st ps:=
 #[f,_,B4 l c k,lK X G a,hb kV doc pm an e7 ct]
section
variable{P:bA}{w:cg}{K:ao}{mg:Str->Option aD}{base:cM}{f:aF}{k:Nat}
theorem eN.call{g x:Str}{sp:Sp}(D:eN K mg g x st ps)(h:∀f fd,jQ K x x st f fd->dW P w K mg base gS k f fd ps sp):bD P w K mg base k g ps sp:=by
 obtain⟨f,fd,F,hm,hb⟩:=D.ex;exact#[f,fd,h f fd F,hm,F.kp,.all hb]
theorem kK{ws:List Str}{its:Array aD}{n:Nat}{sl:Array (Option aD)}(l:K.lookup g=some #[.type "tuple",od,.seq its n,sl])(hs:its.size<=100)(hv:dI (ws.map V.str) its.toList):Mm K g ws:=
 #[_,_,_,l,rfl,rfl,small ∅,hv]
theorem Sj{pr:Bx}{kvs:List (Str×List Str)}{es:Array sX}{ep:Nat}(nm:(g==sysModules)=false)(nd:(kvs.map (·.1)).Nodup)(l:K.lookup g=some #[.type "dict",none,.dict es ep,#[]])(ge:GE pr K es.toList kvs):GD pr K g kvs:=
 #[nm,nd,_,es,ep,l,#[rfl,rfl,rfl],rfl,ge]
structure QL(K:ao)(mg:Str->Option aD):Prop where
 ex:∃C fi fd,mg "Plant"=some (.ref C)/\qM K C/\(∀f∈ZT,eK K C f)/\Mk K C fi/\jQ K "__init__" "Plant.__init__" Bl fi fd/\Binds K fd ["self"] []
theorem Zc{kV pm ct: aD}(X:K.In h)(G:h.Ns mainGlobals mg)(aC:BJ K mainGlobals "Plant"=some (some (.ref C)))
  (a1:bV K (.ref C) "__init__"=some (some (.ref f)))(i1:mZ K (.ref f)=true)(l:K.lookup f=some #[oc,od,.func (fJ "__init__" "Plant.__init__" (lN Bl) (jB Bl) (a_ Bl) .none kV doc pm an e7 ct),Jw])(c:jb K e7 "Plant.__init__"=true)(k:eI K (.ref f)=true)
  (pg:jz K C fw=true)(hd:kf K C=true)(po:oE K C=true)(sa:bV K (.ref C) "__setattr__"=some (some (.builtin "object.__setattr__")))(mk:qL K C=true)(kc:eI K (.ref C)=true)
  (z1:bV K (.ref C) "kinds"=some none)(z2:bV K (.ref C) "gates"=some none)(z3:bV K (.ref C) "lines"=some none)(z4:bV K (.ref C) "desks"=some none)(z5:bV K (.ref C) "times"=some none)(z6:bV K (.ref C) "hours"=some none)(z7:bV K (.ref C) "paces"=some none):QL K mg:=by
 have F:=B4 l c k;refine#[C,f,_,lK X G aC,#[pg,hd,po,sa],λf hf=>?_,#[mk,a1,i1,kc],F,F.binds λ_ _ _ _ _ _ us hl=>match us,hl with | [_],_=>rfl]
 simp[ax,a8,or_false]at hf;rcases hf with rfl|rfl|rfl|rfl|rfl|rfl|rfl
 ·exact z1
 ·exact z2
 ·exact z3
 ·exact z4
 ·exact z5
 ·exact z6
 ·exact z7
theorem QL.pc(T:QL K mg):PlC P w K mg base:=by
 obtain⟨C,fi,fd,h1,h2,h3,h4,h5,h6⟩:=T.ex;exact#[C,fi,fd,h1,h2,h3,h4,zcm h5 h2 h3,h6]
structure EZ(K:ao)(C:aF)(m q:Str)(st:e6)(ps:List Str):Prop where
 ex:∃f fd,jQ K m q st f fd/\Lh K C m f/\Binds K fd ps []
theorem Jg{m q:Str}{kV pm ct: aD}(hb:∀(kV doc pm:aD)(an:Option aF)(e7 ct:aD)(us:List aD),us.length=ps.length->bindArgs (fJ m q (lN st) (jB st) (a_ st) .none kV doc pm an e7 ct) #[us,[]]=pure (ps.zip us))
  (a:bV K (.ref C) m=some (some (.ref f)))(i:mZ K (.ref f)=true)(l:K.lookup f=some #[oc,od,.func (fJ m q (lN st) (jB st) (a_ st) .none kV doc pm an e7 ct),Jw])(c:jb K e7 q=true)(k:eI K (.ref f)=true):EZ K C m q st ps:=
 #[f,_,B4 l c k,#[a,i,k],.all (hb kV doc pm an e7 ct)]
theorem EZ.call{m q:Str}{sp:Sp}(M:EZ K C m q st ps)(cl:qM K C)(h:∀f fd,jQ K m q st f fd->dW P w K mg base gS k f fd ps sp):rT P w K mg base k C m ps sp:=by
 obtain⟨f,fd,F,hm,hb⟩:=M.ex;exact#[f,fd,h f fd F,cl,hm,hb]
structure RpA(K:ao)(mg:Str->Option aD)(C:aF):Prop where
 at_:mg "Floor"=some (.ref C)
 cl:qM K C
 na:∀f∈VM,eK K C f
 m0:∃fi fd,Mk K C fi/\jQ K "__init__" "Floor.__init__" (pP 0) fi fd/\Binds K fd ["self","plant","day"] []
 m1:EZ K C "come" "Floor.come" (pP 1) ["self","t"]
 m2:EZ K C "spoil" "Floor.spoil" (pP 2) ["self","t"]
 m4:EZ K C "places_now" "Floor.places_now" (pP 4) ["self"]
 m5:EZ K C "loads_now" "Floor.loads_now" (pP 5) ["self"]
 m7:EZ K C "wait_in" "Floor.wait_in" (pP 7) ["self","place","good","t"]
 m8:EZ K C "spoil_time" "Floor.spoil_time" (pP 8) ["self","good"]
 m9:EZ K C "is_spoilt" "Floor.is_spoilt" (pP 9) ["self","good","t"]
structure Zd(K:ao)(mg:Str->Option aD):Prop where
 ex:∃C,RpA K mg C
theorem Ze{kV pm ct: aD}(X:K.In h)(G:h.Ns mainGlobals mg)(aC:BJ K mainGlobals "Floor"=some (some (.ref C)))
  (a1:bV K (.ref C) "__init__"=some (some (.ref f)))(i1:mZ K (.ref f)=true)(l:K.lookup f=some #[oc,od,.func (fJ "__init__" "Floor.__init__" (lN (pP 0)) (jB (pP 0)) (a_ (pP 0)) .none kV doc pm an e7 ct),Jw])(c:jb K e7 "Floor.__init__"=true)(k:eI K (.ref f)=true)
  (pg:jz K C fw=true)(hd:kf K C=true)(po:oE K C=true)(sa:bV K (.ref C) "__setattr__"=some (some (.builtin "object.__setattr__")))(mk:qL K C=true)(kc:eI K (.ref C)=true)
  (z1:bV K (.ref C) "plant"=some none)(z2:bV K (.ref C) "day"=some none)(z3:bV K (.ref C) "came"=some none)(z4:bV K (.ref C) "waiting"=some none)(z5:bV K (.ref C) "loads"=some none)(z6:bV K (.ref C) "turns"=some none)
  (y1:EZ K C "come" "Floor.come" (pP 1) ["self","t"])(y2:EZ K C "spoil" "Floor.spoil" (pP 2) ["self","t"])(y4:EZ K C "places_now" "Floor.places_now" (pP 4) ["self"])(y5:EZ K C "loads_now" "Floor.loads_now" (pP 5) ["self"])(y7:EZ K C "wait_in" "Floor.wait_in" (pP 7) ["self","place","good","t"])(y8:EZ K C "spoil_time" "Floor.spoil_time" (pP 8) ["self","good"])(y9:EZ K C "is_spoilt" "Floor.is_spoilt" (pP 9) ["self","good","t"]):Zd K mg:=by
 have F:=B4 (st:=pP 0) l c k;refine#[C,lK X G aC,#[pg,hd,po,sa],λf hf=>?_,#[f,_,#[mk,a1,i1,kc],F,F.binds (ps:=["self","plant","day"]) λ_ _ _ _ _ _ us hl=>match us,hl with | [_,_,_],_=>rfl],y1,y2,y4,y5,y7,y8,y9]
 simp only[ax,a8,or_false]at hf;rcases hf with rfl|rfl|rfl|rfl|rfl|rfl
 ·exact z1
 ·exact z2
 ·exact z3
 ·exact z4
 ·exact z5
 ·exact z6
structure Defs(K:ao)(mg:Str->Option aD)(pr:Bx):Prop where
 n:Np mg pr K
 nw:Nw mg
 kt:Ka K
 pa:QL K mg
 rp:Zd K mg
 md:mg "dict"=none
 kd:cA K (.type "dict") (.type "dict")=some true
 si:cA K (.type "str") (.type "int")=some false
 d0:eN K mg "is_made_of" "is_made_of" (top 22) ["signs","longest","word"]
 d1:eN K mg "is_name" "is_name" (top 23) ["word"]
 d2:eN K mg "is_number" "is_number" (top 24) ["word"]
 d3:eN K mg "words_of" "words_of" (top 25) ["row"]
 d4:eN K mg "rows_of" "rows_of" (top 26) ["text"]
 d5:eN K mg "greatest_load" "greatest_load" (top 6) ["rule","many"]
 d6:eN K mg "read_plant" "read_plant" (top 32) ["text"]
 d7:eN K mg "fits" "fits" (top 34) ["shape","word"]
 d8:eN K mg "value_of" "value_of" (top 35) ["shape","word"]
 d9:eN K mg "values_of" "values_of" (top 36) ["shapes","words"]
 d10:eN K mg "entry_of" "entry_of" (top 37) ["words"]
 d11:eN K mg "desk_entry" "desk_entry" (top 38) ["words"]
 d12:eN K mg "rule_of" "rule_of" (top 39) ["words","many"]
 d13:eN K mg "are_places" "are_places" (top 40) ["names"]
 d14:eN K mg "fault_of" "fault_of" (top 41) ["plant","entry"]
 d15:eN K mg "tells_twice" "tells_twice" (top 42) ["plant","entry"]
 d16:eN K mg "lacks_name" "lacks_name" (top 43) ["plant","entry"]
 d17:eN K mg "lacks_room" "lacks_room" (top 44) ["plant","entry"]
 d18:eN K mg "is_place" "is_place" (top 45) ["plant","name"]
 d19:eN K mg "is_desk" "is_desk" (top 46) ["plant","name"]
 d20:eN K mg "takers_of" "takers_of" (top 47) ["plant","place"]
 d21:eN K mg "add_entry" "add_entry" (top 48) ["plant","entry"]
 d22:eN K mg "_law_cell_at" "_law_cell_at" (top 52) ["_law_script","_law_k"]
 d23:eN K mg "_law_mix" "_law_mix" (top 53) ["_law_cell","_law_k"]
 d24:eN K mg "_law_names" "_law_names" (top 54) ["_law_cell","_law_many"]
 d25:eN K mg "_law_rule" "_law_rule" (top 55) ["_law_m","_law_many"]
 d26:eN K mg "_law_greatest" "_law_greatest" (top 56) ["_law_rule_here","_law_many"]
 d27:eN K mg "_law_desks" "_law_desks" (top 57) ["_law_cell","_law_places_here","_law_lines"]
 d28:eN K mg "_law_plant" "_law_plant" (top 58) ["_law_script"]
 d29:eN K mg "_law_dash" "_law_dash" (top 59) ["_law_thing"]
 d30:eN K mg "_law_rule_text" "_law_rule_text" (top 60) ["_law_rule_here"]
 d31:eN K mg "_law_plant_text" "_law_plant_text" (top 61) ["_law_h"]
 d32:eN K mg "_law_day" "_law_day" (top 62) ["_law_h","_law_cells"]
 d33:eN K mg "_law_number" "_law_number" (top 63) ["_law_x"]
 Zf:eN K mg "_law_equal" "_law_equal" (top 64) ["_law_found","_law_due"]
 d35:eN K mg "_law_places" "_law_places" (top 65) ["_law_h","_law_day_here","_law_here"]
 d36:eN K mg "_law_same" "_law_same" (top 66) ["_law_found","_law_due"]
 d37:eN K mg "_law_spoilt" "_law_spoilt" (top 67) ["_law_h","_law_day_here","_law_good","_law_t"]
 d38:eN K mg "_law_looked" "_law_looked" (top 68) ["_law_floor","_law_h","_law_day_here","_law_here"]
theorem Defs.all(D:Defs K mg w.params):LawC P w K mg base:=by
 have n:=D.n;have nw:=D.nw;have pc:=D.pa.pc (P:=P) (w:=w) (base:=base);have vN:=D.d0.call (P:=P) (w:=w) (base:=base) λ_ _ F=>zbD F nw
 have wM:=D.d1.call (P:=P) (w:=w) (base:=base) λ_ _ F=>zbE F nw vN
 have xC:=D.d2.call (P:=P) (w:=w) (base:=base) λ_ _ F=>zbF F nw vN
 have Ht:=D.d3.call (P:=P) (w:=w) (base:=base) λ_ _ F=>zbG F
 have KP:=D.d4.call (P:=P) (w:=w) (base:=base) λ_ _ F=>zbH F nw Ht
 have x9:=D.d5.call (P:=P) (w:=w) (base:=base) λ_ _ F=>zci F
 have QM:=D.d7.call (P:=P) (w:=w) (base:=base) λ_ _ F=>Yf F n.toNa wM xC
 have Vg:=D.d7.call (P:=P) (w:=w) (base:=base) λ_ _ F=>zbZ F n.toNa wM xC QM
 have Hu:=D.d8.call (P:=P) (w:=w) (base:=base) λ_ _ F=>zb0 F n.toNa
 have sC:=D.d9.call (P:=P) (w:=w) (base:=base) λ_ _ F=>zb3 F n.toNa n.zip Vg Hu
 have KQ:=D.d12.call (P:=P) (w:=w) (base:=base) λ_ _ F=>Yj F n sC
 have CY:=D.d13.call (P:=P) (w:=w) (base:=base) λ_ _ F=>zb5 F n wM
 have CZ:=D.d11.call (P:=P) (w:=w) (base:=base) λ_ _ F=>zb7 F n sC KQ CY
 have Hv:=D.d10.call (P:=P) (w:=w) (base:=base) λ_ _ F=>zcc F n sC CZ
 have zW:=D.d18.call (P:=P) (w:=w) (base:=base) λ_ _ F=>zcf F
 have Bs:=D.d19.call (P:=P) (w:=w) (base:=base) λ_ _ F=>zcg F
 have E1:=D.d20.call (P:=P) (w:=w) (base:=base) λ_ _ F=>zch F
 have Ay:=D.d15.call (P:=P) (w:=w) (base:=base) λ_ _ F=>zcj F n zW Bs E1
 have C5:=D.d16.call (P:=P) (w:=w) (base:=base) λ_ _ F=>zck F n zW Bs
 have C6:=D.d17.call (P:=P) (w:=w) (base:=base) λ_ _ F=>Yy F n x9
 have Hw:=D.d14.call (P:=P) (w:=w) (base:=base) λ_ _ F=>zcl F Ay C5 C6
 have E2:=D.d21.call (P:=P) (w:=w) (base:=base) λ_ _ F=>zco F
 have C7:=D.d6.call (P:=P) (w:=w) (base:=base) λ_ _ F=>zcw F n pc KP Hv Hw E2
 have tY:=D.d22.call (P:=P) (w:=w) (base:=base) λ_ _ F=>UK F n.len
 have pR:=D.d23.call (P:=P) (w:=w) (base:=base) λ_ _ F=>X9 F
 have xD:=D.d24.call (P:=P) (w:=w) (base:=base) λ_ _ F=>zbJ F n.toNm pR
 have Hz:=D.d25.call (P:=P) (w:=w) (base:=base) λ_ _ F=>zbK F n.toNm
 have zX:=D.d26.call (P:=P) (w:=w) (base:=base) λ_ _ F=>zbL F
 have E3:=D.d27.call (P:=P) (w:=w) (base:=base) λ_ _ F=>zbM F n.toNm pR xD Hz
 have E4:=D.d28.call (P:=P) (w:=w) (base:=base) λ_ _ F=>zbO F n.toNm tY pR xD zX E3
 have zY:=D.d29.call (P:=P) (w:=w) (base:=base) λ_ _ F=>zbU F n.toNa
 have yb:=D.d30.call (P:=P) (w:=w) (base:=base) λ_ _ F=>zbW F n.toNa zY
 have wN:=D.d31.call (P:=P) (w:=w) (base:=base) λ_ _ F=>zbY F n.toNa zY yb
 have KR:=D.d32.call (P:=P) (w:=w) (base:=base) λ_ _ F=>zbS F n.toNm pR
 have qK:=D.d33.call (P:=P) (w:=w) (base:=base) λ_ _ F=>zcU F n.toNa D.kt
 have Zg:=D.Zf.call (P:=P) (w:=w) (base:=base) λ_ _ F=>Y8 F n.toNa D.kt D.si qK
 have Sl:=D.Zf.call (P:=P) (w:=w) (base:=base) λ_ _ F=>R_ F n.toNa D.kt D.si qK Zg
 have Zh:=D.Zf.call (P:=P) (w:=w) (base:=base) λ_ _ F=>R_ F n.toNa D.kt D.si qK Sl
 have C8:=D.d35.call (P:=P) (w:=w) (base:=base) λ_ _ F=>zcX F
 have HB:=D.d36.call (P:=P) (w:=w) (base:=base) λ_ _ F=>zc0 F n.toNa D.md D.kd Sl
 have C9:=D.d37.call (P:=P) (w:=w) (base:=base) λ_ _ F=>zcV F n.toNa D.md
 obtain⟨C,rp⟩:=D.rp.ex;have c:I0 K C:=#[rp.cl,rp.na];have zdI:=rp.m8.call (P:=P) (w:=w) (mg:=mg) (base:=base) rp.cl λ_ _ F=>zcA F (C:=C)
 have zdJ:=rp.m9.call (P:=P) (w:=w) (mg:=mg) (base:=base) rp.cl λ_ _ F=>zcB F zdI
 have zdK:=λpl day=>rp.m7.call (P:=P) (w:=w) (mg:=mg) (base:=base) rp.cl λ_ _ F=>zcC F c (pl:=pl) (day:=day)
 have zdL:=λpl day=>rp.m1.call (P:=P) (w:=w) (mg:=mg) (base:=base) rp.cl λ_ _ F=>zcH F n.toNa c (zdK pl day)
 have zdM:=λpl day=>rp.m2.call (P:=P) (w:=w) (mg:=mg) (base:=base) rp.cl λ_ _ F=>zcJ F n.toNa n.srt c zdJ (pl:=pl) (day:=day)
 have zdN:=λpl day=>rp.m4.call (P:=P) (w:=w) (mg:=mg) (base:=base) rp.cl λ_ _ F=>zcM F c (pl:=pl) (day:=day)
 have zdO:=λpl day=>rp.m5.call (P:=P) (w:=w) (mg:=mg) (base:=base) rp.cl λ_ _ F=>Y4 F D.md c (pl:=pl) (day:=day)
 have lk:=λpl day=>D.d38.call (P:=P) (w:=w) (base:=base) λ_ _ F=>zc1 F n.toNa c (zdN pl day) (zdO pl day) C8 HB
 obtain⟨fi,fdi,Mi,Fi,bi⟩:=rp.m0;have R:FlK P w K mg base C:=#[c,rp.at_,#[fi,fdi,Mi,λpl day=>zcN Fi n.toNa c,bi],zdL,zdM,lk]
 exact#[n.toNa,tY,pR,E4,wN,C7,KR,Zh,C9,C,R]
def N5(K:ao):Sp:=λvs H Q _=>∃(a:aF)(ns:List Int),vs=[.ref a]/\jx K H a (ns.map V.int)/\ns.length<=63/\∀H',Q (.bl true) H'
theorem nL{H:Hp}:∀ns:List Int,b9 K H (ns.map V.int) (ns.map dD)
 | []=>.nil
 |n::ns=>.cons (.int n) (nL ns)
theorem QN(F:dW P w K mg base gS k f fd ps (gu K Y')):dW P w K mg base gS k f fd ps (N5 K):=F.imp λvs H Q E h=>by
 obtain⟨a,ns,rfl,hS,hn,q⟩:=h;exact#[H,_,_,cK.refl _,.cons (.lst hS (nL ns)) .nil,#[ns,rfl,hn,rfl],λv cZ H' g r=>by cases r;exact q H']
theorem Zi(F:jQ K "law" "law" (top 69) f fd)(C:LawC P w K mg base):dW P w K mg base gS 10 f fd ["_law_script"] (N5 K):=
 QN (iY F N1 (by ext) λ_ _ h=>Za C h)
end
theorem walk{l:PySem.W.OpenLaw}{q:bA}{loose:List Str}{XP:(Str->Option aD)->cM->Prop}{YP:cg->cM->Prop}{d:DefRec}{K:Bx->ao}(hn:l.most=some 63)(WL:d.params.defaults=[])(hdn:d.name="law")
  (hY:∀(w:cg)(h:cM),YP w h->(K w.params).In h)
  (F:∀(w:cg)(mg:Str->Option aD)(h:cM),(K w.params).In h->h.Ns mainGlobals mg->Defs (K w.params) mg w.params/\eN (K w.params) mg "law" "law" (top 69) ["_law_script"]):
  PySem.W.WalkO q loose XP YP l.row.toRowW d [] (λf vs=>PySem.call f vs):=
 L2.O1 (n:=63) (k:=10) (x:="_law_script") (CX:=λ_=>gS) (sp:=λw=>N5 (K w.params)) hn ⋯ WL #[rfl,⋯,⋯] hY (λw mg fa h X G N9=>by
  obtain⟨D,L⟩:=F w mg h X G;obtain⟨f,fd,Fl,hm,hb⟩:=L.ex;rw[hdn]at N9;rw[hm]at N9;cases N9;exact#[fd,λs v=>.of_eq (hb [v] rfl),λbase _ _=>Zi Fl D.all]) (λ_ _ a ns hl _ hS=>#[a,ns,rfl,hS,hl,λ_=>rfl]) λ_ _ _ _ _ z=>z
end Mg
namespace PySem.W.Fast
def tw10539436045299991455:=0
def tw1680738605760255860:=0
def tw8130222651578850770:=0
def tw16535504607242531513:=0
def tw15839665995039415335:=0
def tw17672159216078983516:=0
def tw16430804585262700805:=0
def tw17946680721276422991:=0
def tw9588024036612841725:=0
def tw3530136684854801252:=0
def tw16337907216986692267:=0
def tw8320511685555831705:=0
def tw4225048247298698825:=0
def tw955968566933066199:=0
def tw14705384772493838457:=0
def tw2781012609959145966:=0
def tw17473806513799123421:=0
def tw11205500097783827057:=0
def tw3516237671381689696:=0
def tw434155799248457318:=0
def tw2993532414702627165:=0
def tw16997518806722614592:=0
def tw6897333224503180803:=0
def tw6660408006913767522:=0
def tw17987523572757957712:=0
def tw14858344341974187350:=0
def tw4159577723204614243:=0
def tw631419727476143465:=0
def tw16134158879778075086:=0
def tw1651513465244876973:=0
def tw5263224214929751777:=0
def tw5916539505829954132:=0
def tw2833478056277273866:=0
def tw7283124370525672968:=0
def tw8509334691770001964:=0
def tw5801348190151433745:=0
def tw15476725967177354948:=0
def tw11306315284362060817:=0
def tw3961931117844709326:=0
def tw11740431781537018788:=0
def tw14623755389072696274:=0
def tw5453289019345031257:=0
def tw9457336292747834919:=0
def tw4151988843690745504:=0
def tw14342944994238776816:=0
def tw10402638817840596393:=0
def tw1822581768684196397:=0
def tw11920960754786434016:=0
def tw9997164036962852216:=0
def tw12044162165677500131:=0
def tw180076072265972055:=0
def tw1533127262258245866:=0
def tw13930838038958580684:=0
def tw14886927221349095565:=0
def tw11521713881151583962:=0
def tw15122392004543878010:=0
def tw2460065595973085544:=0
def tw7121801070003705747:=0
def tw16681295700416108879:=0
def tw58091329005248974:=0
def tw7450811749595236643:=0
def tw16985806916386503688:=0
def tw1471167410983982203:=0
def tw3901626588322064515:=0
def tw17111187652101054254:=0
def tw13088298148549810046:=0
def tw17599493425217292650:=0
def tw8428532943102367723:=0
def tw3201163370907879722:=0
def tw1240760355333761510:=0
def tw14853767895360208866:=0
def tw2569747973788281311:=0
def tw17504596332600525169:=0
def tw3002788815954089122:=0
def tw17511901675113781746:=0
def tw5627243314493538765:=0
def tw16649402331830043947:=0
def tw14908825282308953936:=0
def tw7082162614692543478:=0
def tw195244159320145023:=0
def tw695324484653324809:=0
def tw12026059463385493893:=0
def tw11499614803228628726:=0
def tw2373677090382981102:=0
def tw3817984659780184758:=0
def tw13346512407019603394:=0
def tw10855490942569168996:=0
def tw8881159988849603535:=0
def tw14755404614065554253:=0
def tw7407153677418785105:=0
def tw8913602453744283366:=0
def tw627668514797018823:=0
def tw8477063370791944713:=0
def tw11204455529357478769:=0
def tw257943836008452586:=0
def tw1976511133877569490:=0
def tw5692737046484284975:=0
def tw8065906202950794384:=0
def tw2698119256875873731:=0
def tw3049802805415667265:=0
def tw15396261398006204477:=0
def tw2439038755654380555:=0
def tw13454058018003806957:=0
def tw18136184791881373369:=0
def tw4533100458941409764:=0
def tw9340751140208664398:=0
def tw7497706127965956145:=0
def tw10622041548025757651:=0
def tw6899748674318638193:=0
def tw7437966642169750675:=0
def tw3317593235973222374:=0
def tw9454819956711359908:=0
def tw15614369486990429436:=0
def tw7657424887164775433:=0
def tw8780105644118864002:=0
def tw17584843275566460399:=0
def tw14919478881518983777:=0
def tw1487727148637421327:=0
def tw4681629585854472472:=0
def tw2026263762326874052:=0
def tw17649783544177702479:=0
def tw6308503347952691704:=0
def tw14197838873652932042:=0
def tw5986929076015854473:=0
def tw4379865797749776980:=0
def tw10751428356919885786:=0
def tw663048730653673692:=0
def tw82812069094231093:=0
def tw16996354258433741338:=0
def tw3625121075769587274:=0
def tw2810342034651396581:=0
def tw17697040839669800976:=0
def tw11229740935826799165:=0
def tw7549565194643149040:=0
def tw8196820799930527969:=0
def tw13244835277626008956:=0
def tw3153210595581811490:=0
def tw17416372082783973908:=0
def tw8176371130131547864:=0
def tw15199714028613920974:=0
def tw14828105721256906386:=0
def tw11180913575512938455:=0
def tw10019694634580548808:=0
def tw13182688968246163328:=0
def tw10016672527315305098:=0
def tw9707862729314189412:=0
def tw16840543523237949977:=0
def tw1655191979298133337:=0
def tw17094660903812784329:=0
def tw10080095889817994482:=0
def tw860523284896903685:=0
def tw692908706139277124:=0
def tw14713759767129853414:=0
def tw15837444897115957567:=0
def tw12735587228834867674:=0
def tw15820893148538506221:=0
def tw2294865344210999061:=0
def tw12976875630952872579:=0
def tw662532689720714164:=0
def tw5578338500406801599:=0
def tw16633711430640450507:=0
def tw17180058716623142006:=0
def tw11751204446735868924:=0
def tw11191516780669029361:=0
def tw4213084130858995785:=0
def tw12792329476090579190:=0
def tw8237241865765396500:=0
def tw10119126327622207655:=0
def tw13910775945915647221:=0
def tw5033043862337057333:=0
def tw14066875237503758183:=0
def tw6422317376933040779:=0
def tw10526789221184198761:=0
def tw9750509797199938001:=0
def tw17455089195221834541:=0
def tw12168633261928577193:=0
def tw14559980195637847066:=0
def tw8169903714927000201:=0
def tw6248390468080204518:=0
def tw8470981655870162064:=0
def tw208148295594858050:=0
def tw4964281504727312006:=0
def tw17378407337996290603:=0
def tw16822854171210421580:=0
def tw12415729423948842096:=0
def tw6464274086551054677:=0
def tw15871893860309855898:=0
def tw4420693081686487693:=0
def tw1288656297769989983:=0
def tw9075565782559900736:=0
def tw8506067042787188884:=0
def tw416692463094398622:=0
def tw6668811538119716238:=0
def tw86773245888875478:=0
def tw2192523745899686902:=0
def tw11250647541651295881:=0
def tw11665354575870815743:=0
def tw9790106479201171548:=0
def tw7397882063287127813:=0
def tw2197424006020088190:=0
def tw12945125705396818298:=0
def tw8360634860634997685:=0
def tw4908804564872227417:=0
def tw740084047189936128:=0
def tw18430645003243130927:=0
def tw718118683514207775:=0
def tw5260332567884167343:=0
def tw8068566752854405528:=0
def tw16966512234829237377:=0
def tw15519759068759114854:=0
def tw8891827072863666683:=0
def tw9428518840771679673:=0
def tw5492298900080558079:=0
def tw8996641317651347122:=0
def tw15143022352578378245:=0
def tw8363706164808514953:=0
def tw4247412098349803848:=0
def tw9075599003662816587:=0
def tw10851681581632289158:=0
def tw9979737452709436992:=0
def tw11279453907350286356:=0
def tw11434465120600645352:=0
def tw5986209255932645691:=0
def tw14894965186673176983:=0
def tw1516726295599397313:=0
def tw9952308893561470557:=0
def tw12720229206209468348:=0
def tw11320830597037317009:=0
def tw15525810415124018885:=0
def tw2031150536335649823:=0
def tw5857156343802709766:=0
def tw1476896754987366312:=0
def tw14186019314182118697:=0
def tw9363337200218762630:=0
def tw14684901176605733465:=0
def tw10012915123996983342:=0
def tw4441560392199511372:=0
def tw12949309170147357757:=0
def tw10158097468637953251:=0
def tw820227370930227856:=0
def tw3145482771236553042:=0
def tw8183526533572065284:=0
def tw2912345268073155040:=0
def tw642123794976582944:=0
def tw4057514507288644353:=0
def tw8567457183590360162:=0
def tw5022544293698740895:=0
def tw6457326615034247642:=0
def tw12168172110499917593:=0
def tw14907791928735104361:=0
def tw15114194665096399164:=0
def tw1297434576265008449:=0
def tw15087065198411800410:=0
def tw679562091346670755:=0
def tw12454548834951872040:=0
def tw14118653043356398845:=0
def tw2699711789461985466:=0
def tw14315691758402880160:=0
def tw9151936572878094343:=0
def tw12215969910491511905:=0
def tw16035447227832388809:=0
def tw15479802608416004743:=0
def tw15649878228053840806:=0
def tw16103163553268701221:=0
def tw3962696918669304472:=0
def tw14277987751321748817:=0
def tw14914784295498866210:=0
def tw18150242754128043120:=0
def tw12149353255040471204:=0
def tw892875955411820463:=0
def tw15196437550316132940:=0
def tw9527147785493260321:=0
def tw15731200729090798289:=0
def tw7693401643947930610:=0
def tw5100857924246115549:=0
def tw3478382273299994477:=0
def tw16947213330766131595:=0
def tw7078131551425693649:=0
def tw3586152997963541555:=0
def tw17746979720001812319:=0
def tw13947580864268899574:=0
def tw9781844814980049072:=0
def tw5385619209031351310:=0
def tw5833288294356283318:=0
def tw4662829247347661447:=0
def tw9784880670614272425:=0
def tw16602904482243393755:=0
def tw5625462163069015896:=0
def tw10089858852970014208:=0
def tw13650088569777312087:=0
def tw5611691338349914743:=0
def tw17445551556691198246:=0
def tw11207698387487709167:=0
def tw12829835737986090031:=0
def tw1704149457274355166:=0
def tw6830906529275024484:=0
def tw2708541927973418988:=0
def tw1552956345449470585:=0
def tw18397380128989322944:=0
def tw10491943732790785554:=0
def tw8921893468437340005:=0
def tw11008165319783263567:=0
def tw10233031156524523944:=0
def tw14309692948949622537:=0
def tw15410779045048336128:=0
def tw2011986488555949518:=0
def tw16334573762460993786:=0
def tw5293532954980331594:=0
def tw13605430332202849157:=0
def tw297916724573717292:=0
def tw4351790240289567917:=0
def tw4397581610807172588:=0
def tw5517937593661972549:=0
def tw11998737350347857909:=0
def tw17599794853167576511:=0
def tw1680017091902813875:=0
def tw8893005429467822324:=0
def tw16590856758713920218:=0
def tw11382888761051389893:=0
def tw12244700373553352815:=0
def tw3952088207827872382:=0
def tw2737342923763352750:=0
def tw8138868399529917707:=0
def tw3828738055555486059:=0
def tw4200385067830989067:=0
def tw10244111713301237451:=0
def tw7231396710123045065:=0
def tw16174410601041018479:=0
def tw12294008630985472390:=0
def tw13404379414997986698:=0
def tw15903044621124164026:=0
def tw14603182705133573935:=0
def tw1832707395402448657:=0
def tw12671923651246588019:=0
def tw15622034169150489408:=0
def tw17605407574589179248:=0
def tw15401779975954174059:=0
def tw7442511418644417449:=0
def tw11435548571972990675:=0
def tw15216932143383998278:=0
def tw3070397640104281758:=0
def tw4093962854612559452:=0
def tw6642178804094825028:=0
def tw12895289883533135261:=0
def tw7284889802000831674:=0
def tw4874313431681443082:=0
def tw7006477441215961905:=0
def tw11708583968058670574:=0
def tw14428039762459713954:=0
def tw12183248540060534064:=0
def tw4956173231111149112:=0
def tw1436288403140100991:=0
def tw10857792972172108057:=0
def tw2010863643315487749:=0
def tw4463832030023587540:=0
def tw17259831927811612844:=0
def tw7215637817462482164:=0
def tw17605257668220903751:=0
def tw10161417880090169684:=0
def tw8384042985525058602:=0
def tw2549732803518802678:=0
def tw1701458235856589690:=0
def tw6697100402508843565:=0
def tw6026354929098978385:=0
def tw14880841333305750532:=0
def tw2536548205826702471:=0
def tw14005240778116197765:=0
def tw18372375174151350727:=0
def tw1671412978291581140:=0
def tw3948329556119913354:=0
def tw4584143694582822217:=0
def tw15644573907177802955:=0
def tw14831372392794408623:=0
def tw9132011828311677944:=0
def tw9843482510464767880:=0
def tw14788033481548574447:=0
def tw9541950845316610544:=0
def tw11065758709540192424:=0
def tw14026695710019156725:=0
def tw3393643618576553657:=0
def tw10891756346606119538:=0
def tw16676694800756302328:=0
def tw6892347485359947814:=0
def tw15606976612369730942:=0
def tw6140615011716578292:=0
def tw7446610820789742716:=0
def tw6520906535906371024:=0
def tw6251479948362702812:=0
def tw6600007051656721131:=0
def tw6579819003692938612:=0
def tw5068749413003439382:=0
def tw3971547307228815455:=0
def tw17863642778881224382:=0
def tw2443401663138767090:=0
def tw18207635046099207006:=0
def tw11091951323714806183:=0
def tw4354025028625450678:=0
def tw16484100884618802293:=0
def tw3668998564324869872:=0
def tw7431077169368655605:=0
def tw17041930991715740049:=0
def tw12185550140891076472:=0
def tw9644556132994853280:=0
def tw2898636927091947650:=0
def tw13608491829484600128:=0
def tw988001240676884665:=0
def tw3285592693699140465:=0
def tw11455787334536510831:=0
def tw8300021899313134930:=0
def tw3838981254170938497:=0
def tw10974737043704431000:=0
def tw5958844404197886826:=0
def tw2204932019547949915:=0
def tw1331052964236426740:=0
def tw17091041404296902305:=0
def tw6534181610993879412:=0
def tw820332526673887362:=0
def tw1864539749934747883:=0
def tw8082586150204975752:=0
def tw11784226036276622682:=0
def tw10009200558076838937:=0
def tw16370733119289242124:=0
def tw118499789342827374:=0
def tw6443721358131616863:=0
def tw5942993301263602153:=0
def tw8022902034273733839:=0
def tw4602788654642379958:=0
def tw3156328404088872558:=0
def tw9584689755395947175:=0
def tw7489912792244643423:=0
def tw14507879842180793782:=0
def tw11290726316018520879:=0
def tw10631787811110204864:=0
def tw667246881380051633:=0
def tw1971193132387475485:=0
def tw15006964147121009676:=0
def tw2480428634829895270:=0
def tw1913338718544291799:=0
def tw4488471228517372801:=0
def tw12267677148904753420:=0
end PySem.W.Fast
end
open PySem PySem.W PyProof.Rows
theorem PySem.Challenge.cw_mergeline_k31_goods_come_and_spoil_holds : PySem.Challenge.rw_mergeline_k31_goods_come_and_spoil.Holds := by
 w_on;o_law;k_head;(case hw=>w_witness2)
 k_fill
 refine Mg.walk (l:=PySem.Challenge.rw_mergeline_k31_goods_come_and_spoil) rfl rfl rfl (λw h Y=>PySem.W.kIn_of Y) ?F
 case F=>
  intro w mg h KX G;refine⟨⟨⟨⟨⟨?n1,?n2,?n3,?n4,?n5,?n6,?n7,?n8,?n9,?n10,?n11,?n12⟩,?n13,?n14⟩,?y1,?y2,?y3,?ymp,?yfo,?yru⟩,⟨?w1,?w2,?w3,?xa,?xb,?xc,?xd⟩,⟨?t0,?t1,?t2,?t3,?t4,?t5,?t6,?t7,?t8,?t9,?t10,?t11⟩,?ypl,?yrp,?md,?kd,?si,?d0,?d1,?d2,?d3,?d4,?d5,?d6,?d7,?d8,?d9,?d10,?d11,?d12,?d13,?d14,?d15,?d16,?d17,?d18,?d19,?d20,?d21,?d22,?d23,?d24,?d25,?d26,?d27,?d28,?d29,?d30,?d31,?d32,?d33,?Zf,?d35,?d36,?d37,?d38⟩,?law⟩
  case n1|n2|n3|n4|n5|n6|n7|n8|n9|n10|n11|n12|n13|n14|y1|y2|y3|w1|w2|w3|md=>exact PySem.W.mg_none_of KX G (by k_is)
  case ymp|xa|xb|xc|xd=>exact⟨_,lK KX G (by k_is)⟩
  case yfo=>refine⟨_,lK KX G (by k_is),Mg.Sj (by decide) (by symm) (by k_is) (.cons rfl (Mg.kK (by k_is) (by decide) (.cons ⟨_,rfl⟩ (.cons ⟨_,rfl⟩ .nil))) (.cons rfl (Mg.kK (by k_is) (by decide) (.cons ⟨_,rfl⟩ .nil)) (.cons rfl (Mg.kK (by k_is) (by decide) (.cons ⟨_,rfl⟩ (.cons ⟨_,rfl⟩ .nil))) (.cons rfl (Mg.kK (by k_is) (by decide) (.cons ⟨_,rfl⟩ (.cons ⟨_,rfl⟩ (.cons ⟨_,rfl⟩ .nil)))) (.cons rfl (Mg.kK (by k_is) (by decide) (.cons ⟨_,rfl⟩ (.cons ⟨_,rfl⟩ (.cons ⟨_,rfl⟩ .nil)))) (.cons rfl (Mg.kK (by k_is) (by decide) (.cons ⟨_,rfl⟩ (.cons ⟨_,rfl⟩ (.cons ⟨_,rfl⟩ (.cons ⟨_,rfl⟩ .nil))))) .nil))))))⟩
  case yru=>refine⟨_,lK KX G (by k_is),Mg.Sj (by decide) (by symm) (by k_is) (.cons rfl (Mg.kK (by k_is) (by decide) .nil) (.cons rfl (Mg.kK (by k_is) (by decide) (.cons ⟨_,rfl⟩ .nil)) (.cons rfl (Mg.kK (by k_is) (by decide) (.cons ⟨_,rfl⟩ .nil)) (.cons rfl (Mg.kK (by k_is) (by decide) (.cons ⟨_,rfl⟩ (.cons ⟨_,rfl⟩ .nil))) (.cons rfl (Mg.kK (by k_is) (by decide) .nil) .nil)))))⟩
  case t0|t1|t2|t3|t4|t5|t6|t7|t8|t9|t10|t11|kd|si=>kit_is
  case ypl=>refine' Mg.Zc KX G ?aC ?a1 ?i1 ?l ?c ?k ?pg ?hd ?po ?sa ?mk ?kc ?z1 ?z2 ?z3 ?z4 ?z5 ?z6 ?z7;(case aC|a1|i1|l|c|k|pg|hd|po|sa|mk|kc|z1|z2|z3|z4|z5|z6|z7=>k_is)
  case yrp=>
   refine' Mg.Ze KX G ?raC ?ra1 ?ri1 ?rl ?rc ?rk ?rpg ?rhd ?rpo ?rsa ?rmk ?rkc ?rz1 ?rz2 ?rz3 ?rz4 ?rz5 ?rz6 ?ry1 ?ry2 ?ry4 ?ry5 ?ry7 ?ry8 ?ry9
   case raC|ra1|ri1|rl|rc|rk|rpg|rhd|rpo|rsa|rmk|rkc|rz1|rz2|rz3|rz4|rz5|rz6=>k_is
   case ry4|ry5=>refine' Mg.Jg (λ_ _ _ _ _ _ us hl=>match us,hl with | [_],_=>rfl) ?a ?i ?l ?c ?k;(case a|i|l|c|k=>k_is)
   case ry1|ry2|ry8=>refine' Mg.Jg (λ_ _ _ _ _ _ us hl=>match us,hl with | [_,_],_=>rfl) ?a ?i ?l ?c ?k;(case a|i|l|c|k=>k_is)
   case ry9=>refine' Mg.Jg (λ_ _ _ _ _ _ us hl=>match us,hl with | [_,_,_],_=>rfl) ?a ?i ?l ?c ?k;(case a|i|l|c|k=>k_is)
   case ry7=>refine' Mg.Jg (λ_ _ _ _ _ _ us hl=>match us,hl with | [_,_,_,_],_=>rfl) ?a ?i ?l ?c ?k;(case a|i|l|c|k=>k_is)
  case d1|d2|d3|d4|d6|d10|d11|d13|d28|d29|d30|d31|d33|law=>refine' Mg.CW KX G (λ_ _ _ _ _ _ us hl=>match us,hl with | [_],_=>rfl) ?a ?l ?c ?k;(case a|l|c|k=>k_is)
  case d5|d7|d8|d9|d12|d14|d15|d16|d17|d18|d19|d20|d21|d22|d23|d24|d25|d26|d32|Zf|d36=>refine' Mg.CW KX G (λ_ _ _ _ _ _ us hl=>match us,hl with | [_,_],_=>rfl) ?a ?l ?c ?k;(case a|l|c|k=>k_is)
  case d0|d27|d35=>refine' Mg.CW KX G (λ_ _ _ _ _ _ us hl=>match us,hl with | [_,_,_],_=>rfl) ?a ?l ?c ?k;(case a|l|c|k=>k_is)
  case d37|d38=>refine' Mg.CW KX G (λ_ _ _ _ _ _ us hl=>match us,hl with | [_,_,_,_],_=>rfl) ?a ?l ?c ?k;(case a|l|c|k=>k_is)
