import PyProof.Rows.All
import Wide.All
import OpenK.AllK
import Wide.FinOn
import Lean
import PyProof.EqAt
import PyProof.EqKinds
import PyProof.TupleCall
import PyProof.Rows.SetFrom
import PyProof.TupleKey
import KE.KSortTup
import PyProof.ListRange
import PyProof.ConsumeS
import KE.KIntText
import PyProof.StrCalls2
import PyProof.StrOps2
import PyProof.SliceStr2
import PyProof.StrWalks
import PyProof.Rows.StrJoin2
import PyProof.ZipIter
import PyProof.TupleIter
import PyProof.ListMulRoad
import PyProof.WalksMore
import KE.KDictLaws
import KE.KDictList
import PyProof.IsiH_list
import PyProof.AttrMiss
import KE.KDictOf
import PyProof.StationsW
import PyProof.ExcInit
import PyProof.ExcClass2
import PyProof.ExcBaseAll.ValueError
import OpenK.KMake
import OpenK.KCls
import PyProof.Rows.FStr
import PyProof.LayNew
import PyProof.RulesAs
import PyProof.NsDelKeeps
import PyProof.ExcAttrAll.ValueError
import KE.KIsAll
import PyProof.CollectIter
import PyProof.TupleOfStr
import PyProof.StrReplace2
import PyProof.StrLawsReplace
import PySem.Challenge.RW_mergeline_k03_rows_of_no_form
set_option Elab.async false
set_option linter.all false
set_option maxRecDepth 100000
set_option maxHeartbeats 4000000
open Array renaming getElem?_eq_some_iff→hC,length_toList→cR,toList_append→Fs
open Bool renaming and_eq_true_iff→fh,and_eq_true→jH,and_false→zG,eq_false_iff→vL,eq_iff_iff→fH,false_ne_true→cF,or_eq_true→yN,or_true→vK,true_and→j8
open False renaming elim→eP
open ForInStep renaming yield→pC
open Int renaming emod_lt_of_pos→bG,emod_nonneg→bw,eq_ofNat_of_zero_le→kQ,le_ediv_iff_mul_le→DK,toNat_natCast→eA
open List renaming all_eq_true→ef,all_map→vM,any_cons→uf,any_eq_true→wH,append_assoc→eU,append_nil→dC,drop_eq_nil_of_le→qE,drop_succ_cons→tX,drop_zero→kZ,eq_nil_of_length_eq_zero→mr,ext_getElem?→k6,filterMap_append→lI,filterMap_cons_none→gk,filterMap_cons_some→dB,filterMap_cons→gQ,filterMap_map→cQ,filter_cons→lV,filter_eq_nil_iff→DB,find?_cons→dY,flatten_append→tY,flatten_cons→eM,foldl_append→iD,foldl_cons→mM,foldl→zB,forIn_cons→yM,fst_mem_of_mem_zipIdx→jC,getD_eq_getElem?_getD→aI,getElem?_append_left→cC,getElem?_append_right→cy,getElem?_drop→nH,getElem?_eq_getElem→ax,getElem?_eq_none→hX,getElem?_eq_some_iff→aJ,getElem?_map→aT,getElem?_range→mS,getElem?_replicate→d_,getElem?_set_ne→a7,getElem?_set_self→a8,getElem?_zipIdx→jB,getElem_cons_drop→DC,getElem_map→qo,getElem_mem→dQ,getElem_toArray→Fo,length_append→aV,length_cons→a9,length_drop→b_,length_filterMap_le→pE,length_map→aj,length_nil→ck,length_range→gI,length_replicate→cu,length_set→yO,length_singleton→lH,length_take→bS,length_zip→yR,length→gu,lookup_cons→dP,lookup→kB,map_append→bh,map_congr_left→iP,map_cons→aR,map_drop→jh,map_map→bA,map_nil→gX,map_replicate→kz,map_take→mh,map→Fq,mem_append_left→fe,mem_append_right→cJ,mem_append→bX,mem_cons_of_mem→aU,mem_cons_self→aP,mem_cons→aG,mem_filterMap→ku,mem_flatMap→wI,mem_iff_getElem?→rO,mem_map→aN,mem_of_getElem?→bO,mem_of_mem_drop→cW,mem_of_mem_take→cG,mem_range→dG,mem_replicate→fY,mem_singleton→bo,nil_append→qK,nodup_append→eN,nodup_cons→gL,nodup_nil→zC,not_mem_nil→bP,of_mem_zip→qI,pairwise_iff_getElem→oK,range_succ→yQ,range→cq,replicate_succ→dv,replicate→aH,set_comm→t_,size_toArray→bp,sum_cons→ui,take_add_one→eu,take_append_drop→hZ,take_length→jJ,take_of_length_le→dA,zipIdx_cons→lS,zip_cons_cons→kA
open List.cons renaming inj→jD
open Nat renaming add_lt_add_left→iQ,eq_zero_or_pos→u6,le_add_right→fj,le_of_lt→nz,le_of_not_lt→fZ,le_refl→aD,le_succ→iY,le_trans→bZ,lt_add_of_pos_right→qx,lt_irrefl→iI,lt_of_lt_of_le→bF,lt_succ_of_lt→lb,lt_succ_self→jK,min_eq_left→ky,mul_comm→DJ,mul_le_mul→eD,ne_of_gt→eT,ne_of_lt→a_,sub_self→DM,succ_le_succ→xh,succ_mul→qJ,toDigits_of_lt_base→kR,toDigits→iE,zero_add→qP,zero_le→bu
open Ne renaming symm→bM
open Option renaming isSome_map→uX,map_eq_some_iff→BX,map_some→mw,toList_some→tW
open Option.some renaming injEq→g_,inj→di
open Or renaming inl→bB,inr→dm
open PyProof.Rows renaming AllBare→qC,IntsAre→yX,assignInOrder_cons→jj,assignInOrder_nil→yV,callWith_type1→iR,slot_tuple_getitem→j7
open PyProof.Rows.F renaming entry_set_update_loop→Fn,plain_set_update_loop→qL
open PyProof.Rows.IsTup renaming new→sA
open PySem renaming Addr→aL,Around→dJ,Builtin→oO,CmpOp→DH,DictEntry→AV,ExcBaseFacts→oP,Expr→cj,FuncData→e9,GenState→sr,Heap→c6,IsPair→qM,IsPart→AQ,IsZip→B2,Keyword→iO,NameKind→ny,Paired→DG,Params→AU,PassesOwn→AH,Program→bC,PyData→aq,Result→sX,Scope→kU,Shared→aK,Spec→e8,Stmt→iH,Value→ay,Within→kW,World→cw,boot_len→su,call_meets→jm,codeAny_builtin→tV,codeAny_call_builtin→nD,codeAny_mono→kf,length_partsBetween→wo,mem_of_lookup→iN,pastItsLine_dict→AJ,plainObj_wpAny_Assign_Attribute→mF,sizeLine_eq→cL,tupleKind_room_in1→la,typeIs_int→xg,typeIs_str→pH,wpAny_Call_Name_kw→iz,wpAny_Call_method→yZ,wpAny_attempt→wG,wpAny_binaryOp_repeat_ref→Fm,wpAny_bindName→pG,wpAny_bind→au,wpAny_callSpecial?_slot→iZ,wpAny_call_entry→mR,wpAny_call→k_,wpAny_execs_cons→AG,wpAny_execs_nil→B5,wpAny_field→er,wpAny_holding→kX,wpAny_isSubtype_exc→hG,wpAny_ite_false→k7,wpAny_letGo→B3,wpAny_loadPart'→fW,wpAny_loadPart_at→eR,wpAny_loadPart→u5,wpAny_lookBehind→AI,wpAny_mono→eB,wpAny_newObj_type→eQ,wpAny_onRaise→qN,wpAny_passesOwn→oo,wpAny_pure→aY,wpAny_pyIter_list→qD,wpAny_pyIter_tuple→w8,wpAny_rule→wZ,wpAny_seqItems→i_,wpAny_setField_rec→jq,wpAny_setField→lY,wpAny_standAt→nu,wpAny_truthy_bool→eZ,wpAny_updateSeq_pair→u9
open PySem.Around renaming under_plainId→rN,under→BW
open PySem.AutoSeq1 renaming idx_int→Fp,sub_tuple_tuple→yP
open PySem.Builtin.List renaming listFitsIndex→lR,listTooLong→mN
open PySem.Builtin.Slice renaming sliceAdjust→lW,sliceApplied→ud,slicePlaces→jd
open PySem.Builtin.SmallTypes renaming nextOf→c7,ownedTupleHandOut→nG,ownedTupleIsFree→fV
open PySem.Builtin.Tuple renaming tupleExact→jl,tupleTooMany→ug
open PySem.Calls renaming Constant_str→nA,Name_function_global→yU,callWith_builtin→kY,evalArgs_plain→lX,spliced_cons→fU,spliced_nil→ji
open PySem.Code renaming isFrame→Dz,quiet_builtin→uY
open PySem.EntryCells renaming newEntry→AY
open PySem.F renaming args_dict_get_3→zD,args_str_split_2→wq,args_tuple_add_2→yW,args_tuple_iterator_next_1→AX,attr_ValueError→zF,called_set→jW,entry_dict_get→AW,entry_str_split→xi,entry_tuple_add→zA,entry_tuple_iterator_next→B1,excBase_ValueError→xj,plainAttrs_dict→zE,plainAttrs_list→iJ,plainAttrs_str→pI,slot_dict_getitem→yL,slot_dict_get→qw,slot_dict_setdefault→wt,slot_int_rmul→sD,slot_list_append→ou,slot_str_split→y0,slot_tuple_add→AO,slot_tuple_iterator_next→jL,slot_tuple_mul→qQ,slot_zip_next→sE,type_list_append→oy
open PySem.Flow renaming next→B6
open PySem.Heap renaming SameBut→jG,get?_none_of_le→sy,get?_push_of_some→aA,get?_push_size→bD,get?_update_other→dz,get?_update_self→fQ,lt_size→aW,size_after_update→k8,size_push→fA
open PySem.Heap.FunFrames renaming cons→xm
open PySem.Heap.Ns1 renaming of_empty→DI
open PySem.Heap.SameBut renaming update→y4
open PySem.MeetsSeq renaming plain_index_loop→qO
open PySem.NameKind renaming cell→jI,free→dZ
open PySem.Obj renaming data_mapFields→f6,isFreed_of_fields→jo,mapFields→kj
open PySem.Paired renaming length→sW
open PySem.PassesOwn renaming never→eV
open PySem.PyData renaming bool→km,canLay0→cP,canLayAll0→oq,eqv→dE,int→iU,list→ko,str→aQ,tuple→fX
open PySem.SeqAt renaming readOf→u_
open PySem.Str renaming empty→ei,join→cK,length_append→b0,ofString→nB
open PySem.StrLaws renaming found_one→uh,join_split→mU,occ_length_le→BZ,sliceText_from→AZ,sliceText_to→B7,split_free→mV
open PySem.Txt renaming replace→sY,slice_le→DL,slice→lZ,split→bL
open PySem.Value renaming builtin→lU,int→BU,isStrOf→tU,none→eE,ref→bf,str→BV,type→lG
open PySem.W renaming Frag→ao,InstAt→mP,Looks→y6,any_some→u0,callWith_K→mQ,cellsFrom_some→AK,codeIn→kD,emptyDict→fk,findCls→wx,findIn→bY,findObj_own→Dy,fnOf→il,hasDictIn→gq,instObj→h_,isFn→uc,keepIn→eO,kitAny→xn,kitOne→du,lookIn→qG,looks_clsIn→mq,looks_findIn→qH,makesIn→wm,methodObj→tZ,mg_none_of→DN,mg_of→gR,mroIn→sC,nsIn→iq,plainGet→oN,plainOver→ua,readsIn→wu,set_plain→ub,specialIn→kC,takerIn→jR,typeIn→w_
open PySem.W.InstAt renaming type→pD
open PySem.W.Looks renaming andThen→oA,here→fw,now→qR
open PySem.Within renaming cons→mE
open Sum renaming inl→wj,inr→cx
open True renaming intro→fz
def qQ0:=@decide_eq_false
def qQ1:=@decide_eq_true
def qQ2:=@if_neg
def qQ3:=@if_pos
def qQ4:=@of_decide_eq_true
def qQ5:=@of_decide_eq_false
def qQ6:=@congrArg
def qQ7:=@absurd
local macro_rules|`(tactic|symm)=>`(tactic|decide +kernel)
namespace L2
open PySem PySem.Spec PyProof.Rows
variable{C a it:aL}{A:dJ}{g':Array sr}{d':Drawn}{c e tg:cj}{base h:c6}{g:Int->Int->Int}{pins:List (aL×Obj)}{kw:List (Str×ay)}{ch fp:List aL}{outer:List Env}{es:List cj}{body:List iH}{N ps:List Str}{us:List ay}{M:Model}{k t':Nat}{o:Obj}{P:bC}{K:ao}{scope:kU}{s s':aK}{kindOf:Str->Option ny}{mA mg:Str->Option ay}{u:ay}{E Q:ay->aK->Prop}{f:ay->ay->Sem ay}{w:cw}
abbrev Key:=Sum Int Str
def zH:Key->ay->Bool
 | .inl k,v=>ay.isInt k v
 | .inr x,v=>tU x v
def V8(w:cw):Key->Int
 | .inl k=>hashInt k
 | .inr x=>hashStr w x
theorem iu:∀{k:Key}{v:ay},zH k v=true->(∃i t,k=wj i/\v=BU i t)\/(∃x t,k=cx x/\v=BV x t)
 | .inl i,v,h=>by
  obtain⟨t,e⟩:=ay.isInt_shape (k:=i) (v:=v) h;exact .inl ⟨i,t,rfl,e⟩
 | .inr x,v,h=>by
  obtain⟨t,e⟩:=ay.isStrOf_shape (x:=x) (v:=v) h;exact .inr ⟨x,t,rfl,e⟩
theorem Gz(i:Int)(t:Tok):zH (.inl i) (.int i t)=true:=by simp[zH,ay.isInt]
theorem GA(x:Str)(t:Tok):zH (.inr x) (.str x t)=true:=by simp[zH,tU]
theorem Ov(a b:Int):decide ((wj a:Key)=wj b)=(a==b):=by
 by_cases e:a=b
 ·subst e;simp
 ·have h:¬(wj a:Key)=wj b:=λq=>e (wj.inj q)
  rw[qQ0 h];exact(beq_eq_false_iff_ne.mpr e).symm
theorem Ow(a b:Str):decide ((cx a:Key)=cx b)=decide (a=b):=by
 by_cases e:a=b
 ·subst e;simp
 ·have h:¬(cx a:Key)=cx b:=λq=>e (cx.inj q)
  rw[qQ0 h,qQ0 e]
theorem Ox(a:Int)(b:Str):decide ((wj a:Key)=cx b)=false:=qQ0 (λq=>nomatch q)
theorem Oy(a:Str)(b:Int):decide ((cx a:Key)=wj b)=false:=qQ0 (λq=>nomatch q)
def fq(prog:bC)(w:cw):PySem.KeyKind prog w Key where
 is:=zH
 hash:=V8 w
 inj:=λv a b ha hb=>by
  rcases iu ha with⟨i,t,rfl,rfl⟩|⟨x,t,rfl,rfl⟩
  ·rcases iu hb with⟨j,u,rfl,e⟩|⟨y,u,rfl,e⟩
   ·injection e with e1 _;rw[e1]
   ·exact nomatch e
  ·rcases iu hb with⟨j,u,rfl,e⟩|⟨y,u,rfl,e⟩
   ·exact nomatch e
   ·injection e with e1 _;rw[e1]
 byValue:=λk v h=>by
  rcases iu h with⟨i,t,rfl,rfl⟩|⟨x,t,rfl,rfl⟩<;>rfl
 pyHash:=λhv h=>by
  rcases iu hv with⟨i,t,rfl,rfl⟩|⟨x,t,rfl,rfl⟩
  ·exact wpAny_pyHash_int h
  ·exact wpAny_pyHash_str h
 eqBool:=λhu hv h=>by
  rcases iu hu with⟨i,t,rfl,rfl⟩|⟨x,t,rfl,rfl⟩
  ·rcases iu hv with⟨j,u,rfl,rfl⟩|⟨y,u,rfl,rfl⟩
   ·rw[Ov]at h;exact wpAny_eqBool_int h
   ·rw[Ox]at h;exact SeqAt.EqAt.int_str i t y u _ _ _ _ h
  ·rcases iu hv with⟨j,u,rfl,rfl⟩|⟨y,u,rfl,rfl⟩
   ·rw[Oy]at h;exact SeqAt.EqAt.str_int x t j u _ _ _ _ h
   ·rw[Ow]at h;exact wpAny_eqBool_str h
 «strs»:=λk x t v h=>by
  rcases iu h with⟨i,u,rfl,e⟩|⟨y,u,rfl,e⟩
  ·exact nomatch e
  ·injection e with e1 _
   subst e1;cases v<;>rfl
theorem B8(prog:bC)(w:cw)(i:Int)(t:Tok):(fq prog w).is (.inl i) (.int i t)=true:=Gz i t
theorem qS(prog:bC)(w:cw)(x:Str)(t:Tok):(fq prog w).is (.inr x) (.str x t)=true:=GA x t
inductive V where
 |non|bl (b:Bool)|int (i:Int)|str (x:Str)|QV (b:Array UInt8)|flt (b:UInt64)|ref (a:aL)|ty (n:String)
 deriving DecidableEq
variable{vs xs:List V}
def RelV:V->ay->Prop
 | .non,u=>u=eE
 | .bl b,u=>u=ay.bool b
 | .int i,u=>∃t,u=BU i t
 | .str x,u=>∃t,u=BV x t
 | .QV b,u=>∃t,u=ay.bytes b t
 | .flt b,u=>∃t,u=ay.float b t
 | .ref a,u=>u=bf a
 | .ty n,u=>u=lG n
abbrev ez:List V->List ay->Prop:=DG RelV
theorem ez.length(r:ez xs us):xs.length=us.length:=sW r
theorem ez.get:∀{xs:List V}{us:List ay}{i:Nat}{x:V},ez xs us->xs[i]?=some x->∃u,us[i]?=some u/\RelV x u
 |_,_,_,_,.nil,e=>by simp at e
 |_,_,0,_,.cons r _,e=>by simp at e;subst e;exact⟨_,rfl,r⟩
 |_,_,i+1,x,.cons _ t,e=>by
  obtain⟨u,h1,h2⟩:=ez.get (i:=i) (x:=x) t (by simpa using e)
  exact⟨u,by simpa using h1,h2⟩
theorem ez.append:∀{xs ys:List V}{us ws:List ay},ez xs us->ez ys ws->ez (xs++ys) (us++ws)
 |_,_,_,_,.nil,s=>s
 |_,_,_,_,.cons r t,s=>.cons r (ez.append t s)
theorem ez.take:∀{xs:List V}{us:List ay}(n:Nat),ez xs us->ez (xs.take n) (us.take n)
 |_,_,0,_=>.nil
 |_,_,_+1,.nil=>.nil
 |_,_,n+1,.cons r t=>.cons r (ez.take n t)
theorem ez.drop:∀{xs:List V}{us:List ay}(n:Nat),ez xs us->ez (xs.drop n) (us.drop n)
 |_,_,0,r=>r
 |_,_,_+1,.nil=>.nil
 |_,_,n+1,.cons _ t=>ez.drop n t
def mW:Option V->Option ay->Prop
 |some v,some u=>RelV v u
 |none,none=>True
 |_,_=>False
def KV{κ:Type}:List (κ×V)->List (κ×ay)->Prop:=DG λ(p:κ×V)(q:κ×ay)=>p.1=q.1/\RelV p.2 q.2
def kV:Key->V
 | .inl i=>.int i
 | .inr x=>.str x
inductive HO where
 |lst (xs:List V)
 |tup (xs:List V)
 |dK (kvs:List (Key×V))|dT (kvs:List (List Key×V))
 |set (S:Int->Bool) (n:Nat)
 |ins (C dx:aL) (fs:List (Str×V))
 |own (x:aL)
 |xd (fs:List (Str×V))
 |met (f x:aL)
 |rng (lo hi:Int)
 |GB (o:Obj) (u:HO)
 |Oz (ps:Array ay)
 |ext (φ:c6->Prop)
abbrev Hp:=aL->Option HO
variable{H:Hp}{R:V->V->Hp->Prop}
def upd(H:Hp)(a:aL)(o:HO):Hp:=λb=>if b=a then some o else H b
theorem bK{o:HO}:upd H a o a=some o:=by unfold upd;rw[qQ3 rfl]
theorem aS{b: aL}{o:HO}(h:b≠a):upd H a o b=H b:=by unfold upd;rw[qQ2 h]
theorem Rv{b: aL}{o u:HO}(h:H a=some o)(h':H b=some u)(d:o≠u):a≠b:=by
 intro e;subst e;rw[h]at h';exact d (di h')
theorem bj{b: aL}{o:HO}(h:H a=some o)(h':H b=none):a≠b:=by
 intro e;subst e;rw[h]at h';cases h'
section
variable(P:bC)(w:cw)
def gS(H:Hp)(h:c6)(a:aL):HO->Prop
 | .lst xs=>xs.length<=sizeLine/\∃(its:List ay)(n:Nat),ez xs its/\h.get? a=some { cls:=.type "list",data:=.seq its.toArray n }
 | .tup xs=>xs.length<=sizeLine/\∃its:List ay,ez xs its/\IsTup h a its.toArray
 | .dK kvs=>kvs.length<=sizeLine/\(a==sysModules)=false/\∃vs,KV kvs vs/\h.DictOf (fq P w) a vs
 | .dT kvs=>kvs.length<=sizeLine/\(a==sysModules)=false/\∃xs:List (List Key×aL×ay),
   DG (λ(p:List Key×V)(q:List Key×aL×ay)=>p.1=q.1/\H q.2.1=some (.tup (p.1.map kV))/\RelV p.2 q.2.2) kvs xs/\
   ∃o es ep,h.get? a=some o/\o.ExactDict/\o.data=.dict es ep/\es.toList=xs.map (entryOfKey (tupleKind (fq P w)))/\(xs.map (·.1)).Nodup
 | .set S n=>h.SetOf (intKind P w) a S n
 | .ins C dx fs=>H dx=some (.own a)/\fs.length<=1000/\dx≠a/\h.get? a=some (h_ C dx)/\
   ∃mA,h.Ns1 dx mA/\(∀f,mW (fs.lookup f) (mA f))/\kW mA (fs.map (·.1))
 | .own _=>∃o,h.get? a=some o
 | .xd fs=>∃mA,h.Ns1 a mA/\∀f,mW (fs.lookup f) (mA f)
 | .rng lo hi=>∃t u v,h.get? a=some { cls:=.type "range",data:=.fields #[.int lo t,.int hi u,.int 1 v] }
 | .GB o u=>h.get? a=some o/\gS H h a u
 | .Oz ps=>h.get? a=some { cls:=.none,data:=.fields ps }
 | .met f x=>h.get? a=some (tZ (.ref f) (.ref x))
 | .ext φ=>φ h/\(∃o,h.get? a=some o)/\∀h1 h2:c6,φ h1->(∀o,h1.get? a=some o->h2.get? a=some o)->φ h2
def qF(H:Hp)(h:c6):Prop:=∀a o,H a=some o->gS P w H h a o
end
section
variable{P:bC}{w:cw}{H H':Hp}{h h':c6}{a:aL}{o:HO}
theorem gS.lt(x:gS P w H h a o):a<h.objs.size:=by
 cases o with
 |lst xs=>obtain⟨_,_,_,_,e⟩:=x;exact aW e
 |tup xs=>obtain⟨_,_,_,p⟩:=x;exact p.lt
 |dK kvs=>obtain⟨_,_,_,_,o,_,_,e,_⟩:=x;exact aW e
 |dT kvs=>obtain⟨_,_,_,_,o,_,_,e,_⟩:=x;exact aW e
 |set S n=>obtain⟨o,_,_,_,e,_⟩:=x;exact aW e
 |ins C dx fs=>obtain⟨_,_,_,e,_⟩:=x;exact aW e
 |own y=>obtain⟨_,e⟩:=x;exact aW e
 |xd fs=>obtain⟨_,⟨_,_,_,e,_⟩,_⟩:=x;exact aW e
 |rng lo hi=>obtain⟨_,_,_,e⟩:=x;exact aW e
 |GB ob u=>obtain⟨e,_⟩:=x;exact aW e
 |Oz ps=>exact aW (show h.get? a=some _ from x)
 |met f y=>exact aW (show h.get? a=some _ from x)
 |ext φ=>obtain⟨_,⟨_,e⟩,_⟩:=x;exact aW e
theorem DG.OB{α β:Type}{F G:α->β->Prop}:∀{l₁:List α}{l₂:List β},DG F l₁ l₂->(∀a b,F a b->G a b)->DG G l₁ l₂
 |_,_,.nil,_=>.nil
 |_,_,.cons r t,f=>.cons (f _ _ r) (DG.OB t f)
theorem gS.stay(x:gS P w H h a o)(k:∀b u,(b=a\/H b=some (.own a))->h.get? b=some u->h'.get? b=some u)
  (ho:∀b,H b=some (.own a)->H' b=some (.own a))(ht:∀b xs,H b=some (.tup xs)->H' b=some (.tup xs)):gS P w H' h' a o:=by
 induction o with
 |lst xs=>obtain⟨z,its,n,r,e⟩:=x;exact⟨z,its,n,r,k _ _ (.inl rfl) e⟩
 |tup xs=>obtain⟨z,its,r,ob,e,c⟩:=x;exact⟨z,its,r,ob,k _ _ (.inl rfl) e,c⟩
 |dK kvs=>obtain⟨z,y,vs,r,ob,es,ep,e,c⟩:=x;exact⟨z,y,vs,r,ob,es,ep,k _ _ (.inl rfl) e,c⟩
 |dT kvs=>
  obtain⟨z,y,xs,r,ob,es,ep,e,c⟩:=x;exact⟨z,y,xs,DG.OB r λp q z=>⟨z.1,ht _ _ z.2.1,z.2.2⟩,ob,es,ep,k _ _ (.inl rfl) e,c⟩
 |set S n=>obtain⟨ob,es,ep,t,e,c⟩:=x;exact⟨ob,es,ep,t,k _ _ (.inl rfl) e,c⟩
 |ins C dx fs=>
  obtain⟨d,z,ne,e,mA,⟨od,es,ep,e2,c⟩,r⟩:=x;exact⟨ho _ d,z,ne,k _ _ (.inl rfl) e,mA,⟨od,es,ep,k _ _ (.inr d) e2,c⟩,r⟩
 |own y=>obtain⟨ob,e⟩:=x;exact⟨ob,k _ _ (.inl rfl) e⟩
 |xd fs=>obtain⟨mA,⟨od,es,ep,e,c⟩,r⟩:=x;exact⟨mA,⟨od,es,ep,k _ _ (.inl rfl) e,c⟩,r⟩
 |rng lo hi=>obtain⟨t,u,v,e⟩:=x;exact⟨t,u,v,k _ _ (.inl rfl) e⟩
 |GB ob u ih=>obtain⟨e,q⟩:=x;exact⟨k _ _ (.inl rfl) e,ih q⟩
 |Oz ps=>
  have e:h.get? a=some { cls:=.none,data:=.fields ps }:=x;show h'.get? a=some { cls:=.none,data:=.fields ps };exact k a _ (.inl rfl) e
 |met f y=>
  have e:h.get? a=some (tZ (.ref f) (.ref y)):=x;show h'.get? a=some (tZ (.ref f) (.ref y));exact k a _ (.inl rfl) e
 |ext φ=>obtain⟨p,⟨o,e⟩,st⟩:=x;exact⟨st _ _ p λo q=>k _ _ (.inl rfl) q,⟨o,k _ _ (.inl rfl) e⟩,st⟩
theorem qF.lt(x:qF P w H h)(e:H a=some o):a<h.objs.size:=(x a o e).lt
theorem qF.fresh(x:qF P w H h)(e:h.objs.size<=a):H a=none:=by
 cases q:H a with
 |none=>rfl
 |some u=>exact qQ7 (bF (x.lt q) e) (iI _)
theorem qF.kept(x:qF P w H h)(k:∀b u,h.get? b=some u->h'.get? b=some u):qF P w H h':=λa o e=>
 (x a o e).stay (λb u _ q=>k b u q) (λ_ q=>q) λ_ _ q=>q
theorem qF.laid(x:qF P w H h)(k:∀b u,h.get? b=some u->h'.get? b=some u)(hp:h.objs.size<=a)(new:gS P w (upd H a o) h' a o):qF P w (upd H a o) h':=λb u e=>by
 have hn:=x.fresh hp;by_cases hb:b=a
 ·subst hb;rw[bK]at e;cases e;exact new
 ·rw[aS hb]at e
  exact(x b u e).stay (λc v _ q=>k c v q) (λc q=>by rw[aS (bj q hn)];exact q) λc xs q=>by rw[aS (bj q hn)];exact q
end
def Rd(H:Hp)(a:aL)(u:HO):Prop:=H a=some u\/∃o,H a=some (.GB o u)
theorem Rd.ok{u:HO}(r:Rd H a u)(x:qF P w H h):gS P w H h a u:=by
 rcases r with r|⟨o,r⟩
 ·exact x a u r
 ·obtain⟨_,q⟩:=x a _ r
  exact q
def Rw:Option HO->Prop
 |some (.lst _)=>True
 |some (.dK _)=>True
 |some (.dT _)=>True
 |some (.set _ _)=>True
 |some (.ins _ _ _)=>True
 |some (.ext _)=>True
 |_=>False
section
variable{P:bC}{w:cw}{H:Hp}{h h':c6}{x e:aL}{o':HO}
theorem qF.write(ok:qF P w H h)(mu:Rw (H x))(he:e=x\/H e=some (.own x))(k:∀b u,b≠e->h.get? b=some u->h'.get? b=some u)(Nn:∃u,h'.get? e=some u)
  (new:gS P w (upd H x o') h' x o'):qF P w (upd H x o') h':=λb u q=>by
 have Rx:∀c y,H c=some (.own y)->c≠x:=λc y r z=>by subst z;rw[r]at mu;exact mu
 have V9:∀c xs,H c=some (.tup xs)->c≠x:=λc xs r z=>by subst z;rw[r]at mu;exact mu
 by_cases hb:b=x
 ·subst hb;rw[bK]at q;cases q;exact new
 ·rw[aS hb]at q
  by_cases OD:b=e
  ·have q':H b=some (.own x):=by
    rcases he with z|z
    ·exact qQ7 (OD.trans z) hb
    ·rw[OD];exact z
   rw[q]at q';cases q';obtain⟨v,hv⟩:=Nn;exact⟨v,by rw[OD];exact hv⟩
  ·refine(ok b u q).stay (λc v hc r=>k c v ?_ r) (λc r=>by rw[aS (Rx c b r)];exact r) λc xs r=>by rw[aS (V9 c xs r)];exact r
   rcases hc with rfl|hc
   ·exact OD
   ·rintro rfl
    rcases he with z|z
    ·exact Rx c b hc z
    ·rw[hc]at z;cases z;exact hb rfl
end
structure Un(fs ex:List aL)(H H':Hp)(h h':c6):Prop where
 keep:∀b o,h.get? b=some o->H b=none->b∉fs->b∉ex->h'.get? b=some o
 slot:∀b o,h.get? b=some o->H b=none->b∈fs->b∉ex->∃sl,h'.get? b=some { o with slots:=sl }
 free:∀b o,h.get? b=some o->H b=none->b∉ex->H' b=none
 there:∀b o,h.get? b=some o->b∉ex->∃o',h'.get? b=some o'
 tups:∀b xs,H b=some (.tup xs)->H' b=some (.tup xs)
 va:∀b o u,H b=some (.GB o u)->H' b=some (.GB o u)
 wy:∀b ps,H b=some (.Oz ps)->∃more,H' b=some (.Oz (ps++more))
section
variable{fs fs' ex ex':List aL}{H H1 H2:Hp}{h h1 h2 h':c6}{a x e:aL}{o:HO}
theorem Un.any(u:Un fs ex H H1 h h1){b:aL}{ob:Obj}(q:h.get? b=some ob)(n:H b=none)(hx:b∉ex):∃sl,h1.get? b=some { ob with slots:=sl }:=by
 by_cases hb:b∈fs
 ·exact u.slot b ob q n hb hx
 ·exact⟨ob.slots,u.keep b ob q n hb hx⟩
theorem Un.kept(k:∀b u,h.get? b=some u->h'.get? b=some u):Un fs ex H H h h':=
 ⟨λb ob q _ _ _=>k b ob q,λb ob q _ _ _=>⟨ob.slots,k b ob q⟩,λ_ _ _ n _=>n,λb ob q _=>⟨ob,k b ob q⟩,λ_ _ q=>q,λ_ _ _ q=>q,λ_ ps q=>⟨#[],by rw[q];simp⟩⟩
theorem Un.refl:Un fs ex H H h h:=Un.kept λ_ _ q=>q
theorem Un.laid(k:∀b u,h.get? b=some u->h'.get? b=some u)(hp:h.objs.size<=a)(hn:H a=none):Un fs ex H (upd H a o) h h' where
 keep:=λb u q _ _ _=>k b u q
 slot:=λb u q _ _ _=>⟨u.slots,k b u q⟩
 free:=λb u q n _=>by rw[aS (a_ (bF (aW q) hp))];exact n
 there:=λb u q _=>⟨u,k b u q⟩
 tups:=λb xs q=>by rw[aS (bj q hn)];exact q
 va:=λb u xs q=>by rw[aS (bj q hn)];exact q
 wy:=λb ps q=>⟨#[],by rw[aS (bj q hn),q];simp⟩
theorem Un.write(mu:Rw (H x))(he:e=x\/H e=some (.own x))(k:∀b u,b≠e->h.get? b=some u->h'.get? b=some u)(Nn:∃u,h'.get? e=some u):Un fs ex H (upd H x o) h h':=by
 have hx:∀b,H b=none->b≠x:=λb n z=>by subst z;rw[n]at mu;exact mu
 have hb:∀b,H b=none->b≠e:=λb n z=>by
  subst z;rcases he with r|r
  ·exact hx b n r
  ·rw[n]at r;cases r
 have hm:∀b u,H b=some u->¬Rw (some u)->b≠x:=λb u q nm z=>by subst z;rw[q]at mu;exact nm mu
 refine⟨λb u q n _ _=>k b u (hb b n) q,λb u q n _ _=>⟨u.slots,k b u (hb b n) q⟩,λb u q n _=>by rw[aS (hx b n)];exact n,λb u q _=>?_,
  λb xs q=>by rw[aS (hm b _ q λz=>z)];exact q,λb u xs q=>by rw[aS (hm b _ q λz=>z)];exact q,λb ps q=>⟨#[],by rw[aS (hm b _ q λz=>z),q];simp⟩⟩
 by_cases OD:b=e
 ·subst OD;exact Nn
 ·exact⟨u,k b u OD q⟩
end
def UX(h:c6)(H:Hp):List aL:=(cq h.objs.size).filter λa=>(H a).isSome
def A0(h:c6)(H:Hp):c6:=PySem.W.hideAll h (UX h H)
theorem GC(h:c6)(H:Hp):(A0 h H).objs.size=h.objs.size:=PySem.W.hideAll_size _ _
theorem Ip{b:aL}(e:h.get? b=some o)(n:H b=none):(A0 h H).get? b=some o:=
 PySem.W.hideAll_get _ e λhm=>by
  have q:(H b).isSome=true:=(List.mem_filter.mp hm).2;rw[n]at q;simp at q
theorem K6{b:aL}(e:(A0 h H).get? b=some o):h.get? b=some o/\H b=none:=by
 have e':h.get? b=some o:=PySem.W.of_hideAll (UX h H) e;refine⟨e',?_⟩
 cases q:H b with
 |none=>rfl
 |some x=>
  have hm:b∈UX h H:=List.mem_filter.mpr ⟨dG.mpr (aW e'),by simp[q]⟩
  have z:(A0 h H).get? b=none:=PySem.W.hideAll_none (UX h H) hm;rw[z]at e;cases e
structure Mod(K:ao)(mg:Str->Option ay)(base:c6):Prop where
 Nq:K.In base
 glob:base.Ns mainGlobals mg
 blt:∃mb,base.Ns builtinsNs mb/\∀x:Str,x≠"__name__"->mb x=bootBuiltins x
 nolimit:base.NoLimit
structure Cx where
 prog:bC
 w:cw
 K:ao
 mg:Str->Option ay
 base:c6
 A:dJ
 N:List Str
 s₀:aK
 H₀:Hp
 env:Env
 outer:List Env
 stack:List Env
 ex:List aL
 fn:Str->Bool
 calm:Bool
 pn:List (aL×Obj)
 xe:ay->aK->Prop
variable{X:Cx}
def B4(l:List Env):List aL:=l.filterMap (·.frame)
abbrev Cx.fs(X:Cx):List aL:=B4 X.outer
def Ft(sc:kU)(x:Str):Prop:=sc.names.lookup x=some .local\/sc.names.lookup x=some .cell\/sc.names.lookup x=some .free
def Loc(sc:kU)(x:Str):Prop:=sc.names.lookup x=some .local\/sc.names.lookup x=some .cell
def Look(env:Env)(h:c6)(m:Str->Option ay)(x:Str)(u:ay):Prop:=
 (env.kindOf x=some .local/\m x=some u)\/((env.kindOf x=some .cell\/env.kindOf x=some .free)/\∃c,env.cells.lookup x=some c/\h.IsCell c (some u))
structure Cx.Ok(X:Cx):Prop where
 mod:Mod X.K X.mg X.base
 kind:X.env.scope.kind=.function
 glob:X.env.globals=mainGlobals
 blt:X.env.builtins=builtinsNs
 above:X.s₀.heap.objs.size<=X.env.locals
 inj:∀x y c,X.env.cells.lookup x=some c->X.env.cells.lookup y=some c->x=y
 has:∀x,(X.env.kindOf x=some .cell\/X.env.kindOf x=some .free)->∃c,X.env.cells.lookup x=some c
 cab:∀x c,X.fn x=true->X.env.cells.lookup x=some c->X.s₀.heap.objs.size<=c
 hd:X.calm=true->X.A.handled=none
 frames:X.A.frames=some X.stack
 stk:X.stack=X.outer\/(X.stack=X.env::X.outer/\X.env.frame=some X.env.locals)
 UY:∀b∈X.ex,b≠X.env.locals/\∀x c,X.env.cells.lookup x=some c->c≠b
 bs:∀b o,X.base.get? b=some o->X.s₀.heap.get? b=some o/\X.H₀ b=none
 KR:X.base.objs.size<=X.s₀.heap.objs.size
 DP:∀b o,X.base.get? b=some o->b∉X.ex
 GF:∀b∈X.ex,b∉X.fs
 qy:X.s₀.heap.FunFrames X.base X.outer
 Iq:∀b∈X.fs,X.H₀ b=none
structure Inv(X:Cx)(pins:List (aL×Obj))(σ:List (Option V))(H:Hp)(s:aK):Prop where
 ok:X.Ok
 os:s.os=X.s₀.os
 bare:qC s.gens
 base:Un X.fs X.ex X.H₀ H X.s₀.heap s.heap
 loc:∃m,s.heap.Ns X.env.locals m/\∀(i:Nat)(x:Str)(v:V),X.N[i]?=some x->σ[i]?=some (some v)->Ft X.env.scope x->∃u,RelV v u/\Look X.env s.heap m x u
 cell:∀x c,X.env.cells.lookup x=some c->∃v,s.heap.IsCell c v
 free:H X.env.locals=none
 nI:∀x c,X.env.cells.lookup x=some c->H c=none
 pin:∀p∈X.pn++pins,s.heap.get? p.1=some p.2/\H p.1=none/\p.1≠X.env.locals/\p.1∉X.fs/\∀v,p.2.data≠.cell v
 hok:qF X.prog X.w H s.heap
 len:σ.length=X.N.length
section
variable{X:Cx}{pins:List (aL×Obj)}{σ:List (Option V)}{H H':Hp}{s:aK}{h':c6}
theorem Cx.Ok.V_(ok:X.Ok){b:aL}(e:X.base.get? b=some o):b∉X.fs:=λhb=>by
 have:=(ok.qy.mem hb).1;rw[e]at this;cases this
theorem Inv.bs(I:Inv X pins σ H s):∀b o,X.base.get? b=some o->s.heap.get? b=some o/\H b=none:=λb o e=>
 ⟨I.base.keep b o (I.ok.bs b o e).1 (I.ok.bs b o e).2 (I.ok.V_ e) (I.ok.DP b o e),I.base.free b o (I.ok.bs b o e).1 (I.ok.bs b o e).2 (I.ok.DP b o e)⟩
theorem Inv.bk(I:Inv X pins σ H s):∀b o,X.base.get? b=some o->s.heap.get? b=some o:=λb o e=>(I.bs b o e).1
theorem Inv.mod(I:Inv X pins σ H s):Mod X.K X.mg X.base:=I.ok.mod
theorem Inv.sF(I:Inv X pins σ H s):X.K.In s.heap:=I.ok.mod.Nq.keeps I.bk
theorem Inv.lt(I:Inv X pins σ H s):X.env.locals<s.heap.objs.size:=let⟨_,hn,_⟩:=I.loc;hn.lt
theorem Inv.sz(I:Inv X pins σ H s):X.s₀.heap.objs.size<=s.heap.objs.size:=bZ I.ok.above (nz I.lt)
theorem Inv.V'(I:Inv X pins σ H s)(h:s.heap.objs.size<=a):a∉X.fs:=λhb=>by
 obtain⟨_,o,ho,_⟩:=I.ok.qy.mem hb;exact qQ7 (bF (aW ho) (bZ I.sz h)) (iI _)
theorem Inv.Ir(I:Inv X pins σ H s):∀x c,X.env.cells.lookup x=some c->c≠X.env.locals:=λx c e z=>by
 obtain⟨v,o,ho,hd⟩:=I.cell x c e;obtain⟨m,⟨o',es,ep,Fu,K7,_⟩,_⟩:=I.loc;rw[z,Fu]at ho;cases ho;rw[K7]at hd;cases hd
theorem Inv.qy(I:Inv X pins σ H s):s.heap.FunFrames X.base X.outer:=by
 have all:∀(l:List Env),(∀b∈B4 l,b∈X.fs)->X.s₀.heap.FunFrames X.base l->s.heap.FunFrames X.base l:=by
  intro l
  induction l with
  |nil=>intro _ _;trivial
  |cons env r ih=>
   intro hs hl;obtain⟨hk,⟨L,o,hf,hn,ho,hd⟩,hr⟩:=hl;have hL:L∈X.fs:=hs L (by unfold B4;rw[gQ,hf];exact aP)
   obtain⟨sl,e⟩:=I.base.slot L o ho (I.ok.Iq L hL) hL λz=>I.ok.GF L z hL
   exact⟨hk,⟨L,_,hf,hn,e,hd⟩,ih (λb hb=>hs b (by unfold B4;rw[gQ,hf];exact aU _ hb)) hr⟩
 exact all X.outer (λ_ hb=>hb) I.ok.qy
theorem Inv.stack(I:Inv X pins σ H s):s.heap.FunFrames X.base X.stack:=by
 rcases I.ok.stk with e|⟨e,hf⟩
 ·rw[e];exact I.qy
 ·rw[e]
  obtain⟨m,hn,_⟩:=I.loc;refine .cons (by rw[I.ok.kind];decide) hf hn ?_ I.qy
  exact sy (bZ I.ok.KR I.ok.above)
theorem Inv.A1(I:Inv X pins σ H s):∀b∈B4 X.stack,b∈X.env.locals::X.fs:=λb hb=>by
 rcases I.ok.stk with e|⟨e,hf⟩
 ·rw[e]at hb;exact aU _ hb
 ·rw[e]at hb
  unfold B4 at hb;rw[gQ,hf]at hb;exact hb
theorem Inv.Fv(I:Inv X pins σ H s):∀b∈B4 X.stack,H b=none:=λb hb=>by
 rcases aG.mp (I.A1 b hb)with e|hb
 ·rw[e];exact I.free
 ·obtain⟨_,o,ho,_⟩:=I.ok.qy.mem hb
  exact I.base.free b o ho (I.ok.Iq b hb) λz=>I.ok.GF b z hb
theorem Inv.step(I:Inv X pins σ H s)
  (Ij:∀b∈ch,(b∈X.ex\/X.s₀.heap.objs.size<=b)/\b≠X.env.locals/\(∀x c,X.env.cells.lookup x=some c->c≠b)/\∀p∈X.pn++pins,p.1≠b)
  (keep:∀b o,b≠X.env.locals->b∉X.fs->b∉ch->s.heap.get? b=some o->H b=none->h'.get? b=some o)
  (slot:∀b o,b≠X.env.locals->b∈X.fs->b∉ch->s.heap.get? b=some o->H b=none->∃sl,h'.get? b=some { o with slots:=sl })(free:∀b o,b∉ch->s.heap.get? b=some o->H b=none->H' b=none)
  (there:∀b o,b∉ch->s.heap.get? b=some o->∃o',h'.get? b=some o')
  (tups:∀b xs,H b=some (.tup xs)->H' b=some (.tup xs))(va:∀b o u,H b=some (.GB o u)->H' b=some (.GB o u))(wy:∀b ps,H b=some (.Oz ps)->∃more,H' b=some (.Oz (ps++more)))
  (ns:∀m,s.heap.Ns X.env.locals m->h'.Ns X.env.locals m)(hok:qF X.prog X.w H' h')(hg:qC g'):
  Inv X pins σ H' { s with heap:=h',gens:=g',drawn:=d',toks:=t' }:=by
 have Zw:∀b o,X.s₀.heap.get? b=some o->b≠X.env.locals:=λb o e=>a_ (bF (aW e) I.ok.above)
 have QW:∀b o,X.s₀.heap.get? b=some o->b∉X.ex->b∉ch:=λb o e hx hb=>by
  rcases(Ij b hb).1 with z|z
  ·exact hx z
  ·exact qQ7 (bF (aW e) z) (iI _)
 have cellK:∀x c,X.env.cells.lookup x=some c->∀v,s.heap.IsCell c v->h'.IsCell c v:=λx c e v ⟨o,ho,hd⟩=>by
  have Ry:c∉ch:=λz=>(Ij c z).2.2.1 x c e rfl
  by_cases hc:c∈X.fs
  ·obtain⟨sl,q⟩:=slot c o (I.Ir x c e) hc Ry ho (I.nI x c e)
   exact⟨_,q,hd⟩
  ·exact⟨o,keep c o (I.Ir x c e) hc Ry ho (I.nI x c e),hd⟩
 refine⟨I.ok,I.os,hg,⟨λb o e n hb hx=>?_,λb o e n hb hx=>?_,λb o e n hx=>?_,λb o e hx=>?_,λb xs e=>tups b xs (I.base.tups b xs e),λb o xs e=>va b o xs (I.base.va b o xs e),λb ps e=>?_⟩,?_,λx c e=>?_,?_,λx c e=>?_,λp hp=>?_,hok,I.len⟩
 ·exact keep b o (Zw b o e) hb (QW b o e hx) (I.base.keep b o e n hb hx) (I.base.free b o e n hx)
 ·obtain⟨sl,e1⟩:=I.base.slot b o e n hb hx
  obtain⟨OG,e2⟩:=slot b _ (Zw b o e) hb (QW b o e hx) e1 (I.base.free b o e n hx);exact⟨OG,e2⟩
 ·obtain⟨o',e1⟩:=I.base.there b o e hx
  exact free b o' (QW b o e hx) e1 (I.base.free b o e n hx)
 ·obtain⟨o',e1⟩:=I.base.there b o e hx
  exact there b o' (QW b o e hx) e1
 ·obtain⟨m1,e1⟩:=I.base.wy b ps e
  obtain⟨m2,e2⟩:=wy b _ e1;exact⟨m1++m2,by rw[e2,Array.append_assoc]⟩
 ·obtain⟨m,hn,hl⟩:=I.loc
  refine⟨m,ns m hn,λi x v e1 e2 e3=>?_⟩
  obtain⟨u,r,l⟩:=hl i x v e1 e2 e3;refine⟨u,r,?_⟩
  rcases l with l|⟨k,c,e,z⟩
  ·exact .inl l
  ·exact .inr ⟨k,c,e,cellK x c e _ z⟩
 ·obtain⟨v,z⟩:=I.cell x c e
  exact⟨v,cellK x c e v z⟩
 ·obtain⟨m,⟨o,_,_,ho,_⟩,_⟩:=I.loc
  exact free _ o (λz=>(Ij _ z).2.1 rfl) ho I.free
 ·obtain⟨v,o,ho,hd⟩:=I.cell x c e
  exact free c o (λz=>(Ij c z).2.2.1 x c e rfl) ho (I.nI x c e)
 ·obtain⟨e,n,ne,nf,d⟩:=I.pin p hp
  have Ry:p.1∉ch:=λz=>(Ij p.1 z).2.2.2 p hp rfl
  exact⟨keep p.1 p.2 ne nf Ry e n,free p.1 p.2 Ry e n,ne,nf,d⟩
theorem Inv.un(I:Inv X pins σ H s)(u:Un X.fs [] H H' s.heap h')(hok:qF X.prog X.w H' h'):Inv X pins σ H' { s with heap:=h',toks:=t' }:=by
 obtain⟨m,⟨o,es,ep,ho,r⟩,_⟩:=id I.loc;obtain⟨sl,hL⟩:=u.any ho I.free (by simp)
 exact I.step (g':=s.gens) (d':=s.drawn) (ch:=[]) (λ_ z=>nomatch z) (λb o _ hb _ e n=>u.keep b o e n hb (by simp)) (λb o _ hb _ e n=>u.slot b o e n hb (by simp)) (λb o _ e n=>u.free b o e n (by simp)) (λb o _ e=>u.there b o e (by simp)) u.tups u.va u.wy (λm' hm=>by
  obtain⟨o',Wb,Wc,Fu,r'⟩:=hm;rw[ho]at Fu;cases Fu;exact⟨_,Wb,Wc,hL,r'⟩) hok I.bare
theorem Inv.call(I:Inv X pins σ H s)(u:Un (B4 X.stack) ch H H' s.heap h')(hok:qF X.prog X.w H' h')(hg:qC g')
  (Ij:∀b∈ch,(b∈X.ex\/X.s₀.heap.objs.size<=b)/\b≠X.env.locals/\(∀x c,X.env.cells.lookup x=some c->c≠b)/\∀p∈X.pn++pins,p.1≠b):
  Inv X pins σ H' { s with heap:=h',gens:=g',drawn:=d',toks:=t' }:=by
 obtain⟨m,⟨o,es,ep,ho,r⟩,_⟩:=id I.loc;obtain⟨sl,hL⟩:=u.any ho I.free λz=>(Ij _ z).2.1 rfl
 exact I.step (ch:=ch) Ij (λb o hL hb hc e n=>u.keep b o e n (λz=>(aG.mp (I.A1 b z)).elim hL hb) hc) (λb o _ _ hc e n=>u.any e n hc) (λb o hc e n=>u.free b o e n hc) (λb o hc e=>u.there b o e hc) u.tups u.va u.wy (λm' hm=>by
  obtain⟨o',Wb,Wc,Fu,r'⟩:=hm;rw[ho]at Fu;cases Fu;exact⟨_,Wb,Wc,hL,r'⟩) hok hg
theorem Inv.turned(I:Inv X pins σ H s)(k:∀b o,b≠it->s.heap.get? b=some o->h'.get? b=some o)(hn:H it=none)(hL:it≠X.env.locals)
  (h1:it∈X.ex\/X.s₀.heap.objs.size<=it)(h2:∀x c,X.env.cells.lookup x=some c->c≠it)(h3:∀p∈X.pn++pins,p.1≠it):Inv X pins σ H { s with heap:=h',toks:=t' }:=by
 have Rz:∀b u,H b=some u->b≠it:=λb u e z=>by rw[z,hn]at e;cases e
 refine I.step (g':=s.gens) (d':=s.drawn) (ch:=[it]) (λb hb=>?_) (λb o _ _ hc e _=>k b o (λz=>hc (by simp[z])) e) (λb o _ _ hc e _=>⟨o.slots,k b o (λz=>hc (by simp[z])) e⟩) (λ_ _ _ _ n=>n)
  (λb o hc e=>⟨o,k b o (λz=>hc (by simp[z])) e⟩) (λ_ _ e=>e) (λ_ _ _ e=>e) (λb ps e=>⟨#[],by rw[e];simp⟩) (λm hm=>?_) (λb u e=>?_) I.bare
 ·have e:b=it:=by simpa using hb
  subst e;exact⟨h1,hL,h2,h3⟩
 ·obtain⟨o,es,ep,ho,r⟩:=hm
  exact⟨o,es,ep,k _ o (bM hL) ho,r⟩
 ·refine(I.hok b u e).stay (λc v hc q=>k c v ?_ q) (λ_ q=>q) λ_ _ q=>q
  rcases hc with z|z
  ·rw[z];exact Rz b u e
  ·exact Rz c _ z
theorem Inv.tok(I:Inv X pins σ H s)(t:Nat):Inv X pins σ H { s with toks:=t }:=I.un (h':=s.heap) (t':=t) Un.refl I.hok
theorem Inv.kept(I:Inv X pins σ H s)(k:∀b u,s.heap.get? b=some u->h'.get? b=some u):Inv X pins σ H { s with heap:=h',toks:=t' }:=I.un (Un.kept k) (I.hok.kept k)
theorem Inv.laid{o:HO}(I:Inv X pins σ H s)(k:∀b u,s.heap.get? b=some u->h'.get? b=some u)(hp:s.heap.objs.size<=a)(new:gS X.prog X.w (upd H a o) h' a o):
  Inv X pins σ (upd H a o) { s with heap:=h',toks:=t' }:=I.un (Un.laid k hp (I.hok.fresh hp)) (I.hok.laid k hp new)
theorem Inv.write{x e:aL}{o:HO}(I:Inv X pins σ H s)(mu:Rw (H x))(he:e=x\/H e=some (.own x))(k:∀b u,b≠e->s.heap.get? b=some u->h'.get? b=some u)(Nn:∃u,h'.get? e=some u)
  (new:gS X.prog X.w (upd H x o) h' x o):Inv X pins σ (upd H x o) { s with heap:=h',toks:=t' }:=I.un (Un.write mu he k Nn) (I.hok.write mu he k Nn new)
theorem Inv.Fw{Nr:List (aL×Obj)}(I:Inv X pins σ H s)(h:∀p∈Nr,s.heap.get? p.1=some p.2/\H p.1=none/\p.1≠X.env.locals/\p.1∉X.fs/\∀v,p.2.data≠.cell v):Inv X Nr σ H s:=
 ⟨I.ok,I.os,I.bare,I.base,I.loc,I.cell,I.free,I.nI,λp hp=>(bX.mp hp).elim (λz=>I.pin p (fe _ z)) (h p),I.hok,I.len⟩
theorem xo(hN:N.Nodup){i j:Nat}{x:Str}(a:N[i]?=some x)(b:N[j]?=some x):i=j:=by
 obtain⟨h1,e1⟩:=aJ.mp a;obtain⟨h2,e2⟩:=aJ.mp b;exact(List.getElem_inj hN).mp (e1.trans e2.symm)
theorem zI{i:Nat}{x:Str}{v:V}{Q:Unit->aK->Prop}(I:Inv X pins σ H s)(hN:X.N.Nodup)(hi:X.N[i]?=some x)(hx:Loc X.env.scope x)(r:RelV v u)
  (h:∀s',Inv X pins (σ.set i (some v)) H s'->(∃a,jG a s.heap s'.heap/\(a=X.env.locals\/X.env.cells.lookup x=some a))->Q () s')(hf:X.fn x=true\/X.env.scope.names.lookup x=some .local:=by first|exact .inl rfl|exact .inr rfl|assumption):wpAny M A (storeName X.env x u) Q E s:=by
 obtain⟨m,hn,hl⟩:=id I.loc;have OI:(X.env.scope.kind == .class||(X.env.scope.kind == .module&&X.env.locals != X.env.globals))=false:=by rw[I.ok.kind];rfl
 have hiσ:i < σ.length:=by rw[I.len];exact(aJ.mp hi).1
 have Ir:=I.Ir;have tracked:∀{a:aL}{h':c6},(∃o,s.heap.get? a=some o/\H a=none)->jG a s.heap h'->qF X.prog X.w H h':=λ{a h'}ha hs b ob e=>by
  obtain⟨_,_,Nt⟩:=ha;refine(I.hok b ob e).stay (λc w' hc q=>(hs.2 c ?_).trans q) (λ_ q=>q) λ_ _ q=>q
  rintro rfl
  rcases hc with rfl|hc
  ·rw[Nt]at e;cases e
  ·rw[Nt]at hc;cases hc
 rcases hx with hk|hk
 ·refine wpAny_storeName_local hk hn (λh' Wf hs=>?_) OI
  obtain⟨oL,_,_,Zx,_⟩:=id hn;refine h _ ⟨I.ok,I.os,I.bare,⟨λb o e n hb hx=>?_,λb o e n hb hx=>?_,I.base.free,λb o e hx=>?_,I.base.tups,I.base.va,I.base.wy⟩,⟨_,Wf,λj y v' e1 e2 e3=>?_⟩,λy c e=>?_,I.free,I.nI,λp hp=>?_,tracked ⟨oL,Zx,I.free⟩ hs,by simpa using I.len⟩ ⟨_,hs,.inl rfl⟩
  ·exact(hs.2 b (a_ (bF (aW e) I.ok.above))).trans (I.base.keep b o e n hb hx)
  ·obtain⟨sl,e1⟩:=I.base.slot b o e n hb hx
   exact⟨sl,(hs.2 b (a_ (bF (aW e) I.ok.above))).trans e1⟩
  ·obtain⟨o',e1⟩:=I.base.there b o e hx
   exact⟨o',(hs.2 b (a_ (bF (aW e) I.ok.above))).trans e1⟩
  ·by_cases hj:j=i
   ·subst hj
    rw[hi]at e1;cases e1;rw[a8 hiσ]at e2;cases e2;exact⟨u,r,.inl ⟨hk,by simp⟩⟩
   ·rw[a7 (bM hj)]at e2
    obtain⟨u',r',q⟩:=hl j y v' e1 e2 e3;refine⟨u',r',?_⟩
    rcases q with⟨k,e⟩|⟨k,c,e,z⟩
    ·refine .inl ⟨k,?_⟩
     have:y≠x:=λe=>hj (xo hN e1 (e▸hi))
     simp[this,e]
    ·exact .inr ⟨k,c,e,z.sameBut hs (Ir y c e)⟩
  ·obtain⟨w',z⟩:=I.cell y c e
   exact⟨w',z.sameBut hs (Ir y c e)⟩
  ·obtain⟨e,n,ne,nf,d⟩:=I.pin p hp
   exact⟨(hs.2 p.1 ne).trans e,n,ne,nf,d⟩
 ·have Wh:X.fn x=true:=by
   rcases hf with z|z
   ·exact z
   ·rw[z]at hk;cases hk
  obtain⟨c,hc⟩:=I.ok.has x (.inl hk);obtain⟨w',z⟩:=I.cell x c hc;refine wpAny_storeName_cell I.ok.kind hk hc z (λh' QX hs=>?_)
  obtain⟨oc,Zy,Wi⟩:=id z;refine h { s with heap:=h' } ⟨I.ok,I.os,I.bare,⟨λb o e n hb hx=>?_,λb o e n hb hx=>?_,I.base.free,λb o e hx=>?_,I.base.tups,I.base.va,I.base.wy⟩,⟨m,hn.sameBut hs (bM (Ir x c hc)),λj y v' e1 e2 e3=>?_⟩,λy c' e=>?_,I.free,I.nI,λp hp=>?_,tracked ⟨oc,Zy,I.nI x c hc⟩ hs,by simpa using I.len⟩ ⟨c,hs,.inr hc⟩
  ·exact(hs.2 b (a_ (bF (aW e) (I.ok.cab x c Wh hc)))).trans (I.base.keep b o e n hb hx)
  ·obtain⟨sl,e1⟩:=I.base.slot b o e n hb hx
   exact⟨sl,(hs.2 b (a_ (bF (aW e) (I.ok.cab x c Wh hc)))).trans e1⟩
  ·obtain⟨o',e1⟩:=I.base.there b o e hx
   exact⟨o',(hs.2 b (a_ (bF (aW e) (I.ok.cab x c Wh hc)))).trans e1⟩
  ·by_cases hj:j=i
   ·subst hj
    rw[hi]at e1;cases e1;rw[a8 hiσ]at e2;cases e2;exact⟨u,r,.inr ⟨.inl hk,c,hc,QX⟩⟩
   ·rw[a7 (bM hj)]at e2
    obtain⟨u',r',q⟩:=hl j y v' e1 e2 e3;refine⟨u',r',?_⟩
    rcases q with q|⟨k,c',e,z'⟩
    ·exact .inl q
    ·refine .inr ⟨k,c',e,z'.sameBut hs ?_⟩
     rintro rfl
     exact hj (xo hN e1 (I.ok.inj _ _ _ e hc▸hi))
  ·by_cases QY:c'=c
   ·subst QY;exact⟨_,QX⟩
   ·obtain⟨w2,z2⟩:=I.cell y c' e
    exact⟨w2,z2.sameBut hs QY⟩
  ·obtain⟨e,n,ne,nf,d⟩:=I.pin p hp
   refine⟨(hs.2 p.1 ?_).trans e,n,ne,nf,d⟩
   intro q;rw[q,Zy]at e;have q':oc=p.2:=di e;exact d w' (by rw[<-q'];exact Wi)
theorem lJ{i:Nat}{x:Str}{v:V}{Q:Unit->aK->Prop}(I:Inv X pins σ H s)(hN:X.N.Nodup)(hi:X.N[i]?=some x)(hx:Loc X.env.scope x)(r:RelV v u)
  (h:∀s',Inv X pins (σ.set i (some v)) H s'->Q () s')(hf:X.fn x=true\/X.env.scope.names.lookup x=some .local:=by first|exact .inl rfl|exact .inr rfl|assumption):wpAny M A (storeName X.env x u) Q E s:=
 zI I hN hi hx r (λs' I' _=>h s' I') hf
theorem Inv.call'(I:Inv X pins σ H s)(ho:s'.os=s.os)(u:Un (B4 X.stack) ch H H' s.heap s'.heap)(hok:qF X.prog X.w H' s'.heap)(hg:qC s'.gens)
  (Ij:∀b∈ch,(b∈X.ex\/X.s₀.heap.objs.size<=b)/\b≠X.env.locals/\(∀x c,X.env.cells.lookup x=some c->c≠b)/\∀p∈X.pn++pins,p.1≠b):Inv X pins σ H' s':=by
 obtain⟨h',g',d',t',o'⟩:=s';have e:o'=s.os:=ho;subst e;exact I.call (g':=g') (t':=t') (d':=d') u hok hg Ij
end
abbrev XK:=ay->Option aL->Hp->Prop
abbrev St:=List (Option V)
variable{σ:St}
abbrev VK:=V->Hp->Prop
abbrev TE:=St->Hp->VK->Prop
variable{t:TE}
abbrev TT:=St->Hp->(Bool->Hp->Prop)->Prop
abbrev TA:=St->Hp->(List V->Hp->Prop)->Prop
structure Ends where
 nx:St->Hp->Prop
 rt:VK
 bk:St->Hp->Prop:=λ_ _=>False
 ct:St->Hp->Prop:=λ_ _=>False
abbrev TS:=Ends->St->Hp->Prop
def EP(X:Cx)(pins:List (aL×Obj))(σ:St)(Q:VK)(u:ay)(s':aK):Prop:=∃v H',Inv X pins σ H' s'/\RelV v u/\Q v H'
def TP(X:Cx)(pins:List (aL×Obj))(σ:St)(Q:Bool->Hp->Prop)(b:Bool)(s':aK):Prop:=∃H',Inv X pins σ H' s'/\Q b H'
def AP(X:Cx)(pins:List (aL×Obj))(σ:St)(Q:List V->Hp->Prop)(us:List ay)(s':aK):Prop:=∃vs H',Inv X pins σ H' s'/\ez vs us/\Q vs H'
def SP(X:Cx)(pins:List (aL×Obj))(D:Ends)(f:Flow)(s':aK):Prop:=
 match f with
 | .next=>∃σ' H',Inv X pins σ' H' s'/\D.nx σ' H'
 | .brk=>∃σ' H',Inv X pins σ' H' s'/\D.bk σ' H'
 | .cont=>∃σ' H',Inv X pins σ' H' s'/\D.ct σ' H'
 | .ret u=>∃v σ' H',Inv X pins σ' H' s'/\RelV v u/\D.rt v H'
def PE(X:Cx)(e:cj)(t:TE):Prop:=
 ∀(pins:List (aL×Obj))(s:aK)(σ:St)(H:Hp)(Q:VK),Inv X pins σ H s->t σ H Q->wpAny (model X.prog X.w) X.A (eval e X.env) (EP X pins σ Q) X.xe s
def PT(X:Cx)(e:cj)(t:TT):Prop:=
 ∀(pins:List (aL×Obj))(s:aK)(σ:St)(H:Hp)(Q:Bool->Hp->Prop),Inv X pins σ H s->t σ H Q->wpAny (model X.prog X.w) X.A (isTrue e X.env (eval e X.env)) (TP X pins σ Q) X.xe s
def PW(X:Cx)(e:cj)(t:TT):Prop:=
 ∀(whole:Sem ay)(pins:List (aL×Obj))(s:aK)(σ:St)(H:Hp)(Q:Bool->Hp->Prop),Inv X pins σ H s->t σ H Q->wpAny (model X.prog X.w) X.A (isTrue e X.env whole) (TP X pins σ Q) X.xe s
theorem PW.pt{t:TT}(h:PW X e t):PT X e t:=h _
def PA(X:Cx)(es:List cj)(t:TA):Prop:=
 ∀(pos:Pos)(pins:List (aL×Obj))(s:aK)(σ:St)(H:Hp)(Q:List V->Hp->Prop),Inv X pins σ H s->t σ H Q->wpAny (model X.prog X.w) X.A (spliced (backTo pos (starEach es X.env))) (AP X pins σ Q) X.xe s
def PS(X:Cx)(st:iH)(t:TS):Prop:=
 ∀(pins:List (aL×Obj))(s:aK)(σ:St)(H:Hp)(D:Ends),Inv X pins σ H s->t D σ H->wpAny (model X.prog X.w) X.A (exec st X.env) (SP X pins D) X.xe s
def Fx(X:Cx)(st:List iH)(t:TS):Prop:=
 ∀(pins:List (aL×Obj))(s:aK)(σ:St)(H:Hp)(D:Ends),Inv X pins σ H s->t D σ H->wpAny (model X.prog X.w) X.A (execs st X.env) (SP X pins D) X.xe s
theorem fS{α:Type}{t:Sem α}{Q Q':α->aK->Prop}(h:wpAny M A t Q E s)(hQ:∀a s,Q a s->Q' a s):wpAny M A t Q' E s:=eB h hQ λ_ _ x=>x
section
variable{X:Cx}
theorem bin{a b:cj}{ta tb:TE}(ha:PE X a ta)(hb:PE X b tb)(I:Inv X pins σ H s)(h:ta σ H λx H1=>tb σ H1 λy H2=>R x y H2)
  {α:Type}{Q:α->aK->Prop}{f:ay->ay->Sem α}
  (hf:∀v u s2 x y H2,Inv X pins σ H2 s2->RelV x v->RelV y u->R x y H2->wpAny (model X.prog X.w) X.A (f v u) Q X.xe s2):
  wpAny (model X.prog X.w) X.A (eval a X.env) (λv s₁=>wpAny (model X.prog X.w) X.A (eval b X.env) (λu s₂=>wpAny (model X.prog X.w) X.A (f v u) Q X.xe s₂) X.xe s₁) X.xe s:=by
 refine fS (ha pins s σ H _ I h) λv s1 ⟨x,H1,I1,r1,q1⟩=>?_
 refine fS (hb pins s1 σ H1 _ I1 q1) λu s2 ⟨y,H2,I2,r2,q2⟩=>?_
 exact hf v u s2 x y H2 I2 r1 r2 q2
def RA(i:Nat):TE:=λσ H Q=>∃v,σ[i]?=some (some v)/\Q v H
def tC(v:V):TE:=λ_ H Q=>Q v H
theorem h7{i:Nat}{x:Str}{pos:Pos}(hN:X.N[i]?=some x)(hv:Ft X.env.scope x)(hd:(x==("__debug__":Str))=false:=by decide)(qT:(x==("__classdict__":Str))=false:=by decide):PE X (.Name x pos) (RA i):=by
 intro pins s σ H Q I h;obtain⟨v,e,h⟩:=h;obtain⟨m,hn,hl⟩:=I.loc;obtain⟨u,r,l⟩:=hl i x v hN e hv;have fin:EP X pins σ Q u s:=⟨v,H,I,r,h⟩;rcases l with⟨hk,hm⟩|⟨hk,c,hc,Nu⟩
 ·exact wpAny_Name (wpAny_loadName_local I.ok.kind hk hn hm fin) hd
 ·rcases hk with hk|hk
  ·exact wpAny_Name (wpAny_loadName_cell I.ok.kind hk hc Nu fin) hd
  ·exact wpAny_Name (wpAny_loadName_free I.ok.kind hk hc Nu fin qT) hd
theorem OJ{i j pos}:PE X (.Constant (.int i) j pos) (tC (.int i)):=λ_ _ _ H _ I h=>wpAny_Constant_int ⟨.int i,H,I.tok _,⟨_,rfl⟩,h⟩
theorem RB{b j pos}:PE X (.Constant (.bool b) j pos) (tC (.bl b)):=λ_ _ _ H _ I h=>Constant_bool ⟨.bl b,H,I,rfl,h⟩
theorem OL{j pos}:PE X (.Constant .none j pos) (tC .non):=λ_ _ _ H _ I h=>Constant_none ⟨.non,H,I,rfl,h⟩
theorem OO{x j pos}:PE X (.Constant (.str x) j pos) (tC (.str x)):=λ_ _ _ H _ I h=>nA ⟨.str x,H,I.tok _,⟨_,rfl⟩,h⟩
def Gl(X:Cx)(x:Str):Prop:=X.env.kindOf x=some .globalImplicit
theorem nJ{x:Str}{pos:Pos}(I:Inv X pins σ H s)(hg:Gl X x)(hm:X.mg x=some u)(h:Q u s)
  (hd:(x==("__debug__":Str))=false:=by decide):wpAny (model X.prog X.w) X.A (eval (.Name x pos) X.env) Q E s:=
 yU I.ok.kind hg (Calls.loadGlobal_global (by rw[I.ok.glob];exact I.mod.glob.keeps I.bk) hm h) hd
theorem vb{x:Str}{pos:Pos}(I:Inv X pins σ H s)(hg:Gl X x)(hm:X.mg x=none)(hv:bootBuiltins x=some u)(h:Q u s)
  (hn:x≠"__name__":=by decide)(hd:(x==("__debug__":Str))=false:=by decide):wpAny (model X.prog X.w) X.A (eval (.Name x pos) X.env) Q E s:=by
 obtain⟨mb,h1,h2⟩:=I.mod.blt;exact yU I.ok.kind hg (Calls.loadGlobal_builtin (by rw[I.ok.glob];exact I.mod.glob.keeps I.bk) hm (by rw[I.ok.blt];exact h1.keeps I.bk) ((h2 x hn).trans hv) h) hd
theorem nM{x:Str}{v:V}{pos:Pos}(hg:Gl X x)(hm:X.mg x=some u)(r:RelV v u)(hd:(x==("__debug__":Str))=false:=by decide):PE X (.Name x pos) (tC v):=
 λ_ _ _ H _ I h=>nJ I hg hm ⟨v,H,I,r,h⟩ hd
theorem K8{x:Str}{v:V}{pos:Pos}(hg:Gl X x)(hm:X.mg x=none)(hv:bootBuiltins x=some u)(r:RelV v u)(hn:x≠"__name__":=by decide)(hd:(x==("__debug__":Str))=false:=by decide):PE X (.Name x pos) (tC v):=
 λ_ _ _ H _ I h=>vb I hg hm hv ⟨v,H,I,r,h⟩ hn hd
variable{a b:cj}{ta tb:TE}{pos:Pos}
def PC(X:Cx)(op:DH)(a b:cj)(t:TE):Prop:=
 ∀(pins:List (aL×Obj))(s:aK)(σ:St)(H:Hp)(Q:VK),Inv X pins σ H s->t σ H Q->
  wpAny (model X.prog X.w) X.A (eval a X.env) (λv s₁=>wpAny (model X.prog X.w) X.A (eval b X.env) (λu s₂=>wpAny (model X.prog X.w) X.A (compareOp op v u) (EP X pins σ Q) X.xe s₂) X.xe s₁) X.xe s
def tB(t:TE):TT:=λσ H Q=>t σ H λx H1=>∃c,x=.bl c/\Q c H1
theorem DQ{op:DH}(h:PC X op a b t)(h1:behindInMarks op b=false:=by first|exact Iu _ (by decide) (by decide)|rfl):PE X (.Compare a [op] [b] pos) t:=λpins s σ H Q I hw=>wpAny_Compare1 (h pins s σ H Q I hw) h1
theorem OQ{op:DH}(h:PC X op a b t)(h1:behindInMarks op b=false:=by first|exact Iu _ (by decide) (by decide)|rfl):PT X (.Compare a [op] [b] pos) (tB t):=by
 intro pins s σ H Q I hw;refine wpAny_isTrue_Compare1 (fS (h pins s σ H _ I hw) λv s1 h1=>fS h1 λu s2 h2=>fS h2 λc s3 ⟨x,H1,I1,r1,q1⟩=>?_) h1
 obtain⟨d,rfl,q⟩:=q1;cases r1;exact eZ ⟨H1,I1,q⟩
theorem DR(h:PE X e t)(he:∀whole,isTrue e X.env whole=(do let v <-whole;standAt e.pos;holding [v] (truthy v)):=by intro _;rfl):PT X e (tB t):=by
 intro pins s σ H Q I hw;refine isTrue_plain (fS (h pins s σ H _ I hw) λv s1 ⟨x,H1,I1,r1,q1⟩=>?_) (he _)
 obtain⟨d,rfl,q⟩:=q1;cases r1;exact eZ ⟨H1,I1,q⟩
variable{tA UZ:TT}{rest:List cj}
def Wj(t u:TT):TT:=λσ H Q=>t σ H λc H1=>if c=true then u σ H1 Q else Q false H1
def tOr(t u:TT):TT:=λσ H Q=>t σ H λc H1=>if c=true then Q true H1 else u σ H1 Q
def Wk(t:TT):TT:=λσ H Q=>t σ H λc H1=>Q (!c) H1
theorem pw_and1(ha:PT X a tA):PW X (.BoolOp .And [a] pos) tA:=by
 intro wh pins s σ H Q I h;refine isTrue_and (fS (ha pins s σ H Q I h) λc s1 e=>?_)
 cases c with
 |true=>exact isTrue_and_nil e
 |false=>exact e
theorem pw_or1(ha:PT X a tA):PW X (.BoolOp .Or [a] pos) tA:=by
 intro wh pins s σ H Q I h;refine isTrue_or (fS (ha pins s σ H Q I h) λc s1 e=>?_)
 cases c with
 |false=>exact isTrue_or_nil e
 |true=>exact e
theorem pw_and(ha:PT X a tA)(hb:PW X (.BoolOp .And (b::rest) pos) UZ):PW X (.BoolOp .And (a::b::rest) pos) (Wj tA UZ):=by
 intro wh pins s σ H Q I h;refine isTrue_and (fS (ha pins s σ H _ I h) λc s1 ⟨H1,I1,q1⟩=>?_)
 cases c with
 |true=>exact hb wh pins s1 σ H1 Q I1 q1
 |false=>exact⟨H1,I1,q1⟩
theorem pw_or(ha:PT X a tA)(hb:PW X (.BoolOp .Or (b::rest) pos) UZ):PW X (.BoolOp .Or (a::b::rest) pos) (tOr tA UZ):=by
 intro wh pins s σ H Q I h;refine isTrue_or (fS (ha pins s σ H _ I h) λc s1 ⟨H1,I1,q1⟩=>?_)
 cases c with
 |true=>exact⟨H1,I1,q1⟩
 |false=>exact hb wh pins s1 σ H1 Q I1 q1
theorem DS(ha:PT X a tA):PT X (.UnaryOp .Not a pos) (Wk tA):=by
 intro pins s σ H Q I h;exact isTrue_not (ha pins s σ H (λc H1=>Q (!c) H1) I h)
def RC(ta tb:TE):TE:=λσ H Q=>ta σ H λx H1=>∃c,x=.bl c/\if c=true then tb σ H1 Q else Q (.bl false) H1
def Wm(ta tb:TE):TE:=λσ H Q=>ta σ H λx H1=>∃c,x=.bl c/\if c=true then Q (.bl true) H1 else tb σ H1 Q
def RD(ta:TE):TE:=λσ H Q=>ta σ H λx H1=>∃c,x=.bl c/\Q (.bl (!c)) H1
theorem OS{op}(h:PE X a t):PE X (.BoolOp op [a] pos) t:=λpins s σ H Q I hw=>BoolOp_one (h pins s σ H Q I hw)
theorem Iv(ha:PE X a ta)(hb:PE X (.BoolOp .And (b::rest) pos) tb):PE X (.BoolOp .And (a::b::rest) pos) (RC ta tb):=by
 intro pins s σ H Q I h;refine BoolOp_and (fS (ha pins s σ H _ I h) λv s1 ⟨x,H1,I1,r1,q1⟩=>?_)
 obtain⟨c,rfl,q1⟩:=q1;cases r1;refine eZ ?_
 cases c with
 |true=>exact hb pins s1 σ H1 Q I1 q1
 |false=>exact⟨.bl false,H1,I1,rfl,q1⟩
theorem Nv(ha:PE X a ta)(hb:PE X (.BoolOp .Or (b::rest) pos) tb):PE X (.BoolOp .Or (a::b::rest) pos) (Wm ta tb):=by
 intro pins s σ H Q I h;refine BoolOp_or (fS (ha pins s σ H _ I h) λv s1 ⟨x,H1,I1,r1,q1⟩=>?_)
 obtain⟨c,rfl,q1⟩:=q1;cases r1;refine eZ ?_
 cases c with
 |false=>exact hb pins s1 σ H1 Q I1 q1
 |true=>exact⟨.bl true,H1,I1,rfl,q1⟩
theorem OU(ha:PE X a ta):PE X (.UnaryOp .Not a pos) (RD ta):=by
 intro pins s σ H Q I h;refine UnaryOp_ (fS (ha pins s σ H _ I h) λv s1 ⟨x,H1,I1,r1,q1⟩=>?_)
 obtain⟨c,rfl,q1⟩:=q1;cases r1;exact not_of (eZ ⟨.bl (!c),H1,I1,rfl,q1⟩)
def tIf(t:TT)(ta tb:TE):TE:=λσ H Q=>t σ H λc H1=>if c=true then ta σ H1 Q else tb σ H1 Q
theorem Iw(hc:PT X c tA)(ha:PE X a ta)(hb:PE X b tb):PE X (.IfExp c a b pos) (tIf tA ta tb):=by
 intro pins s σ H Q I h;refine wpAny_IfExp (fS (hc pins s σ H _ I h) λd s1 ⟨H1,I1,q1⟩=>?_)
 cases d with
 |true=>exact ha pins s1 σ H1 Q I1 q1
 |false=>exact hb pins s1 σ H1 Q I1 q1
end
def lg(K:ao)(H:Hp)(a:aL)(xs:List V):Prop:=
 Rd H a (.lst xs)\/
  ∃(o:Obj)(its:Array ay)(n:Nat),K.lookup a=some o/\o.cls=.type "list"/\o.dict=none/\o.data=.seq its n/\its.size<=sizeLine/\ez xs its.toList
def qp(K:ao)(H:Hp)(a:aL)(xs:List V):Prop:=
 Rd H a (.tup xs)\/
  ∃(o:Obj)(its:Array ay)(n:Nat),K.lookup a=some o/\o.cls=.type "tuple"/\o.data=.seq its n/\its.size<=sizeLine/\ez xs its.toList
def Wn:ay->Option V
 | .none=>some .non
 | .bool b=>some (.bl b)
 | .int i _=>some (.int i)
 | .str x _=>some (.str x)
 | .bytes b _=>some (.QV b)
 | .float b _=>some (.flt b)
 | .ref a=>some (.ref a)
 | .type n=>some (.ty n)
 |_=>none
theorem RelV.abs{x:V}(r:RelV x u):Wn u=some x:=by
 cases x with
 |non=>cases r;rfl
 |bl _=>cases r;rfl
 |int _=>obtain⟨t,rfl⟩:=r;rfl
 |str _=>obtain⟨t,rfl⟩:=r;rfl
 |QV _=>obtain⟨t,rfl⟩:=r;rfl
 |flt _=>obtain⟨t,rfl⟩:=r;rfl
 |ref _=>cases r;rfl
 |ty _=>cases r;rfl
theorem RelV.inj{x y:V}(r:RelV x u)(q:RelV y u):x=y:=di (r.abs.symm.trans q.abs)
theorem ez.inj:∀{xs ys:List V}{us:List ay},ez xs us->ez ys us->xs=ys
 |_,_,_,.nil,.nil=>rfl
 |_,_,_,.cons r t,.cons r' t'=>by rw[r.inj r',ez.inj t t']
section
variable{X:Cx}{pins:List (aL×Obj)}{σ:St}{H:Hp}{s:aK}{a:aL}{xs ys:List V}
theorem lg.of(h:H a=some (.lst xs)):lg K H a xs:=.inl (.inl h)
theorem qp.of(h:H a=some (.tup xs)):qp K H a xs:=.inl (.inl h)
theorem Inv.list(I:Inv X pins σ H s)(h:lg X.K H a xs):∃its:List ay,ez xs its/\PlainL s.heap a its.toArray/\xs.length<=sizeLine:=by
 rcases h with h|⟨o,its,n,hk,hc,hd,hs,hz,r⟩
 ·obtain⟨z,its,n,r,e⟩:=h.ok I.hok
  exact⟨its,r,⟨_,n,e,rfl,rfl,rfl⟩,z⟩
 ·refine⟨its.toList,r,⟨o,n,I.sF a o hk,hc,hd,by simpa using hs⟩,?_⟩
  have e:=r.length;simp only[cR]at e;omega
theorem Inv.tuple(I:Inv X pins σ H s)(h:qp X.K H a xs):∃its:List ay,ez xs its/\IsTup s.heap a its.toArray/\xs.length<=sizeLine:=by
 rcases h with h|⟨o,its,n,hk,hc,hs,hz,r⟩
 ·obtain⟨z,its,r,p⟩:=h.ok I.hok
  exact⟨its,r,p,z⟩
 ·refine⟨its.toList,r,⟨o,I.sF a o hk,hc,n,by simpa using hs⟩,?_⟩
  have e:=r.length;simp only[cR]at e;omega
theorem Inv.xq(I:Inv X pins σ H s)(h:lg X.K H a xs)(h':lg X.K H a ys):xs=ys:=by
 obtain⟨its,r,⟨o,n,e,_,_,d⟩,_⟩:=I.list h;obtain⟨its',r',⟨o',n',e',_,_,d'⟩,_⟩:=I.list h';rw[e]at e';cases e';rw[d]at d'
 injection d' with d1 _
 have:its=its':=by simpa using qQ6 Array.toList d1
 subst this;exact r.inj r'
theorem Inv.zJ(I:Inv X pins σ H s)(h:qp X.K H a xs)(h':qp X.K H a ys):xs=ys:=by
 obtain⟨its,r,⟨o,e,_,n,d⟩,_⟩:=I.tuple h;obtain⟨its',r',⟨o',e',_,n',d'⟩,_⟩:=I.tuple h';rw[e]at e';cases e';rw[d]at d'
 injection d' with d1 _
 have:its=its':=by simpa using qQ6 Array.toList d1
 subst this;exact r.inj r'
end
abbrev Cx.wish(X:Cx)(E:ay->aK->Prop):Cx:={ X with xe:=E }
abbrev Cx.OV(X:Cx):Cx:=X.wish λ_ _=>False
theorem Cx.Ok.wish(ok:X.Ok)(E:ay->aK->Prop):(X.wish E).Ok:=
 ⟨ok.mod,ok.kind,ok.glob,ok.blt,ok.above,ok.inj,ok.has,ok.cab,ok.hd,ok.frames,ok.stk,ok.UY,ok.bs,ok.KR,ok.DP,ok.GF,ok.qy,ok.Iq⟩
theorem Cx.Ok.qU(ok:(X.wish E).Ok):X.Ok:=
 ⟨ok.mod,ok.kind,ok.glob,ok.blt,ok.above,ok.inj,ok.has,ok.cab,ok.hd,ok.frames,ok.stk,ok.UY,ok.bs,ok.KR,ok.DP,ok.GF,ok.qy,ok.Iq⟩
section
variable{X:Cx}{pins:List (aL×Obj)}{σ:St}{H:Hp}{s:aK}{E:ay->aK->Prop}
theorem Inv.wish(I:Inv X pins σ H s)(E:ay->aK->Prop):Inv (X.wish E) pins σ H s:=⟨I.ok.wish E,I.os,I.bare,I.base,I.loc,I.cell,I.free,I.nI,I.pin,I.hok,I.len⟩
theorem Inv.qU(I:Inv (X.wish E) pins σ H s):Inv X pins σ H s:=⟨I.ok.qU,I.os,I.bare,I.base,I.loc,I.cell,I.free,I.nI,I.pin,I.hok,I.len⟩
theorem SP.qU{D:Ends}{f:Flow}(h:SP (X.wish E) pins D f s'):SP X pins D f s':=by
 cases f with
 |next=>obtain⟨σ',H',I,q⟩:=h;exact⟨σ',H',I.qU,q⟩
 |brk=>obtain⟨σ',H',I,q⟩:=h;exact⟨σ',H',I.qU,q⟩
 |cont=>obtain⟨σ',H',I,q⟩:=h;exact⟨σ',H',I.qU,q⟩
 |ret u=>obtain⟨v,σ',H',I,r,q⟩:=h;exact⟨v,σ',H',I.qU,r,q⟩
theorem Fx.OV{st:List iH}{t:TS}(h:Fx X.OV st t):Fx X st t:=λpins s σ H D I hw=>
 eB (h pins s σ H D (I.wish _) hw) (λ_ _ q=>q.qU) λ_ _ z=>eP z
end
section
variable{X:Cx}{st:iH}{rest:List iH}{t u:TS}{e:cj}{te:TE}{pos:Pos}
def RG:TS:=λD σ H=>D.nx σ H
def Wo(t u:TS):TS:=λD σ H=>t { D with nx:=u D } σ H
theorem A2:Fx X [] RG:=λ_ _ σ H _ I h=>B5 ⟨σ,H,I,h⟩
theorem kE(h1:PS X st t)(h2:Fx X rest u):Fx X (st::rest) (Wo t u):=by
 intro pins s σ H D I h;refine AG (fS (h1 pins s σ H { D with nx:=u D } I h) λf s1 q=>?_)
 cases f with
 |next=>
  obtain⟨σ',H',I',q⟩:=q;exact h2 pins s1 σ' H' D I' q
 |ret v=>exact q
 |brk=>exact q
 |cont=>exact q
theorem wJ(h1:PS X st t):Fx X [st] t:=by
 intro pins s σ H D I h;refine AG (fS (h1 pins s σ H D I h) λf s1 q=>?_)
 cases f with
 |next=>exact B5 q
 |ret v=>exact q
 |brk=>exact q
 |cont=>exact q
theorem Inv.quiet(I:Inv X pins σ H s):interactive X.env=false:=by simp[interactive,I.ok.kind]
def RH(te:TE):TS:=λD σ H=>te σ H λ_ H1=>D.nx σ H1
theorem pJ(he:PE X e te)(hs:swapsWith e none pos.line X.env=pure false:=by rfl):PS X (.Expr e pos) (RH te):=by
 intro pins s σ H D I h;exact wpAny_Expr_any (fS (he pins s σ H _ I h) λv s1 ⟨x,H1,I1,r1,q1⟩=>⟨σ,H1,I1,q1⟩) I.quiet hs
def Wp(te:TE):TS:=λD σ H=>te σ H D.rt
theorem xr(he:PE X e te):PS X (.Return (some e) pos) (Wp te):=by
 intro pins s σ H D I h;exact wpAny_Return_some (fS (he pins s σ H _ I h) λv s1 ⟨x,H1,I1,r1,q1⟩=>⟨x,σ,H1,I1,r1,q1⟩)
def Wq(c:TT)(t u:TS):TS:=λD σ H=>c σ H λb H1=>if b=true then t D σ H1 else u D σ H1
theorem zK{a b:List iH}{tc:TT}(hc:PT X c tc)(ha:Fx X a t)(hb:Fx X b u):PS X (.If c a b pos) (Wq tc t u):=by
 intro pins s σ H D I h;refine wpAny_If (fS (hc pins s σ H _ I h) λd s1 ⟨H1,I1,q1⟩=>?_)
 cases d with
 |true=>exact ha pins s1 σ H1 D I1 q1
 |false=>exact hb pins s1 σ H1 D I1 q1
def OW:TS:=λ_ _ _=>False
theorem lj{sts:List iH}:Fx X sts OW:=λ_ _ _ _ _ _ h=>h.elim
end
abbrev TG:=V->St->Hp->(St->Hp->Prop)->Prop
abbrev Nx:=List V->St->Hp->(St->Hp->Prop)->Prop
def PG(X:Cx)(target:cj)(t:TG):Prop:=
 ∀(pins:List (aL×Obj))(s:aK)(σ:St)(H:Hp)(v:V)(u:ay)(Q:St->Hp->Prop),Inv X pins σ H s->RelV v u->t v σ H Q->
  wpAny (model X.prog X.w) X.A (assign target X.env u) (λ_ s'=>∃σ' H',Inv X pins σ' H' s'/\Q σ' H') X.xe s
def U0(X:Cx)(ts:List cj)(t:Nx):Prop:=
 ∀(pins:List (aL×Obj))(s:aK)(σ:St)(H:Hp)(vs:List V)(us:List ay)(Q:St->Hp->Prop),Inv X pins σ H s->ez vs us->t vs σ H Q->
  wpAny (model X.prog X.w) X.A (assignInOrder ((assignEach ts X.env).map (·.2)) us) (λ_ s'=>∃σ' H',Inv X pins σ' H' s'/\Q σ' H') X.xe s
section
variable{X:Cx}{pos:Pos}
def zL(i:Nat):TG:=λv σ H Q=>Q (σ.set i (some v)) H
theorem cp{i:Nat}{x:Str}(hN:X.N.Nodup)(hi:X.N[i]?=some x)(hx:Loc X.env.scope x)(hf:X.fn x=true\/X.env.scope.names.lookup x=some .local:=by first|exact .inl rfl|exact .inr rfl|assumption):PG X (.Name x pos) (zL i):=by
 intro pins s σ H v u Q I r h;exact wpAny_assign_Name (lJ I hN hi hx r (λs' I'=>⟨_,H,I',h⟩) hf)
def RJ:Nx:=λvs σ H Q=>vs=[]/\Q σ H
def Ny(t:TG)(u:Nx):Nx:=λvs σ H Q=>∃v r,vs=v::r/\t v σ H λσ' H'=>u r σ' H' Q
theorem gN:U0 X [] RJ:=by
 intro pins s σ H vs us Q I r h;obtain⟨e,h⟩:=h;subst e;cases r;exact yV ⟨σ,H,I,h⟩
theorem cD{t:TG}{u:Nx}(h1:PG X e t)(h2:U0 X es u)
  (hs:(assignEach (e::es) X.env).map (·.2)=assign e X.env::(assignEach es X.env).map (·.2):=by rfl):U0 X (e::es) (Ny t u):=by
 intro pins s σ H vs us Q I r h;obtain⟨v,vr,e1,h⟩:=h;subst e1;cases r with
 |cons r rr=>
  rw[hs];refine jj (fS (h1 pins s σ H _ _ _ I r h) λ_ s1 ⟨σ1,H1,I1,q1⟩=>?_)
  exact h2 pins s1 σ1 H1 _ _ Q I1 rr q1
def RK(K:ao)(n:Nat)(t:Nx):TG:=λv σ H Q=>∃a xs,v=.ref a/\qp K H a xs/\xs.length=n/\t xs σ H Q
theorem iS{t:Nx}{n:Nat}(hc:X.calm=true)(h:U0 X es t)
  (hn:(assignEach es X.env).length=n:=by rfl)(Fy:(assignEach es X.env).findIdx? (·.1)=none:=by rfl):PG X (.Tuple es k pos) (RK X.K n t):=by
 intro pins s σ H v u Q I r hw;obtain⟨a,xs,e1,hq,hl,hw⟩:=hw;subst e1;cases r;obtain⟨its,rv,ht,hz⟩:=I.tuple hq;refine assign_Tuple_tuple (I.ok.hd hc) ht (by simp[hn,<-hl,rv.length]) Fy λh' hx=>?_
 have I1:Inv X pins σ H { s with heap:=h' }:=I.kept (t':=s.toks) λb o e=>hx b o (a_ (aW e)) e
 exact h pins _ σ H xs _ Q I1 (by simpa using rv) hw
def RL(te:TE)(g:TG):TS:=λD σ H=>te σ H λx H1=>g x σ H1 D.nx
theorem xt{i:Nat}{x:Str}{te:TE}{pos':Pos}(hN:X.N.Nodup)(hi:X.N[i]?=some x)(hx:Loc X.env.scope x)(he:PE X e te)(hs:swapsWith e (some (.Name x pos')) pos.line X.env=pure false:=by rfl)(hf:X.fn x=true\/X.env.scope.names.lookup x=some .local:=by first|exact .inl rfl|exact .inr rfl|assumption):
  PS X (.Assign [.Name x pos'] e pos) (RL te (zL i)):=by
 intro pins s σ H D I h;refine wpAny_Assign_Name (fS (he pins s σ H _ I h) λv s1 ⟨y,H1,I1,r1,q1⟩=>?_) hs
 exact lJ I1 hN hi hx r1 (λs2 I2=>⟨_,H1,I2,q1⟩) hf
def Wr(i j:Nat)(ta:TA):TS:=λD σ H=>ta σ H λvs H1=>∃v w,vs=[v,w]/\D.nx ((σ.set i (some v)).set j (some w)) H1
theorem Iy{i j:Nat}{x y:Str}{a b:cj}{ta:TA}{px py pt:Pos}{kt k2 DT}(hc:X.calm=true)(hN:X.N.Nodup)(hi:X.N[i]?=some x)(hj:X.N[j]?=some y)(zM:i≠j)
  (hx:X.env.scope.names.lookup x=some .local)(hy:X.env.scope.names.lookup y=some .local)(ha:PA X [a,b] ta)
  (hw:swappedStores [.Tuple [.Name x px,.Name y py] kt pt] (.Tuple [a,b] k2 DT) X.env=pure (some [x,y]))
  (hs:swapsWithSole [.Tuple [.Name x px,.Name y py] kt pt] (.Tuple [a,b] k2 DT) pos.line X.env=pure false:=by rfl):
  PS X (.Assign [.Tuple [.Name x px,.Name y py] kt pt] (.Tuple [a,b] k2 DT) pos) (Wr i j ta):=by
 intro pins s σ H D I h;rw[exec_Assign_arm];refine au (nu ?_)
 rw[hs];refine au (aY ?_)
 rw[qQ2 (by decide)]
 refine au (Tuple_ (fS (ha _ pins s σ H _ I h) λus s1 ⟨vs,H1,I1,r1,q1⟩=>?_))
 obtain⟨v,w,e1,q1⟩:=q1;subst e1;obtain⟨u1,u2,rfl,rv,qz⟩:∃u1 u2,us=[u1,u2]/\RelV v u1/\RelV w u2:=by
  cases r1 with
  |cons p q=>
   cases q with
   |cons p' q'=>
    cases q';exact⟨_,_,rfl,p,p'⟩
 refine eQ ?_ (by show 2<=sizeLine;decide)
 have I2:Inv X pins σ H1 { s1 with heap:=s1.heap.push { cls:=.type "tuple",data:=.seq [u1,u2].toArray } }:=I1.kept (t':=s1.toks) λb o e=>aA _ e
 rw[hw];refine au (aY ?_)
 show wpAny (model X.prog X.w) X.A (do rule "assign.swapped-stores";let items <-unpackItems (.ref s1.heap.objs.size) 2 none;assignInOrder [λv=>bindName X.env y v,λv=>bindName X.env x v] items.reverse;pure B6) _ _ _
 refine au (wZ (au (unpackItems_tuple (items:=#[u1,u2]) (I.ok.hd hc) (sA s1.heap _) λh' Ws=>?_)))
 have I3:=I2.kept (h':=h') (t':=s1.toks) λb o e=>Ws b o (a_ (aW e)) e
 show wpAny _ _ (assignInOrder [λv=>bindName X.env y v,λv=>bindName X.env x v] [u2,u1] >>= λ_=>pure B6) _ _ _
 refine au (jj (pG (lJ I3 hN hj (.inl hy) qz (λs2 I4=>?_) (.inr hy))))
 refine jj (pG (lJ I4 hN hi (.inl hx) rv (λs3 I5=>yV (aY ?_)) (.inr hx)))
 rw[t_ _ _ (bM zM)]at I5;exact⟨_,H1,I5,q1⟩
end
section
variable{X:Cx}{pos:Pos}
end
structure It where
 go:Nat->Hp->Prop
 RM:Nat->Hp->V->Hp->Prop
 stop:Nat->Hp->Prop
def uj(X:Cx)(pins:List (aL×Obj))(H:Hp)(b:aL):Prop:=
 H b=none/\b≠X.env.locals/\b∉X.fs/\(b∈X.ex\/X.s₀.heap.objs.size<=b)/\(∀x c,X.env.cells.lookup x=some c->c≠b)/\∀p∈X.pn++pins,p.1≠b
theorem Inv.y8{H': Hp}{b:aL}(I:Inv X pins σ H s)(hb:s.heap.objs.size<=b)(hn:H' b=none):uj X pins H' b:=by
 refine⟨hn,eT (bF I.lt hb),I.V' hb,.inr (bZ I.sz hb),λx c e z=>?_,λp hp z=>?_⟩
 ·obtain⟨v,q⟩:=I.cell x c e
  exact qQ7 (bF q.lt (by rw[z];exact hb)) (iI _)
 ·exact qQ7 (bF (aW (I.pin p hp).1) (by rw[z];exact hb)) (iI _)
structure Turn(P:bC)(w:cw)(K:ao)(tg:cj)(J:It)(fp:List aL)(it:aL)(tn:Nat->c6->Prop):Prop where
 mem:it∈fp
 obj:∀i h,tn i h->∀b∈fp,∃o,h.get? b=some o/\∀v,o.data≠.cell v
 keep:∀i h h',tn i h->(∀b∈fp,∀o,h.get? b=some o->h'.get? b=some o)->tn i h'
 item:∀(X:Cx),X.prog=P->X.w=w->X.K=K->X.calm=true->∀(i:Nat)(pins:List (aL×Obj))(s:aK)(σ:St)(H:Hp)(E:ay->aK->Prop),Inv X pins σ H s->(∀b∈fp,uj X pins H b)->tn i s.heap->J.go i H->
  wpAny (model P w) X.A (pyNext (.ref it)) (λr s1=>∃u,r=some u/\
   wpAny (model P w) X.A (letOwnedTupleGo tg (.ref it) u) (λ_ s2=>∃x H',Inv X pins σ H' s2/\RelV x u/\J.RM i H x H'/\tn (i+1) s2.heap/\∀b∈fp,H' b=none) E s1) E s
 done:∀(X:Cx),X.prog=P->X.w=w->X.K=K->X.calm=true->∀(i:Nat)(pins:List (aL×Obj))(s:aK)(σ:St)(H:Hp)(E:ay->aK->Prop),Inv X pins σ H s->(∀b∈fp,uj X pins H b)->tn i s.heap->J.stop i H->
  wpAny (model P w) X.A (pyNext (.ref it)) (λr s1=>r=none/\Inv X pins σ H s1) E s
 self:∀(A:dJ)(i:Nat)(s:aK)(Q:ay->aK->Prop)(E:ay->aK->Prop),tn i s.heap->Q (.ref it) s->wpAny (model P w) A (pyIter (.ref it)) Q E s
abbrev TI:=St->Hp->(It->Hp->Prop)->Prop
def Wt(X:Cx)(pins:List (aL×Obj))(σ:St)(tg:cj)(R:It->Hp->Prop)(U1:ay)(s2:aK):Prop:=
 ∃(it:aL)(fp:List aL)(tn:Nat->c6->Prop)(J:It)(H':Hp),U1=.ref it/\Inv X pins σ H' s2/\Turn X.prog X.w X.K tg J fp it tn/\tn 0 s2.heap/\(∀b∈fp,uj X pins H' b)/\R J H'
def PI(X:Cx)(tg iter:cj)(wi:TI):Prop:=
 ∀(pins:List (aL×Obj))(s:aK)(σ:St)(H:Hp)(R:It->Hp->Prop),Inv X pins σ H s->wi σ H R->
  wpAny (model X.prog X.w) X.A (eval iter X.env) (λv s1=>wpAny (model X.prog X.w) X.A (pyIter v) (Wt X pins σ tg R) X.xe s1) X.xe s
theorem Fz{n:String}{vs:Array ay}{Q:Unit->aK->Prop}(ho:s.heap.get? it=some o)(hc:o.cls=.type n)(hd:o.data=.fields vs)
    (hn:["enumerate","zip","dict_itemiterator","dict_reverseitemiterator","odict_iterator","itertools.zip_longest","itertools.pairwise"].contains n=false)(hQ:Q () s):wpAny M A (letOwnedTupleGo tg (.ref it) u) Q E s:=by
  unfold letOwnedTupleGo;cases tg<;>first
    | exact aY hQ
    | (cases u<;>first
        | exact aY hQ
        | (refine au (wpAny_load ho ?_)
           rw[hc,hd];show wpAny M A (if(["enumerate","zip","dict_itemiterator","dict_reverseitemiterator","odict_iterator","itertools.zip_longest","itertools.pairwise"].contains n&&vs[0]?==some (rawInt _))=true then _ else _) Q E s
           rw[qQ2 (by intro h;rw[hn,Bool.false_and]at h;cases h)]
           exact aY hQ))
def Zz(K:ao)(a:aL):It:=
 ⟨λi H=>∃xs x,lg K H a xs/\xs[i]?=some x,λi H x H'=>H'=H/\∀xs,lg K H a xs->xs[i]?=some x,λi H=>∃xs,lg K H a xs/\xs.length<=i⟩
def ZC(K:ao)(a:aL):It:=
 ⟨λi H=>∃xs x,qp K H a xs/\xs[i]?=some x,λi H x H'=>H'=H/\∀xs,qp K H a xs->xs[i]?=some x,λi H=>∃xs,qp K H a xs/\xs.length<=i⟩
def Wu(lo:Int)(n:Nat):It:=⟨λi _=>i<n,λi H x H'=>H'=H/\x=.int (lo+i),λi _=>n<=i⟩
theorem GH(a it:aL):Turn P w K tg (Zz K a) [it] it (λi h=>h.IsListIter it a i) where
 mem:=by simp
 obj:=λi h st b hb=>by
  have e:b=it:=by simpa using hb
  subst e;obtain⟨o,e,c,d⟩:=st;exact⟨o,e,λv z=>by rw[d]at z;cases z⟩
 keep:=λi h h' st k=>st.at λo e=>k it (by simp) o e
 item:=by
  intro X hP hw hK hc i pins s σ H E I hf st hg;subst hP hw hK;obtain⟨xs,x,hq,hx⟩:=hg;obtain⟨its,rv,p,hz⟩:=I.list hq;obtain⟨u,hu,ru⟩:=rv.get hx;obtain⟨f0,f1,f2,f3,f4,f5⟩:=hf it (by simp)
  refine wpAny_pyNext_list_item st p.isList (x:=u) (by simpa using hu) λh' y9 sb=>?_
  have I1:Inv X pins σ H { s with heap:=h' }:=I.turned (t':=s.toks) (λb o hb e=>(sb.2 b hb).trans e) f0 f1 f3 f4 f5
  obtain⟨o,e,c,d⟩:=id y9;exact⟨u,rfl,Fz (s:={ s with heap:=h' }) e c d (by decide) ⟨x,H,I1,ru,⟨rfl,λys hy=>by rw[I.xq hy hq];exact hx⟩,y9,λb hb=>(hf b hb).1⟩⟩
 done:=by
  intro X hP hw hK hc i pins s σ H E I hf st hg;subst hP hw hK;obtain⟨xs,hq,hx⟩:=hg;obtain⟨its,rv,p,hz⟩:=I.list hq;obtain⟨f0,f1,f2,f3,f4,f5⟩:=hf it (by simp)
  have hl:=rv.length;exact wpAny_pyNext_list_end (I.ok.hd hc) st p.isList (by simp;omega) λh' eb=>⟨rfl,I.turned (t':=s.toks) (λb o hb e=>eb b o hb e) f0 f1 f3 f4 f5⟩
 self:=λ_ _ _ _ _ st h=>wpAny_pyIter_listiter st h
theorem DU(a it:aL):Turn P w K tg (ZC K a) [it] it (λi h=>h.IsTupleIter it a i) where
 mem:=by simp
 obj:=λi h st b hb=>by
  have e:b=it:=by simpa using hb
  subst e;obtain⟨o,e,c,d⟩:=st;exact⟨o,e,λv z=>by rw[d]at z;cases z⟩
 keep:=λi h h' st k=>st.at λo e=>k it (by simp) o e
 item:=by
  intro X hP hw hK hc i pins s σ H E I hf st hg;subst hP hw hK;obtain⟨xs,x,hq,hx⟩:=hg;obtain⟨its,rv,p,hz⟩:=I.tuple hq;obtain⟨u,hu,ru⟩:=rv.get hx;obtain⟨f0,f1,f2,f3,f4,f5⟩:=hf it (by simp)
  refine wpAny_pyNext_tuple_item st (show s.heap.IsTuple a its.toArray from p) (x:=u) (by simpa using hu) λh' y9 sb=>?_
  have I1:Inv X pins σ H { s with heap:=h' }:=I.turned (t':=s.toks) (λb o hb e=>(sb.2 b hb).trans e) f0 f1 f3 f4 f5
  obtain⟨o,e,c,d⟩:=id y9;exact⟨u,rfl,Fz (s:={ s with heap:=h' }) e c d (by decide) ⟨x,H,I1,ru,⟨rfl,λys hy=>by rw[I.zJ hy hq];exact hx⟩,y9,λb hb=>(hf b hb).1⟩⟩
 done:=by
  intro X hP hw hK hc i pins s σ H E I hf st hg;subst hP hw hK;obtain⟨xs,hq,hx⟩:=hg;obtain⟨its,rv,p,hz⟩:=I.tuple hq;obtain⟨f0,f1,f2,f3,f4,f5⟩:=hf it (by simp)
  have hl:=rv.length;exact wpAny_pyNext_tuple_end (I.ok.hd hc) st (show s.heap.IsTuple a its.toArray from p) (by simp;omega) λh' eb=>⟨rfl,I.turned (t':=s.toks) (λb o hb e=>eb b o hb e) f0 f1 f3 f4 f5⟩
 self:=λ_ _ _ _ _ st h=>wpAny_pyIter_tupleiter st h
theorem DV(it:aL)(lo:Int)(n:Nat):Turn P w K tg (Wu lo n) [it] it (λi h=>IsRangeIter h it (lo+(i:Nat)*1) ((n:Int)-(i:Nat)) 1) where
 mem:=by simp
 obj:=λi h st b hb=>by
  have e:b=it:=by simpa using hb
  subst e;exact⟨_,st,λv z=>by
   have z':Data.fields _=Data.cell v:=z;cases z'⟩
 keep:=λi h h' st k=>k it (by simp) _ st
 item:=by
  intro X hP hw hK hc i pins s σ H E I hf st hg;subst hP hw hK;obtain⟨f0,f1,f2,f3,f4,f5⟩:=hf it (by simp)
  have W:=Walks.range (prog:=X.prog) (w:=X.w) (I.ok.hd hc) it lo 1 n;refine W.item i s _ _ hg st λv h' tk hv y9 kk=>?_
  obtain⟨t,rfl⟩:=hv;have I1:Inv X pins σ H { s with heap:=h',toks:=tk }:=I.turned (λb o hb e=>kk b o (by simpa using hb) e) f0 f1 f3 f4 f5
  refine⟨_,rfl,Fz (s:={ s with heap:=h',toks:=tk }) (n:="range_iterator") y9 rfl rfl (by decide) ⟨.int (lo+i),H,I1,⟨t,?_⟩,⟨rfl,rfl⟩,y9,λb hb=>(hf b hb).1⟩⟩
  rw[Int.mul_one]
 done:=by
  intro X hP hw hK hc i pins s σ H E I hf st hg;subst hP hw hK;obtain⟨f0,f1,f2,f3,f4,f5⟩:=hf it (by simp)
  exact wpAny_pyNext_range_end (I.ok.hd hc) st (by have:n<=i:=hg;omega) λh' eb=>⟨rfl,I.turned (t':=s.toks) (λb o hb e=>eb b o hb e) f0 f1 f3 f4 f5⟩
 self:=λ_ _ _ _ _ st h=>wpAny_pyIter_rangeiter st h
section
variable{X:Cx}{tg:cj}
def RN(K:ao)(tl:TE):TI:=λσ H R=>tl σ H λx H1=>∃a,x=.ref a/\(∃xs,lg K H1 a xs)/\R (Zz K a) H1
def Wv(K:ao)(tl:TE):TI:=λσ H R=>tl σ H λx H1=>∃a,x=.ref a/\(∃xs,qp K H1 a xs)/\R (ZC K a) H1
theorem K9{l:cj}{tl:TE}(hl:PE X l tl):PI X tg l (RN X.K tl):=by
 intro pins s σ H R I h;refine fS (hl pins s σ H _ I h) λv s1 ⟨x,H1,I1,r1,q1⟩=>?_
 obtain⟨a,e,⟨xs,hq⟩,q⟩:=q1;subst e;cases r1;obtain⟨its,rv,p,hz⟩:=I1.list hq;refine qD p.isList ?_
 refine⟨s1.heap.objs.size,[s1.heap.objs.size],_,_,H1,rfl,I1.kept (t':=s1.toks) λb o e=>aA _ e,GH a _,⟨_,bD _ rfl,rfl,rfl⟩,λb hb=>?_,q⟩
 have e:b=s1.heap.objs.size:=by simpa using hb
 subst e;exact I1.y8 (aD _) (I1.hok.fresh (aD _))
theorem OX{l:cj}{tl:TE}(hl:PE X l tl):PI X tg l (Wv X.K tl):=by
 intro pins s σ H R I h;refine fS (hl pins s σ H _ I h) λv s1 ⟨x,H1,I1,r1,q1⟩=>?_
 obtain⟨a,e,⟨xs,hq⟩,q⟩:=q1;subst e;cases r1;obtain⟨its,rv,p,hz⟩:=I1.tuple hq;refine w8 (show s1.heap.IsTuple a its.toArray from p) ?_
 refine⟨s1.heap.objs.size,[s1.heap.objs.size],_,_,H1,rfl,I1.kept (t':=s1.toks) λb o e=>aA _ e,DU a _,⟨_,bD _ rfl,rfl,rfl⟩,λb hb=>?_,q⟩
 have e:b=s1.heap.objs.size:=by simpa using hb
 subst e;exact I1.y8 (aD _) (I1.hok.fresh (aD _))
theorem Iz{R:It->Hp->Prop}{lo hi:Int}{t u v:Tok}{tk:Nat}(I:Inv X pins σ H s)(h1:-(2^62)<=lo)(h2:lo<2^62)(h3:-(2^62)<=hi)(h4:hi<2^62)
  (q:R (Wu lo (hi-lo).toNat) H):wpAny (model X.prog X.w) X.A (pyIter (.ref s.heap.objs.size)) (Wt X pins σ tg R) E { s with heap:=s.heap.push { cls:=.type "range",data:=.fields #[.int lo t,.int hi u,.int 1 v] },toks:=tk }:=by
 refine wpAny_pyIter_range (IsRange.new ..) (small_one h1 h2 h3 h4) ?_
 have I1:Inv X pins σ H { s with heap:=s.heap.push { cls:=.type "range",data:=.fields #[.int lo t,.int hi u,.int 1 v] },toks:=tk }:=I.kept λb o e=>aA _ e
 refine⟨(s.heap.push { cls:=.type "range",data:=.fields #[.int lo t,.int hi u,.int 1 v] }).objs.size,[(s.heap.push { cls:=.type "range",data:=.fields #[.int lo t,.int hi u,.int 1 v] }).objs.size],_,_,H,rfl,
  I1.kept (t':=tk) λb o e=>aA _ e,DV _ lo (hi-lo).toNat,?_,λb hb=>?_,q⟩
 ·have e1:lo+((0:Nat):Int)*1=lo:=by simp
  have e2:(((hi-lo).toNat:Nat):Int)-((0:Nat):Int)=oO.Range.rangeSize lo hi 1:=by rw[rangeSize_one];split<;>omega
  show IsRangeIter _ _ (lo+((0:Nat):Int)*1) ((((hi-lo).toNat:Nat):Int)-((0:Nat):Int)) 1;rw[e1,e2];exact bD _ rfl
 ·have e:b=(s.heap.push { cls:=.type "range",data:=.fields #[.int lo t,.int hi u,.int 1 v] }).objs.size:=by simpa using hb
  subst e;exact I1.y8 (aD _) (I1.hok.fresh (aD _))
def RP(ta:TA):TI:=λσ H R=>ta σ H λvs H1=>∃j:Int,vs=[.int j]/\-(2^62)<=j/\j<2^62/\R (Wu 0 j.toNat) H1
theorem GJ{a:cj}{ta:TA}{p pos:Pos}(hg:Gl X "range")(hm:X.mg "range"=none)(ha:PA X [a] ta)(hs:starEach [a] X.env=[(false,eval a X.env)]:=by rfl):PI X tg (.Call (.Name "range" p) [a] [] pos) (RP ta):=by
 intro pins s σ H R I h;refine Call_ (vb I hg hm boot_range (iR (fS (ha pos pins s σ H _ I h) λus s1 ⟨vs,H1,I1,r1,q1⟩=>?_) hs rfl))
 obtain⟨j,e,q1,q2,q⟩:=q1;subst e;cases r1 with
 |cons r rr=>
  cases rr;obtain⟨t,rfl⟩:=r;exact call_range_1 (Iz I1 (by omega) (by omega) q1 q2 (by simpa using q))
def Ww(wi:TI)(g:TG)(tb:TS):TS:=λD σ H=>wi σ H λJ H1=>∃W:Nat->Nat->St->Hp->Prop,(∃m,W 0 m σ H1)/\∀i m σ H,W i m σ H->
 (J.stop i H/\D.nx σ H)\/(J.go i H/\∃N:St->Hp->Prop,(∀σ' H',N σ' H'->∃m',m'<m/\W (i+1) m' σ' H')/\∀x H',J.RM i H x H'->g x σ H' λσ2 H2=>tb { D with nx:=N,ct:=N,bk:=D.nx } σ2 H2)
def xu(fp:List aL)(h:c6):List (aL×Obj):=fp.filterMap λb=>(h.get? b).map λo=>(b,o)
theorem pK{b:aL}(hb:b∈fp)(e:h.get? b=some o):(b,o)∈xu fp h:=ku.mpr ⟨b,hb,by rw[e];rfl⟩
theorem GK{p:aL×Obj}(hp:p∈xu fp h):p.1∈fp/\h.get? p.1=some p.2:=by
 obtain⟨b,hb,e⟩:=ku.mp hp;cases q:h.get? b with
 |none=>rw[q]at e;cases e
 |some o=>
  rw[q]at e;have e':(b,o)=p:=di e;subst e';exact⟨hb,q⟩
theorem Inv.pinned(I:Inv X pins σ H s)(hf:∀b∈fp,uj X pins H b)(ho:∀b∈fp,∃o,s.heap.get? b=some o/\∀v,o.data≠.cell v):Inv X (pins++xu fp s.heap) σ H s:=
 I.Fw λp hp=>(bX.mp hp).elim (λz=>I.pin p (cJ _ z)) λz=>by
  obtain⟨hb,e⟩:=GK z;obtain⟨f0,f1,f2,_⟩:=hf p.1 hb;obtain⟨o,e',d⟩:=ho p.1 hb;rw[e]at e';cases e';exact⟨e,f0,f1,f2,d⟩
theorem Inv.qV{pl: List (aL×Obj)}(I:Inv X (pins++pl) σ H s):Inv X pins σ H s:=I.Fw λp hp=>I.pin p (cJ _ (fe _ hp))
theorem A3{iter:cj}{wi:TI}{g:TG}{tb:TS}{pos:Pos}(hp:AH (model X.prog X.w) X.A X.env X.xe)(hc:X.calm=true)(hi:PI X tg iter wi)(hg:PG X tg g)(hb:Fx X body tb)
  (hs:∀x,foldedSetIterable iter X.env x=pure x:=by intro _;rfl):PS X (.For tg iter body [] pos) (Ww wi g tb):=by
 intro pins s σ H D I h;refine wpAny_For (fS (hi pins s σ H _ I h) λv s1 h1=>fS h1 λU1 s2 h2=>?_) hs
 obtain⟨it,fp,tn,J,H2,e,I2,T,RQ,f2,W,⟨m0,w0⟩,turn⟩:=h2;subst e;have stat:∀{H':Hp},(∀b∈fp,H' b=none)->∀b∈fp,uj X pins H' b:=λhn b hb=>⟨hn b hb,(f2 b hb).2⟩
 refine codeAny_forLoop_any (λn s'=>∃i σ' H',Inv X pins σ' H' s'/\tn i s'.heap/\(∀b∈fp,H' b=none)/\W i n σ' H') ?_ m0 ⟨0,σ,H2,I2,RQ,λb hb=>(f2 b hb).1,w0⟩
 rintro n s3 ⟨i,σ3,H3,I3,ZD,U2,w3⟩
 rcases turn i n σ3 H3 w3 with⟨stop,qn⟩|⟨go,N,hN,step⟩
 ·refine oo hp (fS (T.done X rfl rfl rfl hc i pins s3 σ3 H3 X.xe I3 (stat U2) ZD stop) λr s4 ⟨hr,I4⟩=>?_)
  subst hr;exact B5 ⟨σ3,H3,I4,qn⟩
 ·refine oo hp (fS (T.item X rfl rfl rfl hc i pins s3 σ3 H3 X.xe I3 (stat U2) ZD go) λr s4 ⟨u,hr,h4⟩=>?_)
  subst hr;refine oo hp (fS h4 λ_ s5 ⟨x,H5,I5,r5,y5,Wx,fr5⟩=>?_)
  have I5':=I5.pinned (stat fr5) (T.obj _ _ Wx);refine oo hp (fS (hg _ s5 σ3 H5 x u _ I5' r5 (step x H5 y5)) λ_ s6 ⟨σ6,H6,I6,q6⟩=>?_)
  refine oo hp (fS (hb _ s6 σ6 H6 _ I6 q6) λf s7 q7=>?_)
  have again:∀{σ7:St}{H7:Hp},Inv X (pins++xu fp s5.heap) σ7 H7 s7->N σ7 H7->∃m,m<n/\∃i σ' H',Inv X pins σ' H' s7/\tn i s7.heap/\(∀b∈fp,H' b=none)/\W i m σ' H':=λ{σ7 H7}I7 n7=>by
   obtain⟨m',hm,w7⟩:=hN σ7 H7 n7;refine⟨m',hm,i+1,σ7,H7,I7.qV,T.keep _ _ _ Wx λb hb o e=>(I7.pin (b,o) (cJ _ (cJ _ (pK hb e)))).1,λb hb=>?_,w7⟩
   obtain⟨o,e,d⟩:=T.obj _ _ Wx b hb;exact(I7.pin (b,o) (cJ _ (cJ _ (pK hb e)))).2.1
  cases f with
  |next=>obtain⟨σ7,H7,I7,n7⟩:=q7;exact again I7 n7
  |cont=>obtain⟨σ7,H7,I7,n7⟩:=q7;exact again I7 n7
  |brk=>obtain⟨σ7,H7,I7,q7⟩:=q7;exact⟨σ7,H7,I7.qV,q7⟩
  |ret v=>obtain⟨x7,σ7,H7,I7,r7,q7⟩:=q7;exact⟨x7,σ7,H7,I7.qV,r7,q7⟩
end
abbrev R2:=V->V->Hp->VK->Prop
variable{r:R2}
def rP(X:Cx)(f:ay->ay->Sem ay)(r:R2):Prop:=
 ∀(pins:List (aL×Obj))(s:aK)(σ:St)(H:Hp)(x y:V)(v u:ay)(Q:VK),Inv X pins σ H s->RelV x v->RelV y u->r x y H Q->
  wpAny (model X.prog X.w) X.A (f v u) (EP X pins σ Q) X.xe s
def jM(X:Cx)(f:ay)(r:List V->Hp->VK->Prop):Prop:=
 ∀(pins:List (aL×Obj))(s:aK)(σ:St)(H:Hp)(xs:List V)(us:List ay)(Q:VK),Inv X pins σ H s->ez xs us->r xs H Q->
  wpAny (model X.prog X.w) X.A (call f us) (EP X pins σ Q) X.xe s
def Wy(X:Cx)(r:V->Hp->(Bool->Hp->Prop)->Prop):Prop:=
 ∀(pins:List (aL×Obj))(s:aK)(σ:St)(H:Hp)(x:V)(v:ay)(Q:Bool->Hp->Prop),Inv X pins σ H s->RelV x v->r x H Q->
  wpAny (model X.prog X.w) X.A (truthy v) (TP X pins σ Q) X.xe s
def RT(r:R2)(ta tb:TE):TE:=λσ H Q=>ta σ H λx H1=>tb σ H1 λy H2=>r x y H2 Q
def rI(C:Int->Int->Prop)(g:Int->Int->V):R2:=λx y H Q=>∃i j,x=.int i/\y=.int j/\C i j/\Q (g i j) H
def KS(g:Int->Int->V):R2:=λx y H Q=>∃i j,x=.int i/\y=.int j/\Q (g i j) H
section
variable{X:Cx}{a b c:cj}{ta tb tc:TE}{pos:Pos}
theorem OY(ha:PE X a ta)(hb:PE X b tb)(I:Inv X pins σ H s)
  (h:ta σ H λx H1=>tb σ H1 λy H2=>R x y H2)
  (hf:∀v u s2 x y H2,Inv X pins σ H2 s2->RelV x v->RelV y u->R x y H2->wpAny (model X.prog X.w) X.A (f v u) Q X.xe s2):
  wpAny (model X.prog X.w) X.A (eval a X.env) (λv s₁=>wpAny (model X.prog X.w) X.A (eval b X.env) (λu s₂=>wpAny (model X.prog X.w) X.A (f v u) Q X.xe s₂) X.xe s₁) X.xe s:=by
 refine fS (ha pins s σ H _ I h) λv s1 ⟨x,H1,I1,r1,q1⟩=>?_
 refine fS (hb pins s1 σ H1 _ I1 q1) λu s2 ⟨y,H2,I2,r2,q2⟩=>?_
 exact hf v u s2 x y H2 I2 r1 r2 q2
theorem B9{op:Operator}(ho:rP X (binaryOp op) r)(ha:PE X a ta)(hb:PE X b tb):PE X (.BinOp a op b pos) (RT r ta tb):=by
 intro pins s σ H Q I h;exact wpAny_BinOp (OY ha hb I h λv u s2 x y H2 I2 rx ry q=>ho pins s2 σ H2 x y v u Q I2 rx ry q)
theorem Wz{C:Int->Int->Prop}
  (rule:∀(i j:Int)(t u:Tok)(s:aK)(Q:ay->aK->Prop)(E:ay->aK->Prop),C i j->Q (.int (g i j) s.toks) { s with toks:=s.toks+1 }->wpAny (model X.prog X.w) X.A (f (.int i t) (.int j u)) Q E s):
  rP X f (rI C λi j=>.int (g i j)):=by
 intro pins s σ H x y v u Q I rx ry h;obtain⟨i,j,rfl,rfl,hc,q⟩:=h;obtain⟨t,rfl⟩:=rx;obtain⟨t',rfl⟩:=ry;exact rule i j t t' s _ _ hc ⟨.int (g i j),H,I.tok _,⟨_,rfl⟩,q⟩
theorem RV
  (rule:∀(i j:Int)(t u:Tok)(s:aK)(Q:ay->aK->Prop)(E:ay->aK->Prop),Q (.int (g i j) s.toks) { s with toks:=s.toks+1 }->wpAny (model X.prog X.w) X.A (f (.int i t) (.int j u)) Q E s):
  rP X f (KS λi j=>.int (g i j)):=by
 intro pins s σ H x y v u Q I rx ry h;obtain⟨i,j,rfl,rfl,q⟩:=h;obtain⟨t,rfl⟩:=rx;obtain⟨t',rfl⟩:=ry;exact rule i j t t' s _ _ ⟨.int (g i j),H,I.tok _,⟨_,rfl⟩,q⟩
theorem K_{g:Int->Int->Bool}
  (rule:∀(i j:Int)(t u:Tok)(s:aK)(Q:ay->aK->Prop)(E:ay->aK->Prop),Q (.bool (g i j)) s->wpAny (model X.prog X.w) X.A (f (.int i t) (.int j u)) Q E s):
  rP X f (KS λi j=>.bl (g i j)):=by
 intro pins s σ H x y v u Q I rx ry h;obtain⟨i,j,rfl,rfl,q⟩:=h;obtain⟨t,rfl⟩:=rx;obtain⟨t',rfl⟩:=ry;exact rule i j t t' s _ _ ⟨.bl (g i j),H,I,rfl,q⟩
def OZ(i j:Int):Prop:=0<j/\j<1073741824
def La(i j:Int):Prop:=(-(2^64)<i/\i<2^64)\/(-(2^64)<j/\j<2^64)
theorem La.ok{i j:Int}(h:La i j):IntMulOk i j:=by
 rcases h with⟨h1,h2⟩|⟨h1,h2⟩
 ·exact .of_left (intBits_le_64 h1 h2)
 ·exact .of_right (intBits_le_64 h1 h2)
theorem O1:rP X (binaryOp .Add) (KS λi j=>.int (i+j)):=RV λ_ _ _ _ _ _ _ q=>add_int q
theorem O2:rP X (binaryOp .Sub) (KS λi j=>.int (i-j)):=RV λ_ _ _ _ _ _ _ q=>sub_int q
theorem O4:rP X (binaryOp .Mult) (rI La λi j=>.int (i*j)):=Wz λ_ _ _ _ _ _ _ hc q=>mul_int q hc.ok
theorem FC:rP X (binaryOp .FloorDiv) (rI OZ λi j=>.int (i/j)):=Wz λi j _ _ _ _ _ hc q=>by
 have h1:(0:Int)<j:=hc.1;have h2:j<1073741824:=hc.2;exact floordiv_int (by omega) (by rw[Int.fdiv_eq_ediv_of_nonneg i (by omega)];exact q) (.inl (PyProof.noPylong_small (by omega)))
theorem O5:rP X (binaryOp .Mod) (rI (λ_ j=>0<j) λi j=>.int (i%j)):=Wz λi j _ _ _ _ _ hc q=>by
 have h1:(0:Int)<j:=hc;exact mod_int' (by omega) (by rw[Int.fmod_eq_emod_of_nonneg i (by omega)];exact q)
end
section
variable{X:Cx}{a b c:cj}{ta tb tc:TE}{pos:Pos}
theorem IA{Q:VK}{k k':Bool}(I:Inv X pins σ H s)(q:Q (.bl k) H)(e:k=k'):EP X pins σ Q (.bool k') s:=by
 subst e;exact⟨.bl k,H,I,rfl,q⟩
theorem RW:rP X (compareOp .Lt) (KS λi j=>.bl (decide (i<j))):=K_ λ_ _ _ _ _ _ _ q=>lt_int q
theorem zN:rP X (compareOp .LtE) (KS λi j=>.bl (decide (i<=j))):=K_ λ_ _ _ _ _ _ _ q=>le_int q
theorem Nz:rP X (compareOp .Gt) (KS λi j=>.bl (decide (j<i))):=K_ λ_ _ _ _ _ _ _ q=>gt_int q
theorem RX:rP X (compareOp .GtE) (KS λi j=>.bl (decide (j<=i))):=K_ λ_ _ _ _ _ _ _ q=>ge_int q
theorem GL:rP X (compareOp .In) (λx y H Q=>∃i j,x=.str i/\y=.str j/\Q (.bl (!(oO.Str.occurrences j i 0 j.length 1).isEmpty)) H):=by
 intro pins s σ H x y v u Q I rx ry h;obtain⟨i,j,rfl,rfl,q⟩:=h;obtain⟨t,rfl⟩:=rx;obtain⟨t',rfl⟩:=ry;exact in_str (IA I q rfl)
theorem iK:rP X (compareOp .Is) (λx y H Q=>y=.non/\Q (.bl (decide (x=.non))) H):=by
 intro pins s σ H x y v u Q I rx ry h;obtain⟨rfl,q⟩:=h;cases ry;refine is_none_gen (IA I q ?_)
 cases x<;>first
  |(cases rx;rfl)
  |(obtain⟨t,rfl⟩:=rx;rfl)
theorem fE(b:cj){op:DH}(h:op≠.In:=by decide)(h2:op≠.NotIn:=by decide):behindInMarks op b=false:=by
 have e1:(op==DH.In)=false:=by cases op<;>first|rfl|exact qQ7 rfl h
 have e2:(op==DH.NotIn)=false:=by cases op<;>first|rfl|exact qQ7 rfl h2
 cases b<;>simp[behindInMarks,e1,e2]
theorem Lb{op:DH}(ho:rP X (compareOp op) r)(ha:PE X a ta)(hb:PE X b tb)(hm:behindInMarks op b=false):PE X (.Compare a [op] [b] pos) (RT r ta tb):=by
 intro pins s σ H Q I h;exact wpAny_Compare1 (OY ha hb I h λv u s2 x y H2 I2 rx ry q=>ho pins s2 σ H2 x y v u Q I2 rx ry q) hm
def RZ(t:TE):TT:=λσ H Q=>t σ H λx H'=>∃k,x=.bl k/\Q k H'
theorem Lc{op:DH}(ho:rP X (compareOp op) r)(ha:PE X a ta)(hb:PE X b tb)(hm:behindInMarks op b=false):PT X (.Compare a [op] [b] pos) (RZ (RT r ta tb)):=by
 intro pins s σ H Q I h;refine wpAny_isTrue_Compare1 (fS (ha pins s σ H _ I h) λv s1 ⟨x,H1,I1,r1,q1⟩=>fS (hb pins s1 σ H1 _ I1 q1) λu s2 ⟨y,H2,I2,r2,q2⟩=>
  fS (ho pins s2 σ H2 x y v u _ I2 r1 r2 q2) λc s3 ⟨z,H3,I3,r3,k,e,q3⟩=>?_) hm
 subst e;cases r3;exact eZ ⟨H3,I3,q3⟩
def O6(r r':R2)(ta tb tc:TE):TE:=λσ H Q=>ta σ H λx H1=>tb σ H1 λy H2=>r x y H2 λz H3=>∃k,z=.bl k/\
 (if k=true then tc σ H3 λw' H4=>r' y w' H4 Q else Q (.bl false) H3)
theorem B_{op op':DH}{r': R2}(ho:rP X (compareOp op) r)(Fu:rP X (compareOp op') r')(ha:PE X a ta)(hb:PE X b tb)(hc:PE X c tc)
  (hm:lastMarks [op,op'] [b,c]=false:=by with_unfolding_all rfl):PE X (.Compare a [op,op'] [b,c] pos) (O6 r r' ta tb tc):=by
 intro pins s σ H Q I h;refine Compare_chain (fS (ha pins s σ H _ I h) λv s1 ⟨x,H1,I1,r1,q1⟩=>chain_link (fS (hb pins s1 σ H1 _ I1 q1) λu s2 ⟨y,H2,I2,r2,q2⟩=>
  fS (ho pins s2 σ H2 x y v u _ I2 r1 r2 q2) λd s3 ⟨z,H3,I3,r3,k,e,q3⟩=>?_)) hm
 subst e;cases r3;refine eZ ?_
 cases k with
 |false=>exact ite_ff ⟨.bl false,H3,I3,rfl,q3⟩
 |true=>exact ite_tt (chain_last (fS (hc pins s3 σ H3 _ I3 q3) λw' s4 ⟨z',H4,I4,r4,q4⟩=>Fu pins s4 σ H4 y z' u w' Q I4 r2 r4 q4))
def R0(K:ao)(x:V)(H:Hp)(k:Bool):Prop:=
 match x with
 | .non=>k=false
 | .bl b=>k=b
 | .int i=>k=(i != 0)
 | .str y=>y.length<=sizeLine/\k=((y.length:Int) != 0)
 | .QV y=>y.size<=sizeLine/\k=((y.size:Int) != 0)
 | .ref p=>(∃xs,lg K H p xs/\k=!xs.isEmpty)\/(∃xs,qp K H p xs/\k=!xs.isEmpty)\/∃kvs,H p=some (.dK kvs)/\k=!kvs.isEmpty
 |_=>False
theorem DW{κ:Type}{kvs:List (κ×V)}{vs:List (κ×ay)}(r:KV kvs vs):(!vs.isEmpty)=!kvs.isEmpty:=by
 cases r<;>rfl
theorem xx{its:List ay}(r:ez xs its):(!its.toArray.isEmpty)=!xs.isEmpty:=by
 cases r<;>simp
theorem sZ:(sizeLine:Nat)<2^63:=by rw[cL];decide
theorem O7:Wy X (λx H Q=>∃k,R0 X.K x H k/\Q k H):=by
 intro pins s σ H x v Q I rx h;obtain⟨k,e,q⟩:=h;have hl:=sZ;have hs:sizeLine=16777216:=cL;cases x with
 |non=>
  cases rx;have e':k=false:=e;subst e';exact truthy_none ⟨H,I,q⟩
 |bl b=>
  cases rx;have e':k=b:=e;subst e';exact eZ ⟨H,I,q⟩
 |int i=>
  obtain⟨t,rfl⟩:=rx;have e':k=(i != 0):=e;subst e';exact PySem.P.truthy_int ⟨H,I,q⟩
 |str y=>
  obtain⟨t,rfl⟩:=rx;obtain⟨hy,e'⟩:y.length<=sizeLine/\k=((y.length:Int) != 0):=e;subst e';exact PySem.P.truthy_str (by omega) ⟨H,I.tok _,q⟩
 |QV y=>
  obtain⟨t,rfl⟩:=rx;obtain⟨hy,e'⟩:y.size<=sizeLine/\k=((y.size:Int) != 0):=e;subst e';exact PySem.W.truthy_bytes (by omega) ⟨H,I.tok _,q⟩
 |ref p=>
  cases rx;have e':(∃xs,lg X.K H p xs/\k=!xs.isEmpty)\/(∃xs,qp X.K H p xs/\k=!xs.isEmpty)\/∃kvs,H p=some (.dK kvs)/\k=!kvs.isEmpty:=e;rcases e' with⟨xs,hx,e'⟩|⟨xs,hx,e'⟩|⟨kvs,hx,e'⟩
  ·subst e'
   obtain⟨its,r,pl,hz⟩:=I.list hx;have hlen:=r.length;exact wpAny_truthy_list pl.isList (by simp only[bp];omega) ⟨H,I.tok _,by rw[xx r];exact q⟩
  ·subst e'
   obtain⟨its,r,pl,hz⟩:=I.tuple hx;have hlen:=r.length;exact truthy_tuple pl (by simp only[bp];omega) ⟨H,I.tok _,by rw[xx r];exact q⟩
  ·subst e'
   obtain⟨hz,hS,vs,r,m⟩:kvs.length<=sizeLine/\(p==sysModules)=false/\∃vs,KV kvs vs/\s.heap.DictOf (fq X.prog X.w) p vs:=I.hok p _ hx;have hlen:kvs.length=vs.length:=sW r;exact wpAny_truthy_dict hS m (by omega) ⟨H,I.tok _,by rw[DW r];exact q⟩
 |_=>exact(show False from e).elim
theorem IB(ha:PE X a ta)(he:∀whole,isTrue a X.env whole=(do let v <-whole;standAt a.pos;holding [v] (truthy v))):
  PT X a (λσ H Q=>ta σ H λx H'=>∃k,R0 X.K x H' k/\Q k H'):=by
 intro pins s σ H Q I h;exact isTrue_plain (fS (ha pins s σ H _ I h) λv s1 ⟨x,H1,I1,r1,q1⟩=>O7 pins s1 σ H1 x v Q I1 r1 q1) (he _)
theorem DX:rP X (binaryOp .Add) (λx y H Q=>∃i j,x=.str i/\y=.str j/\i.length+j.length<=sizeLine/\Q (.str (i++j)) H):=by
 intro pins s σ H x y v u Q I rx ry h;obtain⟨i,j,rfl,rfl,hz,q⟩:=h;obtain⟨t,rfl⟩:=rx;obtain⟨t',rfl⟩:=ry;exact add_str (λt' tk=>⟨.str (i++j),H,I.tok _,⟨_,rfl⟩,q⟩) hz
theorem vals1{x:V}(r:ez [x] us):∃u,us=[u]/\RelV x u:=by
 cases r with
 |cons r1 r2=>cases r2;exact⟨_,rfl,r1⟩
theorem vals2{x y:V}(r:ez [x,y] us):∃u w',us=[u,w']/\RelV x u/\RelV y w':=by
 cases r with
 |cons r1 r2=>
  cases r2 with
  |cons r3 r4=>cases r4;exact⟨_,_,rfl,r1,r3⟩
theorem GN(hc:X.calm=true):jM X (.builtin "min") (λxs H Q=>∃i j,xs=[.int i,.int j]/\Q (.int (if j<i then j else i)) H):=by
 intro pins s σ H xs us Q I r h;obtain⟨i,j,rfl,q⟩:=h;obtain⟨u,w',rfl,⟨t,rfl⟩,⟨t',rfl⟩⟩:=vals2 r;refine min_two_ints (I.ok.hd hc) λh' tk k=>⟨_,H,I.kept k,?_,q⟩
 by_cases hj:j<i
 ·rw[qQ3 hj,qQ3 hj];exact⟨_,rfl⟩
 ·rw[qQ2 hj,qQ2 hj];exact⟨_,rfl⟩
theorem A4:jM X (.type "str") (λxs H Q=>∃i,xs=[.int i]/\i.natAbs.log2<1920/\Q (.str (toString i)) H):=by
 intro pins s σ H xs us Q I r h;obtain⟨i,rfl,hz,q⟩:=h;obtain⟨u,rfl,t,rfl⟩:=vals1 r;exact PySem.P.str_of_int hz ⟨.str _,H,I.tok _,⟨_,rfl⟩,q⟩
end
structure GO(h:c6)(x dx C:aL)(mA:Str->Option ay):Prop where
 obj:h.get? x=some (h_ C dx)
 ns:h.Ns1 dx mA
 ne:dx≠x
theorem vd{dx:aL}(n:h.Ns1 dx mA):∃od,h.get? dx=some od/\∀name,qG name od=some (mA name):=by
 obtain⟨o,es,ep,ho,hd,hk,_,hm⟩:=n;refine⟨o,ho,λname=>?_⟩
 have e:=hm name;unfold nsFind findBy at e;rw[<-Array.find?_toList]at e
 unfold qG;rw[hd]
 dsimp only
 split
 ·rename_i y q
  rw[q]at e;exact qQ6 some e
 ·rename_i q
  rw[q]at e;have a:es.toList.any (·.refKey)=false:=by
   rw[List.any_eq_false];intro y hy;obtain⟨z,t,WB⟩:=hk y (Array.mem_toList_iff.mp hy);simp[AV.refKey,WB]
  have a':¬es.toList.any (·.refKey)=true:=by rw[a];exact cF
  rw[qQ2 a'];exact qQ6 some e
theorem GO.look{x dx: aL}(I:GO h x dx C mA):∃od,mP h x (h_ C dx) C (some od)/\∀name,qG name od=some (mA name):=
 let⟨od,ho,hl⟩:=vd I.ns
 ⟨od,⟨I.obj,rfl,rfl,ho⟩,hl⟩
section
variable{prog:bC}{w:cw}{A:dJ}{E:ay->aK->Prop}{s:aK}{K:ao}{x dx C f:aL}{mA:Str->Option ay}{name:Str}{v:ay}
theorem get_map{expr:Bool}(X:K.In s.heap)(I:GO s.heap x dx C mA)(hg:oN K C name=true)(hh:gq K C=true)
  (ha:bY K (.ref C) name=some none)(hv:mA name=some v)(Ld:PySem.W.handedIn v=true)(h:Q v { s with toks:=s.toks+1 }):
  wpAny (model prog w) A (getAttr (.ref x) name expr) Q E s:=by
 obtain⟨od,J,hl⟩:=I.look;exact PySem.W.get_value X J (PySem.W.plainGet_of hg).1 (Dy hh ha rfl (by rw[hl,hv])) Ld h
theorem Le{ns:List Str}{Q:Unit->aK->Prop}(X:K.In s.heap)(I:GO s.heap x dx C mA)
  (hs:bY K (.ref C) "__setattr__"=some (some (.builtin "object.__setattr__")))(hp:ua K C=true)(ht:jR K C name=some none)(hh:gq K C=true)
  (hw:kW mA ns)(hsz:ns.length<=sizeLine)
  (h:∀h',GO h' x dx C (λy=>if y=name then some v else mA y)->jG dx s.heap h'->Q () { s with heap:=h',toks:=s.toks+2 }):
  wpAny (model prog w) A (setAttr (.ref x) name v) Q E s:=by
 obtain⟨od,J,hl⟩:=I.look;refine ub X J hs (PySem.W.osa_open (s:={ s with toks:=s.toks+1 }) (r:=none) X J hp ht λb=>?_)
 obtain⟨cd,hc,K7⟩:=u0 hh;have hx:s.heap.get? x=some ⟨.ref C,some dx,.plain,#[]⟩:=I.obj;refine au (aY (au (au (u5 hx (au (fw (s:={ s with toks:=s.toks+1 }) (mq X hc) ?_))))))
 rw[K7];refine aY (a:=some dx) (au (aY (au ?_)))
 refine wpAny_nsSet1 (s:={ s with toks:=s.toks+1 }) I.ns λh' Ca qt=>?_
 obtain⟨oD,ZE,ZF,R1,R3,GP⟩:=Ca.count (mE name v hw);refine au (AI R1 (by rw[R3];exact AJ (bZ GP (by rw[a9];omega))) ?_)
 exact aY (h _ ⟨(qt.2 _ (bM I.ne)).trans I.obj,Ca,I.ne⟩ qt)
theorem IC{R:sX->aK->Prop}{vs:List ay}(X:K.In s.heap)(hm:wm K C=true)
  (hi:bY K (.ref C) "__init__"=some (some (.ref f)))(hf:w_ K (.ref f)=some (.type "function"))
  (h:codeAny (model prog w) (A.under (.builtin "type.__call__" ⟨.ref C::vs,kw⟩)) (.call (.ref f) ⟨.ref (s.heap.objs.size+1)::vs,kw⟩) (PySem.W.InitBack (s.heap.objs.size+1) R)
   { s with heap:=(s.heap.push fk).push (h_ C s.heap.objs.size) }) :
  codeAny (model prog w) A (.call (.ref C) ⟨vs,kw⟩) R s:=by
 obtain⟨hh,g,d,t,os⟩:=s;exact PySem.W.make_core (PySem.W.makes_of X hm) (qH X hi) (λself=>PySem.W.bind_fn X self hf) (.inl rfl) h
end
def kr(f:Str)(v:V):List (Str×V)->List (Str×V)
 | []=>[(f,v)]
 |(g,x)::r=>if g=f then(g,v)::r else(g,x)::kr f v r
theorem qW(f g:Str)(v:V):∀fs:List (Str×V),(kr f v fs).lookup g=if g=f then some v else fs.lookup g
 | []=>by
  show kB g [(f,v)]=_;by_cases h:g=f
  ·have hb:(g==f)=true:=beq_iff_eq.mpr h
   simp only[kB,hb,qQ3 h]
  ·have hb:(g==f)=false:=beq_eq_false_iff_ne.mpr h
   simp only[kB,hb,qQ2 h]
 |(k,x)::r=>by
  have ih:=qW f g v r;rw[show kr f v ((k,x)::r)=(if k=f then(k,v)::r else(k,x)::kr f v r)from rfl]
  by_cases hk:k=f
  ·rw[qQ3 hk]
   by_cases h:g=k
   ·have hb:(g==k)=true:=beq_iff_eq.mpr h
    simp only[kB,hb,qQ3 (h.trans hk)]
   ·have hb:(g==k)=false:=beq_eq_false_iff_ne.mpr h
    simp only[kB,hb,qQ2 (λe:g=f=>h (e.trans hk.symm))]
  ·rw[qQ2 hk]
   by_cases h:g=k
   ·have hb:(g==k)=true:=beq_iff_eq.mpr h
    simp only[kB,hb,qQ2 (λe:g=f=>hk (h.symm.trans e))]
   ·have hb:(g==k)=false:=beq_eq_false_iff_ne.mpr h
    simp only[kB,hb];exact ih
theorem oQ(f:Str)(v:V):∀fs:List (Str×V),f∈(kr f v fs).map (·.1)/\∀g,g∈fs.map (·.1)->g∈(kr f v fs).map (·.1)
 | []=>⟨by simp[kr],λg h=>by simp at h⟩
 |(k,x)::r=>by
  obtain⟨i1,i2⟩:=oQ f v r;rw[show kr f v ((k,x)::r)=(if k=f then(k,v)::r else(k,x)::kr f v r)from rfl]
  by_cases hk:k=f
  ·rw[qQ3 hk]
   subst hk;exact⟨by simp,λg h=>by simpa using h⟩
  ·rw[qQ2 hk]
   refine⟨?_,λg h=>?_⟩
   ·rw[aR]
    exact aU _ i1
   ·rw[aR]at h ⊢
    rcases aG.mp h with e|e
    ·exact aG.mpr (.inl e)
    ·exact aU _ (i2 g e)
theorem vN(f:Str)(v:V):∀fs:List (Str×V),(kr f v fs).length<=fs.length+1
 | []=>by simp[kr]
 |(k,x)::r=>by
  have ih:=vN f v r;rw[show kr f v ((k,x)::r)=(if k=f then(k,v)::r else(k,x)::kr f v r)from rfl]
  by_cases hk:k=f
  ·rw[qQ3 hk,a9,a9];omega
  ·rw[qQ2 hk,a9,a9];omega
theorem mW.some_of{v:V}{o:Option ay}(r:mW (some v) o):∃u,o=some u/\RelV v u:=by
 cases o with
 |none=>exact(show False from r).elim
 |some u=>exact⟨u,rfl,r⟩
theorem zO{v:V}(r:RelV v u):PySem.W.handedIn u=true:=by
 cases v with
 |non=>cases(show u=eE from r);rfl
 |bl b=>cases(show u=ay.bool b from r);rfl
 |int i=>obtain⟨t,e⟩:=(show ∃t,u=BU i t from r);cases e;rfl
 |str x=>obtain⟨t,e⟩:=(show ∃t,u=BV x t from r);cases e;rfl
 |QV b=>obtain⟨t,e⟩:=(show ∃t,u=ay.bytes b t from r);cases e;rfl
 |flt b=>obtain⟨t,e⟩:=(show ∃t,u=ay.float b t from r);cases e;rfl
 |ref a=>cases(show u=bf a from r);rfl
 |ty n=>cases(show u=lG n from r);rfl
section
variable{P:bC}{w:cw}{H H':Hp}{h h':c6}{a C dx:aL}{fs fs':List (Str×V)}
theorem FD(hok:qF P w H h)(e:H a=some (.ins C dx fs)):∃mA,GO h a dx C mA/\(∀f,mW (fs.lookup f) (mA f))/\kW mA (fs.map (·.1))/\fs.length<=1000/\H dx=some (.own a):=by
 obtain⟨d,z,ne,ob,mA,n,r,q⟩:=(show gS P w H h a (.ins C dx fs)from hok a _ e)
 exact⟨mA,⟨ob,n,ne⟩,r,q,z,d⟩
end
structure Cb(K:ao)(C:aL):Prop where
 pg:oN K C ei=true
 hd:gq K C=true
 po:ua K C=true
 sa:bY K (.ref C) "__setattr__"=some (some (.builtin "object.__setattr__"))
theorem Cb.get(c:Cb K C)(f:Str):oN K C f=true:=c.pg
def fK(K:ao)(C:aL)(f:Str):Prop:=bY K (.ref C) f=some none
theorem fK.taker{f:Str}(n:fK K C f):jR K C f=some none:=by
 unfold jR;rw[show bY K (.ref C) f=some none from n]
 rfl
section
variable{X:Cx}{pins:List (aL×Obj)}{σ:St}{H:Hp}{s:aK}{a C dx:aL}{fs:List (Str×V)}{f:Str}{v:V}{A:dJ}{E:ay->aK->Prop}
theorem DY{b:Bool}(I:Inv X pins σ H s)(e:H a=some (.ins C dx fs))(c:Cb X.K C)(n:fK X.K C f)(l:fs.lookup f=some v)
  (h:∀u s',Inv X pins σ H s'->RelV v u->Q u s'):wpAny (model X.prog X.w) A (getAttr (.ref a) f b) Q E s:=by
 obtain⟨mA,O,r,_,_,_⟩:=FD I.hok e;obtain⟨u,hu,ru⟩:=mW.some_of (v:=v) (o:=mA f) (by rw[<-l];exact r f)
 exact get_map I.sF O (c.get f) c.hd n hu (zO ru) (h u _ (I.tok _) ru)
theorem DZ{y:V}{Q:Unit->aK->Prop}(I:Inv X pins σ H s)(e:H a=some (.ins C dx fs))(c:Cb X.K C)(n:fK X.K C f)(hl:fs.length<1000)(ry:RelV y u)
  (h:∀s',Inv X pins σ (upd H a (.ins C dx (kr f y fs))) s'->Q () s'):wpAny (model X.prog X.w) A (setAttr (.ref a) f u) Q E s:=by
 obtain⟨mA,O,r,wi,_,ho⟩:=FD I.hok e;have hz:(fs.map (·.1)).length<=sizeLine:=by rw[aj,cL];omega
 refine Le I.sF O c.sa c.po n.taker c.hd wi hz λh' O' sb=>h _ ?_
 have hd:∃o,h'.get? dx=some o:=let⟨o,_,_,e',_⟩:=O'.ns;⟨o,e'⟩;refine I.write (x:=a) (e:=dx) (by rw[e];exact fz) (.inr ho) (λb q hb z=>(sb.2 b hb).trans z) hd ?_
 refine⟨by rw[aS O.ne];exact ho,?_,O.ne,O'.obj,_,O'.ns,λg=>?_,λg hg=>?_⟩
 ·have:=vN f y fs;omega
 ·show mW ((kr f y fs).lookup g) (if g=f then some u else mA g)
  rw[qW];by_cases q:g=f
  ·rw[qQ3 q,qQ3 q];exact ry
  ·rw[qQ2 q,qQ2 q];exact r g
 ·by_cases q:g=f
  ·rw[q];exact(oQ f y fs).1
  ·refine(oQ f y fs).2 g (wi g λz=>hg ?_)
   show(if g=f then some u else mA g)=none
   rw[qQ2 q];exact z
theorem Inv.made(I:Inv X pins σ H s):Inv X pins σ (upd (upd H s.heap.objs.size (.own (s.heap.objs.size+1))) (s.heap.objs.size+1) (.ins C s.heap.objs.size []))
  { s with heap:=(s.heap.push fk).push (h_ C s.heap.objs.size) }:=by
 have e1:(s.heap.push fk).get? s.heap.objs.size=some fk:=bD s.heap rfl;have e2:((s.heap.push fk).push (h_ C s.heap.objs.size)).get? (s.heap.objs.size+1)=some (h_ C s.heap.objs.size):=by
  have:=bD (s.heap.push fk) (o:=h_ C s.heap.objs.size) rfl
  rwa [fA]at this
 have e3:(s.heap.push fk).Ns s.heap.objs.size (λ_=>none):=⟨fk,#[],_,e1,rfl,(λe he=>qQ7 he (by simp)),λ_=>rfl⟩
 have I1:=I.laid (a:=s.heap.objs.size) (o:=.own (s.heap.objs.size+1)) (h':=s.heap.push fk) (t':=s.toks) (λb u q=>aA _ q) (aD _) ⟨_,e1⟩
 refine I1.laid (a:=s.heap.objs.size+1) (o:=.ins C s.heap.objs.size []) (t':=s.toks) (λb u q=>aA _ q) (Nat.le_of_eq (fA _ _)) ?_
 have ne:s.heap.objs.size≠s.heap.objs.size+1:=a_ (jK _);refine⟨by rw[aS ne,bK],bu _,ne,e2,λ_=>none,(DI e3).at λo q=>aA _ q,λ_=>fz,λy hy=>qQ7 rfl hy⟩
theorem FE{prog:bC}{env:Env}{f:Str}{pos:Pos}(hb:attributeBase e f env (eval e env)=eval e env)
  (h:wpAny (model prog w) A (eval e env) (λo s₁=>wpAny (model prog w) A (getAttr o f true) Q E s₁) E s):wpAny (model prog w) A (eval (.Attribute e f pos) env) Q E s:=
 Attribute_any_ h (by rw[arm_eval_Attribute,hb])
end
def WC(K:ao)(ta:TE)(f:Str):TE:=λσ H Q=>ta σ H λx H1=>∃a C dx fs v,x=.ref a/\H1 a=some (.ins C dx fs)/\Cb K C/\fK K C f/\fs.lookup f=some v/\Q v H1
def WD(K:ao)(ta tv:TE)(f:Str):TS:=λD σ H=>tv σ H λy H1=>ta σ H1 λx H2=>∃a C dx fs,x=.ref a/\H2 a=some (.ins C dx fs)/\Cb K C/\fK K C f/\fs.length<1000/\
 D.nx σ (upd H2 a (.ins C dx (kr f y fs)))
section
variable{X:Cx}{o e value:cj}{f:Str}{pos pos' WG:Pos}{ta tv:TE}
theorem xA(he:PE X e ta)(hb:attributeBase e f X.env (eval e X.env)=eval e X.env):PE X (.Attribute e f pos) (WC X.K ta f):=by
 intro pins s σ H Q I h;refine FE hb (fS (he pins s σ H _ I h) λu s1 ⟨x,H1,I1,rx,a,C,dx,fs,v,ex,ea,c,n,l,q⟩=>?_)
 subst ex;obtain rfl:u=bf a:=rx;exact DY I1 ea c n l λu' s2 I2 ru=>⟨v,H1,I2,ru,q⟩
theorem tf(ha:PE X o ta)(hv:PE X value tv)(hs:swapsWith value (some (.Attribute o f pos')) pos.line X.env=pure false):PS X (.Assign [.Attribute o f pos'] value pos) (WD X.K ta tv f):=by
 intro pins s σ H D I h;refine mF (fS (hv pins s σ H _ I h) λu s1 ⟨y,H1,I1,ry,q⟩=>fS (ha pins s1 σ H1 _ I1 q) λov s2 ⟨x,H2,I2,rx,a,C,dx,fs,ex,ea,c,n,l,q2⟩=>?_) hs
 subst ex;obtain rfl:ov=bf a:=rx;exact DZ I2 ea c n l ry λs3 I3=>⟨σ,_,I3,q2⟩
end
section
variable{X:Cx}{pins:List (aL×Obj)}{σ:St}{H:Hp}{s:aK}{A:dJ}{E:ay->aK->Prop}{Q:ay->aK->Prop}{c:ay}{b:Bool}
inductive xB(K:ao)(H:Hp):V->ay->Prop where
 |non:xB K H .non (.type "NoneType")
 |bl (x:Bool):xB K H (.bl x) (.type "bool")
 |int (i:Int):xB K H (.int i) (.type "int")
 |str (x:Str):xB K H (.str x) (.type "str")
 |flt (x:UInt64):xB K H (.flt x) (.type "float")
 |lst {a:aL} {xs:List V} (e:H a=some (.lst xs)):xB K H (.ref a) (.type "list")
 |GB {a:aL} {o:Obj} {xs:List V} (e:H a=some (.GB o (.lst xs))):xB K H (.ref a) (.type "list")
 |tup {a:aL} {xs:List V} (e:H a=some (.tup xs)):xB K H (.ref a) (.type "tuple")
 |dK {a:aL} {kvs:List (Key×V)} (e:H a=some (.dK kvs)):xB K H (.ref a) (.type "dict")
 |dT {a:aL} {kvs:List (List Key×V)} (e:H a=some (.dT kvs)):xB K H (.ref a) (.type "dict")
 |ins {a C dx:aL} {fs:List (Str×V)} (e:H a=some (.ins C dx fs)) (cl:Cb K C) (ha:bY K (.ref C) "__class__"=some (some (.builtin "object.__class__")))
   (hn:kC K (.builtin "object.__class__") "__get__"=some (some (.builtin "getset_descriptor.__get__"))) (U3:PySem.W.takesIn K (.builtin "object.__class__")=some true)
   (hm:sC K C (.type "object")=some true):xB K H (.ref a) (.ref C)
end
structure fF(k:Nat)(A:dJ):Prop where
 hd:A.handled=none
 dp:A.depth+3*k+5<recursionLimit
 un:A.units+16*k+200<cLine
theorem fF.mono{j: Nat}(r:fF k A)(h:j<=k):fF j A:=⟨r.hd,by have:=r.dp;omega,by have:=r.un;omega⟩
theorem fF.deeper(r:fF (k+1) A)(env:Env):fF k (A.deeper env):=
 ⟨r.hd,by have:=r.dp;show A.depth+1+3*k+5<_;omega,by have:=r.un;show A.units+3+16*k+200<_;omega⟩
theorem D0:(A.under (.builtin "type.__call__" ⟨.ref C::us,kw⟩)).depth=A.depth+1:=by
 first|rfl|simp[BW,Code.weight,Code.isCreation,Code.isGuard,Code.isCaller,Code.frames,Dz,guardIds]
theorem D1:(A.under (.builtin "type.__call__" ⟨.ref C::us,kw⟩)).units=A.units+1:=by
 first|rfl|simp[BW,Code.cUnits,Code.frames,Dz]
theorem fF.make(r:fF (k+1) A)(C:aL)(us:List ay)(kw:List (Str×ay)):fF k (A.under (.builtin "type.__call__" ⟨.ref C::us,kw⟩)):=
 ⟨r.hd,by have:=r.dp;rw[D0];omega,by have:=r.un;rw[D1];omega⟩
theorem fF.depth(r:fF k A):A.depth<recursionLimit:=by have:=r.dp;omega
def R4:TA:=λ_ H Q=>Q [] H
def R5(ta:TE)(tr:TA):TA:=λσ H Q=>ta σ H λx H1=>tr σ H1 λxs H2=>Q (x::xs) H2
section
variable{X:Cx}{e:cj}{es:List cj}{te:TE}{t:TA}{pos:Pos}
theorem fM:PA X [] R4:=λ_ _ _ _ H Q I h=>ji ⟨[],H,I,.nil,h⟩
theorem dw(ha:PE X e te)(hr:PA X es t)(hs:starEach (e::es) X.env=(false,eval e X.env)::starEach es X.env:=by rfl):PA X (e::es) (R5 te t):=by
 intro pos pins s σ H Q I h;rw[hs];show wpAny _ _ (spliced ((false,eval e X.env)::backTo pos (starEach es X.env))) _ _ s;refine fU (fS (ha pins s σ H _ I h) λu s1 ⟨x,H1,I1,r1,q1⟩=>?_)
 exact fS (hr pos pins s1 σ H1 _ I1 q1) λus s2 ⟨xs,H2,I2,r2,q2⟩=>⟨x::xs,H2,I2,.cons r1 r2,q2⟩
def WH(t:TA):TE:=λσ H Q=>t σ H λxs H1=>xs.length<=sizeLine/\∀p,H1 p=none->Q (.ref p) (upd H1 p (.tup xs))
def WK(t:TA):TE:=λσ H Q=>t σ H λxs H1=>xs.length<=sizeLine/\∀p,H1 p=none->Q (.ref p) (upd H1 p (.lst xs))
theorem xC{x1}(h:PA X es t):PE X (.Tuple es x1 pos) (WH t):=by
 intro pins s σ H Q I hq;refine wpAny_Tuple_spliced (fS (h pos pins s σ H _ I hq) λus s1 ⟨xs,H1,I1,r,z,q⟩=>⟨by rw[<-r.length];exact z,?_⟩)
 have hf:H1 s1.heap.objs.size=none:=I1.hok.fresh (aD _);refine⟨.ref s1.heap.objs.size,upd H1 s1.heap.objs.size (.tup xs),I1.laid (t':=s1.toks) (λb u e=>aA _ e) (aD _) ?_,rfl,q _ hf⟩
 exact⟨z,us,r,⟨_,bD _ rfl,rfl,_,rfl⟩⟩
theorem A5(h:PA X es t):PE X (.List es pos) (WK t):=by
 intro pins s σ H Q I hq;refine wpAny_List_spliced (fS (h pos pins s σ H _ I hq) λus s1 ⟨xs,H1,I1,r,z,q⟩=>⟨by rw[<-r.length];exact z,?_⟩)
 have hf:H1 s1.heap.objs.size=none:=I1.hok.fresh (aD _);refine⟨.ref s1.heap.objs.size,upd H1 s1.heap.objs.size (.lst xs),I1.laid (t':=s1.toks) (λb u e=>aA _ e) (aD _) ?_,rfl,q _ hf⟩
 exact⟨z,us,0,r,bD _ rfl⟩
end
abbrev Sp:=List V->Hp->VK->XK->Prop
abbrev GQ:=List Env->Hp->aK->XK->ay->aK->Prop
variable{CX:GQ}
structure D2(P:bC)(w:cw)(K:ao)(mg:Str->Option ay)(base:c6)(A:dJ)(outer:List Env)(s:aK)(H:Hp):Prop where
 frames:A.frames=some outer
 mod:Mod K mg base
 bs:∀b o,base.get? b=some o->s.heap.get? b=some o/\H b=none
 KR:base.objs.size<=s.heap.objs.size
 qy:s.heap.FunFrames base outer
 Iq:∀b∈B4 outer,H b=none
 hok:qF P w H s.heap
 bare:qC s.gens
def CE(outer:List Env)(P:bC)(w:cw)(H:Hp)(s:aK)(Q:VK)(u:ay)(s':aK):Prop:=
 ∃v H',s'.os=s.os/\qC s'.gens/\Un (B4 outer) [] H H' s.heap s'.heap/\qF P w H' s'.heap/\RelV v u/\Q v H'
def CR(CX:GQ)(outer:List Env)(P:bC)(w:cw)(H:Hp)(s:aK)(Q:VK)(E:XK)(r:sX)(s':aK):Prop:=
 match r with
 | .ok (.ret u)=>CE outer P w H s Q u s'
 | .ok _=>False
 | .error e=>CX outer H s E e s'
structure eX(P:bC)(w:cw)(K:ao)(mg:Str->Option ay)(base:c6)(CX:GQ)(k:Nat)(f:aL)(fd:e9)(ps:List Str)(sp:Sp):Prop where
 len:∀vs H Q E,sp vs H Q E->vs.length=ps.length
 run:∀(A:dJ)(outer:List Env)(s:aK)(H:Hp)(args:Args)(us:List ay)(vs:List V)(Q:VK)(E:XK),fF k A->D2 P w K mg base A outer s H->BindsTo s fd args (ps.zip us)->ez vs us->sp vs H Q E->
  codeAny (model P w) A (.call (.ref f) args) (CR CX outer P w H s Q E) s
theorem D2.make(e:D2 P w K mg base A outer s H)(C:aL)(us:List ay)(kw:List (Str×ay)):
  D2 P w K mg base (A.under (.builtin "type.__call__" ⟨.ref C::us,kw⟩)) outer s H:=⟨by first|exact e.frames|(simpa[BW,Code.envs,Dz,pushEnvs]using e.frames),e.mod,e.bs,e.KR,e.qy,e.Iq,e.hok,e.bare⟩
section
variable{X:Cx}{pins:List (aL×Obj)}{σ:St}{H:Hp}{s s':aK}
theorem Inv.env0(I:Inv X pins σ H s):D2 X.prog X.w X.K X.mg X.base X.A X.stack s H:=
 ⟨I.ok.frames,I.ok.mod,I.bs,bZ I.ok.KR I.sz,I.stack,I.Fv,I.hok,I.bare⟩
theorem Inv.after{Q:VK}(I:Inv X pins σ H s)(h:CE X.stack X.prog X.w H s Q u s'):EP X pins σ Q u s':=by
 obtain⟨v,H',os,bare,un,hok,r,q⟩:=h;obtain⟨hh,g,d,t,Lf⟩:=s';obtain rfl:Lf=s.os:=os;exact⟨v,H',I.call (h':=hh) (g':=g) (d':=d) (t':=t) (ch:=[]) un hok bare (λb z=>qQ7 z (by simp)),r,q⟩
end
def R6(sp:Sp)(D3:List V)(E:XK)(t:TA):TE:=λσ H Q=>t σ H λvs H1=>sp (vs++D3) H1 Q E
def R7(C:aL)(sp:Sp)(D3:List V)(E:XK)(t:TA):TE:=λσ H Q=>t σ H λvs H1=>∀x dx,H1 x=none->H1 dx=none->dx≠x->
 sp (.ref x::(vs++D3)) (upd (upd H1 dx (.own x)) x (.ins C dx [])) (λv H2=>v=.non/\Q (.ref x) H2) E
def Binds(K:ao)(fd:e9)(ps:List Str)(ds:List ay):Prop:=
 ∀(s:aK)(us:List ay),K.In s.heap->(us++ds).length=ps.length->BindsTo s fd ⟨us,[]⟩ (ps.zip (us++ds))
theorem Binds.all{fd:e9}(h:∀us:List ay,us.length=ps.length->bindArgs fd ⟨us,[]⟩=pure (ps.zip us)):Binds K fd ps []:=λs us _ hl=>by
 rw[dC]at hl ⊢;exact .of_eq (h us hl)
def vf(CX:GQ)(X:Cx)(E:XK):Prop:=∀(pins:List (aL×Obj))(σ:St)(H:Hp)(s:aK)(e:ay)(s':aK),Inv X pins σ H s->CX X.stack H s E e s'->X.xe e s'
section
variable{X:Cx}{CX:GQ}{k:Nat}{f C:aL}{fd:e9}{ps:List Str}{sp:Sp}{D3:List V}{ds:List ay}{E:XK}{x m:Str}{p pos apos:Pos}{e o:cj}{es:List cj}{ta:TE}{t:TA}
theorem IE{Q:VK}(F:eX X.prog X.w X.K X.mg X.base CX k f fd ps sp)(hr:fF k X.A)(hb:Binds X.K fd ps ds)(hd:ez D3 ds)(hx:vf CX X E)
  (I:Inv X pins σ H s)(r:ez vs us)(h:sp (vs++D3) H Q E):wpAny (model X.prog X.w) X.A (call (.ref f) us) (EP X pins σ Q) X.xe s:=by
 have r2:ez (vs++D3) (us++ds):=r.append hd;have hl:(us++ds).length=ps.length:=by rw[<-r2.length];exact F.len _ _ _ _ h
 refine k_ (kf (F.run X.A X.stack s H ⟨us,[]⟩ (us++ds) (vs++D3) Q E hr I.env0 (hb s us I.sF hl) r2 h) λr s' hq=>?_)
 cases r with
 |error e=>exact hx pins σ H s e s' I hq
 |ok fl=>
  cases fl with
  |ret u=>exact I.after hq
  |next=>exact eP hq
  |brk=>exact eP hq
  |cont=>exact eP hq
theorem A6(F:eX X.prog X.w X.K X.mg X.base CX k f fd ps sp)(hr:fF k X.A)(hg:Gl X x)(hm:X.mg x=some (.ref f))(hk:eO X.K (.ref f)=true)(hb:Binds X.K fd ps ds)(hd:ez D3 ds)(hx:vf CX X E)
  (ha:PA X (e::es) t)(qA:(x==("__debug__":Str))=false:=by decide)(he:starEach (e::es) X.env=(false,eval e X.env)::starEach es X.env:=by rfl)(pF:(backTo pos (starEach es X.env)).any (·.1)=false:=by rfl):
  PE X (.Call (.Name x p) (e::es) [] pos) (R6 sp D3 E t):=by
 intro pins s σ H Q I h;refine iz (nJ I hg hm ?_ qA)
 refine mQ (h₀:=X.base) I.ok.mod.Nq hk (fS (ha pos pins s σ H _ I h) λus s1 ⟨vs,H1,I1,r,q⟩=>⟨I1.sF,?_⟩) he pF
 exact IE F hr hb hd hx I1 r q
structure Mk(K:ao)(C f:aL):Prop where
 makes:wm K C=true
 init:bY K (.ref C) "__init__"=some (some (.ref f))
 fn:uc K (.ref f)=true
 kp:eO K (.ref C)=true
theorem IG{Q:VK}(M:Mk X.K C f)(F:eX X.prog X.w X.K X.mg X.base CX k f fd ps sp)(hr:fF (k+1) X.A)(hb:Binds X.K fd ps ds)(hd:ez D3 ds)
  (hx:vf CX X E)(I:Inv X pins σ H s)(r:ez vs us)
  (h:∀x dx,H x=none->H dx=none->dx≠x->sp (.ref x::(vs++D3)) (upd (upd H dx (.own x)) x (.ins C dx [])) (λv H2=>v=.non/\Q (.ref x) H2) E):
  wpAny (model X.prog X.w) X.A (call (.ref C) us) (EP X pins σ Q) X.xe s:=by
 have hq:=h (s.heap.objs.size+1) s.heap.objs.size (I.hok.fresh (iY _)) (I.hok.fresh (aD _)) (a_ (jK _));have I2:=Inv.made (C:=C) I;have r2:ez (V.ref (s.heap.objs.size+1)::(vs++D3)) (bf (s.heap.objs.size+1)::(us++ds)):=.cons rfl (r.append hd);have hl:(bf (s.heap.objs.size+1)::us++ds).length=ps.length:=by
  have e:=r2.length;rw[F.len _ _ _ _ hq]at e;exact e.symm
 refine k_ (IC (f:=f) I.sF M.makes M.init (beq_iff_eq.mp M.fn) (kf (F.run _ X.stack _ _ ⟨bf (s.heap.objs.size+1)::us,[]⟩ (bf (s.heap.objs.size+1)::(us++ds)) _ _ E (hr.make C us [])
  (I2.env0.make C us []) (hb _ (bf (s.heap.objs.size+1)::us) I2.sF hl) r2 hq) λr s' Cd=>?_))
 cases r with
 |error e=>exact hx pins σ _ _ e s' I2 Cd
 |ok fl=>
  cases fl with
  |ret u=>
   obtain⟨v,H',I3,rv,ev,q3⟩:=I2.after Cd;subst ev;exact⟨rv,⟨V.ref (s.heap.objs.size+1),H',I3,rfl,q3⟩⟩
  |next=>exact eP Cd
  |brk=>exact eP Cd
  |cont=>exact eP Cd
theorem II(M:Mk X.K C f)(F:eX X.prog X.w X.K X.mg X.base CX k f fd ps sp)(hr:fF (k+1) X.A)(hg:Gl X x)(hm:X.mg x=some (.ref C))(hb:Binds X.K fd ps ds)(hd:ez D3 ds)(hx:vf CX X E)
  (qA:(x==("__debug__":Str))=false:=by decide):PE X (.Call (.Name x p) [] [] pos) (R7 C sp D3 E R4):=by
 intro pins s σ H Q I h;refine iz (nJ I hg hm ?_ qA)
 exact PySem.W.callWith_K0 I.sF M.kp (IG (us:=[]) M F hr hb hd hx I .nil h)
end
section
variable{X:Cx}{CX:GQ}{k:Nat}{f C:aL}{fd:e9}{ps ks:List Str}{sp:Sp}{E:XK}{x m:Str}{p pos apos zbG:Pos}{e o:cj}{es:List cj}{kws:List iO}{te ta:TE}{t tk:TA}{nm:Option Str}
variable{g:List ay->List ay->List ay}{gV:List V->List V->List V}
end
structure c9(N P:List Str)(sc:kU):Prop where
 kind:sc.kind=.function
 co:sc.isCoroutine=false
 gen:sc.isGenerator=false
 nd:N.Nodup
 pre:N.take P.length=P
 par:∀x∈P,sc.names.lookup x=some .local\/sc.names.lookup x=some .cell
 O8:∀y∈sc.names,y.2≠.free
theorem zP{x:Str}:∀{binds:List (Str×ay)}{m:Str->Option ay},(∀v,(x,v)∉binds)->bindL kindOf binds m x=m x
 | [],_,_=>rfl
 |(n,v)::r,m,h=>by
  unfold bindL;rw[zP λw hw=>h w (aU _ hw)]
  split
  ·have:x≠n:=by rintro rfl;exact h v aP
   simp[this]
  ·rfl
theorem zQ{x:Str}:∀{binds:List (Str×ay)}{m:Str->Option ay},(∀v,(x,v)∉binds)->bindC kindOf binds m x=m x
 | [],_,_=>rfl
 |(n,v)::r,m,h=>by
  unfold bindC;rw[zQ λw hw=>h w (aU _ hw)]
  split
  ·rfl
  ·have:x≠n:=by rintro rfl;exact h v aP
   simp[this]
theorem zR{kindOf:Str->Option ny}{x:Str}{v:ay}:∀{P:List Str}{vs:List ay}{i:Nat}{m:Str->Option ay},P.Nodup->P[i]?=some x->vs[i]?=some v->kindOf x=some .local->
  bindL kindOf (P.zip vs) m x=some v
 | [],_,_,_,_,h,_,_=>by simp at h
 |_::_,[],_,_,_,_,h,_=>by simp at h
 |p::P,w::vs,0,m,nd,h1,h2,hk=>by
  simp at h1 h2;subst h1;subst h2;show bindL kindOf ((p,w)::P.zip vs) m p=_;unfold bindL;rw[zP λv hv=>(gL.mp nd).1 (qI hv).1,qQ3 hk]
  simp
 |p::P,w::vs,i+1,m,nd,h1,h2,hk=>by
  show bindL kindOf ((p,w)::P.zip vs) m x=_;unfold bindL;exact zR (i:=i) (gL.mp nd).2 (by simpa using h1) (by simpa using h2) hk
theorem zS{kindOf:Str->Option ny}{x:Str}{v:ay}:∀{P:List Str}{vs:List ay}{i:Nat}{m:Str->Option ay},P.Nodup->P[i]?=some x->vs[i]?=some v->kindOf x≠some .local->
  bindC kindOf (P.zip vs) m x=some v
 | [],_,_,_,_,h,_,_=>by simp at h
 |_::_,[],_,_,_,_,h,_=>by simp at h
 |p::P,w::vs,0,m,nd,h1,h2,hk=>by
  simp at h1 h2;subst h1;subst h2;show bindC kindOf ((p,w)::P.zip vs) m p=_;unfold bindC;rw[zQ λv hv=>(gL.mp nd).1 (qI hv).1,qQ2 hk]
  simp
 |p::P,w::vs,i+1,m,nd,h1,h2,hk=>by
  show bindC kindOf ((p,w)::P.zip vs) m x=_;unfold bindC;exact zS (i:=i) (gL.mp nd).2 (by simpa using h1) (by simpa using h2) hk
def start(N:List Str)(vs:List V):St:=vs.map some++aH (N.length-vs.length) none
def y_(CX:GQ)(P:bC)(w:cw)(K:ao)(mg:Str->Option ay)(base:c6)(N:List Str)(qual:Str)(scope:kU)(f:aL)(cd:ay)(A:dJ)(outer:List Env)(s:aK)(H:Hp)(E:XK):Cx where
 prog:=P
 w:=w
 K:=K
 mg:=mg
 base:=base
 A:=A.deeper (envOfC qual scope s.heap.objs.size f cd)
 N:=N
 s₀:=s
 H₀:=H
 env:=envOfC qual scope s.heap.objs.size f cd
 outer:=outer
 stack:=envOfC qual scope s.heap.objs.size f cd::outer
 ex:=[]
 calm:=true
 fn:=λ_=>true
 pn:=[]
 xe:=λe s'=>wpAny (model P w) (A.deeper (envOfC qual scope s.heap.objs.size f cd)) (leaving (envOfC qual scope s.heap.objs.size f cd) e) (λ_ O9=>CX outer H s E e O9) (λe' O9=>CX outer H s E e' O9) s'
theorem Ce{sc:kU}{n:Nat}{x:Str}(h:sc.names.lookup x=some .cell):∃c,(cellsFrom n sc.names []).lookup x=some c:=by
 have q:=AK sc.names n [] (.inl h);exact Option.isSome_iff_exists.mp q
theorem GR{qual:Str}{f:aL}{cd:ay}{s1: aK}{E:XK}
  (S:c9 N ps scope)(hd:A.handled=none)(e0:D2 P w K mg base A outer s H)(hl:vs.length=ps.length)(r:ez vs us)
  (x:InCallC s s.heap.objs.size (bindL (envOfC qual scope s.heap.objs.size f cd).kindOf (ps.zip us) λ_=>none) (cellsFrom (s.heap.objs.size+1) scope.names []) (bindC (envOfC qual scope s.heap.objs.size f cd).kindOf (ps.zip us) λ_=>none) s1):
  Inv (y_ CX P w K mg base N qual scope f cd A outer s H E) [] (start N vs) H s1:=by
 have pF:ps.length<=N.length:=by have:=qQ6 gu S.pre;rw[bS]at this;omega
 obtain⟨h1,tk,rfl,hk⟩:=x.done;have R8:∀b:aL,b∉(y_ CX P w K mg base N qual scope f cd A outer s H E).ex:=λb z=>qQ7 (show b∈([]:List aL)from z) (by simp)
 refine⟨⟨e0.mod,S.kind,rfl,rfl,aD _,λy z c h1 h2=>?_,λy hy=>?_,λy c _ h=>?_,λ_=>hd,dJ.frames_deeper e0.frames,.inr ⟨rfl,rfl⟩,λb z=>qQ7 z (R8 b),e0.bs,e0.KR,λb _ _=>R8 b,λb z=>qQ7 z (R8 b),e0.qy,e0.Iq⟩,
  rfl,e0.bare,Un.kept hk,⟨_,x.toInCall.ns,λi y v h1 h2 h3=>?_⟩,λy c h=>⟨_,x.cell y c h⟩,e0.hok.fresh (aD _),λy c h=>?_,λp hp=>qQ7 (show p∈([]:List (aL×Obj))from hp) (by simp),e0.hok.kept hk,?_⟩
 ·exact name_of_addr x.apart (iN h1) (iN h2)
 ·have hy:scope.names.lookup y=some .cell\/scope.names.lookup y=some .free:=hy
  rcases hy with hy|hy
  ·exact Ce hy
  ·exact qQ7 rfl (S.O8 _ (iN hy))
 ·exact nz (x.above y c (iN h))
 ·have hi:i<vs.length:=by
   unfold start at h2;by_cases hi:i<vs.length
   ·exact hi
   ·rw[cy (by simpa using hi)]at h2
    rw[d_]at h2
    split at h2<;>cases h2
  have ha:vs[i]?=some v:=by
   unfold start at h2;rw[cC (by simpa using hi),aT]at h2
   cases e:vs[i]? with
   |none=>rw[e]at h2;cases h2
   |some a=>rw[e]at h2;cases h2;rfl
  obtain⟨u,hu,rv⟩:=r.get ha;have hp:ps[i]?=some y:=by
   rw[<-S.pre,List.getElem?_take_of_lt (by omega)];exact h1
  have ZG:ps.Nodup:=by rw[<-S.pre];exact S.nd.sublist (List.take_sublist _ _)
  refine⟨u,rv,?_⟩
  rcases S.par y (bO hp)with k|k
  ·exact .inl ⟨k,zR ZG hp hu k⟩
  ·obtain⟨c,e⟩:=Ce (n:=s.heap.objs.size+1) k
   refine .inr ⟨.inl k,c,e,?_⟩
   have q:=x.cell y c e;rw[zS ZG hp hu (by show scope.names.lookup y≠_;rw[k];decide)]at q
   exact q
 ·exact e0.hok.fresh (nz (x.above y c (iN h)))
 ·unfold start
  show _=N.length;rw[aV,aj,cu];omega
theorem NC{f:aL}{name qual:Str}{params:Arguments}{dV kV doc pm h8 ct oc:ay}{an od:Option aL}
  {FG:Array (Option ay)}{sp:Sp}(lk:K.lookup f=some ⟨oc,od,.func (il name qual params body scope dV kV doc pm an h8 ct),FG⟩)(qT:kD K h8 qual=true)(S:c9 N ps scope)
  (len:∀vs H Q E,sp vs H Q E->vs.length=ps.length)
  (IJ:∀(A:dJ)(outer:List Env)(s:aK)(H:Hp)(vs:List V)(Q:VK)(E:XK),fF k (A.deeper (envOfC qual scope s.heap.objs.size f h8))->sp vs H Q E->
   ∃t,Fx (y_ CX P w K mg base N qual scope f h8 A outer s H E) body t/\t { nx:=λ_ H'=>Q .non H',rt:=Q } (start N vs) H) :
  eX P w K mg base CX (k+1) f (il name qual params body scope dV kV doc pm an h8 ct) ps sp:=by
 refine⟨len,λA outer s H args us vs Q E hr e0 hb r za=>?_⟩
 have hl:=len _ _ _ _ za;have KX:K.In s.heap:=e0.mod.Nq.keeps λb o e=>(e0.bs b o e).1
 have lim:s.heap.NoLimit:=e0.mod.nolimit.keeps λb o e=>(e0.bs b o e).1
 have Cg:∀y∈ps.zip us,scope.names.lookup y.1=some .local\/(scope.names.lookup y.1=some .cell/\((cellsFrom (s.heap.objs.size+1) scope.names []).lookup y.1).isSome=true):=λ⟨n,v⟩ hy=>by
  rcases S.par n (qI hy).1 with q|q
  ·exact .inl q
  ·exact .inr ⟨q,AK _ _ _ (.inl q)⟩
 refine codeAny_call_function hr.depth (KX _ _ lk) rfl S.co S.gen rfl (PySem.W.codeRec_of KX qT) (hb _ _ _ _ ?_)
 refine wpAny_newFunctionEnv_cells S.kind Cg λenv he s1 x=>?_
 subst he;refine⟨lim.keeps x.toInCall.keep,codeAny_func ?_⟩
 obtain⟨t,ht,hq⟩:=IJ A outer s H vs Q E (hr.deeper _) za;have I:Inv (y_ CX P w K mg base N qual scope f h8 A outer s H E) [] (start N vs) H s1:=GR S hr.hd e0 hl r x;refine eB (ht [] s1 (start N vs) H _ I hq) (λfl s' hs=>?_) λe s' hs=>hs
 have fin:∀{σ':St}{H':Hp}{v:V}{u:ay},Inv (y_ CX P w K mg base N qual scope f h8 A outer s H E) [] σ' H' s'->RelV v u->Q v H'->CE outer P w H s Q u s':=
  λ{σ' H' v u}J rv q=>⟨v,H',J.os,J.bare,J.base,J.hok,rv,q⟩
 cases fl with
 |ret u=>
  obtain⟨v,σ',H',J,rv,q⟩:=hs;exact fin J rv q
 |next=>
  obtain⟨σ',H',J,q⟩:=hs;exact fin (v:=V.non) (u:=eE) J rfl q
 |brk=>
  obtain⟨_,_,_,q⟩:=hs;exact eP q
 |cont=>
  obtain⟨_,_,_,q⟩:=hs;exact eP q
section
variable{X:Cx}{x:Str}{p pos:Pos}{e:cj}{es:List cj}{t:TA}{id T:String}{r:List V->Hp->VK->Prop}
def ZH(r:List V->Hp->VK->Prop)(t:TA):TE:=λσ H Q=>t σ H λvs H1=>r vs H1 Q
theorem qX(hc:jM X (.builtin id) r)(hg:Gl X x)(hm:X.mg x=none)(hv:bootBuiltins x=some (.builtin id))(ha:PA X (e::es) t)(hn:x≠"__name__":=by decide)(qA:(x==("__debug__":Str))=false:=by decide)
  (he:starEach (e::es) X.env=(false,eval e X.env)::starEach es X.env:=by rfl)(pF:(backTo pos (starEach es X.env)).any (·.1)=false:=by rfl):PE X (.Call (.Name x p) (e::es) [] pos) (ZH r t):=by
 intro pins s σ H Q I h;refine iz (vb I hg hm hv ?_ hn qA)
 exact PyProof.Rows.callWith_builtin1 (fS (ha pos pins s σ H _ I h) λus s1 ⟨vs,H1,I1,r1,q1⟩=>hc pins s1 σ H1 vs us Q I1 r1 q1) he pF
theorem vg(hc:jM X (.type T) r)(hg:Gl X x)(hm:X.mg x=none)(hv:bootBuiltins x=some (.type T))(ha:PA X (e::es) t)(hn:x≠"__name__":=by decide)(qA:(x==("__debug__":Str))=false:=by decide)
  (he:starEach (e::es) X.env=(false,eval e X.env)::starEach es X.env:=by rfl)(pF:(backTo pos (starEach es X.env)).any (·.1)=false:=by rfl):PE X (.Call (.Name x p) (e::es) [] pos) (ZH r t):=by
 intro pins s σ H Q I h;refine iz (vb I hg hm hv ?_ hn qA)
 exact iR (fS (ha pos pins s σ H _ I h) λus s1 ⟨vs,H1,I1,r1,q1⟩=>hc pins s1 σ H1 vs us Q I1 r1 q1) he pF
end
end L2
namespace HT
open PySem PyProof.Rows
variable{Q:ay->aK->Prop}
section
open PySem.SeqAt
open PySem.AutoSeq1 (wpAny_loadPart')
open PySem.MeetsSeq PySem.MeetsSeq2 PySem.MeetsSeq3
end
section
variable{prog:bC}{w:cw}{A:dJ}{E:ay->aK->Prop}{s:aK}
theorem Lg{t b:aL}{vs ws:List ay}(ht:IsTup s.heap t vs.toArray)(hb:IsTup s.heap b ws.toArray)(hv:vs≠[])
  (h1:ws=[]->Q (.ref t) s)(h2:ws≠[]->Q (.ref s.heap.objs.size) { s with heap:=s.heap.push { cls:=.type "tuple",data:=.seq (vs++ws).toArray } })
  (hsz:vs.length+ws.length<=sizeLine):wpAny (model prog w) A (binaryOp .Add (.ref t) (.ref b)) Q E s:=by
 obtain⟨⟨cls,dd,data,sl⟩,ho,hc,n,hd⟩:=id ht;obtain⟨⟨WL,U4,data2,QZ⟩,U5,R9,n2,hd2⟩:=id hb;simp only at hc hd R9 hd2;subst hc hd R9 hd2;have e:vs.toArray++ws.toArray=(vs++ws).toArray:=by simp
 by_cases hw:ws=[]
 ·exact concat_meets ⟨_,ho,rfl⟩ ⟨_,U5,rfl⟩ noFill_tuple_add seq_tuple_add AO zA (yW _ _)
   (tuple_addW1 t b vs.toArray ws.toArray n n2 dd U4 sl QZ (by simpa using hv) (by simp[hw])) ⟨ho,U5,h1 hw⟩
 ·refine concat_meets ⟨_,ho,rfl⟩ ⟨_,U5,rfl⟩ noFill_tuple_add seq_tuple_add AO zA (yW _ _)
   (tuple_addW2 t b vs.toArray ws.toArray n n2 dd U4 sl QZ (by simpa using hv) (by simpa using hw) (by rw[bp,bp];exact hsz)) ⟨ho,U5,?_⟩
  rw[e];exact h2 hw
def kS(n d:Nat):Option Int->Nat
 |none=>d
 |some v=>if v<0 then(v+(n:Int)).toNat else min v.toNat n
theorem Ci(n d:Nat):kS n d none=d:=rfl
theorem pL(n d k:Nat):kS n d (some (k:Int))=min k n:=by
 show(if(k:Int)<0 then((k:Int)+(n:Int)).toNat else min (k:Int).toNat n)=min k n
 rw[qQ2 (by omega),eA]
theorem O_(n d:Nat)(hd:d<=n)(o:Option Int):kS n d o<=n:=by
 cases o with
 |none=>exact hd
 |some v=>
  show(if v<0 then(v+(n:Int)).toNat else min v.toNat n)<=n
  by_cases hv:v<0
  ·rw[qQ3 hv];omega
  ·rw[qQ2 hv];exact Nat.min_le_right _ _
theorem FH(v:Int)(n d:Nat):(if v<0 then max (v+(n:Int)) 0 else min v (n:Int))=((kS n d (some v):Nat):Int):=by
 show(if v<0 then max (v+(n:Int)) 0 else min v (n:Int))=(((if v<0 then(v+(n:Int)).toNat else min v.toNat n):Nat):Int)
 by_cases hv:v<0
 ·simp only[qQ3 hv];omega
 ·simp only[qQ2 hv];omega
theorem D4(lo hi:Option Int)(n:Nat):lW lo hi 1 (n:Int)=(((kS n 0 lo:Nat):Int),((kS n n hi:Nat):Int)):=by
 have h1:¬((1:Int)<0):=by omega
 unfold lW;simp only[h1,if_false];refine Prod.ext ?_ ?_
 ·cases lo with
  |none=>rfl
  |some v=>exact FH v n 0
 ·cases hi with
  |none=>rfl
  |some v=>exact FH v n n
theorem D5(i j:Nat):jd (i:Int) (j:Int) 1=j-i:=by
 unfold jd;have h1:(1:Int)>0:=by omega
 simp only[h1,if_true,Int.ediv_one]
 split<;>omega
theorem xD{v:ay}{o:Option Int}{Q:Option Int->aK->Prop}(p:AQ v o)(h:Q o s):wpAny (model prog w) A (oO.Slice.slicePartIndex v) Q E s:=by
 cases p with
 |none=>exact slicePart_none h
 |int i t=>exact slicePart_int h
theorem vh{sl:aL}{vl vu:ay}{lo hi:Option Int}{n:Nat}{Q:Int×Int×Nat->aK->Prop}(hs:s.heap.IsSliceOf sl vl vu .none)(pl:AQ vl lo)(pu:AQ vu hi)
  (h:Q (((kS n 0 lo:Nat):Int),1,kS n n hi-kS n 0 lo) s):wpAny (model prog w) A (ud (.ref sl) (pure (n:Int))) Q E s:=by
 obtain⟨os,R_,Sb,Pa⟩:=id hs;unfold ud oO.Slice.sliceFields;refine au (au (er R_ Pa (x:=vl) rfl (au (er R_ Pa (x:=vu) rfl (au (er R_ Pa (x:=.none) rfl (aY ?_)))))))
 refine au (slicePart_none ?_)
 show wpAny _ _ (if((1:Int)==0)=true then _ else _) _ _ s
 rw[qQ2 (by decide)]
 refine au (xD pl (au (xD pu (au (aY ?_)))))
 show wpAny _ _ (match lW lo hi 1 (n:Int)with|(lo,hi)=>pure (lo,(1:Int),jd lo hi 1)) _ _ s
 rw[D4 lo hi n];show wpAny _ _ (pure (((kS n 0 lo:Nat):Int),(1:Int),jd ((kS n 0 lo:Nat):Int) ((kS n n hi:Nat):Int) 1)) _ _ s;rw[D5];exact aY h
theorem IK(xs:Array ay)(i k:Nat):((cq k).filterMap λ(m:Nat)=>xs[((i:Int)+(m:Int)*1).toNat]?).toArray=((xs.toList.drop i).take k).toArray:=by
 have e:(λ(m:Nat)=>xs[((i:Int)+(m:Int)*1).toNat]?)=λm=>xs[i+m]?:=by
  funext m
  have:((i:Int)+(m:Int)*1).toNat=i+m:=by omega
  rw[this]
 rw[e];have:=pick_run xs i k;rw[cQ]at this;have e2:((λx=>xs[x]?)∘λx=>i+x)=λm=>xs[i+m]?:=rfl
 rw[e2]at this;rw[this]
theorem uk{t sl:aL}{items:Array ay}{vl vu:ay}{lo hi:Option Int}(ht:IsTup s.heap t items)(hs:s.heap.IsSliceOf sl vl vu .none)(pl:AQ vl lo)(pu:AQ vu hi)
  (hw:¬(kS items.size 0 lo=0/\kS items.size items.size hi=items.size))
  (h:Q (.ref s.heap.objs.size) { s with heap:=s.heap.push { cls:=.type "tuple",data:=.seq ((items.toList.drop (kS items.size 0 lo)).take (kS items.size items.size hi-kS items.size 0 lo)).toArray } })
  (hsz:items.size<=sizeLine):wpAny (model prog w) A (getItem (.ref t) (.ref sl)) Q E s:=by
 have FJ:sizeOk (.seq ((items.toList.drop (kS items.size 0 lo)).take (kS items.size items.size hi-kS items.size 0 lo)).toArray):=by
  show((items.toList.drop (kS items.size 0 lo)).take (kS items.size items.size hi-kS items.size 0 lo)).toArray.size<=sizeLine
  rw[bp,bS,b_,cR];omega
 have hj:kS items.size items.size hi<=items.size:=O_ _ _ (aD _) hi;obtain⟨os,R_,Sb,Pa⟩:=id hs;have hTs:s.TypeIs (.ref sl) "slice":=⟨os,R_,Sb⟩;unfold getItem
 try with_reducible refine kX ?_
 first|refine au (aY ?_)|skip
 refine au (wpAny_sequenceKey ht.typeIs (by decide) ?_)
 refine au (iZ (name:=nB "__getitem__") ht.typeIs j7
  (mR j7 ht.typeIs entry_tuple_getitem ?_ (args_tuple_getitem _ _)))
 show wpAny _ _ (oO.Tuple.tupleItemsOf (.ref t) >>= _) _ _ s;refine au (tupleItemsOf_ ht ?_)
 refine au (wpAny_typeOf hTs ?_)
 rw[qQ3 (by decide)]
 refine au (vh hs pl pu ?_)
 have sv:¬((((kS items.size 0 lo:Nat):Int)==0&&(1:Int)==1&&(kS items.size items.size hi-kS items.size 0 lo)==items.size)=true):=by
  intro q;rw[jH,jH]at q;have q1:((kS items.size 0 lo:Nat):Int)=0:=eq_of_beq q.1.1;have q2:kS items.size items.size hi-kS items.size 0 lo=items.size:=eq_of_beq q.2;exact hw ⟨by omega,by omega⟩
 show wpAny _ _ (if(((kS items.size 0 lo:Nat):Int)==0&&(1:Int)==1&&(kS items.size items.size hi-kS items.size 0 lo)==items.size)=true then _ else _) _ _ s
 rw[qQ2 sv,IK]
 first
  |exact au (m:=jl _) (eQ (aY ⟨_,rfl,aY h⟩) FJ)
  |exact au (m:=jl _) (eQ (au (aY (aY ⟨_,rfl,aY h⟩))) FJ)
  |exact au (au (m:=jl _) (eQ (aY (aY ⟨_,rfl,aY h⟩)) FJ))
  |exact au (au (m:=jl _) (eQ (aY ⟨_,rfl,aY h⟩) FJ))
end
end HT
namespace L2
open PySem PySem.Spec PyProof.Rows
variable{xs:List V}{its us:List ay}{n t':Nat}
abbrev TO:=St->Hp->(Option Int->Hp->Prop)->Prop
def PO(X:Cx)(e:Option cj)(t:TO):Prop:=
 ∀(pins:List (aL×Obj))(s:aK)(σ:St)(H:Hp)(Q:Option Int->Hp->Prop),Inv X pins σ H s->t σ H Q->
  wpAny (model X.prog X.w) X.A (evalPart e X.env) (λu s'=>∃o H',Inv X pins σ H' s'/\AQ u o/\Q o H') X.xe s
def Lh:TO:=λ_ H Q=>Q none H
def Sd(t:TE):TO:=λσ H Q=>t σ H λx H1=>∃i,x=.int i/\Q (some i) H1
theorem intsAre_of{ns:List Int}:∀{us:List ay},ez (ns.map V.int) us->yX us ns:=by
 induction ns with
 |nil=>intro us r;rw[gX]at r;cases r;exact .nil
 |cons n ns ih=>
  intro us r;rw[aR]at r;cases r with
  |cons r1 r2=>
   obtain⟨t,e⟩:=r1;subst e;exact .cons n t (ih r2)
section
variable{X:Cx}{e:cj}{te:TE}{lo hi:Option cj}{tl th:TO}{pos p2:Pos}
theorem Li:PO X none Lh:=by
 intro pins s σ H Q I h;rw[evalPart_none];exact aY ⟨none,H,I,.none,h⟩
theorem Lj(h:PE X e te):PO X (some e) (Sd te):=by
 intro pins s σ H Q I hw;rw[evalPart_some];refine fS (h pins s σ H _ I hw) λu s1 ⟨x,H1,I1,r1,q1⟩=>?_
 obtain⟨i,rfl,q⟩:=q1;obtain⟨t,rfl⟩:=r1;exact⟨some i,H1,I1,.int i t,q⟩
def U6(X:Cx)(r:V->Option Int->Option Int->Hp->VK->Prop):Prop:=
 ∀(pins:List (aL×Obj))(s:aK)(σ:St)(H:Hp)(x:V)(v vl vu:ay)(lo hi:Option Int)(sl:aL)(Q:VK),Inv X pins σ H s->RelV x v->s.heap.IsSliceOf sl vl vu .none->AQ vl lo->AQ vu hi->r x lo hi H Q->
  ∃T id,typeLookup (.type T) "__getitem__"=pure (some (.builtin id))/\s.TypeIs v T/\wpAny (model X.prog X.w) X.A (getItem v (.ref sl)) (EP X pins σ Q) X.xe s
def tSl(r:V->Option Int->Option Int->Hp->VK->Prop)(te:TE)(tl th:TO):TE:=λσ H Q=>te σ H λx H1=>tl σ H1 λl H2=>th σ H2 λu H3=>r x l u H3 Q
theorem xE{r:V->Option Int->Option Int->Hp->VK->Prop}(hr:U6 X r)(he:PE X e te)(hl:PO X lo tl)(hu:PO X hi th):PE X (.Subscript e (.Slice lo hi none p2) pos) (tSl r te tl th):=by
 intro pins s σ H Q I h;refine Subscript_ (fS (he pins s σ H _ I h) λv s1 ⟨x,H1,I1,r1,q1⟩=>?_)
 refine wpAny_Slice (fS (hl pins s1 σ H1 _ I1 q1) λvl s2 ⟨l,H2,I2,pl,q2⟩=>fS (hu pins s2 σ H2 _ I2 q2) λvu s3 ⟨u,H3,I3,pu,q3⟩=>?_)
 rw[evalPart_none];refine aY ?_
 have I4:Inv X pins σ H3 { s3 with heap:=s3.heap.push { cls:=.type "slice",data:=.fields #[vl,vu,.none] } }:=I3.kept (t':=s3.toks) λb ob q=>aA _ q
 obtain⟨T,id,hT,ht,hg⟩:=hr pins { s3 with heap:=s3.heap.push { cls:=.type "slice",data:=.fields #[vl,vu,.none] } } σ H3 x v vl vu l u s3.heap.objs.size Q I4 r1 (c6.IsSliceOf.new ..) pl pu q3
 show wpAny (model X.prog X.w) X.A (subscriptTail e (.Slice lo hi none p2) v (.ref s3.heap.objs.size)) (EP X pins σ Q) X.xe { s3 with heap:=s3.heap.push { cls:=.type "slice",data:=.fields #[vl,vu,.none] } }
 exact tail_any (ops:=[.ref s3.heap.objs.size,v]) ht hT hg (by with_unfolding_all rfl)
def Cj(xs:List V)(lo hi:Option Int):List V:=(xs.drop (HT.kS xs.length 0 lo)).take (HT.kS xs.length xs.length hi-HT.kS xs.length 0 lo)
theorem vO(xs:List V)(lo hi:Option Int):(Cj xs lo hi).length<=xs.length:=by
 unfold Cj;rw[bS,b_];omega
def WM(K:ao):V->Option Int->Option Int->Hp->VK->Prop:=λx lo hi H Q=>∃a xs,x=.ref a/\qp K H a xs/\
 ¬(HT.kS xs.length 0 lo=0/\HT.kS xs.length xs.length hi=xs.length)/\∀p,H p=none->Q (.ref p) (upd H p (.tup (Cj xs lo hi)))
theorem Pb:U6 X (WM X.K):=by
 intro pins s σ H x v vl vu lo hi sl Q I rx hs pl pu h;obtain⟨a,xs,rfl,hx,hw,q⟩:=h;cases rx;obtain⟨its,r,ht,hz⟩:=I.tuple hx;have hlen:its.toArray.size=xs.length:=by rw[bp];exact r.length.symm
 refine⟨"tuple",_,j7.lookup,ht.typeIs,?_⟩
 refine HT.uk ht hs pl pu (by rw[hlen];exact hw) ?_ (by rw[hlen];exact hz)
 rw[hlen];refine⟨.ref s.heap.objs.size,_,I.laid (t':=s.toks) (o:=.tup (Cj xs lo hi)) (λb ob q=>aA _ q) (aD _) ?_,rfl,q _ (I.hok.fresh (aD _))⟩
 exact⟨bZ (vO xs lo hi) hz,_,(r.drop (HT.kS xs.length 0 lo)).take (HT.kS xs.length xs.length hi-HT.kS xs.length 0 lo),sA _ _⟩
def Se(K:ao):R2:=λx y H Q=>∃a b xs ys,x=.ref a/\y=.ref b/\qp K H a xs/\qp K H b ys/\xs≠[]/\xs.length+ys.length<=sizeLine/\
 (ys=[]->Q (.ref a) H)/\(ys≠[]->∀p,H p=none->Q (.ref p) (upd H p (.tup (xs++ys))))
theorem ez.wK(r:ez xs us):us=[]↔xs=[]:=by
 cases r with
 |nil=>simp
 |cons _ _=>simp
theorem Lk:rP X (binaryOp .Add) (Se X.K):=by
 intro pins s σ H x y v u Q I rx ry h;obtain⟨a,b,xs,ys,rfl,rfl,ha,hb,hx,hz,q1,q2⟩:=h;cases rx;cases ry;obtain⟨its,r1,p1,_⟩:=I.tuple ha;obtain⟨Ln,r2,p2,_⟩:=I.tuple hb;refine HT.Lg p1 p2 (λz=>hx (r1.wK.mp z)) (λz=>⟨.ref a,H,I,rfl,q1 (r2.wK.mp z)⟩) (λz=>?_) (by rw[<-r1.length,<-r2.length];exact hz)
 refine⟨.ref s.heap.objs.size,_,I.laid (t':=s.toks) (o:=.tup (xs++ys)) (λb ob q=>aA _ q) (aD _) ?_,rfl,q2 (λw=>z (r2.wK.mpr w)) _ (I.hok.fresh (aD _))⟩
 exact⟨by rw[aV];exact hz,_,r1.append r2,sA _ _⟩
end
def NF(n:Nat)(i:Int):Option Nat:=if 0<=i then(if i<n then some i.toNat else none)else if -(n:Int)<=i then some (i+n).toNat else none
def sG{α:Type}(xs:List α)(i:Int):Option α:=(NF xs.length i).bind λj=>xs[j]?
theorem Lp{i:Int}{j:Nat}(h:NF n i=some j):seqIndex? i n=some j/\j<n/\-(n:Int)<=i/\i<n:=by
 unfold NF at h;by_cases h0:0<=i
 ·rw[qQ3 h0]at h
  by_cases h1:i<n
  ·rw[qQ3 h1]at h
   have e:i.toNat=j:=di h;exact⟨by rw[seqIndex_of h0 h1,e],by omega,by omega,h1⟩
  ·rw[qQ2 h1]at h;cases h
 ·rw[qQ2 h0]at h
  by_cases h1:-(n:Int)<=i
  ·rw[qQ3 h1]at h
   have e:(i+n).toNat=j:=di h;exact⟨by rw[seqIndex_neg (by omega) h1,e],by omega,h1,by omega⟩
  ·rw[qQ2 h1]at h;cases h
theorem A7{α:Type}{xs:List α}{i:Int}{v:α}(h:sG xs i=some v):∃j,seqIndex? i xs.length=some j/\xs[j]?=some v/\j<xs.length/\-(xs.length:Int)<=i/\i<xs.length:=by
 unfold sG at h;cases e:NF xs.length i with
 |none=>rw[e]at h;cases h
 |some j=>
  rw[e]at h;obtain⟨h1,h2,h3,h4⟩:=Lp e;exact⟨j,h1,h,h2,h3,h4⟩
theorem cz{α:Type}{xs:List α}{j:Nat}{v:α}(h:xs[j]?=some v):sG xs (j:Int)=some v:=by
 have hj:j<xs.length:=(aJ.mp h).1;have e:NF xs.length (j:Int)=some j:=by
  unfold NF;rw[qQ3 (by omega),qQ3 (by omega)];simp
 unfold sG;rw[e];exact h
def rQ(b:cj):Prop:=∀o i,subscripted b false o i=operate [o,i] (getItem o i)
def KW(X:Cx)(r:R2):Prop:=
 ∀(value slice:cj)(pins:List (aL×Obj))(s:aK)(σ:St)(H:Hp)(x y:V)(v u:ay)(Q:VK),Inv X pins σ H s->RelV x v->RelV y u->r x y H Q->
  subscripted slice false v u=operate [v,u] (getItem v u)->wpAny (model X.prog X.w) X.A (subscriptTail value slice v u) (EP X pins σ Q) X.xe s
def MtR(X:Cx)(id:String)(r:V->List V->Hp->VK->Prop):Prop:=
 ∀(pins:List (aL×Obj))(s:aK)(σ:St)(H:Hp)(x:V)(xs:List V)(v:ay)(us:List ay)(Q:VK),Inv X pins σ H s->RelV x v->ez xs us->r x xs H Q->
  wpAny (model X.prog X.w) X.A (call (.builtin id) (v::us)) (EP X pins σ Q) X.xe s
section
variable{X:Cx}{a b:cj}{ta tb:TE}{pos:Pos}
theorem KW.or{r r':R2}(h:KW X r)(h':KW X r'):KW X (λx y H Q=>r x y H Q\/r' x y H Q):=by
 intro value slice pins s σ H x y v u Q I rx ry q hs;rcases q with q|q
 ·exact h value slice pins s σ H x y v u Q I rx ry q hs
 ·exact h' value slice pins s σ H x y v u Q I rx ry q hs
theorem NK{r:R2}(hr:KW X r)(ha:PE X a ta)(hb:PE X b tb)(hs:rQ b):PE X (.Subscript a b pos) (RT r ta tb):=by
 intro pins s σ H Q I h;exact Subscript_ (OY ha hb I h λv u s2 x y H2 I2 rx ry q=>hr a b pins s2 σ H2 x y v u Q I2 rx ry q (hs _ _))
def Sf(K:ao):R2:=λx y H Q=>∃p xs i v,x=.ref p/\y=.int i/\lg K H p xs/\sG xs i=some v/\Q v H
def Sg(K:ao):R2:=λx y H Q=>∃p xs i v,x=.ref p/\y=.int i/\qp K H p xs/\sG xs i=some v/\Q v H
def Si:R2:=λx y H Q=>∃z i c,x=.str z/\y=.int i/\z.length<=sizeLine/\sG z.cps.toList i=some c/\Q (.str ⟨#[c]⟩) H
theorem Lq:KW X (Sf X.K):=by
 intro value slice pins s σ H x y v u Q I rx ry h hs;obtain⟨p,xs,i,z,rfl,rfl,hq,he,q⟩:=h;cases rx;obtain⟨t,rfl⟩:=ry;obtain⟨its,r,pl,hz⟩:=I.list hq;obtain⟨j,h1,h2,h3,h4,h5⟩:=A7 he;obtain⟨w,ew,qz⟩:=r.get h2;have hl:=r.length;have hn:=sZ;have fin:EP X pins σ Q w s:=⟨z,H,I,qz,q⟩;by_cases h0:0<=i
 ·have hj:i.toNat=j:=by
   rw[seqIndex_of h0 h5]at h1;exact di h1
  exact item_listR pl.isList h0 (by omega) (by rw[hj];simpa using ew) fin hs
 ·have hj:(i+(its.toArray.size:Int)).toNat=j:=by
   rw[seqIndex_neg (by omega) h4]at h1
   rw[bp,<-hl];exact di h1
  exact subscriptTail_builtinR (x:=w) pl.isList.typeIs slot_list_getitem.lookup
   (wpAny_getItem_list_neg (Q:=λr s'=>r=w/\EP X pins σ Q r s') pl.isList (by omega) (by rw[bp]<;>omega) (by omega) (by rw[hj];simpa using ew) ⟨rfl,fin⟩) hs
theorem Pg:KW X (Sg X.K):=by
 intro value slice pins s σ H x y v u Q I rx ry h hs;obtain⟨p,xs,i,z,rfl,rfl,hq,he,q⟩:=h;cases rx;obtain⟨t,rfl⟩:=ry;obtain⟨its,r,pl,hz⟩:=I.tuple hq;obtain⟨j,h1,h2,h3,h4,h5⟩:=A7 he;obtain⟨w,ew,qz⟩:=r.get h2;have hl:=r.length;have hn:=sZ;have fin:EP X pins σ Q w s:=⟨z,H,I,qz,q⟩;exact subscriptTail_builtinR (x:=w) pl.typeIs slot_tuple_getitem.lookup
  (getItem_tuple (j:=j) (Q:=λr s'=>r=w/\EP X pins σ Q r s') pl (by omega) (by omega) (by rw[bp,<-hl];exact h1) (by simpa using ew) ⟨rfl,fin⟩) hs
theorem Ph:KW X Si:=by
 intro value slice pins s σ H x y v u Q I rx ry h hs;obtain⟨z,i,c,rfl,rfl,hz,he,q⟩:=h;obtain⟨t,rfl⟩:=rx;obtain⟨t',rfl⟩:=ry;obtain⟨j,h1,h2,h3,h4,h5⟩:=A7 he;have hl:z.cps.toList.length=z.length:=by simp[Str.length]
 rw[hl]at h1 h4 h5;have hn:=sZ;exact tail_any (pH s z t) slot_str_getitem.lookup (getItem_str (c:=c) (by
  have e1:decide (i < -(2^63:Int))=false:=qQ0 (by omega)
  have e2:decide (i>=2^63)=false:=qQ0 (by omega)
  rw[e1,e2,Bool.or_false]) (by rw[h1];simpa using h2) ⟨.str ⟨#[c]⟩,H,I.tok _,⟨_,rfl⟩,q⟩) hs
def U7(K:ao):R2:=λx y H Q=>Sf K x y H Q\/Sg K x y H Q\/Si x y H Q
theorem A8:KW X (U7 X.K):=Lq.or (Pg.or Ph)
theorem A9(lo hi:Option Int)(n:Nat):(sliceBounds lo hi none n).1=((HT.kS n 0 lo:Nat):Int)/\(sliceBounds lo hi none n).2.1=((HT.kS n n hi:Nat):Int)/\(sliceBounds lo hi none n).2.2=1:=by
 refine⟨?_,?_,rfl⟩
 ·cases lo with
  |none=>simp[sliceBounds,HT.kS]
  |some i=>
   simp only[sliceBounds,HT.kS,Option.getD_none,show(1:Int)>0 by decide,if_true]
   by_cases h:i<0
   ·simp only[h,if_true]<;>omega
   ·simp only[h,if_false]<;>omega
 ·cases hi with
  |none=>simp[sliceBounds,HT.kS]
  |some i=>
   simp only[sliceBounds,HT.kS,Option.getD_none,show(1:Int)>0 by decide,if_true]
   by_cases h:i<0
   ·simp only[h,if_true]<;>omega
   ·simp only[h,if_false]<;>omega
theorem zc(its:List ay)(lo hi:Option Int):slicePick its.toArray lo hi none=((its.drop (HT.kS its.length 0 lo)).take (HT.kS its.length its.length hi-HT.kS its.length 0 lo)).toArray:=by
 obtain⟨h1,h2,h3⟩:=A9 lo hi its.toArray.size;unfold slicePick;rw[h1,h2,h3];simp only[sliceRange_one,pick_run,bp]<;>rfl
def WN(K:ao):V->Option Int->Option Int->Hp->VK->Prop:=λx lo hi H Q=>∃a xs,x=.ref a/\lg K H a xs/\∀p,H p=none->Q (.ref p) (upd H p (.lst (Cj xs lo hi)))
theorem Lr:U6 X (WN X.K):=by
 intro pins s σ H x v vl vu lo hi sl Q I rx hs pl pu h;obtain⟨a,xs,rfl,hx,q⟩:=h;cases rx;obtain⟨its,r,ht,hz⟩:=I.list hx;have hlen:=r.length;refine⟨"list",_,slot_list_getitem.lookup,ht.isList.typeIs,?_⟩
 refine wpAny_getItem_list_slice ht.isList hs pl pu .none (by simp) ?_ (by rw[bp]<;>omega)
 rw[zc,<-hlen];refine⟨.ref s.heap.objs.size,_,I.laid (t':=s.toks) (o:=.lst (Cj xs lo hi)) (λb ob q=>aA _ q) (aD _) ?_,rfl,q _ (I.hok.fresh (aD _))⟩
 exact⟨bZ (vO xs lo hi) hz,_,0,(r.drop (HT.kS xs.length 0 lo)).take (HT.kS xs.length xs.length hi-HT.kS xs.length 0 lo),bD _ rfl⟩
theorem um:jM X (.builtin "len") (λxs H Q=>∃p ys,xs=[.ref p]/\(lg X.K H p ys\/qp X.K H p ys)/\Q (.int ys.length) H):=by
 intro pins s σ H xs us Q I r h;obtain⟨p,ys,rfl,hq,q⟩:=h;obtain⟨u,rfl,rx⟩:=vals1 r;cases rx;have hn:=sZ;rcases hq with hq|hq
 ·obtain⟨its,r',pl,hz⟩:=I.list hq
  have hlen:=r'.length;exact Calls.call_len_list pl.isList (by simp only[bp]<;>omega) ⟨.int ys.length,H,I.tok _,⟨s.toks+1,by rw[bp,hlen]⟩,q⟩
 ·obtain⟨its,r',pl,hz⟩:=I.tuple hq
  have hlen:=r'.length;exact len_tuple pl (by simp only[bp]<;>omega) ⟨.int ys.length,H,I.tok _,⟨s.toks+1,by rw[bp,hlen]⟩,q⟩
theorem A_:jM X (.builtin "len") (λxs H Q=>∃z,xs=[.str z]/\z.length<=sizeLine/\Q (.int z.length) H):=by
 intro pins s σ H xs us Q I r h;obtain⟨z,rfl,hz,q⟩:=h;obtain⟨u,rfl,t,rfl⟩:=vals1 r;have hn:=sZ;exact len_str (by omega) ⟨.int z.length,H,I.tok _,⟨_,rfl⟩,q⟩
theorem Ba:jM X (.type "list") (λxs H Q=>∃p ys,xs=[.ref p]/\(lg X.K H p ys\/qp X.K H p ys)/\∀l,H l=none->Q (.ref l) (upd H l (.lst ys))):=by
 intro pins s σ H xs us Q I r h;obtain⟨p,ys,rfl,hq,q⟩:=h;obtain⟨u,rfl,rx⟩:=vals1 r;cases rx;have fin:∀(its:List ay),ez ys its->ys.length<=sizeLine->∀(h':c6)(c':Nat),(∀b o',s.heap.get? b=some o'->h'.get? b=some o')->
   h'.get? s.heap.objs.size=some { cls:=.type "list",dict:=none,data:=.seq its.toArray c',slots:=#[] }->EP X pins σ Q (.ref s.heap.objs.size) { s with heap:=h' }:=λits r' hz h' c' kp e=>
  ⟨.ref s.heap.objs.size,_,I.laid (t':=s.toks) kp (aD _) (show gS X.prog X.w _ h' _ (.lst ys) from⟨hz,its,c',r',e⟩),rfl,q _ (I.hok.fresh (aD _))⟩
 rcases hq with hq|hq
 ·obtain⟨its,r',pl,hz⟩:=I.list hq
  have hlen:=r'.length;obtain⟨o,ho,hc,n,hd⟩:=pl.isList;exact call_list_seq p (.inl rfl) ho hc hd (λh' c' kp e=>fin its r' hz h' c' kp e) (by simp only[bp]<;>omega)
 ·obtain⟨its,r',pl,hz⟩:=I.tuple hq
  have hlen:=r'.length;obtain⟨o,ho,hc,n,hd⟩:=pl;exact call_list_seq p (.inr rfl) ho hc hd (λh' c' kp e=>fin its r' hz h' c' kp e) (by simp only[bp]<;>omega)
theorem jN:jM X (.type "tuple") (λxs H Q=>∃p ys,xs=[.ref p]/\((lg X.K H p ys/\∀l,H l=none->Q (.ref l) (upd H l (.tup ys)))\/(qp X.K H p ys/\Q (.ref p) H))):=by
 intro pins s σ H xs us Q I r h;obtain⟨p,ys,rfl,h⟩:=h;obtain⟨u,rfl,rx⟩:=vals1 r;cases rx;rcases h with⟨hq,q⟩|⟨hq,q⟩
 ·obtain⟨its,r',pl,hz⟩:=I.list hq
  have hlen:=r'.length;refine call_tuple_list pl.isList (λh' kp=>?_) (by simp only[bp]<;>omega)
  have I1:Inv X pins σ H { s with heap:=h' }:=I.kept (t':=s.toks) kp
  have I2:Inv X pins σ (upd H h'.objs.size (.tup ys)) { s with heap:=h'.push { cls:=.type "tuple",data:=.seq its.toArray } }:=
   I1.laid (t':=s.toks) (λb o e=>aA _ e) (aD _) (show gS X.prog X.w _ _ _ (.tup ys) from⟨hz,its,r',sA _ _⟩)
  exact⟨.ref h'.objs.size,_,I2,rfl,q _ (I1.hok.fresh (aD _))⟩
 ·obtain⟨its,r',pl,hz⟩:=I.tuple hq
  exact call_tuple_same pl ⟨.ref p,H,I,rfl,q⟩
def ZI(K:ao)(T:String)(x:V)(H:Hp):Prop:=match x with
 | .str _=>T="str"
 | .int _=>T="int"
 | .ref p=>(T="list"/\∃xs,lg K H p xs)\/(T="tuple"/\∃o,K.lookup p=some o/\o.cls=.type "tuple"/\o.dict=none)\/
   (T="dict"/\((∃kvs,H p=some (.dK kvs))\/∃kvs,H p=some (.dT kvs)))\/(T="set"/\∃S n,H p=some (.set S n))
 |_=>False
theorem Pj{pins:List (aL×Obj)}{σ:St}{H:Hp}{s:aK}{T:String}{x:V}{v:ay}(I:Inv X pins σ H s)(r:RelV x v)(ty:ZI X.K T x H):
  s.TypeIs v T/\∀a,v=.ref a->∃ob,s.heap.get? a=some ob/\ob.dict=none:=by
 cases x with
 |str z=>
  obtain⟨t,rfl⟩:=r
  cases(show T="str" from ty)
  exact⟨pH s z t,λ_ e=>nomatch e⟩
 |int i=>
  obtain⟨t,rfl⟩:=r
  cases(show T="int" from ty)
  exact⟨xg s i t,λ_ e=>nomatch e⟩
 |ref p=>
  cases r;rcases ty with⟨rfl,xs,hq⟩|⟨rfl,o,hk,hc,hd⟩|⟨rfl,hk⟩|⟨rfl,S,n,hk⟩
  ·obtain⟨its,_,pl,_⟩:=I.list hq
   refine⟨pl.isList.typeIs,λa e=>?_⟩
   cases e;obtain⟨o,n,e,c,hd,_⟩:=pl;exact⟨o,e,hd⟩
  ·refine⟨⟨o,I.sF p o hk,hc⟩,λa e=>?_⟩
   cases e;exact⟨o,I.sF _ o hk,hd⟩
  ·have z:∃o,s.heap.get? p=some o/\o.ExactDict:=by
    rcases hk with⟨kvs,hk⟩|⟨kvs,hk⟩
    ·obtain⟨_,_,_,_,o,_,_,e,ex,_⟩:=I.hok p _ hk
     exact⟨o,e,ex⟩
    ·obtain⟨_,_,_,_,o,_,_,e,ex,_⟩:=I.hok p _ hk
     exact⟨o,e,ex⟩
   obtain⟨o,e,ex⟩:=z;refine⟨⟨o,e,ex.1⟩,λa e2=>?_⟩
   cases e2;exact⟨o,e,ex.2.1⟩
  ·obtain⟨o,_,_,_,e,ex,_⟩:=I.hok p _ hk
   refine⟨⟨o,e,ex.1⟩,λa e2=>?_⟩
   cases e2;exact⟨o,e,ex.2.1⟩
 |_=>exact eP ty
def tBM(K:ao)(T:String)(r:V->List V->Hp->VK->Prop)(to:TE)(t:TA):TE:=λσ H Q=>to σ H λx H1=>ZI K T x H1/\t σ H1 λxs H2=>r x xs H2 Q
variable{o e:cj}{es:List cj}{to:TE}{t:TA}{name:Str}{apos mX:Pos}{T id:String}{r:V->List V->Hp->VK->Prop}
theorem xF(pa:PlainAttrs T)(slot:Slot T name id)(hty:typeOf (.builtin id)=pure (.type "method_descriptor"))(hm:MtR X id r)(ho:PE X o to)(ha:PA X (e::es) t)
  (mY:attributeBase o name X.env (eval o X.env)=eval o X.env:=by rfl)
  (tj:((backTo mX (starEach (e::es) X.env)).all (λx=>!x.1)&&(backToKw mX (keywordEach [] X.env)).all (λx=>x.1.isSome)
   && decide ((e::es).length+([]:List iO).length+(if([]:List iO).isEmpty then 0 else 1)<30))=true:=by rfl)
  (hline:(apos.endLine==mX.line)=true:=by rfl) (hs:starEach (e::es) X.env=(false,eval e X.env)::starEach es X.env:=by rfl) (jX:(backTo mX (starEach es X.env)).any (·.1)=false:=by rfl) :
  PE X (.Call (.Attribute o name apos) (e::es) [] mX) (tBM X.K T r to t):=by
 intro pins s σ H Q I h;refine wpAny_Call_method_late mY tj hline rfl (fS (ho pins s σ H _ I h) λv s1 ⟨x,H1,I1,r1,ty,q1⟩=>?_)
 obtain⟨h1,h2⟩:=Pj I1 r1 ty;refine⟨T,id,pa,slot,hty,h1,h2,?_⟩
 have hA:=ha mX pins s1 σ H1 _ I1 q1;rw[hs]at hA ⊢;refine kY (by show(false||(backTo mX (starEach es X.env)).any (·.1))=false;rw[jX]<;>rfl) (lX ?_)
 exact fS hA λus s2 ⟨vs,H2,I2,r2,q2⟩=>hm pins s2 σ H2 x vs v us Q I2 r1 r2 q2
end
def Sj(X:Cx)(id:String)(r:V->List V->Hp->VK->Prop):Prop:=
 ∀(pins:List (aL×Obj))(s:aK)(σ:St)(H:Hp)(x:V)(xs:List V)(v:ay)(us:List ay)(Q:VK),Inv X pins σ H s->RelV x v->ez xs us->r x xs H Q->
  wpAny (model X.prog X.w) X.A (call (.builtin id) (v::us)) (EP X pins σ Q) X.xe s
theorem ez.one:∀{x:V}{us:List ay},ez [x] us->∃u,us=[u]/\RelV x u
 |_,_,.cons r .nil=>⟨_,rfl,r⟩
theorem ez.two:∀{x y:V}{us:List ay},ez [x,y] us->∃u v,us=[u,v]/\RelV x u/\RelV y v
 |_,_,_,.cons r (.cons q .nil)=>⟨_,_,rfl,r,q⟩
theorem ez.rep(h:ez xs us):∀k:Nat,ez (aH k xs).flatten (aH k us).flatten
 |0=>.nil
 |k+1=>by
  rw[dv,dv,eM,eM];exact ez.append h (ez.rep h k)
theorem foldl_rep(its:List ay):∀(k:Nat)(acc:List ay),
  zB (λx1 x2=>x1++x2) acc.toArray (aH k its.toArray)=(acc++(aH k its).flatten).toArray
 |0,acc=>by simp
 |k+1,acc=>by
  have e:acc.toArray++its.toArray=(acc++its).toArray:=by simp
  have e2:(acc++its)++(aH k its).flatten=acc++(aH (k+1) its).flatten:=by
   rw[dv,eM,eU]
  rw[<-e2,<-foldl_rep its k (acc++its),<-e,dv,mM]
section
variable{X:Cx}{pins:List (aL×Obj)}{σ:St}{H:Hp}{s:aK}{l b:aL}{xs ys zs:List V}
theorem Inv.Sl{its': List ay}{f:Array ay->Array ay}(I:Inv X pins σ H s)(hH:H l=some (.lst xs))
  (e:s.heap.get? l=some { cls:=.type "list",data:=.seq its.toArray n })(hf:f its.toArray=its'.toArray)(hv:ez ys its')(hz:ys.length<=sizeLine):
  Inv X pins σ (upd H l (.lst ys)) { s with heap:=s.heap.update l (Obj.mapSeq f),toks:=t' }:=by
 have q:=PySem.IsL.update e f;rw[hf]at q;refine I.write (x:=l) (e:=l) (by rw[hH];exact trivial) (.inl rfl) (λb' u hb hu=>(dz s.heap (Obj.mapSeq f) (bM hb)).trans hu) ⟨_,q⟩ ?_
 exact⟨hz,its',_,hv,q⟩
theorem Inv.Sn(I:Inv X pins σ H s)(hv:ez ys its)(hz:ys.length<=sizeLine):
  Inv X pins σ (upd H s.heap.objs.size (.lst ys)) { s with heap:=s.heap.push { cls:=.type "list",data:=.seq its.toArray },toks:=t' }:=
 I.laid (λ_ _ q=>aA _ q) (aD _) ⟨hz,its,0,hv,bD _ rfl⟩
theorem Inv.fresh(I:Inv X pins σ H s):H s.heap.objs.size=none:=I.hok.fresh (aD _)
theorem Inv.Pk(I:Inv X pins σ H s)(hH:H l=some (.lst xs)):xs.length<=sizeLine/\∃(its:List ay)(n:Nat),ez xs its/\xs.length=its.length/\s.heap.get? l=some { cls:=.type "list",data:=.seq its.toArray n }:=by
 obtain⟨z,its,n,r,e⟩:=I.hok l _ hH;exact⟨z,its,n,r,r.length,e⟩
theorem IL(h:n<=sizeLine):mN n=false:=by
 unfold mN;exact qQ0 (by omega)
end
section
variable{X:Cx}
def Ls:V->List V->Hp->VK->Prop:=λx vs H Q=>∃l xs y,x=.ref l/\vs=[y]/\H l=some (.lst xs)/\xs.length<sizeLine/\Q .non (upd H l (.lst (xs ++ [y])))
theorem rR:Sj X "list.append" Ls:=by
 intro pins s σ H x vs v us Q I rx rv h;obtain⟨l,xs,y,rfl,rfl,hH,hz,q⟩:=h;cases rx;obtain⟨u,rfl,ru⟩:=rv.one;obtain⟨z,its,n,r,hl,e⟩:=I.Pk hH;refine jm F.slot_list_append ⟨_,e,rfl⟩ F.entry_list_append (F.args_list_append_2 _ _) (PySem.list_append l its.toArray n u (by rw[bp];omega)) ⟨e,?_⟩
 refine⟨.non,_,I.Sl (its':=its ++ [u]) hH e (by simp) (r.append (.cons ru .nil)) ?_,rfl,q⟩
 rw[aV,lH];omega
def WO:R2:=λx y H Q=>∃l k xs,x=.ref l/\y=.int k/\H l=some (.lst xs)/\-(2^63)<=k/\k<2^63/\xs.length*k.toNat<=sizeLine/\
 ∀p,H p=none->Q (.ref p) (upd H p (.lst (aH k.toNat xs).flatten))
theorem len_rep{α:Type}(xs:List α)(k:Nat):(aH k xs).flatten.length=k*xs.length:=by
 induction k with
 |zero=>simp
 |succ k ih=>rw[dv,eM,aV,ih,qJ,Nat.add_comm]
theorem Pm:rP X (binaryOp .Mult) WO:=by
 intro pins s σ H x y v u Q I rx ry h;obtain⟨l,k,xs,rfl,rfl,hH,h1,h2,hz,q⟩:=h;cases rx;obtain⟨t,rfl⟩:=ry;obtain⟨z,its,n,r,hl,e⟩:=I.Pk hH;have hlen:its.toArray.size*k.toNat<=sizeLine:=by rw[bp,<-hl];exact hz
 have WQ:¬its.toArray.size*k.toNat>(2^63-1)/8:=by
  have:(sizeLine:Nat)<=(2^63-1)/8:=by decide
  omega
 have IQ:¬(!lR k)=true:=by
  rw[fitsIndex_both h1 h2];exact cF
 have Sq:¬mN (its.toArray.size*k.toNat)=true:=by
  rw[IL hlen];exact cF
 have GU:zB (λx1 x2=>x1++x2) #[] (aH (if its.toArray.isEmpty=true then 0 else k.toNat) its.toArray)=(aH k.toNat its).flatten.toArray:=by
  have f0:∀m:Nat,zB (λx1 x2=>x1++x2) #[] (aH m its.toArray)=(aH m its).flatten.toArray:=λm=>by
   have:=foldl_rep its m [];rw[qK]at this;exact this
  rw[f0];cases its with
  |nil=>simp
  |cons a r'=>rw[qQ2 (by simp)]
 refine Fm (T:="list") (U:="int") (by decide) ⟨_,e,rfl⟩ (λs'=>xg s' k t) noFill_list_mul F.fills_int_mul sD repeat_list F.slot_int_index.lookup
  (jm sD (xg s k t) F.entry_int_rmul (F.args_int_rmul_2 _ _) (int___rmul___int_list k t l its.toArray n)
   ⟨e,rfl,⟨_,e,rfl⟩,jm F.slot_list_mul ⟨_,e,rfl⟩ F.entry_list_mul (F.args_list_mul_2 _ _) (AutoListH.list___mul___list_int_3 l its.toArray n k t IQ WQ Sq) ⟨e,?_⟩⟩)
 rw[GU];exact⟨.ref _,_,I.Sn (t':=s.toks) (r.rep k.toNat) (by rw[len_rep,DJ];exact hz),rfl,q _ I.fresh⟩
end
section
variable{prog:bC}{w:cw}{A:dJ}{E:ay->aK->Prop}{s:aK}
end
section
variable{X:Cx}
end
end L2
namespace ZJ
open PySem PySem.W PySem.Calls PyProof.Rows
variable{h:c6}{l:OpenLaw}{P:AU}
theorem wz:∀(ns:List Int)(vs:List ay),WellAll P h vs (ns.map WData.int)->yX vs ns:=by
 intro ns
 induction ns with
 |nil=>
  intro vs w;rw[gX]at w;cases w;exact .nil
 |cons n ns ih=>
  intro vs w;rw[aR]at w;cases w with
  |cons a b=>
   cases a;exact .cons _ _ (ih _ b)
theorem GV{n:Nat}(hn:l.most=some n){args:List WData}{vals:List ay}
  (D6:l.row.toRowW.claim.pre args=true)(Pn:WellAll P h vals args):
  ∃a vs ns,vals=[bf a]/\args=[WData.list (ns.map WData.int)]/\h.get? a=some { cls:=.type "list",data:=.seq vs.toArray }/\yX vs ns/\ns.length<=n:=by
 have hsh:WShape.hasAll [] args [.list .int]=true:=(pre_splitW D6).1;have hc:l.pre.holds [] { args:=args }=true:=(pre_splitW D6).2;obtain⟨d,r,rfl,h1,h2⟩:=hasAllW_cons hsh;obtain rfl:=hasAllW_nil h2;obtain⟨xs,rfl,h3⟩:=hasW_list h1;obtain⟨ns,rfl⟩:=items_int h3;have hlen:ns.length<=n:=by
  unfold OpenLaw.pre at hc;have h4:(WTm.not (.lt (.lit (.int (n:Int))) (.len (.arg 0)))).holds [] { args:=[.list (ns.map .int)] }=true:=by
   have h4:=(holds_andW hc).1;rw[hn]at h4;exact h4
  have h5:=condW_of h4 (w_not (w_lt w_lit (w_len_list (w_arg rfl))));rw[aj]at h5;refine fZ λq=>?_
  have q':(n:Int)<((ns.length:Nat):Int):=by omega
  first
   |(rw[qQ1 q']at h5;exact qQ7 h5 (by decide))
   |(simp at h5;omega)
 cases Pn with
 |cons w1 w2=>
  cases w2;cases w1 with
  |list ho uo=>exact⟨_,_,ns,rfl,rfl,ho,wz ns _ uo,hlen⟩
theorem GW(l:OpenLaw)(args:List WData):l.row.toRowW.claim.post args (.bool true) args=true:=
 postW_of (r:=l.row.toRowW) (X:=(true==true))
  (show WShape.has [] (.bool true) .bool=true by first|rfl|decide|simp[WShape.has,WShape.arms,WShape.armsAll])
  (show(WTm.eq .res (.lit (.bool true))).value [] { args:=args,res:=some (.bool true),after:=args }=some (.bool (true==true))from w_eq_bool (w_res rfl) w_lit) rfl
theorem Ck{n:Nat}{q:bC}{loose:List Str}{XP:(Str->Option ay)->c6->Prop}{YP:cw->c6->Prop}{d:DefRec}
  (hn:l.most=some n)(Sr:d.params.defaults=[])
  (call:∀(w:cw)(s₀ s₁:aK)(mg mb:Str->Option ay)(fa:aL)(o:Obj)(pm cd doc:ay)(a:aL)(vs:List ay)(ns:List Int),
   Ground q loose [] XP w s₀ mg mb s₁.heap->YP w s₁.heap->
   s₁.heap.get? fa=some o->o.data=.func (docDef d.name d.params d.body d.scope pm cd doc)->s₁.heap.CodeRec cd d.name->mg d.name=some (.ref fa)->
   s₁.heap.get? a=some { cls:=.type "list",data:=.seq vs.toArray }->yX vs ns->ns.length<=n->s₁.gens=#[]->
   codeAny (model l.prog w) callerA (.call (.ref fa) ⟨[.ref a],[]⟩) (λr s'=>r=.ok (.ret (.bool true))/\OldK s₁.heap s'.heap/\s'.os=s₁.os/\qC s'.gens) s₁) :
  WalkO q loose XP YP l.row.toRowW d [] (λf vs=>PySem.call f vs):=by
 intro w s₀ s₁ mg mb G Y fa o pm cd doc dV kV ho hd qT hD KY hg args vals as D6 hlay hrd Pn hlo;obtain rfl:dV=.none:=Dflts.none hD Sr;obtain rfl:kV=.none:=Dflts.noKw hD;obtain⟨a,vs,ns,rfl,rfl,Pp,hints,hlen⟩:=GV hn D6 Pn;refine enter_call (kf (call w s₀ s₁ mg mb fa o pm cd doc a vs ns G Y ho (fd_plain hd) qT KY Pp hints hlen hg) λr s' hq=>?_)
 obtain⟨rfl,h2,h3,h4⟩:=hq;exact⟨.inl ⟨.bool true,.bool true,[],rfl,λ_=>rfl,.bool true,GW l _,λ_=>⟨List.Pairwise.nil,λ_ hm=>(nomatch hm)⟩⟩,h2,h3,h4⟩
section
variable{prog:bC}{w:cw}{A:dJ}{E:ay->aK->Prop}{s:aK}{K:Frag}
end
end ZJ
namespace L2
open PySem PySem.Spec PyProof.Rows
variable{a b f:aL}{X:Cx}{fd:e9}{h':c6}{H H':Hp}{pins:List (aL×Obj)}{xs:List (List Key×aL×ay)}{kvs:List (List Key×V)}{GX:List (TE×TE)}{ps:List Str}{o:Option V}{pos:Pos}{P:bC}{K:ao}{s:aK}{st:iH}{qual x:Str}{y:V}{u:ay}{Q:ay->aK->Prop}{w:cw}
theorem zT:∀{vs:List ay}{ns:List Int},yX vs ns->ez (ns.map V.int) vs
 |_,_,.nil=>.nil
 |_,_,.cons n t h=>.cons ⟨t,rfl⟩ (zT h)
def Only(H:Hp):Prop:=∀b,H b=none\/∃o xs,H b=some (.GB o (.lst xs))
theorem IU{mg mb:Str->Option ay}{CX:GQ}{k:Nat}{fa: aL}{sp:Sp}{s₁:aK}{vs:List ay}{ns:List Int}
  (KX:K.In s₁.heap)(D7:s₁.heap.Ns mainGlobals mg)(hb:s₁.heap.Ns builtinsNs mb)(U8:∀x:Str,x≠"__name__"->mb x=bootBuiltins x)(WR:s₁.heap.NoLimit)(hg:s₁.gens=#[])
  (ha:s₁.heap.get? a=some { cls:=.type "list",data:=.seq vs.toArray })(hi:yX vs ns)(hl:ns.length<=sizeLine)(hr:fF k callerA)
  (F:∀base:c6,K.In base->base.Ns mainGlobals mg->eX P w K mg base CX k fa fd [x] sp)(Ss:∀(s:aK)(u:ay),BindsTo s fd ⟨[u],[]⟩ [(x,u)])
  (za:∀H:Hp,Only H->lg K H a (ns.map V.int)->sp [.ref a] H (λv _=>v=.bl true) λ_ _ _=>False)
  (WT:∀H e s',CX [] H s₁ (λ_ _ _=>False) e s'->False):
  codeAny (model P w) callerA (.call (.ref fa) ⟨[.ref a],[]⟩) (λr s'=>r=.ok (.ret (.bool true))/\OldK s₁.heap s'.heap/\s'.os=s₁.os/\qC s'.gens) s₁:=by
 have rv:=zT hi;have WU:=hi.length;have core:∀H:Hp,Only H->lg K H a (ns.map V.int)->qF P w H s₁.heap->(∀b,H b≠none->b=a)->(H a≠none->K.lookup a=none)->
   codeAny (model P w) callerA (.call (.ref fa) ⟨[.ref a],[]⟩) (λr s'=>r=.ok (.ret (.bool true))/\OldK s₁.heap s'.heap/\s'.os=s₁.os/\qC s'.gens) s₁:=by
  intro H hO hS hok hA hK;have FK:∀{b:aL}{o:Obj},s₁.heap.get? b=some o->H b=none->(A0 s₁.heap H).get? b=some o:=λe n=>Ip e n
  have R8:∀{b:aL}{o:Obj}{es:Array AV}{ep:Nat},s₁.heap.get? b=some o->o.data=.dict es ep->H b=none:=λ{b o es ep}e d=>by
   cases q:H b with
   |none=>rfl
   |some u=>
    have e':b=a:=hA b (by rw[q];simp)
    subst e';rw[ha]at e;cases e;have d':Data.seq vs.toArray _=Data.dict es ep:=d;cases d'
  have U9:∀{b:aL}{m:Str->Option ay},s₁.heap.Ns b m->(A0 s₁.heap H).Ns b m:=λ{b m}⟨o,es,ep,e,d,r⟩=>⟨o,es,ep,FK e (R8 e d),d,r⟩
  have ZK:K.In (A0 s₁.heap H):=λb o e=>FK (KX b o e) (by
   cases q:H b with
   |none=>rfl
   |some u=>
    have e':b=a:=hA b (by rw[q];simp)
    subst e';rw[hK (by rw[q];simp)]at e;cases e)
  have hM:Mod K mg (A0 s₁.heap H):=⟨ZK,U9 D7,⟨mb,U9 hb,U8⟩,let⟨mc,h1,h2⟩:=WR;⟨mc,U9 h1,h2⟩⟩;have e0:D2 P w K mg (A0 s₁.heap H) callerA [] s₁ H:=⟨rfl,hM,λb o e=>K6 e,Nat.le_of_eq (GC _ _),trivial,λb hb=>qQ7 (show b∈([]:List aL)from hb) (by simp),hok,.of_eq hg⟩
  refine kf ((F _ ZK (U9 D7)).run callerA [] s₁ H ⟨[.ref a],[]⟩ [.ref a] [.ref a] _ _ hr e0 (Ss s₁ (.ref a)) (.cons rfl .nil) (za H hO hS)) λr s' h=>?_
  cases r with
  |error e=>exact(WT H e s' h).elim
  |ok fl=>
   cases fl with
   |next=>exact eP h
   |brk=>exact eP h
   |cont=>exact eP h
   |ret u=>
    obtain⟨v,H',os,bare,un,WV,r',q⟩:=h;have q':v=.bl true:=q;subst q';obtain rfl:u=ay.bool true:=r';refine⟨rfl,OldK.of_keep λb o e=>?_,os,bare⟩
    cases q:H b with
    |none=>exact un.keep b o e q (by intro z;exact qQ7 (show b∈([]:List aL)from z) (by simp)) (by simp)
    |some u=>
     rcases hO b with z|⟨ob,xs,z⟩
     ·rw[q]at z;cases z
     ·have z2:=un.va b ob _ z
      obtain⟨e1,_⟩:=hok b _ z;obtain⟨e2,_⟩:=WV b _ z2;rw[e]at e1;cases e1;exact e2
 cases hk:K.lookup a with
 |some o=>
  have e:=KX a o hk;rw[ha]at e;cases e;refine core (λ_=>none) (λ_=>.inl rfl) (.inr ⟨_,vs.toArray,_,hk,rfl,rfl,rfl,by rw[bp,WU];exact hl,by simpa using rv⟩) (λb u z=>by have z':(none:Option HO)=some u:=z;cases z') (λb z=>qQ7 rfl z) λz=>qQ7 rfl z
 |none=>
  refine core (λb=>if b=a then some (.GB { cls:=.type "list",data:=.seq vs.toArray } (.lst (ns.map V.int)))else none) (λb=>?_) (.inl (.inr ⟨{ cls:=.type "list",data:=.seq vs.toArray },qQ3 rfl⟩)) (λb u z=>?_) (λb z=>?_) λ_=>hk
  ·by_cases hb:b=a
   ·exact .inr ⟨_,_,qQ3 hb⟩
   ·exact .inl (qQ2 hb)
  ·by_cases hb:b=a
   ·have z':=(qQ3 hb).symm.trans z
    cases z';subst hb;exact⟨ha,by rw[aj];exact hl,vs,_,rv,ha⟩
   ·have z':=(qQ2 hb).symm.trans z
    cases z'
  ·by_cases hb:b=a
   ·exact hb
   ·exact qQ7 (qQ2 hb) z
theorem Lv{l:PySem.W.OpenLaw}{n k:Nat}{q:bC}{loose:List Str}{XP:(Str->Option ay)->c6->Prop}{YP:cw->c6->Prop}{d:DefRec}{K:AU->ao}{CX:cw->GQ}{sp:cw->Sp}
  (hn:l.most=some n)(Ca:n<=sizeLine)(Sr:d.params.defaults=[])(hr:fF k callerA)
  (hY:∀(w:cw)(h:c6),YP w h->(K w.params).In h)
  (F:∀(w:cw)(mg:Str->Option ay)(fa:aL)(h:c6),(K w.params).In h->h.Ns mainGlobals mg->mg d.name=some (.ref fa)->
   ∃fd:e9,(∀(s:aK)(u:ay),BindsTo s fd ⟨[u],[]⟩ [(x,u)])/\
    ∀base:c6,(K w.params).In base->base.Ns mainGlobals mg->eX l.prog w (K w.params) mg base (CX w) k fa fd [x] (sp w))
  (za:∀(w:cw)(H:Hp)(a:aL)(ns:List Int),ns.length<=n->Only H->lg (K w.params) H a (ns.map V.int)->sp w [.ref a] H (λv _=>v=.bl true) λ_ _ _=>False)
  (WT:∀(w:cw)(H:Hp)(s:aK)(e:ay)(s':aK),CX w [] H s (λ_ _ _=>False) e s'->False) :
  PySem.W.WalkO q loose XP YP l.row.toRowW d [] (λf vs=>PySem.call f vs):=by
 refine ZJ.Ck hn Sr λw s₀ s₁ mg mb fa o pm cd doc a vs ns G Y ho hd qT KY Pp hints hlen hg=>?_
 have KX:=hY w _ Y;obtain⟨fd,hb,hF⟩:=F w mg fa _ KX G.T.g KY;exact IU KX G.T.g G.T.b G.T.builtins G.T.nolimit hg Pp hints (bZ hlen Ca) hr hF hb (λH hO hS=>za w H a ns hlen hO hS) λH e s'=>WT w H s₁ e s'
def inClass(s:iH)(j:Nat):iH:=match s with
 | .ClassDef _ _ _ body _ _ _ _ _ _ _=>body.getD j (.Pass ⟨0,0,0,0⟩)
 |_=>.Pass ⟨0,0,0,0⟩
def nO(s:iH):Arguments:=match s with
 | .FunctionDef _ a _ _ _ _ _ _ _ _=>a
 |_=>{ posonlyargs:=[],args:=[],vararg:=none,kwonlyargs:=[],kw_defaults:=[],kwarg:=none,defaults:=[] }
def jS(s:iH):List iH:=match s with
 | .FunctionDef _ _ b _ _ _ _ _ _ _=>b
 |_=>[]
def b9(s:iH):kU:=match s with
 | .FunctionDef _ _ _ _ _ _ sc _ _ _=>sc
 |_=>{ kind:=.function,names:=[],isGenerator:=false,isCoroutine:=false }
abbrev kF:GQ:=λ_ _ _ _ _ _=>False
abbrev E0:XK:=λ_ _ _=>False
theorem zU:vf kF X E0:=λ_ _ _ _ _ _ _ h=>h.elim
structure lq(K:ao)(x qual:Str)(st:iH)(f:aL)(fd:e9):Prop where
 ex:∃(oc:ay)(od:Option aL)(kV doc pm:ay)(an:Option aL)(h8 ct:ay)(FG:Array (Option ay)),
  fd=il x qual (nO st) (jS st) (b9 st) .none kV doc pm an h8 ct/\K.lookup f=some ⟨oc,od,.func fd,FG⟩/\kD K h8 qual=true
 kp:eO K (.ref f)=true
section
variable{P:bC}{w:cw}{K:ao}{mg:Str->Option ay}{base:c6}
theorem lq.ok{N: List Str}{k:Nat}{sp:Sp}(F:lq K x qual st f fd)(S:c9 N ps (b9 st))(len:∀vs H Q E,sp vs H Q E->vs.length=ps.length)
  (IJ:∀(h8:ay)(A:dJ)(outer:List Env)(s:aK)(H:Hp)(vs:List V)(Q:VK)(E:XK),fF k (A.deeper (envOfC qual (b9 st) s.heap.objs.size f h8))->sp vs H Q E->
   ∃t,Fx (y_ kF P w K mg base N qual (b9 st) f h8 A outer s H E).OV (jS st) t/\t { nx:=λ_ H'=>Q .non H',rt:=Q } (start N vs) H):eX P w K mg base kF (k+1) f fd ps sp:=by
 obtain⟨oc,od,kV,doc,pm,an,h8,ct,FG,rfl,lk,qT⟩:=F.ex;refine NC lk qT S len λA outer s H vs Q E hr za=>?_
 obtain⟨t,h,q⟩:=IJ h8 A outer s H vs Q E hr za;exact⟨t,h.OV,q⟩
theorem lq.binds(F:lq K x qual st f fd)
  (h:∀(kV doc pm:ay)(an:Option aL)(h8 ct:ay)(us:List ay),us.length=ps.length->bindArgs (il x qual (nO st) (jS st) (b9 st) .none kV doc pm an h8 ct) ⟨us,[]⟩=pure (ps.zip us)):Binds K fd ps []:=by
 obtain⟨oc,od,kV,doc,pm,an,h8,ct,FG,rfl,lk,qT⟩:=F.ex;exact .all (h kV doc pm an h8 ct)
theorem D8{oc:ay}{od an:Option aL}{FG:Array (Option ay)}{kV doc pm h8 ct:ay}(l:K.lookup f=some ⟨oc,od,.func (il x qual (nO st) (jS st) (b9 st) .none kV doc pm an h8 ct),FG⟩)
  (c:kD K h8 qual=true)(k:eO K (.ref f)=true):lq K x qual st f (il x qual (nO st) (jS st) (b9 st) .none kV doc pm an h8 ct):=⟨⟨oc,od,kV,doc,pm,an,h8,ct,FG,rfl,l,c⟩,k⟩
end
section
variable{X:Cx}
theorem pv(i:Nat)(hN:X.N[i]?=some x:=by rfl)(hv:Ft X.env.scope x:=by first|exact bB rfl|exact dm (bB rfl)|exact dm (dm rfl))(hd:(x==("__debug__":Str))=false:=by decide)
  (qT:(x==("__classdict__":Str))=false:=by decide):PE X (.Name x pos) (RA i):=h7 hN hv hd qT
end
theorem IV{A B:Prop}(h:B):if false=true then A else B:=by
 rw[qQ2 cF];exact h
theorem Sv{A B:Prop}(h:A):if true=true then A else B:=by
 rw[qQ3 rfl];exact h
def ej(H H':Hp):Prop:=∀b o,H b=some o->H' b=some o
theorem ej.refl(H:Hp):ej H H:=λ_ _ h=>h
theorem ej.trans{H1 H2: Hp}(a:ej H H1)(b:ej H1 H2):ej H H2:=λc o h=>b c o (a c o h)
theorem ej.free(e:ej H H'){l:aL}(h:H' l=Option.none):H l=Option.none:=by
 cases q:H l with
 |none=>rfl
 |some o=>
  rw[e l o q]at h;cases h
theorem ej.seq{xs:List V}(e:ej H H')(h:lg K H a xs):lg K H' a xs:=by
 rcases h with(h|⟨o,h⟩)|h
 ·exact .inl (.inl (e _ _ h))
 ·exact .inl (.inr ⟨o,e _ _ h⟩)
 ·exact .inr h
section
variable{κ:Type}[DecidableEq κ]
def ja(kvs:List (κ×V))(k:κ):Option V:=(kvs.find? λkv=>decide (kv.1=k)).map (·.2)
def putK(kvs:List (κ×V))(k:κ)(v:V):List (κ×V):=
 if(kvs.any λkv=>decide (kv.1=k))=true then kvs.map (λkv=>if kv.1=k then(kv.1,v)else kv)else kvs ++ [(k,v)]
theorem oS{p:κ×V}{r:List (κ×V)}{k:κ}(e:p.1=k):ja (p::r) k=some p.2:=by simp[ja,dY,e]
theorem lK{p:κ×V}{r:List (κ×V)}{k:κ}(e:¬p.1=k):ja (p::r) k=ja r k:=by simp[ja,dY,e]
theorem xG(k:κ):∀kvs:List (κ×V),(kvs.any λkv=>decide (kv.1=k))=(ja kvs k).isSome
 | []=>rfl
 |p::r=>by
  rw[uf];by_cases e:p.1=k
  ·simp only[oS e,qQ1 e,Bool.true_or,Option.isSome_some]
  ·rw[lK e,qQ0 e,Bool.false_or];exact xG k r
theorem nP(kvs:List (κ×V))(k:κ)(v:V):(putK kvs k v).length<=kvs.length+1:=by
 unfold putK
 split
 ·rw[aj];omega
 ·rw[aV,a9,ck];omega
theorem uq{kvs:List (κ×V)}{k:κ}(v:V)(h:ja kvs k=none):putK kvs k v=kvs ++ [(k,v)]:=by
 unfold putK;rw[xG,h];exact qQ2 (by decide)
theorem mW.oU{u:Option ay}(r:mW o u):o.isSome=u.isSome:=by
 cases o with
 |none=>cases u with
  |none=>rfl
  |some _=>exact(show False from r).elim
 |some _=>cases u with
  |none=>exact(show False from r).elim
  |some _=>rfl
theorem mW.getD{u:Option ay}{d:V}{d':ay}(r:mW o u)(rd:RelV d d'):RelV (o.getD d) (u.getD d'):=by
 cases o with
 |none=>cases u with
  |none=>exact rd
  |some _=>exact(show False from r).elim
 |some _=>cases u with
  |none=>exact(show False from r).elim
  |some _=>exact r
theorem KV.val{kvs:List (κ×V)}{vs:List (κ×ay)}(r:KV kvs vs)(k:κ):mW (ja kvs k) (valueAt vs k):=by
 unfold KV at r
 induction r with
 |nil=>exact fz
 | @cons p q ps qs h t ih=>
  obtain⟨h1,h2⟩:=h;by_cases e:p.1=k
  ·have e':q.1=k:=h1.symm.trans e
   have b:valueAt (q::qs) k=some q.2:=by simp[valueAt,dY,e']
   rw[oS e,b];exact h2
  ·have e':¬q.1=k:=λz=>e (h1.trans z)
   have b:valueAt (q::qs) k=valueAt qs k:=by simp[valueAt,dY,e']
   rw[lK e,b];exact ih
theorem KV.any{kvs:List (κ×V)}{vs:List (κ×ay)}(r:KV kvs vs)(k:κ):(kvs.any λkv=>decide (kv.1=k))=vs.any λkv=>decide (kv.1=k):=by
 unfold KV at r
 induction r with
 |nil=>rfl
 |cons h t ih=>rw[uf,uf,ih,h.1]
theorem KV.repl{kvs:List (κ×V)}{vs:List (κ×ay)}(r:KV kvs vs)(k:κ)(ry:RelV y u):
  KV (kvs.map λkv=>if kv.1=k then(kv.1,y)else kv) (vs.map λkv=>if kv.1=k then(kv.1,u)else kv):=by
 unfold KV at r ⊢
 induction r with
 |nil=>exact .nil
 | @cons p q ps qs h t ih=>
  rw[aR,aR];refine .cons ?_ ih
  obtain⟨h1,h2⟩:=h;by_cases e:p.1=k
  ·rw[qQ3 e,qQ3 (h1.symm.trans e)];exact⟨h1,ry⟩
  ·rw[qQ2 e,qQ2 (λz=>e (h1.trans z))];exact⟨h1,h2⟩
theorem KV.put{kvs:List (κ×V)}{vs:List (κ×ay)}(r:KV kvs vs)(k:κ)(ry:RelV y u):KV (putK kvs k y) (stored vs k u):=by
 unfold putK stored;rw[r.any k];by_cases e:(vs.any λkv=>decide (kv.1=k))=true
 ·rw[qQ3 e,qQ3 e];exact r.repl k ry
 ·rw[qQ2 e,qQ2 e];exact DG.snoc r ⟨rfl,ry⟩
theorem KV.length{kvs:List (κ×V)}{vs:List (κ×ay)}(r:KV kvs vs):kvs.length=vs.length:=sW r
end
theorem sH{k:Key}(r:RelV (kV k) u):(fq P w).is k u=true:=by
 cases k with
 |inl i=>obtain⟨t,e⟩:=(show ∃t,u=BU i t from r);subst e;exact B8 P w i t
 |inr x=>obtain⟨t,e⟩:=(show ∃t,u=BV x t from r);subst e;exact qS P w x t
theorem zV:∀{ks:List Key}{us:List ay},ez (ks.map kV) us->ItemsAre (fq P w) ks us
 | [],_,r=>by rw[gX]at r;cases r;exact .nil
 |k::ks,_,r=>by
  rw[aR]at r;cases r with
  |cons h t=>exact .cons (sH h) (zV t)
abbrev KT(H:Hp):List (List Key×V)->List (List Key×aL×ay)->Prop:=DG λp q=>p.1=q.1/\H q.2.1=some (.tup (p.1.map kV))/\RelV p.2 q.2.2
theorem KT.val(r:KT H kvs xs)(k:List Key):mW (ja kvs k) ((atKey xs k).map (·.2)):=by
 induction r with
 |nil=>exact fz
 | @cons p q ps qs h t ih=>
  obtain⟨h1,_,h2⟩:=h;by_cases e:p.1=k
  ·have e':q.1=k:=h1.symm.trans e
   have b:atKey (q::qs) k=some q.2:=by simp[atKey,dY,e']
   rw[oS e,b];exact h2
  ·have e':¬q.1=k:=λz=>e (h1.trans z)
   have b:atKey (q::qs) k=atKey qs k:=by simp[atKey,dY,e']
   rw[lK e,b];exact ih
theorem KT.repl(r:KT H kvs xs)(k:List Key)(ry:RelV y u):
  KT H (kvs.map λkv=>if kv.1=k then(kv.1,y)else kv) (xs.map (putAt k u)):=by
 induction r with
 |nil=>exact .nil
 | @cons p q ps qs h t ih=>
  rw[aR,aR];refine .cons ?_ ih
  obtain⟨h1,h2,h3⟩:=h;unfold putAt;by_cases e:p.1=k
  ·rw[qQ3 e,qQ3 (h1.symm.trans e)];exact⟨h1,h2,ry⟩
  ·rw[qQ2 e,qQ2 (λz=>e (h1.trans z))];exact⟨h1,h2,h3⟩
theorem KT.put(r:KT H kvs xs)(k:List Key)(hb:H b=some (.tup (k.map kV)))(ry:RelV y u):
  KT H (putK kvs k y) (storedH xs k b u):=by
 have e:(kvs.any λkv=>decide (kv.1=k))=(atKey xs k).isSome:=by
  rw[xG,(r.val k).oU,uX]
 unfold putK storedH;rw[e];by_cases q:(atKey xs k).isSome=true
 ·rw[qQ3 q,qQ3 q];exact r.repl k ry
 ·rw[qQ2 q,qQ2 q];exact DG.snoc r ⟨rfl,hb,ry⟩
theorem KT.keeps(r:KT H kvs xs)(ht:∀b ys,H b=some (.tup ys)->H' b=some (.tup ys)):KT H' kvs xs:=
 DG.OB r λ_ _ z=>⟨z.1,ht _ _ z.2.1,z.2.2⟩
section
variable{P:bC}{w:cw}{H:Hp}{h:c6}{a:aL}
theorem NM{u:HO}(ok:qF P w H h)(e:Rd H a u):gS P w H h a u:=e.ok ok
theorem xH{kvs:List (Key×V)}(ok:qF P w H h)(e:Rd H a (.dK kvs)):kvs.length<=sizeLine/\(a==sysModules)=false/\∃vs,KV kvs vs/\h.DictOf (fq P w) a vs:=
 show gS P w H h a (.dK kvs)from NM ok e
theorem IW{kvs:List (Key×V)}(ok:qF P w H h)(e:H a=some (.dK kvs)):kvs.length<=sizeLine/\(a==sysModules)=false/\∃vs,KV kvs vs/\h.DictOf (fq P w) a vs:=xH ok (.inl e)
theorem vi{ks:List Key}(ok:qF P w H h)(e:H a=some (.tup (ks.map kV))):(tupleKind (fq P w)).is h ks a:=by
 obtain⟨_,its,r,o,h1,h2,n,h3⟩:=(show gS P w H h a (.tup (ks.map kV))from ok a _ e)
 exact⟨o,its.toArray,n,h1,h2,h3,by simpa using zV r⟩
theorem xI(ok:qF P w H h)(e:Rd H a (.dT kvs)):kvs.length<=sizeLine/\(a==sysModules)=false/\
  ∃xs,KT H kvs xs/\h.DictOfH (tupleKind (fq P w)) a xs:=by
 obtain⟨z,y,xs,r,o,es,ep,h1,h2,h3,h4,h5⟩:=(show gS P w H h a (.dT kvs)from NM ok e)
 refine⟨z,y,xs,r,o,es,ep,h1,h2,h3,h4,λx hx=>?_,h5⟩
 have all:∀{l:List (List Key×V)}{m:List (List Key×aL×ay)},KT H l m->∀x∈m,(tupleKind (fq P w)).is h x.1 x.2.1:=by
  intro l m q
  induction q with
  |nil=>intro x hx;exact nomatch hx
  | @cons p q ps qs hq t ih=>
   intro x hx;rcases aG.mp hx with e|hx
   ·subst e
    exact vi ok (by rw[<-hq.1];exact hq.2.1)
   ·exact ih x hx
 exact all r x hx
theorem Sw(ok:qF P w H h)(e:H a=some (.dT kvs)):kvs.length<=sizeLine/\(a==sysModules)=false/\
  ∃xs,KT H kvs xs/\h.DictOfH (tupleKind (fq P w)) a xs:=xI ok (.inl e)
end
def qY(H:Hp)(a:aL)(y:V)(r:Option V):Prop:=
 (∃kvs k,Rd H a (.dK kvs)/\y=kV k/\r=ja kvs k)\/∃kvs k b,Rd H a (.dT kvs)/\y=.ref b/\H b=some (.tup (k.map kV))/\r=ja kvs k
def Cm(H:Hp)(a:aL)(y v:V)(H':Hp):Prop:=
 (∃kvs k,H a=some (.dK kvs)/\y=kV k/\kvs.length<sizeLine/\H'=upd H a (.dK (putK kvs k v)))\/
 ∃kvs k b,H a=some (.dT kvs)/\y=.ref b/\H b=some (.tup (k.map kV))/\kvs.length<sizeLine/\H'=upd H a (.dT (putK kvs k v))
theorem qY.k{kvs:List (Key×V)}{k:Key}(e:H a=some (.dK kvs)):qY H a (kV k) (ja kvs k):=.inl ⟨kvs,k,.inl e,rfl,rfl⟩
theorem qY.t{k:List Key}(e:H a=some (.dT kvs))(eb:H b=some (.tup (k.map kV))):qY H a (.ref b) (ja kvs k):=.inr ⟨kvs,k,b,.inl e,rfl,eb,rfl⟩
theorem Cm.k{kvs:List (Key×V)}{k:Key}{v:V}(e:H a=some (.dK kvs))(hl:kvs.length<sizeLine):Cm H a (kV k) v (upd H a (.dK (putK kvs k v))):=.inl ⟨kvs,k,e,rfl,hl,rfl⟩
theorem Cm.t{k:List Key}{v:V}(e:H a=some (.dT kvs))(eb:H b=some (.tup (k.map kV)))(hl:kvs.length<sizeLine):
  Cm H a (.ref b) v (upd H a (.dT (putK kvs k v))):=.inr ⟨kvs,k,b,e,rfl,eb,hl,rfl⟩
section
variable{X:Cx}{pins:List (aL×Obj)}{σ:St}{H:Hp}{s:aK}{a:aL}{y v:V}{u r:ay}{o:Option V}{A:dJ}{E:ay->aK->Prop}
theorem Inv.big(I:Inv X pins σ H s):sysModules<s.heap.objs.size:=by
 have h:mainGlobals<s.heap.objs.size:=(I.mod.glob.keeps I.bk).lt;exact Nat.lt_trans (by decide) h
theorem GY(hu:A.units+1<cLine)(I:Inv X pins σ H s)(g:qY H a y (some v))(ry:RelV y u)(h:∀w' s',Inv X pins σ H s'->RelV v w'->Q w' s'):
  wpAny (model X.prog X.w) A (getItem (.ref a) u) Q E s:=by
 rcases g with⟨kvs,k,e,ey,l⟩|⟨kvs,k,b,e,ey,eb,l⟩
 ·subst ey
  obtain⟨z,hd,vs,rel,dd⟩:=xH I.hok e;obtain⟨w',hw,qz⟩:=mW.some_of (v:=v) (o:=valueAt vs k) (by rw[l];exact rel.val k)
  exact wpAny_getItem_of (sH ry) dd.mapOf hw (h w' _ (I.tok _) qz)
 ·subst ey
  cases(show u=bf b from ry)
  obtain⟨z,hd,xs,rel,dd⟩:=xI I.hok e;obtain⟨w',hw,qz⟩:=mW.some_of (v:=v) (o:=(atKey xs k).map (·.2)) (by rw[l];exact rel.val k)
  obtain⟨p,hp,hp2⟩:=BX.mp hw;refine wpAny_getItem_heap (la hu) (vi I.hok eb) dd hp ?_
  rw[hp2];exact h w' _ (I.tok _) qz
theorem WW(hu:A.units+1<cLine)(I:Inv X pins σ H s)(g:qY H a y o)(ry:RelV y u)(h:∀s',Inv X pins σ H s'->Q (.bool o.isSome) s'):
  wpAny (model X.prog X.w) A (compareOp .In u (.ref a)) Q E s:=by
 rcases g with⟨kvs,k,e,ey,l⟩|⟨kvs,k,b,e,ey,eb,l⟩
 ·subst ey
  obtain⟨z,hd,vs,rel,dd⟩:=xH I.hok e;refine wpAny_in_of (sH ry) hd dd.mapOf ?_
  rw[<-(rel.val k).oU,<-l];exact h _ (I.tok _)
 ·subst ey
  cases(show u=bf b from ry)
  obtain⟨z,hd,xs,rel,dd⟩:=xI I.hok e;refine wpAny_in_heap (la hu) (vi I.hok eb) hd dd ?_
  have q:=(rel.val k).oU;rw[uX]at q;rw[<-q,<-l];exact h _ (I.tok _)
theorem Lw(hu:A.units+1<cLine)(I:Inv X pins σ H s)(g:qY H a y o)(ry:RelV y u)(h:∀s',Inv X pins σ H s'->Q (.bool (!o.isSome)) s'):
  wpAny (model X.prog X.w) A (compareOp .NotIn u (.ref a)) Q E s:=by
 rcases g with⟨kvs,k,e,ey,l⟩|⟨kvs,k,b,e,ey,eb,l⟩
 ·subst ey
  obtain⟨z,hd,vs,rel,dd⟩:=xH I.hok e;refine wpAny_notIn_of (sH ry) hd dd.mapOf ?_
  rw[<-(rel.val k).oU,<-l];exact h _ (I.tok _)
 ·subst ey
  cases(show u=bf b from ry)
  obtain⟨z,hd,xs,rel,dd⟩:=xI I.hok e;refine wpAny_notIn_heap (la hu) (vi I.hok eb) hd dd ?_
  have q:=(rel.val k).oU;rw[uX]at q;rw[<-q,<-l];exact h _ (I.tok _)
theorem wL{t':Nat}{ob:HO}(I:Inv X pins σ H s)(mu:Rw (H a))(hs:jG a s.heap h')(he:∃q,h'.get? a=some q)(new:gS X.prog X.w (upd H a ob) h' a ob):
  Inv X pins σ (upd H a ob) { s with heap:=h',toks:=t' }:=
 I.write (x:=a) (e:=a) mu (.inl rfl) (λb q hb z=>(hs.2 b hb).trans z) he new
theorem D9{kvs:List (Key×V)}{vs:List (Key×ay)}(z:kvs.length<=sizeLine)(hd:(a==sysModules)=false)(rel:KV kvs vs)(dd:h'.DictOf (fq P w) a vs):
  gS P w H' h' a (.dK kvs):=⟨z,hd,vs,rel,dd⟩
theorem GZ{Q:Unit->aK->Prop}(hu:A.units+1<cLine)(I:Inv X pins σ H s)(g:Cm H a y v H')(ry:RelV y u)(rv:RelV v r)(h:∀s',Inv X pins σ H' s'->Q () s'):
  wpAny (model X.prog X.w) A (setItem (.ref a) u r) Q E s:=by
 rcases g with⟨kvs,k,e,ey,l,eH⟩|⟨kvs,k,b,e,ey,eb,l,eH⟩
 ·subst ey eH
  obtain⟨z,hd,vs,rel,dd⟩:=IW I.hok e;have hz:vs.length<=sizeLine:=by rw[<-rel.length];exact z
  have hl:(putK kvs k v).length<=sizeLine:=by have:=nP kvs k v;omega
  refine wpAny_setItem_pairs (hsz:=hz) (sH ry) dd λh' D_ hs=>h _ ?_
  have he:∃q,h'.get? a=some q:=let⟨q,_,_,hq,_⟩:=D_;⟨q,hq⟩;exact wL I (by rw[e];exact fz) hs he (D9 hl hd (rel.put k rv) D_)
 ·subst ey eH
  cases(show u=bf b from ry)
  obtain⟨z,hd,xs,rel,dd⟩:=Sw I.hok e;have hz:xs.length<=sizeLine:=by rw[<-sW rel];exact z
  have hl:(putK kvs k v).length<=sizeLine:=by have:=nP kvs k v;omega
  refine wpAny_setItem_heap (hsz:=hz) (la hu) (vi I.hok eb) dd λh' D_ hs=>h _ ?_
  obtain⟨q,es,ep,hq,h2,h3,h4,_,h5⟩:=D_;refine wL I (by rw[e];exact fz) hs ⟨q,hq⟩ ⟨hl,hd,_,(rel.put k eb rv).keeps λc ys ec=>?_,q,es,ep,hq,h2,h3,h4,h5⟩
  rw[aS (Rv ec e (λz=>nomatch z))]
  exact ec
end
section
variable{X:Cx}{pins:List (aL×Obj)}{σ:St}{H:Hp}{s:aK}{a:aL}{kvs:List (Key×V)}{k:Key}{u:ay}{A:dJ}{E:ay->aK->Prop}
end
def Lx(i:cj):Prop:=∀ov iv,subscripted i false ov iv=operate [ov,iv] (getItem ov iv)
theorem FL{prog:bC}{A:dJ}{E:ay->aK->Prop}{env:Env}{value slice:cj}{T id:String}
  (hl:typeLookup (.type T) "__getitem__"=pure (some (.builtin id)))(hs:Lx slice)
  (h:wpAny (model prog w) A (eval value env) (λo s₁=>wpAny (model prog w) A (eval slice env) (λi s₂=>s₂.TypeIs o T/\wpAny (model prog w) A (getItem o i) Q E s₂) E s₁) E s):
  wpAny (model prog w) A (eval (.Subscript value slice pos) env) Q E s:=by
 refine Subscript_ (eB h (λo s₁ h₁=>eB h₁ (λi s₂ h₂=>?_) λ_ _ x=>x) λ_ _ x=>x)
 obtain⟨hT,h₂⟩:=h₂;unfold subscriptTail;refine au ?_
 rw[getitemInPython_of_ne hT.not_modules];refine au (wpAny_specialOf hT hl ?_)
 have fin:wpAny (model prog w) A (subscripted slice false o i) (λr s₃=>wpAny (model prog w) A (letTemporaryGo value o r >>= λ_=>pure r) Q E s₃) E s₂:=by
  rw[hs o i];exact wpAny_operating (eB h₂ (λr s₃ h₃=>au (wpAny_letTemporaryGo (aY h₃))) λ_ _ x=>x)
 first
  |exact aY (au fin)
  |exact au (aY (au fin))
  |exact au fin
theorem Cp{σ:St}(I:Inv X pins σ H s)(g:qY H a y o):s.TypeIs (.ref a) "dict":=by
 rcases g with⟨kvs,k,e,_,_⟩|⟨kvs,k,b,e,_,_,_⟩
 ·obtain⟨_,_,vs,_,dd⟩:=xH I.hok e
  exact dd.typeIs
 ·obtain⟨_,_,xs,_,dd⟩:=xI I.hok e
  exact dd.typeIs
def Sx(td ty:TE):TE:=λσ H Q=>td σ H λx H1=>ty σ H1 λy H2=>∃a v,x=.ref a/\qY H2 a y (some v)/\Q v H2
def WX(ty td:TE):TE:=λσ H Q=>ty σ H λy H1=>td σ H1 λx H2=>∃a o,x=.ref a/\qY H2 a y o/\Q (.bl o.isSome) H2
def Ly(ty td:TE):TE:=λσ H Q=>ty σ H λy H1=>td σ H1 λx H2=>∃a o,x=.ref a/\qY H2 a y o/\Q (.bl (!o.isSome)) H2
def Sy(td ty tv:TE):TS:=λD σ H=>tv σ H λv H1=>td σ H1 λx H2=>ty σ H2 λy H3=>∃a H4,x=.ref a/\Cm H3 a y v H4/\D.nx σ H4
section
variable{X:Cx}{o i e value:cj}{pos pos' WG:Pos}{td ty tv:TE}
theorem Lz(hu:X.A.units+1<cLine)(ho:PE X o td)(hi:PE X i ty)(hs:Lx i):PE X (.Subscript o i pos) (Sx td ty):=by
 intro pins s σ H Q I h;refine FL yL.lookup hs (fS (ho pins s σ H _ I h) λu s1 ⟨x,H1,I1,rx,q1⟩=>fS (hi pins s1 σ H1 _ I1 q1) λiv s2 ⟨y,H2,I2,ry,a,v,ex,g,q2⟩=>?_)
 subst ex;obtain rfl:u=bf a:=rx;exact⟨Cp I2 g,GY hu I2 g ry λw' s3 I3 qz=>⟨v,H2,I3,qz,q2⟩⟩
theorem IX(hu:X.A.units+1<cLine)(hi:PE X i ty)(ho:PE X o td):PC X .In i o (WX ty td):=by
 intro pins s σ H Q I h;refine fS (hi pins s σ H _ I h) λiv s1 ⟨y,H1,I1,ry,q1⟩=>fS (ho pins s1 σ H1 _ I1 q1) λu s2 ⟨x,H2,I2,rx,a,ov,ex,g,q2⟩=>?_
 subst ex;obtain rfl:u=bf a:=rx;exact WW hu I2 g ry λs3 I3=>⟨.bl ov.isSome,H2,I3,rfl,q2⟩
theorem G5(hu:X.A.units+1<cLine)(hi:PE X i ty)(ho:PE X o td):PC X .NotIn i o (Ly ty td):=by
 intro pins s σ H Q I h;refine fS (hi pins s σ H _ I h) λiv s1 ⟨y,H1,I1,ry,q1⟩=>fS (ho pins s1 σ H1 _ I1 q1) λu s2 ⟨x,H2,I2,rx,a,ov,ex,g,q2⟩=>?_
 subst ex;obtain rfl:u=bf a:=rx;exact Lw hu I2 g ry λs3 I3=>⟨.bl (!ov.isSome),H2,I3,rfl,q2⟩
theorem FN(hu:X.A.units+1<cLine)(ho:PE X o td)(hi:PE X i ty)(hv:PE X value tv)(hs:swapsWith value (some (.Subscript o i pos')) pos.line X.env=pure false):
  PS X (.Assign [.Subscript o i pos'] value pos) (Sy td ty tv):=by
 intro pins s σ H D I h;refine wpAny_Assign_Subscript (fS (hv pins s σ H _ I h) λr s1 ⟨v,H1,I1,rv,q1⟩=>fS (ho pins s1 σ H1 _ I1 q1) λu s2 ⟨x,H2,I2,rx,q2⟩=>fS (hi pins s2 σ H2 _ I2 q2) λiv s3 ⟨y,H3,I3,ry,a,H4,ex,g,q3⟩=>?_) hs
 subst ex;obtain rfl:u=bf a:=rx;exact GZ hu I3 g ry rv λs4 I4=>⟨σ,H4,I4,q3⟩
end
theorem Cq(h:c6)(hb:sysModules<h.objs.size):gS P w H (h.push { cls:=.type "dict",data:=.dict #[] }) h.objs.size (.dK []):=
 ⟨bu _,beq_eq_false_iff_ne.mpr (bM (a_ hb)),[],.nil,c6.DictOf.new h⟩
theorem IY(h:c6)(hb:sysModules<h.objs.size):gS P w H (h.push { cls:=.type "dict",data:=.dict #[] }) h.objs.size (.dT []):=
 ⟨bu _,beq_eq_false_iff_ne.mpr (bM (a_ hb)),[],.nil,_,#[],0,bD _ rfl,⟨rfl,rfl,rfl⟩,rfl,rfl,zC⟩
def Pq:TE:=λ_ H Q=>∀p,H p=none->Q (.ref p) (upd H p (.dK []))
def Pr:TE:=λ_ H Q=>∀p,H p=none->Q (.ref p) (upd H p (.dT []))
section
variable{X:Cx}{pos:Pos}
theorem ur:PE X (.Dict [] [] pos) Pq:=λpins s σ H Q I h=>
 wpAny_Dict_empty ⟨.ref s.heap.objs.size,_,I.laid (a:=s.heap.objs.size) (o:=.dK []) (t':=s.toks) (λ_ _ q=>aA _ q) (aD _) (Cq s.heap I.big),rfl,h _ (I.hok.fresh (aD _))⟩
theorem IZ:PE X (.Dict [] [] pos) Pr:=λpins s σ H Q I h=>
 wpAny_Dict_empty ⟨.ref s.heap.objs.size,_,I.laid (a:=s.heap.objs.size) (o:=.dT []) (t':=s.toks) (λ_ _ q=>aA _ q) (aD _) (IY s.heap I.big),rfl,h _ (I.hok.fresh (aD _))⟩
end
def Bb:List (TE×TE)->St->Hp->(List (V×V)->Hp->Prop)->Prop
 | [],_,H,Q=>Q [] H
 |(tk,tv)::r,σ,H,Q=>tk σ H λx H1=>tv σ H1 λy H2=>Bb r σ H2 λps H3=>Q ((x,y)::ps) H3
abbrev VV:List (V×V)->List (ay×ay)->Prop:=DG λp q=>RelV p.1 q.1/\RelV p.2 q.2
def Sz(X:Cx)(pos:Pos)(keys:List (Option cj))(values:List cj)(GX:List (TE×TE)):Prop:=
 ∀(pins:List (aL×Obj))(s:aK)(σ:St)(H:Hp)(Q:List (V×V)->Hp->Prop),Inv X pins σ H s->Bb GX σ H Q->
  wpAny (model X.prog X.w) X.A (evalPairs (pairTrees keys values X.env pos)) (λvs s'=>∃ps H',Inv X pins σ H' s'/\VV ps vs/\Q ps H') X.xe s
theorem LC:Sz X pos [] [] []:=λpins s σ H Q I h=>pairTrees_nil_walk ⟨[],H,I,.nil,h⟩
theorem I0{k v:cj}{ks:List (Option cj)}{vs:List cj}{tk tv:TE}(hk:PE X k tk)(hv:PE X v tv)(hr:Sz X pos ks vs GX):
  Sz X pos (some k::ks) (v::vs) ((tk,tv)::GX):=λpins s σ H Q I h=>
 pairTrees_cons_walk (fS (hk pins s σ H _ I h) λu s1 ⟨x,H1,I1,rx,q1⟩=>fS (hv pins s1 σ H1 _ I1 q1) λw2 s2 ⟨y,H2,I2,ry,q2⟩=>
  fS (hr pins s2 σ H2 _ I2 q2) λws s3 ⟨ps,H3,I3,rel,q3⟩=>⟨(x,y)::ps,H3,I3,.cons ⟨rx,ry⟩ rel,q3⟩)
def qZ(kvs more:List (Key×V)):List (Key×V):=more.foldl (λacc kv=>putK acc kv.1 kv.2) kvs
theorem KV.merge:∀{more:List (Key×V)}{rs:List (Key×ay)}{kvs:List (Key×V)}{vs:List (Key×ay)},KV more rs->KV kvs vs->KV (qZ kvs more) (merged vs rs):=by
 intro more rs kvs vs r;unfold KV at r
 induction r generalizing kvs vs with
 |nil=>intro q;exact q
 | @cons p q ps qs h t ih=>
  intro r0;have e:KV (putK kvs p.1 p.2) (stored vs q.1 q.2):=by
   have:=r0.put p.1 h.2;rw[<-h.1];exact this
  exact ih e
theorem sI:∀(more kvs:List (Key×V)),(qZ kvs more).length<=kvs.length+more.length
 | [],kvs=>by show kvs.length<=kvs.length+0;omega
 |p::r,kvs=>by
  have h1:=sI r (putK kvs p.1 p.2);have h2:=nP kvs p.1 p.2
  show(qZ (putK kvs p.1 p.2) r).length<=_
  rw[a9];omega
theorem xJ{P:bC}{w:cw}:∀{kvs:List (Key×V)}{ws:List (ay×ay)},VV (kvs.map λkv=>(kV kv.1,kv.2)) ws->∃rs,Carries (fq P w) ws rs/\KV kvs rs
 | [],_,r=>by rw[gX]at r;cases r;exact⟨[],fz,.nil⟩
 |p::kvs,_,r=>by
  rw[aR]at r;cases r with
  | @cons a b as bs h t=>
   obtain⟨rs,c,q⟩:=xJ (P:=P) (w:=w) t;obtain⟨b1,b2⟩:=b;exact⟨(p.1,b2)::rs,⟨sH h.1,rfl,c⟩,.cons ⟨rfl,h.2⟩ q⟩
def SD(GX:List (TE×TE)):TE:=λσ H Q=>∀p,H p=none->Bb GX σ (upd H p (.dK [])) λps H2=>H2 p=some (.dK [])/\∃kvs:List (Key×V),ps=kvs.map (λkv=>(kV kv.1,kv.2))/\kvs.length<=15/\Q (.ref p) (upd H2 p (.dK (qZ [] kvs)))
theorem LD{keys:List (Option cj)}{values:List cj}(h:Sz X pos keys values GX)(uo:keys.all (·.isSome)=true)(hl:keys.length=values.length)(h0:keys≠[])
  (ZL:keys.length<=15):PE X (.Dict keys values pos) (SD GX):=by
 intro pins s σ H Q I q;have hn:=I.hok.fresh (aD s.heap.objs.size);have I1:=I.laid (a:=s.heap.objs.size) (o:=.dK []) (h':=s.heap.push { cls:=.type "dict",data:=.dict #[] }) (t':=s.toks) (λ_ _ q=>aA _ q) (aD _) (Cq s.heap I.big)
 refine wpAny_Dict_walk (knd:=fq X.prog X.w) uo hl h0 ZL (fS (h pins _ σ _ _ I1 (q _ hn)) λws s2 ⟨ps,H2,I2,rel,e,kvs,ep,lk,q2⟩=>?_)
 subst ep;obtain⟨rs,c,rk⟩:=xJ (P:=X.prog) (w:=X.w) rel;obtain⟨z,hd,vs0,r0,dd⟩:=IW I2.hok e;cases r0;refine⟨rs,c,dd,λh' D_ hs=>⟨.ref s.heap.objs.size,_,?_,rfl,q2⟩⟩
 have hz:(qZ [] kvs).length<=sizeLine:=by
  have h1:=sI kvs [];rw[ck]at h1;rw[cL];omega
 have he:∃q,h'.get? s.heap.objs.size=some q:=let⟨q,_,_,hq,_⟩:=D_;⟨q,hq⟩;exact wL I2 (by rw[e];exact fz) hs he (D9 hz hd (rk.merge .nil) D_)
structure M2(X:Cx)(o:cj)(m:Str)(apos:Pos)(e f:cj)(mX:Pos):Prop where
 base:attributeBase o m X.env (eval o X.env)=eval o X.env
 few:((backTo mX (starEach [e,f] X.env)).all (λx=>!x.1)&&(backToKw mX (keywordEach [] X.env)).all (λx=>x.1.isSome)
  && decide (([e,f]:List cj).length+([]:List iO).length+(if([]:List iO).isEmpty then 0 else 1)<30))=true
 line:(apos.endLine==mX.line)=true
 trees:backTo mX (starEach [e,f] X.env)=[(false,eval e X.env),(false,eval f X.env)]
def WY(H:Hp)(a:aL):Prop:=(∃kvs,Rd H a (.dK kvs))\/∃kvs,Rd H a (.dT kvs)
theorem I_{σ:St}(I:Inv X pins σ H s)(d:WY H a):
  s.TypeIs (.ref a) "dict"/\(∀b,bf a=.ref b->∃ob,s.heap.get? b=some ob/\ob.dict=none)/\(a==sysModules)=false:=by
 rcases d with⟨kvs,e⟩|⟨kvs,e⟩
 ·obtain⟨_,hd,vs,_,dd⟩:=xH I.hok e
  refine⟨dd.typeIs,λb q=>?_,hd⟩
  cases q;obtain⟨ob,_,_,h1,h2,_⟩:=dd;exact⟨ob,h1,h2.2.1⟩
 ·obtain⟨_,hd,xs,_,dd⟩:=xI I.hok e
  refine⟨dd.typeIs,λb q=>?_,hd⟩
  cases q;obtain⟨ob,_,_,h1,h2,_⟩:=dd;exact⟨ob,h1,h2.2.1⟩
section
variable{X:Cx}{pins:List (aL×Obj)}{σ:St}{H:Hp}{s:aK}{a:aL}{y d:V}{u r:ay}{o:Option V}{A:dJ}{E:ay->aK->Prop}
theorem Pt(hu:A.units+1<cLine)(I:Inv X pins σ H s)(g:qY H a y o)(ry:RelV y u)(rd:RelV d r)(h:∀w' s',Inv X pins σ H s'->RelV (o.getD d) w'->Q w' s'):
  wpAny (model X.prog X.w) A (call (.builtin "dict.get") [.ref a,u,r]) Q E s:=by
 rcases g with⟨kvs,k,e,ey,l⟩|⟨kvs,k,b,e,ey,eb,l⟩
 ·subst ey
  obtain⟨z,hd,vs,rel,dd⟩:=xH I.hok e;refine call_meetsIn qw dd.typeIs AW (zD _ _ _) (meets_dict_get_default (fq X.prog X.w) a (sH ry) hd r) ⟨_,dd.mapOf,h _ _ (I.tok _) ?_⟩
  rw[l];exact(rel.val k).getD rd
 ·subst ey
  cases(show u=bf b from ry)
  obtain⟨z,hd,xs,rel,dd⟩:=xI I.hok e;refine call_meetsIn qw dd.typeIs AW (zD _ _ _) (meetsH_dict_get_default (tupleKind (fq X.prog X.w)) a b hd r) ⟨la hu,k,xs,vi I.hok eb,dd,h _ _ (I.tok _) ?_⟩
  rw[l];exact(rel.val k).getD rd
end
def Pu(td ty tx:TE):TE:=λσ H Q=>td σ H λx H1=>∃a,x=.ref a/\WY H1 a/\ty σ H1 λy H2=>tx σ H2 λz H3=>∃o,qY H3 a y o/\Q (o.getD z) H3
section
variable{X:Cx}{o e f:cj}{apos mX:Pos}{td ty tx:TE}
theorem Ja(hu:X.A.units+1<cLine)(ho:PE X o td)(he:PE X e ty)(hf:PE X f tx)(m:M2 X o "get" apos e f mX):PE X (.Call (.Attribute o "get" apos) [e,f] [] mX) (Pu td ty tx):=by
 intro pins s σ H Q I h;refine yZ m.base m.few m.line zE qw PySem.F.type_dict_get (fS (ho pins s σ H _ I h) λu s1 ⟨x,H1,I1,rx,a,ex,d,q1⟩=>?_)
 subst ex;obtain rfl:u=bf a:=rx;obtain⟨t1,t2,_⟩:=I_ I1 d;refine⟨t1,t2,?_⟩
 rw[m.trees];refine kY rfl (lX (fU (fS (he pins s1 σ H1 _ I1 q1) λiv s2 ⟨y,H2,I2,ry,q2⟩=>
  fU (fS (hf pins s2 σ H2 _ I2 q2) λfv s3 ⟨z,H3,I3,rz,ov,g,q3⟩=>ji ?_))))
 exact Pt hu I3 g ry rz λw' s4 I4 qz=>⟨_,H3,I4,qz,q3⟩
end
section
variable{X:Cx}{pins:List (aL×Obj)}{σ:St}{H:Hp}{s:aK}{a:aL}{kvs:List (Key×V)}{A:dJ}{E:ay->aK->Prop}
end
def zbO(o:Array (Option Nat)):Nat:=o.toList.countP Option.isSome
section
variable{prog:bC}{w:cw}{A:dJ}{E:ay->aK->Prop}{s:aK}
end
section
variable{prog:bC}{w:cw}{A:dJ}{R:sX->aK->Prop}{I:aL}{fp wr:List aL}{G:Array sr->Array sr->Prop}{n:Nat}{P:Nat->ay->Prop}{St:Nat->aK->Prop}
theorem Jb(W:WalksS prog w A.in1 I fp wr G n P St)(S:aL)(U_:S∉fp)(T:Nat->c6->Prop)(keep:∀i h h',T i h->(∀b o,b∉wr->h.get? b=some o->h'.get? b=some o)->T i h')
  (add:∀i v (s:aK) (Q:Bool->aK->Prop) (E:ay->aK->Prop),i<n->P i v->T i s.heap->(∀h' tk b,s.toks<=tk->jG S s.heap h'->T (i+1) h'->Q b { s with heap:=h',toks:=tk })->wpAny (model prog w) A.in1 (setAdd S v) Q E s):
  ∀(k i:Nat)(s:aK),n-i=k->i<=n->St i s->T i s.heap->(∀s',Moved (S::wr) G s s'->T n s'.heap->R (.ok (.ret .none)) s')->
   codeAny (model prog w) A (.builtin "set.update.loop" ⟨[.ref S,.ref I],[]⟩) R s:=by
 have hSw:S∉wr:=λh=>U_ (W.sub _ h)
 have LJ:∀b∈wr,b∈S::wr:=λb hb=>aU _ hb
 intro k
 induction k with
 |zero=>
  intro i s hk hi Fy hS hR;have hin:i=n:=by omega
  subst hin;refine tV Fn ?_
  rw[rN qL _];show wpAny _ A.in1 (pyNext (.ref I) >>= _) _ _ s;refine au (W.done s _ _ Fy λs' hm=>?_)
  show wpAny _ A.in1 (ret eE) _ _ s';exact aY (hR s' (hm.mono LJ) (keep _ _ _ hS λb o hb e=>hm.heap b o hb e))
 |succ k ih=>
  intro i s hk hi Fy hS hR;have rS:i<n:=by omega
  refine tV Fn ?_
  rw[rN qL _];show wpAny _ A.in1 (pyNext (.ref I) >>= _) _ _ s;refine au (W.item i s _ _ rS Fy λv s' hP WZ hm=>?_)
  have SG:T i s'.heap:=keep _ _ _ hS λb o hb e=>hm.heap b o hb e
  show wpAny _ A.in1 (holding [v] (setAdd S v) >>= _) _ _ s';refine au (kX ?_)
  refine add i v s' _ _ rS hP SG λh' tk b U3 Va hT=>?_
  refine aY ⟨plainId_quiet qL _,ih (i+1) _ (by omega) rS (W.frame _ s' _ _ WZ U3 λb hb o e=>?_) hT λO9 W1 W3=>?_⟩
  ·rw[Va.2 b (λh:b=S=>U_ (by rw[<-h];exact hb))];exact e
  ·refine hR O9 (Moved.trans W.gtrans ((hm.mono LJ).then_heap U3 λb o hb e=>?_) W1) W3
   rw[Va.2 b (λh:b=S=>hb (by rw[h];exact aP))];exact e
end
section
variable{prog:bC}{w:cw}{A:dJ}{E:ay->aK->Prop}{s:aK}
abbrev jt(led:Bool):Obj:={ cls:=.type "set",dict:=none,data:=.set #[] 0 (.fresh 0 0 led) }
end
end L2
namespace L2
open PySem
end L2
namespace L2
open PySem PySem.Spec PyProof.Rows
variable{a:aL}{b k1 k2:Bool}{op:DH}{X:Cx}{env:Env}{e:cj}{o:HO}{H H' H0:Hp}{g:Int->Int->Int}{pins:List (aL×Obj)}{elts:List cj}{cap:List Nat}{R:List aq->List aq->Prop}{own:List Str}{vs xs:List V}{r:List V->Hp->VK->Prop}{i n:Nat}{p p2 tp:Pos}{P:bC}{d:aq}{F:aq->Option aq}{K:ao}{sc:kU}{s:aK}{σ:St}{x:Str}{id:String}{w:cw}
abbrev LK:ay->aK->Prop:=λ_ _=>False
abbrev testsOf(ifs:List cj)(env:Env):Sem Bool:=
 forIn ifs true λc r=>if r=true then(do let ok <-isTrue c env (eval c env);pure (pC ok))else pure (pC r)
theorem G7{A:dJ}{R:sX->aK->Prop}{elt tg iter:cj}{ifs:List cj}{pos:Pos}{it acc:ay}(J:Nat->aK->Prop)
  (turn:∀n s,J n s->wpAny (model P w) A (pyNext it) (λr s1=>match r with
   |none=>R (.ok .next) s1
   |some v=>wpAny (model P w) A (letOwnedTupleGo tg it v) (λ_ s2=>wpAny (model P w) A (assign tg env v) (λ_ s3=>
     wpAny (model P w) A (testsOf ifs env) (λok s4=>if ok=true then wpAny (model P w) A (eval elt env) (λx s5=>
       wpAny (model P w) A (call (.builtin "list.append") [acc,x]) (λ_ s6=>∃m,m<n/\J m s6) LK s5) LK s4
      else ∃m,m<n/\J m s4) LK s3) LK s2) LK s1) LK s)
  (h:J n s):codeAny (model P w) A (.compLoop (.ListComp elt [⟨tg,iter,ifs,0⟩] sc pos) 0 it acc env) R s:=by
 refine codeAny_loop rfl J (λn s hJ=>?_) n h
 show wpAny _ A ((compTurn (.ListComp elt [⟨tg,iter,ifs,0⟩] sc pos) 0 it acc env).onRaise (λx=>do noteFrame x env;theTreesLotGoes x)) _ _ s
 refine wpAny_noted ?_
 rw[compTurn_list];refine au (nu (au (eB (turn n s hJ) (λr s1 h1=>?_) λ_ _ f=>f.elim)))
 cases r with
 |none=>exact aY h1
 |some v=>
  refine au (eB h1 (λ_ s2 h2=>?_) λ_ _ f=>f.elim)
  refine au (eB h2 (λ_ s3 h3=>?_) λ_ _ f=>f.elim)
  refine au (eB h3 (λok s4 h4=>?_) λ_ _ f=>f.elim)
  cases ok with
  |false=>exact aY ⟨rfl,h4⟩
  |true=>
   refine au (au (eB h4 (λx s5 h5=>?_) λ_ _ f=>f.elim))
   exact au (eB h5 (λ_ s6 h6=>aY (aY ⟨rfl,h6⟩)) λ_ _ f=>f.elim)
def oV(env:Env):List (Str×ny)->List (Str×aL)->Option (List (Str×aL))
  | [],acc=>some acc
  | (n,k)::r,acc=>if(k==dZ)=true then(match env.cells.lookup n with
      | some c=>oV env r ((n,c)::acc)
      | none=>none)else oV env r acc
theorem Bc(env:Env):∀(names:List (Str×ny))(acc cl:List (Str×aL)),oV env names acc=some cl->
  (forIn names acc λ(x:Str×ny)(r:List (Str×aL))=>if(x.2==dZ)=true then(do let c <-cellOf env x.1;pure (pC ((x.1,c)::r)))else pure (pC r):Sem (List (Str×aL)))=pure cl
 | [],acc,cl,h=>by
  simp only[oV,g_]at h;subst h;rfl
 |(n,k)::r,acc,cl,h=>by
  rw[yM];unfold oV at h;by_cases hk:(k==dZ)=true
  ·rw[qQ3 hk]at h
   rw[qQ3 (show((n,k).2==dZ)=true from hk)]
   cases e:env.cells.lookup n with
   |none=>rw[e]at h;cases h
   |some c=>
    rw[e]at h;have e2:cellOf env (n,k).1=pure c:=by unfold cellOf;rw[show kB (n,k).1 env.cells=some c from e]
    rw[e2,pure_bind,pure_bind];exact Bc env r _ cl h
  ·rw[qQ2 hk]at h
   rw[qQ2 (show ¬((n,k).2==dZ)=true from hk),pure_bind]
   exact Bc env r acc cl h
theorem FP{cl:List (Str×aL)}(h:oV env sc.names []=some cl):closureFor sc env=pure cl:=by
 unfold closureFor;have:=Bc env sc.names [] cl h;simp only[bind_pure];exact this
theorem uv{env:Env}:∀{names:List (Str×ny)}{acc cl:List (Str×aL)},oV env names acc=some cl->(∀x c,acc.lookup x=some c->env.cells.lookup x=some c)->∀x c,cl.lookup x=some c->env.cells.lookup x=some c
 | [],acc,cl,h,ha=>by
  simp only[oV,g_]at h;subst h;exact ha
 |(n,k)::r,acc,cl,h,ha=>by
  unfold oV at h;by_cases hk:(k==dZ)=true
  ·rw[qQ3 hk]at h
   cases e:env.cells.lookup n with
   |none=>rw[e]at h;cases h
   |some c=>
    rw[e]at h;refine uv (names:=r) h λx d hx=>?_
    rw[dP]at hx;cases Vb:x==n with
    |true=>
     rw[Vb]at hx;have:x=n:=by simpa using Vb
     subst this;rw[e];exact hx
    |false=>rw[Vb]at hx;exact ha x d hx
  ·rw[qQ2 hk]at h
   exact uv (names:=r) h ha
theorem uw{env:Env}:∀{names:List (Str×ny)}{acc cl:List (Str×aL)},oV env names acc=some cl->∀x,((x,dZ)∈names\/∃c,acc.lookup x=some c)->∃c,cl.lookup x=some c
 | [],acc,cl,h,x,hx=>by
  simp only[oV,g_]at h;subst h;rcases hx with hx|hx
  ·exact qQ7 hx (by simp)
  ·exact hx
 |(n,k)::r,acc,cl,h,x,hx=>by
  unfold oV at h;by_cases hk:(k==dZ)=true
  ·rw[qQ3 hk]at h
   cases e:env.cells.lookup n with
   |none=>rw[e]at h;cases h
   |some c=>
    rw[e]at h;refine uw (names:=r) h x ?_
    rcases hx with hx|⟨d,hx⟩
    ·rcases aG.mp hx with hx|hx
     ·cases hx
      exact .inr ⟨c,by simp[dP]⟩
     ·exact .inl hx
    ·refine .inr ?_
     rw[dP];cases Vb:x==n with
     |true=>exact⟨_,rfl⟩
     |false=>exact⟨d,hx⟩
  ·rw[qQ2 hk]at h
   refine uw (names:=r) h x ?_
   rcases hx with hx|hx
   ·rcases aG.mp hx with hx|hx
    ·cases hx;exact qQ7 rfl hk
    ·exact .inl hx
   ·exact .inr hx
theorem ux{env:Env}:∀{names:List (Str×ny)}{x:Str},names.lookup x=some .free->
  (names.map λ(n,k)=>if(k==dZ&&env.scope.kind == .function&&env.kindOf n==some .cell) then(n,jI) else(n,k)).lookup x=some .cell\/
   (names.map λ(n,k)=>if(k==dZ&&env.scope.kind == .function&&env.kindOf n==some .cell) then(n,jI) else(n,k)).lookup x=some .free
 | [],x,h=>by simp at h
 |(n,k)::r,x,h=>by
  have ih:=@ux env r x;rw[aR]
  dsimp only
  by_cases hb:(k==dZ&&env.scope.kind == .function&&env.kindOf n==some .cell)=true
  ·rw[qQ3 hb]
   cases hx:x==n with
   |true=>simp[dP,hx]
   |false=>
    simp only[dP,hx]at h ⊢;exact ih h
  ·rw[qQ2 hb]
   cases hx:x==n with
   |true=>
    simp only[dP,hx]at h ⊢;exact .inr h
   |false=>
    simp only[dP,hx]at h ⊢;exact ih h
theorem vP{env:Env}:∀{names:List (Str×ny)}{x:Str},(∀y∈names,y.2≠jI)->
  ((names.map λ(n,k)=>if(k==dZ&&env.scope.kind == .function&&env.kindOf n==some .cell) then(n,jI) else(n,k)).lookup x=some .cell\/
   (names.map λ(n,k)=>if(k==dZ&&env.scope.kind == .function&&env.kindOf n==some .cell) then(n,jI) else(n,k)).lookup x=some .free)->(x,dZ)∈names
 | [],x,_,h=>by simp at h
 |(n,k)::r,x,hc,h=>by
  have ih:=@vP env r x λy hy=>hc y (aU _ hy)
  have Vc:k≠jI:=hc (n,k) aP;rw[aR]at h
  dsimp only at h
  by_cases hb:(k==dZ&&env.scope.kind == .function&&env.kindOf n==some .cell)=true
  ·have hk:k=dZ:=by
    simp only[jH]at hb;simpa using hb.1.1
   rw[qQ3 hb]at h;cases hx:x==n with
   |true=>
    have:x=n:=by simpa using hx
    subst this;rw[hk];exact aP
   |false=>
    simp only[dP,hx]at h;exact aU _ (ih h)
  ·rw[qQ2 hb]at h
   cases hx:x==n with
   |true=>
    have:x=n:=by simpa using hx
    subst this;simp only[dP,beq_self_eq_true,g_]at h;rcases h with h|h
    ·exact qQ7 h Vc
    ·rw[h];exact aP
   |false=>
    simp only[dP,hx]at h;exact aU _ (ih h)
def gF(X:Cx)(sc:kU)(N:List Str)(cl:List (Str×aL))(fp:List aL)(s:aK)(H:Hp):Cx where
 prog:=X.prog
 w:=X.w
 K:=X.K
 mg:=X.mg
 base:=X.base
 A:=X.A
 N:=N
 s₀:=s
 H₀:=H
 env:=compEnvC sc cl s.heap.objs.size X.env
 outer:=X.stack
 stack:=X.stack
 ex:=fp
 fn:=λ_=>false
 calm:=X.calm
 pn:=[]
 xe:=LK
structure lr(X:Cx)(sc:kU)(own:List Str)(cap:List Nat)(N:List Str)(cl:List (Str×aL)):Prop where
 kind:sc.kind=.function
 Jc:∀y∈sc.names,y.2≠jI
 loc:∀y∈sc.names,y.2=.local->sc.names.lookup y.1=some .local
 clos:oV X.env sc.names []=some cl
 names:N=own++cap.map λi=>X.N.getD i ei
 SJ:∀i∈cap,i<X.N.length/\(X.env.kindOf (X.N.getD i ei)=some .cell\/X.env.kindOf (X.N.getD i ei)=some .free)/\sc.names.lookup (X.N.getD i ei)=some .free
def mj(own:List Str)(cap:List Nat)(σ:St):St:=aH own.length none++cap.map λi=>σ.getD i none
section
variable{X:Cx}{pins:List (aL×Obj)}{σ:St}{H:Hp}{s:aK}{sc:kU}{own N:List Str}{cap:List Nat}{cl:List (Str×aL)}{fp:List aL}{tg:cj}{J:It}{it:aL}{tn:Nat->c6->Prop}
theorem Jd{h4:c6}{t4:Nat}(CS:lr X sc own cap N cl)(I:Inv X pins σ H s)(T:Turn X.prog X.w X.K tg J fp it tn)(st:tn 0 s.heap)(hf:∀b∈fp,uj X pins H b)
  (D:aL)(hD:D=s.heap.objs.size)(s3:aK)(h3:s3={ s with heap:=s.heap.push { cls:=.type "list",dict:=none,data:=.seq ([]:List ay).toArray } })
  (D7:h4.Ns s3.heap.objs.size (λ_=>none))(hk:∀b o,s3.heap.get? b=some o->h4.get? b=some o):
  Inv (gF X sc N cl fp s3 (upd H D (.lst []))) [] (mj own cap σ) (upd H D (.lst [])) { s3 with heap:=h4,toks:=t4 }:=by
 subst hD;have hDn:H s.heap.objs.size=none:=I.fresh;have k3:∀b o,s.heap.get? b=some o->s3.heap.get? b=some o:=λb o e=>by rw[h3];exact aA _ e
 have z3:s3.heap.objs.size=s.heap.objs.size+1:=by rw[h3];exact fA ..
 have I3:Inv X pins σ (upd H s.heap.objs.size (.lst [])) s3:=by
  rw[h3];exact I.laid (t':=s.toks) (λb o e=>aA _ e) (aD _) ⟨bu _,[],0,.nil,bD _ rfl⟩
 have LN:∀b∈fp,b<s.heap.objs.size:=λb hb=>by
  obtain⟨o,e,_⟩:=T.obj 0 _ st b hb;exact aW e
 have LQ:∀b,b<s.heap.objs.size->b≠s3.heap.objs.size:=λb hb=>by rw[z3];exact a_ (lb hb)
 have pM:∀x c,cl.lookup x=some c->X.env.cells.lookup x=some c:=uv CS.clos λx c h=>by simp at h
 have ok:(gF X sc N cl fp s3 (upd H s.heap.objs.size (.lst []))).Ok:=by
  refine⟨I.ok.mod,CS.kind,I.ok.glob,I.ok.blt,aD _,λx y c hx hy=>I.ok.inj x y c (pM x c hx) (pM y c hy),λx hx=>?_,λx c hx _=>qQ7 (show false=true from hx) cF,I.ok.hd,I.ok.frames,.inl rfl,λb hb=>⟨?_,λx c hx=>?_⟩,λb o e=>?_,?_,λb o e hb=>?_,λb hb hs=>?_,?_,?_⟩
  ·exact uw CS.clos x (.inl (vP CS.Jc hx))
  ·exact LQ b (LN b hb)
  ·exact(hf b hb).2.2.2.2.1 x c (pM x c hx)
  ·exact I3.bs b o e
  ·exact bZ I.ok.KR (bZ I.sz (by show s.heap.objs.size<=s3.heap.objs.size;rw[z3];exact iY _))
  ·rcases(hf b hb).2.2.2.1 with z|z
   ·exact I.ok.DP b o e z
   ·exact qQ7 (bF (aW (I.ok.bs b o e).1) z) (iI _)
  ·rcases aG.mp (I.A1 b hs)with z|z
   ·exact(hf b hb).2.1 z
   ·exact(hf b hb).2.2.1 z
  ·exact I3.stack
  ·exact I3.Fv
 have frC:∀b,s.heap.objs.size<b->(upd H s.heap.objs.size (.lst [])) b=none:=λb hb=>by
  rw[aS (eT hb)];exact I.hok.fresh (nz hb)
 refine⟨ok,?_,I3.bare,Un.kept hk,⟨_,D7,λi x v e1 e2 e3=>?_⟩,λx c hx=>?_,?_,λx c hx=>?_,λp hp=>qQ7 (show p∈([]:List (aL×Obj))from hp) (by simp),I3.hok.kept hk,?_⟩
 ·rfl
 ·have Pw:(mj own cap σ)[i]?=some (some v):=e2
  have SK:N[i]?=some x:=e1;unfold mj at Pw;by_cases hi:i<own.length
  ·rw[cC (by simpa using hi),d_]at Pw
   split at Pw<;>cases Pw
  ·rw[cy (by simpa using fZ hi),cu,aT]at Pw
   rw[CS.names,cy (fZ hi),aT]at SK;cases ec:cap[i-own.length]? with
   |none=>rw[ec]at SK;cases SK
   |some j=>
    rw[ec]at SK Pw;have ex:X.N.getD j ei=x:=by simpa using SK
    have ev:σ.getD j none=some v:=by simpa using Pw
    obtain⟨hj,Cg,xK⟩:=CS.SJ j (bO ec);rw[ex]at Cg xK;obtain⟨m,hn,hl⟩:=I.loc;have hxj:X.N[j]?=some x:=by
     rw[ax hj];rw[<-ex,aI,ax hj];rfl
    have hvj:σ[j]?=some (some v):=by
     have:j < σ.length:=by rw[I.len];exact hj
     rw[aI,ax this]at ev;rw[ax this];exact qQ6 some ev
    obtain⟨u,r,l⟩:=hl j x v hxj hvj (by
     rcases Cg with z|z
     ·exact .inr (.inl z)
     ·exact .inr (.inr z))
    refine⟨u,r,?_⟩
    rcases l with⟨k,_⟩|⟨k,c,e,z⟩
    ·rcases Cg with z|z<;>(rw[z]at k;cases k)
    ·obtain⟨c',ZM⟩:=uw CS.clos x (.inl (iN xK))
     have:c'=c:=by
      have:=pM x c' ZM;rw[e]at this;exact(di this).symm
     subst this;refine .inr ⟨?_,c',ZM,?_⟩
     ·exact ux xK
     ·obtain⟨o,ho,hd⟩:=z
      exact⟨o,hk _ _ (k3 _ _ ho),hd⟩
 ·obtain⟨v,o,ho,hd⟩:=I.cell x c (pM x c hx)
  exact⟨v,o,hk _ _ (k3 _ _ ho),hd⟩
 ·exact frC _ (by show s.heap.objs.size<s3.heap.objs.size;rw[z3];exact jK _)
 ·obtain⟨v,o,ho,hd⟩:=I.cell x c (pM x c hx)
  rw[aS (a_ (aW ho))];exact I.nI x c (pM x c hx)
 ·show(mj own cap σ).length=N.length
  unfold mj;rw[CS.names];simp
theorem Inv.wM{h':c6}{t':Nat}{ch:List aL}(I:Inv X pins σ H s)(k:∀b o,b∉ch->s.heap.get? b=some o->h'.get? b=some o)(hf:∀b∈ch,uj X pins H b):Inv X pins σ H { s with heap:=h',toks:=t' }:=by
 have Rz:∀b u,H b=some u->b∉ch:=λb u e z=>by rw[(hf b z).1]at e;cases e
 refine I.step (g':=s.gens) (d':=s.drawn) (ch:=ch) (λb hb=>⟨(hf b hb).2.2.2.1,(hf b hb).2.1,(hf b hb).2.2.2.2.1,(hf b hb).2.2.2.2.2⟩) (λb o _ _ hc e _=>k b o hc e) (λb o _ _ hc e _=>⟨o.slots,k b o hc e⟩) (λ_ _ _ _ n=>n)
  (λb o hc e=>⟨o,k b o hc e⟩) (λ_ _ e=>e) (λ_ _ _ e=>e) (λb ps e=>⟨#[],by rw[e];simp⟩) (λm hm=>?_) (λb u e=>?_) I.bare
 ·obtain⟨o,es,ep,ho,r⟩:=hm
  exact⟨o,es,ep,k _ o (λz=>(hf _ z).2.1 rfl) ho,r⟩
 ·refine(I.hok b u e).stay (λc v hc q=>k c v ?_ q) (λ_ q=>q) λ_ _ q=>q
  rcases hc with z|z
  ·rw[z];exact Rz b u e
  ·exact Rz c _ z
theorem Inv.track(I:Inv X pins σ H s)(f:uj X pins H a)(new:gS X.prog X.w (upd H a o) s.heap a o):Inv X pins σ (upd H a o) s:=by
 obtain⟨f0,f1,f2,f3,f4,f5⟩:=f;have ne:∀b u,H b=some u->b≠a:=λb u e=>bj e f0
 refine⟨I.ok,I.os,I.bare,⟨I.base.keep,I.base.slot,λb ob e n hx=>?_,I.base.there,λb xs e=>?_,λb ob u e=>?_,λb ps e=>?_⟩,I.loc,I.cell,?_,λx c e=>?_,λp hp=>?_,λb u e=>?_,I.len⟩
 ·have nb:b≠a:=λz=>by
   subst z;rcases f3 with z|z
   ·exact hx z
   ·exact qQ7 (bF (aW e) z) (iI _)
  rw[aS nb];exact I.base.free b ob e n hx
 ·have q:=I.base.tups b xs e
  rw[aS (ne _ _ q)];exact q
 ·have q:=I.base.va b ob u e
  rw[aS (ne _ _ q)];exact q
 ·obtain⟨more,q⟩:=I.base.wy b ps e
  exact⟨more,by rw[aS (ne _ _ q)];exact q⟩
 ·rw[aS (bM f1)]
  exact I.free
 ·rw[aS (f4 x c e)]
  exact I.nI x c e
 ·obtain⟨e,n,r⟩:=I.pin p hp
  exact⟨e,by rw[aS (f5 p hp)];exact n,r⟩
 ·by_cases hb:b=a
  ·subst hb
   rw[bK]at e;cases e;exact new
  ·rw[aS hb]at e
   exact(I.hok b u e).stay (λ_ _ _ q=>q) (λc q=>by rw[aS (ne _ _ q)];exact q) λc xs q=>by rw[aS (ne _ _ q)];exact q
end
def SM(X:Cx)(ifs:List cj)(t:TT):Prop:=
 ∀(pins:List (aL×Obj))(s:aK)(σ:St)(H:Hp)(Q:Bool->Hp->Prop),Inv X pins σ H s->t σ H Q->wpAny (model X.prog X.w) X.A (testsOf ifs X.env) (TP X pins σ Q) X.xe s
def W4:TT:=λ_ H Q=>Q true H
theorem LR:SM X [] W4:=λ_ _ _ H _ I h=>wpAny_tests_nil ⟨H,I,h⟩
theorem LV{c:cj}{t:TT}(h:PT X c t):SM X [c] t:=λpins s σ H Q I q=>wpAny_tests_one (h pins s σ H Q I q)
def vj(J:It)(g:TG)(tc:TT)(te:TE)(σ:St)(H:Hp)(Q:VK):Prop:=
 ∀D,H D=none->∃W:Nat->Nat->List V->St->Hp->Prop,(∃m,W 0 m [] σ (upd H D (.lst [])))/\∀i m ys σ' H',W i m ys σ' H'->
  (J.stop i H'/\Q (.ref D) H')\/(J.go i H'/\∀x H2,J.RM i H' x H2->g x σ' H2 λσ3 H3=>tc σ3 H3 λb H4=>if b=true then te σ3 H4 λy H5=>
   H5 D=some (.lst ys)/\ys.length<sizeLine/\∃m',m'<m/\W (i+1) m' (ys ++ [y]) σ3 (upd H5 D (.lst (ys ++ [y])))else ∃m',m'<m/\W (i+1) m' ys σ3 H4)
def NP(own:List Str)(cap:List Nat)(wi:TI)(g:TG)(tc:TT)(te:TE):TE:=λσ H Q=>wi σ H λJ H1=>vj J g tc te (mj own cap σ) H1 Q
section
variable{X:Cx}{pins:List (aL×Obj)}{σ:St}{H:Hp}{s:aK}{sc:kU}{own N:List Str}{cap:List Nat}{cl:List (Str×aL)}{fp:List aL}{tg elt iter:cj}{ifs:List cj}{J:It}{it:aL}{tn:Nat->c6->Prop}{g:TG}{tc:TT}{te:TE}{wi:TI}{pos:Pos}
theorem zW{RR:ay->aL->sX->aK->Prop}{E:ay->aK->Prop}{Q:VK}(hc:X.calm=true)(CS:lr X sc own cap N cl)(I:Inv X pins σ H s)(T:Turn X.prog X.w X.K tg J fp it tn)(st:tn 0 s.heap)(hf:∀b∈fp,uj X pins H b)
  (hg:∀f s3 H3,PG (gF X sc N cl f s3 H3) tg g)(ht:∀f s3 H3,SM (gF X sc N cl f s3 H3) ifs tc)(he:∀f s3 H3,PE (gF X sc N cl f s3 H3) elt te)
  (h:vj J g tc te (mj own cap σ) H Q)
  (fin:∀D C H' s',Inv X pins σ H' s'->(∃m,s'.heap.Ns C m)->uj X pins H' C->Q (.ref D) H'->RR (.ref D) C (.ok .next) s'):
  wpAny (model X.prog X.w) X.A (newList []) (λacc s₃=>wpAny (model X.prog X.w) X.A (newFunctionEnv sc X.env.globals cl [] X.env.qual none .none (some X.env)) (λSN s₄=>
   codeAny (model X.prog X.w) X.A (.compStart (.ListComp elt [⟨tg,iter,ifs,0⟩] sc pos) 0 (.ref it) acc { SN with scope:=relabel sc X.env }) (RR acc SN.locals) s₄) E s₃) E s:=by
 refine eQ (wpAny_newFunctionEnv CS.Jc (λy hy=>qQ7 hy (by simp)) (λh4 D7 Va=>?_) CS.kind)
 have hD:H s.heap.objs.size=none:=I.fresh;obtain⟨W,⟨m0,w0⟩,turn⟩:=h s.heap.objs.size hD
 generalize W5:({ s with heap:=s.heap.push { cls:=.type "list",dict:=none,data:=.seq ([]:List ay).toArray } }:aK)=s3 at *
 have h3:=W5.symm;have e3:s.heap.push { cls:=.type "list",dict:=none,data:=.seq ([]:List ay).toArray }=s3.heap:=by rw[h3]
 have z3:s3.heap.objs.size=s.heap.objs.size+1:=by rw[h3];exact fA ..
 have k3:∀b o,s.heap.get? b=some o->s3.heap.get? b=some o:=λb o e=>by rw[h3];exact aA _ e
 have k4:∀b o,s3.heap.get? b=some o->h4.get? b=some o:=λb o e=>Va.extBut b o (a_ (aW e)) (aA _ e)
 have LN:∀b∈fp,b<s.heap.objs.size:=λb hb=>by
  obtain⟨o,e,_⟩:=T.obj 0 _ st b hb;exact aW e
 have Ic:∀t4,Inv (gF X sc N cl fp s3 (upd H s.heap.objs.size (.lst []))) [] (mj own cap σ) (upd H s.heap.objs.size (.lst [])) { s3 with heap:=h4,toks:=t4 }:=λt4=>
  Jd (t4:=t4) CS I T st hf _ rfl s3 h3 (by simpa using D7) k4
 have ZN:tn 0 h4:=T.keep _ _ _ st λb hb o e=>k4 b o (k3 b o e)
 have fr4:∀b∈fp,(upd H s.heap.objs.size (.lst [])) b=none:=λb hb=>by
  rw[aS (a_ (LN b hb))];exact(hf b hb).1
 have stat:∀{H':Hp},(∀b∈fp,H' b=none)->∀b∈fp,uj (gF X sc N cl fp s3 (upd H s.heap.objs.size (.lst []))) [] H' b:=λ{H'}hn b hb=>by
  refine⟨hn b hb,?_,λhs=>?_,.inl hb,λx c hx=>?_,λp hp=>qQ7 (show p∈([]:List (aL×Obj))from hp) (by simp)⟩
  ·show b≠s3.heap.objs.size
   rw[z3];exact a_ (lb (LN b hb))
  ·rcases aG.mp (I.A1 b hs)with z|z
   ·exact(hf b hb).2.1 z
   ·exact(hf b hb).2.2.1 z
  ·exact(hf b hb).2.2.2.2.1 x c (uv CS.clos (λx c h=>by simp at h) x c hx)
 have loop:∀s5:aK,(∃t4,s5={ s3 with heap:=h4,toks:=t4 })->codeAny (model X.prog X.w) X.A (.compLoop (.ListComp elt [⟨tg,iter,ifs,0⟩] sc pos) 0 (.ref it) (.ref s.heap.objs.size) (compEnvC sc cl s3.heap.objs.size X.env))
   (RR (.ref s.heap.objs.size) s3.heap.objs.size) s5:=by
  rintro s5 ⟨t4,rfl⟩
  refine G7 (λn s'=>∃i ys σ' H',Inv (gF X sc N cl fp s3 (upd H s.heap.objs.size (.lst []))) [] σ' H' s'/\tn i s'.heap/\(∀b∈fp,H' b=none)/\W i n ys σ' H') ?_
   ⟨0,[],_,_,Ic t4,ZN,fr4,w0⟩
  rintro n s' ⟨i,ys,σ',H',I',y9,fr',w'⟩
  rcases turn i n ys σ' H' w' with⟨stop,q⟩|⟨go,step⟩
  ·refine fS (T.done (gF X sc N cl fp s3 (upd H s.heap.objs.size (.lst []))) rfl rfl rfl hc i [] s' σ' H' LK I' (stat fr') y9 stop) λr s6 ⟨hr,I6⟩=>?_
   subst hr;have bs:=I6.base;have un:Un (B4 X.stack) fp H H' s.heap s6.heap:=by
    have W6:∀b o,s.heap.get? b=some o->b≠s.heap.objs.size:=λb o e=>a_ (aW e)
    refine⟨λb o e n hb hx=>bs.keep b o (k3 b o e) (by show upd H _ _ b=none;rw[aS (W6 b o e)];exact n) hb hx,λb o e n hb hx=>bs.slot b o (k3 b o e) (by show upd H _ _ b=none;rw[aS (W6 b o e)];exact n) hb hx,
     λb o e n hx=>bs.free b o (k3 b o e) (by show upd H _ _ b=none;rw[aS (W6 b o e)];exact n) hx,λb o e hx=>bs.there b o (k3 b o e) hx,
     λb xs e=>bs.tups b xs (by show upd H _ _ b=_;rw[aS (bj e hD)];exact e),λb o u e=>bs.va b o u (by show upd H _ _ b=_;rw[aS (bj e hD)];exact e),λb ps e=>bs.wy b ps (by show upd H _ _ b=_;rw[aS (bj e hD)];exact e)⟩
   have I7:Inv X pins σ H' s6:=I.call' (ch:=fp) (by rw[I6.os];show s3.os=s.os;rw[h3]) un I6.hok I6.bare λb hb=>⟨(hf b hb).2.2.2.1,(hf b hb).2.1,(hf b hb).2.2.2.2.1,(hf b hb).2.2.2.2.2⟩
   obtain⟨mC,nC,_⟩:=I6.loc;exact fin _ _ H' s6 I7 ⟨mC,nC⟩ (I.y8 (by show s.heap.objs.size<=s3.heap.objs.size;rw[z3];exact iY _) I6.free) q
  ·refine fS (T.item (gF X sc N cl fp s3 (upd H s.heap.objs.size (.lst []))) rfl rfl rfl hc i [] s' σ' H' LK I' (stat fr') y9 go) λr s6 ⟨u,hr,h6⟩=>?_
   subst hr;refine fS h6 λ_ s7 ⟨x,H7,I7,r7,y7,W7,fr7⟩=>?_
   have I7':=I7.pinned (stat fr7) (T.obj _ _ W7);have back:∀{σ8:St}{H8:Hp}{s8:aK},Inv (gF X sc N cl fp s3 (upd H s.heap.objs.size (.lst []))) ([]++xu fp s7.heap) σ8 H8 s8->tn (i+1) s8.heap/\∀b∈fp,H8 b=none:=λ{σ8 H8 s8}I8=>by
    refine⟨T.keep _ _ _ W7 λb hb o e=>(I8.pin (b,o) (cJ _ (cJ _ (pK hb e)))).1,λb hb=>?_⟩
    obtain⟨o,e,d⟩:=T.obj _ _ W7 b hb;exact(I8.pin (b,o) (cJ _ (cJ _ (pK hb e)))).2.1
   refine fS (hg _ _ _ _ s7 σ' H7 x u _ I7' r7 (step x H7 y7)) λ_ s8 ⟨σ8,H8,I8,q8⟩=>?_
   refine fS (ht _ _ _ _ s8 σ8 H8 _ I8 q8) λok s9 ⟨H9,I9,q9⟩=>?_
   cases ok with
   |false=>
    rw[qQ2 cF]at q9 ⊢;obtain⟨m',hm,w9⟩:=q9;exact⟨m',hm,i+1,ys,σ8,H9,I9.qV,(back I9).1,(back I9).2,w9⟩
   |true=>
    rw[qQ3 rfl]at q9 ⊢;refine fS (he _ _ _ _ s9 σ8 H9 _ I9 q9) λxv W8 ⟨y,ZO,I10,r10,Q0,hz,m',hm,w10⟩=>?_
    refine fS (rR _ W8 σ8 ZO (.ref s.heap.objs.size) [y] (.ref s.heap.objs.size) [xv] (λ_ yS=>yS=upd ZO s.heap.objs.size (.lst (ys ++ [y]))) I10 rfl (.cons r10 .nil) ⟨_,ys,y,rfl,rfl,Q0,hz,rfl⟩) λ_ s11 ⟨_,H11,W9,_,e11⟩=>?_
    subst e11;exact⟨m',hm,i+1,ys ++ [y],σ8,_,W9.qV,(back W9).1,(back W9).2,w10⟩
 exact codeAny_compStart_list (loop _ ⟨_,rfl⟩) (T.self _ 0 _ _ _ ZN (loop _ ⟨_,rfl⟩))
theorem LW(hc:X.calm=true)(CS:lr X sc own cap N cl)(hi:PI X tg iter wi)(hg:∀f s3 H3,PG (gF X sc N cl f s3 H3) tg g)(ht:∀f s3 H3,SM (gF X sc N cl f s3 H3) ifs tc)(he:∀f s3 H3,PE (gF X sc N cl f s3 H3) elt te)
  (hs:∀x,foldedSetIterable iter X.env x=pure x:=by intro _;rfl):PE X (.ListComp elt [⟨tg,iter,ifs,0⟩] sc pos) (NP own cap wi g tc te):=by
 intro pins s σ H Q I h;rw[eval_ListComp];refine wpAny_comprehension_free (use:=none) rfl hs (FP CS.clos) CS.kind CS.loc (fS (hi pins s σ H _ I h) λv s1 h1=>fS h1 λU1 s2 h2=>?_)
 obtain⟨it,fp,tn,J,H2,e,I2,T,RQ,f2,q2⟩:=h2;subst e;refine zW (RR:=λacc C=>compPost (model X.prog X.w) X.A X.xe none (EP X pins σ Q) acc C) (Q:=Q) hc CS I2 T RQ f2 hg ht he q2 ?_
 intro D C H' s' I' ⟨m,hn⟩ fC q;exact⟨m,hn,λh' sb=>⟨.ref D,H',I'.turned (t':=s'.toks) (λb o hb e=>(sb.2 b hb).trans e) fC.1 fC.2.1 fC.2.2.2.1 fC.2.2.2.2.1 fC.2.2.2.2.2,rfl,q⟩⟩
theorem xN{px wA:Pos}(hN:X.N.Nodup)(SQ:X.N[i]?=some x)(hx:Loc X.env.scope x)(hc:X.calm=true)(CS:lr X sc own cap N cl)(hi:PI X tg iter wi)(hg:∀f s3 H3,PG (gF X sc N cl f s3 H3) tg g)
  (ht:∀f s3 H3,SM (gF X sc N cl f s3 H3) ifs tc)(he:∀f s3 H3,PE (gF X sc N cl f s3 H3) elt te)(Cr:swapsWith (.ListComp elt [⟨tg,iter,ifs,0⟩] sc pos) (some (.Name x px)) wA.line X.env=pure true:=by rfl)
  (hs:∀x,foldedSetIterable iter X.env x=pure x:=by intro _;rfl)(hf:X.fn x=true\/X.env.scope.names.lookup x=some .local:=by first|exact .inl rfl|exact .inr rfl|assumption):
  PS X (.Assign [.Name x px] (.ListComp elt [⟨tg,iter,ifs,0⟩] sc pos) wA) (RL (NP own cap wi g tc te) (zL i)):=by
 intro pins s σ H D I h;rw[exec_Assign_Name_used _ _ _ _ Cr];refine au (nu (au (?_:wpAny _ _ _ _ _ _)))
 show wpAny _ X.A (do let _ <-comprehension (.ListComp elt [⟨tg,iter,ifs,0⟩] sc pos) sc X.env _ (newList []) false (eval iter X.env) (some (assign (.Name x px) X.env))) _ _ s
 refine au (eB (wpAny_comprehension_free (use:=some (assign (.Name x px) X.env)) (Q:=λ_ s'=>SP X pins D .next s') rfl hs (FP CS.clos) CS.kind CS.loc
  (fS (hi pins s σ H _ I h) λv s1 h1=>fS h1 λU1 s2 h2=>?_)) (λ_ s' hq=>aY (aY hq)) λ_ _ e=>e)
 obtain⟨it,fp,tn,J,H2,e,I2,T,RQ,f2,q2⟩:=h2;subst e;refine zW (RR:=λacc C=>compPost (model X.prog X.w) X.A X.xe (some (assign (.Name x px) X.env)) (λ_ s'=>SP X pins D .next s') acc C) (Q:=λv H'=>zL i v σ H' D.nx) hc CS I2 T RQ f2 hg ht he q2 ?_
 intro D' C H' s' I' ⟨m,hn⟩ fC q;show wpAny _ _ (assign (.Name x px) X.env (.ref D')) _ _ s';refine wpAny_assign_Name (zI I' hN SQ hx (v:=.ref D') rfl (λO9 I'' ⟨a,sb,ha⟩=>?_) hf)
 have QW:C≠a:=by
  rcases ha with z|z
  ·rw[z];exact fC.2.1
  ·exact λy=>fC.2.2.2.2.1 x a z y.symm
 exact⟨m,hn.sameBut sb QW,λh' sb'=>⟨_,H',I''.turned (t':=O9.toks) (λb o hb e=>(sb'.2 b hb).trans e) fC.1 fC.2.1 fC.2.2.2.1 fC.2.2.2.2.1 fC.2.2.2.2.2,q⟩⟩
end
def ZP(K:ao)(a:aL):It:=
 ⟨λi H=>∃xs x,lg K H a xs/\xs[i]?=some x,λi H v H'=>∃t x,v=.ref t/\H t=none/\H'=upd H t (.tup [.int i,x])/\∀xs,lg K H a xs->xs[i]?=some x,λi H=>∃xs,lg K H a xs/\xs.length<=i⟩
theorem G8{k}(a e it:aL)(KZ:e≠it):Turn P w K (.Tuple elts k tp) (ZP K a) [e,it] e (λi h=>(∃old,IsEnum h e it (i:Nat) old)/\h.IsListIter it a i) where
 mem:=by simp
 obj:=λi h st b hb=>by
  obtain⟨⟨old,he⟩,⟨o,ho,c,d⟩⟩:=st;rcases aG.mp hb with z|z
  ·subst z
   exact⟨_,he,λv z=>by cases z⟩
  ·have z':b=it:=by simpa using z
   subst z';exact⟨o,ho,λv z=>by rw[d]at z;cases z⟩
 keep:=λi h h' st kp=>⟨let⟨old,he⟩:=st.1;⟨old,kp e (by simp) _ he⟩,st.2.at λo q=>kp it (by simp) o q⟩
 item:=by
  intro X hP hw hK hc i pins s σ H E I hf st hg;subst hP hw hK;obtain⟨⟨old,he⟩,hit⟩:=st;obtain⟨xs,x,hq,hx⟩:=hg;obtain⟨its,rv,p,hz⟩:=I.list hq;obtain⟨u,hu,ru⟩:=rv.get hx;refine wpAny_pyNext_enum_item he hit p.isList (x:=u) (by simpa using hu) KZ λh1 Nn W_ ht1 hz1 W'=>?_
  refine⟨.ref s.heap.objs.size,rfl,wpAny_letOwnedTupleGo_enum Nn λh2 SR qt=>?_⟩
  have elt:e<s.heap.objs.size:=aW he;have ilt:it<s.heap.objs.size:=by obtain⟨o,ho,_⟩:=id hit;exact aW ho
  have k2:∀b o,b∉[e,it]->s.heap.get? b=some o->h2.get? b=some o:=λb o hb q=>by
   have n1:b≠e:=λz=>hb (by simp[z])
   have n2:b≠it:=λz=>hb (by simp[z])
   exact(qt.2 b n1).trans (W' b o n1 n2 q)
  have I2:Inv X pins σ H { s with heap:=h2,toks:=s.toks+1 }:=I.wM k2 hf
  have Q5:h2.get? s.heap.objs.size=some { cls:=.type "tuple",data:=.seq #[.int i s.toks,u] }:=(qt.2 _ (eT elt)).trans ht1;have fT:uj X pins H s.heap.objs.size:=I.y8 (aD _) I.fresh;have I3:Inv X pins σ (upd H s.heap.objs.size (.tup [.int i,x])) { s with heap:=h2,toks:=s.toks+1 }:=
   I2.track fT ⟨by show 2<=sizeLine;rw[cL];decide,[.int i s.toks,u],.cons ⟨_,rfl⟩ (.cons ru .nil),⟨_,Q5,rfl,_,rfl⟩⟩
  refine⟨.ref s.heap.objs.size,_,I3,rfl,⟨_,x,rfl,I.fresh,rfl,λys hy=>by rw[I.xq hy hq];exact hx⟩,⟨⟨_,by simpa using SR⟩,W_.at λo q=>(qt.2 it KZ.symm).trans q⟩,λb hb=>?_⟩
  rcases aG.mp hb with z|z
  ·subst z
   rw[aS (a_ elt)];exact(hf b hb).1
  ·have z':b=it:=by simpa using z
   subst z';rw[aS (a_ ilt)];exact(hf b hb).1
 done:=by
  intro X hP hw hK hc i pins s σ H E I hf st hg;subst hP hw hK;obtain⟨⟨old,he⟩,hit⟩:=st;obtain⟨xs,hq,hx⟩:=hg;obtain⟨its,rv,p,hz⟩:=I.list hq;have hl:=rv.length;exact wpAny_pyNext_enum_end (I.ok.hd hc) he hit p.isList (by simp;omega) λh' eb=>⟨rfl,I.wM (ch:=[e,it]) (t':=s.toks) (λb o hb q=>eb b o (λz=>hb (by simp[z])) q) hf⟩
 self:=λ_ _ _ _ _ st h=>let⟨⟨_,he⟩,_⟩:=st;wpAny_pyIter_enum he h
def SV(K:ao)(ta:TA):TI:=λσ H R=>ta σ H λvs H1=>∃a,vs=[.ref a]/\(∃xs,lg K H1 a xs)/\R (ZP K a) H1
theorem LX{a:cj}{ta:TA}{pos: Pos}{k}(hg:Gl X "enumerate")(hm:X.mg "enumerate"=none)(ha:PA X [a] ta)(hs:starEach [a] X.env=[(false,eval a X.env)]:=by rfl):
  PI X (.Tuple elts k tp) (.Call (.Name "enumerate" p) [a] [] pos) (SV X.K ta):=by
 intro pins s σ H R I h;refine Call_ (vb I hg hm boot_enumerate (iR (fS (ha pos pins s σ H _ I h) λus s1 ⟨vs,H1,I1,r1,q1⟩=>?_) hs rfl))
 obtain⟨l,e,⟨xs,hq⟩,q⟩:=q1;subst e;obtain⟨u,rfl,rx⟩:=vals1 r1;cases rx;obtain⟨its,rv,pl,hz⟩:=I1.list hq;refine call_enumerate_list pl.isList λh' he hit hsz hk=>wpAny_pyIter_enum he ?_
 have I2:Inv X pins σ H1 { s1 with heap:=h' }:=I1.kept (t':=s1.toks) hk
 refine⟨_,[s1.heap.objs.size+1,s1.heap.objs.size],_,_,H1,rfl,I2,G8 l _ _ (Nat.succ_ne_self _),⟨⟨_,he⟩,hit⟩,λb hb=>?_,q⟩
 rcases aG.mp hb with z|z
 ·subst z
  exact I1.y8 (iY _) (I1.hok.fresh (iY _))
 ·have z':b=s1.heap.objs.size:=by simpa using z
  subst z';exact I1.y8 (aD _) I1.fresh
def zh:Key->aq
 | .inl i=>.int i
 | .inr x=>.str x
mutual
inductive Rep(K:ao)(H:Hp):V->aq->Prop
 |non:Rep K H .non .none
 |bl (b:Bool):Rep K H (.bl b) (.bool b)
 |int (i:Int):Rep K H (.int i) (.int i)
 |str (x:Str):Rep K H (.str x) (.str x)
 |lst {a:aL} {xs:List V} {ds:List aq}:lg K H a xs->dq K H xs ds->Rep K H (.ref a) (.list ds)
 |tup {a:aL} {xs:List V} {ds:List aq}:qp K H a xs->dq K H xs ds->Rep K H (.ref a) (.tuple ds)
 |dct {a:aL} {kvs:List (Key×V)} {ds:List (aq×aq)}:H a=some (.dK kvs)->ds.map (·.1)=kvs.map (λp=>zh p.1)->dq K H (kvs.map (·.2)) (ds.map (·.2))->Rep K H (.ref a) (.dict ds)
 |SW {a:aL} {kvs:List (List Key×V)} {ds:List (aq×aq)}:H a=some (.dT kvs)->ds.map (·.1)=kvs.map (λp=>fX (p.1.map zh))->dq K H (kvs.map (·.2)) (ds.map (·.2))->Rep K H (.ref a) (.dict ((.none,.bool true)::ds))
 |obj {a C dx:aL} {fs:List (Str×V)} {ds:List (aq×aq)}:H a=some (.ins C dx fs)->Cb K C->(∀f∈fs.map (·.1),fK K C f)->ds.map (·.1)=fs.map (λp=>aQ p.1)->dq K H (fs.map (·.2)) (ds.map (·.2))->Rep K H (.ref a) (.dict ((.none,.none)::ds))
 |Xa {a:aL} {o:Obj} {kvs:List (Key×V)} {ds:List (aq×aq)}:H a=some (.GB o (.dK kvs))->ds.map (·.1)=kvs.map (λp=>zh p.1)->dq K H (kvs.map (·.2)) (ds.map (·.2))->Rep K H (.ref a) (.dict ((.none,.int 1)::ds))
inductive dq(K:ao)(H:Hp):List V->List aq->Prop
 |nil:dq K H [] []
 |cons {x:V} {d:aq} {xs:List V} {ds:List aq}:Rep K H x d->dq K H xs ds->dq K H (x::xs) (d::ds)
end
theorem ej.pN(e:ej H H')(h:qp K H a xs):qp K H' a xs:=by
 rcases h with(h|⟨o,h⟩)|h
 ·exact .inl (.inl (e _ _ h))
 ·exact .inl (.inr ⟨o,e _ _ h⟩)
 ·exact .inr h
theorem Rep.mono(s:ej H H'){v:V}(r:Rep K H v d):Rep K H' v d:=
 Rep.rec (motive_1:=λv d _=>Rep K H' v d) (motive_2:=λxs ds _=>dq K H' xs ds) .non (λb=>.bl b) (λi=>.int i) (λx=>.str x) (λh _ t=>.lst (s.seq h) t) (λh _ t=>.tup (s.pN h) t) (λh k _ t=>.dct (s _ _ h) k t) (λh k _ t=>.SW (s _ _ h) k t) (λh c n k _ t=>.obj (s _ _ h) c n k t) (λh k _ t=>.Xa (s _ _ h) k t) .nil (λ_ _ a t=>.cons a t) r
theorem dq.mono(s:ej H H'):∀{ds:List aq}{xs:List V},dq K H xs ds->dq K H' xs ds
 | [],_,r=>by cases r;exact .nil
 |d::ds,_,r=>by cases r with|cons a t=>exact .cons (a.mono s) (dq.mono s t)
section
variable{K:ao}{H:Hp}
theorem dq.length:∀{xs:List V}{ds:List aq},dq K H xs ds->xs.length=ds.length
 | [],_,r=>by cases r;rfl
 |x::xs,_,r=>by cases r with|cons a t=>simp[dq.length t]
theorem dq.get:∀{xs:List V}{ds:List aq}{i:Nat}{d:aq},dq K H xs ds->ds[i]?=some d->∃x,xs[i]?=some x/\Rep K H x d
 | [],_,_,_,r,e=>by cases r;simp at e
 |x::xs,_,i,d,r,e=>by
  cases r with
  |cons a t=>
   cases i with
   |zero=>simp at e;subst e;exact⟨x,rfl,a⟩
   |succ i=>simpa using dq.get (i:=i) t (by simpa using e)
theorem dq.at{ds:List aq}{x:V}(r:dq K H xs ds)(e:ds[i]?=some d)(h:xs[i]?=some x):Rep K H x d:=by
 obtain⟨y,h1,h2⟩:=r.get e;rw[h]at h1;cases h1;exact h2
theorem dq.append:∀{xs ys:List V}{ds es:List aq},dq K H xs ds->dq K H ys es->dq K H (xs++ys) (ds++es)
 | [],_,_,_,r,s=>by cases r;exact s
 |x::xs,_,_,_,r,s=>by cases r with|cons a t=>exact .cons a (dq.append t s)
theorem dq.take:∀{xs:List V}{ds:List aq}(n:Nat),dq K H xs ds->dq K H (xs.take n) (ds.take n)
 |_,_,0,_=>by simpa using dq.nil
 | [],_,_+1,r=>by cases r;exact .nil
 |x::xs,_,n+1,r=>by cases r with|cons a t=>exact .cons a (dq.take n t)
theorem dq.drop:∀{xs:List V}{ds:List aq}(n:Nat),dq K H xs ds->dq K H (xs.drop n) (ds.drop n)
 |_,_,0,r=>r
 | [],_,_+1,r=>by cases r;exact .nil
 |x::xs,_,n+1,r=>by cases r with|cons a t=>exact dq.drop n t
end
mutual
theorem jO(I:Inv X pins σ H s):∀(d:aq){v:V}{u:ay},d.canLay0=true->Rep X.K H v d->RelV v u->∃as,Reads s.heap u d as
 | .none,_,_,_,r,q=>by cases r;cases q;exact⟨_,.none⟩
 | .bool b,_,_,_,r,q=>by cases r;cases q;exact⟨_,.bool b⟩
 | .int i,_,_,_,r,q=>by cases r;obtain⟨t,rfl⟩:=q;exact⟨_,.int i t⟩
 | .str x,_,_,_,r,q=>by cases r;obtain⟨t,rfl⟩:=q;exact⟨_,.str x t⟩
 | .list ds,_,_,hc,r,q=>by
  cases r with
  |lst h t=>
   cases q;obtain⟨its,rv,⟨o,n,e,c,_,dt⟩,_⟩:=I.list h;obtain⟨as,ra⟩:=nQ I ds hc t rv;exact⟨_,.list e c dt (by simpa using ra)⟩
 | .tuple ds,_,_,hc,r,q=>by
  cases r with
  |tup h t=>
   cases q;obtain⟨its,rv,⟨o,e,c,n,dt⟩,_⟩:=I.tuple h;obtain⟨as,ra⟩:=nQ I ds hc t rv;exact⟨_,.tuple e c dt (by simpa using ra)⟩
 | .dict _,_,_,hc,_,_=>by cases hc
theorem nQ(I:Inv X pins σ H s):∀(ds:List aq){xs:List V}{us:List ay},oq ds=true->dq X.K H xs ds->ez xs us->∃as,ReadsAll s.heap us ds as
 | [],_,_,_,r,q=>by cases r;cases q;exact⟨_,.nil⟩
 |d::ds,_,_,hc,r,q=>by
  have QX:(d.canLay0&&oq ds)=true:=hc;rw[jH]at QX;cases r with
  |cons a t=>
   cases q with
   |cons b w=>
    obtain⟨as,h1⟩:=jO I d QX.1 a b;obtain⟨bs,h2⟩:=nQ I ds QX.2 t w;exact⟨_,.cons h1 h2⟩
end
def Lay(n:Nat)(d:aq):Prop:=d.canLay0=true/\d.depth<=n
inductive Slot where
 |un
 |val (d:aq)
 |own (ds:List aq)
 |ref (a:aL)
variable{δ δ':List Slot}
structure dU(H0 H eJ H':Hp):Prop where
 big:ej H H'
 gU:ej H0 eJ
 sub:ej eJ H'
 new:∀a,eJ a≠none->H0 a≠none\/H a=none
theorem dU.refl(s:ej H0 H):dU H0 H H0 H:=⟨ej.refl _,ej.refl _,s,λ_ h=>.inl h⟩
theorem ej.ne(s:ej H H')(h:H a≠none):H' a≠none:=by
 cases e:H a with
 |none=>exact qQ7 e h
 |some o=>rw[s a o e];simp
theorem dU.trans{A B C D E F:Hp}(x:dU A B C D)(y:dU C D E F):dU A B E F:=
 ⟨x.big.trans y.big,x.gU.trans y.gU,y.sub,λa h=>(y.new a h).elim (x.new a) λz=>.inr (x.big.free z)⟩
theorem dU.laid(s:ej H0 H){p:aL}(h:H p=none):dU H0 H (upd H0 p o) (upd H p o):=by
 have h0:H0 p=none:=s.free h;refine⟨λb u e=>?_,λb u e=>?_,λb u e=>?_,λb e=>?_⟩
 ·rw[aS (bj e h)];exact e
 ·rw[aS (bj e h0)];exact e
 ·by_cases hb:b=p
  ·subst hb;rw[bK]at e ⊢;exact e
  ·rw[aS hb]at e ⊢;exact s b u e
 ·by_cases hb:b=p
  ·subst hb;exact .inr h
  ·rw[aS hb]at e;exact .inl e
theorem dU.loose(s:ej H0 H){p:aL}(h:H p=none):dU H0 H H0 (upd H p o):=
 ⟨λb u e=>by rw[aS (bj e h)];exact e,ej.refl _,λb u e=>by rw[aS (bj (s b u e) h)];exact s b u e,λ_ e=>.inl e⟩
def Je(K:ao)(B H0 H:Hp):Slot->Option (Option V)->Prop
 | .un,_=>True
 | .val d,o=>∃v,o=some (some v)/\Rep K H0 v d
 | .own ds,o=>∃p xs,o=some (some (.ref p))/\H p=some (.lst xs)/\H0 p=none/\B p=none/\dq K H0 xs ds
 | .ref a,o=>o=some (some (.ref a))
structure hU(K:ao)(B0 B H0 H:Hp)(σ:St)(δ:List Slot):Prop where
 ent:dU B0 B H0 H
 len:σ.length=δ.length
 slot:∀(i:Nat)sl,δ[i]?=some sl->Je K B H0 H sl σ[i]?
 apart:∀(i j:Nat)ds es p,i≠j->δ[i]?=some (.own ds)->δ[j]?=some (.own es)->σ[i]?=some (some (.ref p))->σ[j]?≠some (some (.ref p))
section
variable{K:ao}{B0 B H0 H eJ H':Hp}{σ:St}{δ:List Slot}
theorem hU.sub(f:hU K B0 B H0 H σ δ):ej H0 H:=f.ent.sub
theorem hU.grow(f:hU K B0 B H0 H σ δ)(g:dU H0 H eJ H'):hU K B0 B eJ H' σ δ:=by
 refine⟨f.ent.trans g,f.len,λi sl e=>?_,f.apart⟩
 have q:=f.slot i sl e;cases sl with
 |un=>trivial
 |ref a=>exact q
 |val d=>obtain⟨v,h1,h2⟩:=q;exact⟨v,h1,h2.mono g.gU⟩
 |own ds=>
  obtain⟨p,xs,h1,h2,h3,h4,h5⟩:=q;refine⟨p,xs,h1,g.big _ _ h2,?_,h4,h5.mono g.gU⟩
  cases e2:eJ p with
  |none=>rfl
  |some o=>
   rcases g.new p (by rw[e2];simp)with z|z
   ·exact qQ7 h3 z
   ·rw[h2]at z;cases z
theorem hU.val(f:hU K B0 B H0 H σ δ)(h:δ[i]?=some (.val d)):∃v,σ[i]?=some (some v)/\Rep K H0 v d:=f.slot i _ h
theorem hU.set(f:hU K B0 B H0 H σ δ){v:V}(r:Rep K H0 v d):hU K B0 B H0 H (σ.set i (some v)) (δ.set i (.val d)):=by
 refine⟨f.ent,by simp[f.len],λj sl e=>?_,λj k ds es p DE e1 e2 e3=>?_⟩
 ·by_cases hj:j=i
  ·subst hj
   have hl:j < δ.length:=by
    have:=(aJ.mp e).1;simpa using this
   rw[a8 hl]at e;cases e;rw[a8 (by rw[f.len];exact hl)]
   exact⟨v,rfl,r⟩
  ·rw[a7 (bM hj)]at e
   rw[a7 (bM hj)];exact f.slot j sl e
 ·have nj:j≠i:=λz=>by
   subst z;have hl:j < δ.length:=by simpa using(aJ.mp e1).1
   rw[a8 hl]at e1;cases e1
  have nk:k≠i:=λz=>by
   subst z;have hl:k < δ.length:=by simpa using(aJ.mp e2).1
   rw[a8 hl]at e2;cases e2
  rw[a7 (bM nj)]at e1 e3;rw[a7 (bM nk)]at e2 ⊢;exact f.apart j k ds es p DE e1 e2 e3
theorem hU.Bd(f:hU K B0 B H0 H σ δ){ds:List aq}{p:aL}(h1:H p=some (.lst xs))(h2:H0 p=none)(h3:B p=none)(r:dq K H0 xs ds)(hn:∀(j:Nat)es,δ[j]?=some (.own es)->σ[j]?≠some (some (.ref p))):
  hU K B0 B H0 H (σ.set i (some (.ref p))) (δ.set i (.own ds)):=by
 refine⟨f.ent,by simp[f.len],λj sl e=>?_,λj k G9 es q DE e1 e2 e3=>?_⟩
 ·by_cases hj:j=i
  ·subst hj
   have hl:j < δ.length:=by simpa using(aJ.mp e).1
   rw[a8 hl]at e;cases e;rw[a8 (by rw[f.len];exact hl)]
   exact⟨p,xs,rfl,h1,h2,h3,r⟩
  ·rw[a7 (bM hj)]at e
   rw[a7 (bM hj)];exact f.slot j sl e
 ·have Xb:j < δ.length:=by simpa using(aJ.mp e1).1
  have Xc:k < δ.length:=by simpa using(aJ.mp e2).1
  by_cases nj:j=i
  ·subst nj
   rw[a8 (by rw[f.len];exact Xb)]at e3
   cases e3;rw[a7 DE]at e2 ⊢;exact hn k es e2
  ·rw[a7 (bM nj)]at e1 e3
   by_cases nk:k=i
   ·subst nk
    rw[a8 (by rw[f.len];exact Xc)]
    intro z;cases z;exact hn j G9 e1 e3
   ·rw[a7 (bM nk)]at e2 ⊢
    exact f.apart j k G9 es q DE e1 e2 e3
theorem hU.push(f:hU K B0 B H0 H σ δ){ds:List aq}{p:aL}{y:V}(hi:δ[i]?=some (.own ds))(hp:σ[i]?=some (some (.ref p)))(h1:H p=some (.lst xs))(ry:Rep K H0 y d):
  hU K B0 B H0 (upd H p (.lst (xs ++ [y]))) σ (δ.set i (.own (ds ++ [d]))):=by
 obtain⟨p',xs',e1,e2,e3,e4,e5⟩:=f.slot i _ hi;rw[hp]at e1;cases e1;rw[h1]at e2;cases e2;have hl:i < δ.length:=(aJ.mp hi).1;refine⟨⟨λb u e=>?_,f.ent.gU,λb u e=>?_,f.ent.new⟩,by simp[f.len],λj sl e=>?_,λj k G9 es q DE a1 a2 a3=>?_⟩
 ·have:b≠p:=bj e e4
  rw[aS this];exact f.ent.big b u e
 ·have:b≠p:=bj e e3
  rw[aS this];exact f.ent.sub b u e
 ·by_cases hj:j=i
  ·subst hj
   rw[a8 hl]at e;cases e;exact⟨p,xs ++ [y],hp,bK,e3,e4,e5.append (.cons ry .nil)⟩
  ·rw[a7 (bM hj)]at e
   have q:=f.slot j sl e;cases sl with
   |un=>trivial
   |ref a=>exact q
   |val d=>exact q
   |own G9=>
    obtain⟨p2,Xd,g1,g2,g3,g4,g5⟩:=q;have:p2≠p:=λz=>by subst z;exact f.apart i j ds G9 p2 (bM hj) hi e hp g1
    exact⟨p2,Xd,g1,by rw[aS this];exact g2,g3,g4,g5⟩
 ·have c1:∃Q6,δ[j]?=some (.own Q6):=by
   by_cases hj:j=i
   ·subst hj;exact⟨_,hi⟩
   ·rw[a7 (bM hj)]at a1;exact⟨_,a1⟩
  have c2:∃Q6,δ[k]?=some (.own Q6):=by
   by_cases hk:k=i
   ·subst hk;exact⟨_,hi⟩
   ·rw[a7 (bM hk)]at a2;exact⟨_,a2⟩
  obtain⟨d1,c1⟩:=c1;obtain⟨d2,c2⟩:=c2;exact f.apart j k d1 d2 q DE c1 c2 a3
theorem hU.freeze(f:hU K B0 B H0 H σ δ){ds:List aq}{p:aL}(hi:δ[i]?=some (.own ds))(hp:σ[i]?=some (some (.ref p)))(h1:H p=some (.lst xs)):
  hU K B0 B (upd H0 p (.lst xs)) H σ (δ.set i (.val (.list ds)))/\ej H0 (upd H0 p (.lst xs)):=by
 obtain⟨p',xs',e1,e2,e3,e4,e5⟩:=f.slot i _ hi;rw[hp]at e1;cases e1;rw[h1]at e2;cases e2;have hl:i < δ.length:=(aJ.mp hi).1;have sm:ej H0 (upd H0 p (.lst xs)):=λb u e=>by rw[aS (bj e e3)];exact e
 refine⟨⟨⟨f.ent.big,f.ent.gU.trans sm,λb u e=>?_,λb e=>?_⟩,by simp[f.len],λj sl e=>?_,λj k G9 es q DE a1 a2 a3=>?_⟩,sm⟩
 ·by_cases hb:b=p
  ·subst hb;rw[bK]at e;rw[<-e];exact h1
  ·rw[aS hb]at e;exact f.ent.sub b u e
 ·by_cases hb:b=p
  ·subst hb;exact .inr e4
  ·rw[aS hb]at e;exact f.ent.new b e
 ·by_cases hj:j=i
  ·subst hj
   rw[a8 hl]at e;cases e;exact⟨.ref p,hp,.lst (lg.of bK) (e5.mono sm)⟩
  ·rw[a7 (bM hj)]at e
   have q:=f.slot j sl e;cases sl with
   |un=>trivial
   |ref a=>exact q
   |val d=>obtain⟨v,g1,g2⟩:=q;exact⟨v,g1,g2.mono sm⟩
   |own G9=>
    obtain⟨p2,Xd,g1,g2,g3,g4,g5⟩:=q;have:p2≠p:=λz=>by subst z;exact f.apart i j ds G9 p2 (bM hj) hi e hp g1
    exact⟨p2,Xd,g1,g2,by rw[aS this];exact g3,g4,g5.mono sm⟩
 ·have nj:j≠i:=λz=>by subst z;rw[a8 hl]at a1;cases a1
  have nk:k≠i:=λz=>by subst z;rw[a8 hl]at a2;cases a2
  rw[a7 (bM nj)]at a1;rw[a7 (bM nk)]at a2;exact f.apart j k G9 es q DE a1 a2 a3
end
def cE(X:Cx)(e:cj):TE:=λσ H Q=>∀pins s,Inv X pins σ H s->wpAny (model X.prog X.w) X.A (eval e X.env) (EP X pins σ Q) X.xe s
def cT(X:Cx)(e:cj):TT:=λσ H Q=>∀pins s,Inv X pins σ H s->wpAny (model X.prog X.w) X.A (isTrue e X.env (eval e X.env)) (TP X pins σ Q) X.xe s
def cS(X:Cx)(st:iH):TS:=λD σ H=>∀pins s,Inv X pins σ H s->wpAny (model X.prog X.w) X.A (exec st X.env) (SP X pins D) X.xe s
def FQ(X:Cx)(st:List iH):TS:=λD σ H=>∀pins s,Inv X pins σ H s->wpAny (model X.prog X.w) X.A (execs st X.env) (SP X pins D) X.xe s
theorem dM:PE X e (cE X e):=λpins s _ _ _ I h=>h pins s I
theorem pO:PT X e (cT X e):=λpins s _ _ _ I h=>h pins s I
theorem Jf{e:iH}:PS X e (cS X e):=λpins s _ _ _ I h=>h pins s I
theorem my{e:List iH}:Fx X e (FQ X e):=λpins s _ _ _ I h=>h pins s I
def VE(X:Cx)(e:cj)(δ:List Slot)(d:aq):Prop:=∀B0 B σ H0 H Q,hU X.K B0 B H0 H σ δ->(∀v eJ H',dU H0 H eJ H'->Rep X.K eJ v d->Q v H')->cE X e σ H Q
def VO(X:Cx)(e:cj)(δ:List Slot)(ds:List aq):Prop:=∀B0 B σ H0 H Q,hU X.K B0 B H0 H σ δ->
 (∀p xs eJ H',dU H0 H eJ H'->H p=none->eJ p=none->H' p=some (.lst xs)->dq X.K eJ xs ds->Q (.ref p) H')->cE X e σ H Q
def VT(X:Cx)(e:cj)(δ:List Slot)(b:Bool):Prop:=∀B0 B σ H0 H Q,hU X.K B0 B H0 H σ δ->(∀eJ H',dU H0 H eJ H'->Q b H')->cT X e σ H Q
def VA(X:Cx)(es:List cj)(δ:List Slot)(ds:List aq):Prop:=∃t,PA X es t/\∀B0 B σ H0 H Q,hU X.K B0 B H0 H σ δ->(∀vs eJ H',dU H0 H eJ H'->dq X.K eJ vs ds->Q vs H')->t σ H Q
theorem VE.of{t:TE}(h:PE X e t)(q:∀B0 B σ H0 H Q,hU X.K B0 B H0 H σ δ->(∀v eJ H',dU H0 H eJ H'->Rep X.K eJ v d->Q v H')->t σ H Q):VE X e δ d:=
 λB0 B σ H0 H Q f k pins s I=>h pins s σ H Q I (q B0 B σ H0 H Q f k)
theorem VO.of{ds:List aq}{t:TE}(h:PE X e t)(q:∀B0 B σ H0 H Q,hU X.K B0 B H0 H σ δ->
  (∀p xs eJ H',dU H0 H eJ H'->H p=none->eJ p=none->H' p=some (.lst xs)->dq X.K eJ xs ds->Q (.ref p) H')->t σ H Q):VO X e δ ds:=
 λB0 B σ H0 H Q f k pins s I=>h pins s σ H Q I (q B0 B σ H0 H Q f k)
theorem VT.of{t:TT}(h:PT X e t)(q:∀B0 B σ H0 H Q,hU X.K B0 B H0 H σ δ->(∀eJ H',dU H0 H eJ H'->Q b H')->t σ H Q):VT X e δ b:=
 λB0 B σ H0 H Q f k pins s I=>h pins s σ H Q I (q B0 B σ H0 H Q f k)
theorem VO.ve{ds:List aq}(h:VO X e δ ds):VE X e δ (.list ds):=λB0 B σ H0 H Q f k=>h B0 B σ H0 H Q f λp xs eJ H' g h1 h2 h3 r=>by
 have sm:ej eJ (upd eJ p (.lst xs)):=λb u e=>by rw[aS (bj e h2)];exact e
 refine k (.ref p) (upd eJ p (.lst xs)) H' ⟨g.big,g.gU.trans sm,λb u e=>?_,λb e=>?_⟩ (.lst (lg.of bK) (r.mono sm))
 ·by_cases hb:b=p
  ·subst hb;rw[bK]at e;rw[<-e];exact h3
  ·rw[aS hb]at e;exact g.sub b u e
 ·by_cases hb:b=p
  ·subst hb;exact .inr h1
  ·rw[aS hb]at e;exact g.new b e
def zX(K:ao)(r:R2)(d1 d2 d:aq):Prop:=∀x y H0 H Q,ej H0 H->Rep K H0 x d1->Rep K H0 y d2->(∀v eJ H',dU H0 H eJ H'->Rep K eJ v d->Q v H')->r x y H Q
section
variable{X:Cx}{a b c e:cj}{δ:List Slot}{d d1 d2 d3:aq}{pos:Pos}
theorem ai(i:Nat)(h:δ[i]?=some (.val d))(hN:X.N[i]?=some x:=by rfl)(hv:Ft X.env.scope x:=by first|exact bB rfl|exact dm (bB rfl)|exact dm (dm rfl))(hd:(x==("__debug__":Str))=false:=by decide)
  (qT:(x==("__classdict__":Str))=false:=by decide):VE X (.Name x pos) δ d:=
 .of (h7 hN hv hd qT) λB0 B σ H0 H Q f k=>let⟨v,h1,h2⟩:=f.val h;⟨v,h1,k v H0 H (.refl f.sub) h2⟩
theorem aF{i:Int}{j}:VE X (.Constant (.int i) j pos) δ (.int i):=.of OJ λ_ _ _ _ _ _ f k=>k _ _ _ (.refl f.sub) (.int i)
theorem Jg{i:Bool}{j}:VE X (.Constant (.bool i) j pos) δ (.bool i):=.of RB λ_ _ _ _ _ _ f k=>k _ _ _ (.refl f.sub) (.bl i)
theorem eK{j}:VE X (.Constant .none j pos) δ .none:=.of OL λ_ _ _ _ _ _ f k=>k _ _ _ (.refl f.sub) .non
theorem aO{i:Str}{j}:VE X (.Constant (.str i) j pos) δ (.str i):=.of OO λ_ _ _ _ _ _ f k=>k _ _ _ (.refl f.sub) (.str i)
theorem two_d{r:R2}(hd:zX X.K r d1 d2 d)(h1:VE X a δ d1)(h2:VE X b δ d2):∀B0 B σ H0 H Q,hU X.K B0 B H0 H σ δ->(∀v eJ H',dU H0 H eJ H'->Rep X.K eJ v d->Q v H')->RT r (cE X a) (cE X b) σ H Q:=λB0 B σ H0 H Q f k=>
 h1 B0 B σ H0 H _ f λv H1 eC g1 r1=>h2 B0 B σ H1 eC _ (f.grow g1) λu H2 iT g2 r2=>hd v u H2 iT Q g2.sub (r1.mono g2.gU) r2 λw H3 wN g3 r3=>k w H3 wN ((g1.trans g2).trans g3) r3
theorem tq{op:Operator}{r:R2}(ho:rP X (binaryOp op) r)(hd:zX X.K r d1 d2 d)(h1:VE X a δ d1)(h2:VE X b δ d2):VE X (.BinOp a op b pos) δ d:=.of (B9 ho dM dM) (two_d hd h1 h2)
theorem xO{r:R2}(ho:rP X (compareOp op) r)(hd:zX X.K r d1 d2 d)(h1:VE X a δ d1)(h2:VE X b δ d2)(hm:behindInMarks op b=false):VE X (.Compare a [op] [b] pos) δ d:=.of (Lb ho dM dM hm) (two_d hd h1 h2)
theorem fN{r:R2}{k:Bool}(ho:rP X (compareOp op) r)(hd:zX X.K r d1 d2 (.bool k))(h1:VE X a δ d1)(h2:VE X b δ d2)(hm:behindInMarks op b=false):VT X (.Compare a [op] [b] pos) δ k:=
 .of (Lc ho dM dM hm) λB0 B σ H0 H Q f q=>two_d hd h1 h2 B0 B σ H0 H _ f λv eJ H' g r=>by cases r;exact⟨_,rfl,q eJ H' g⟩
theorem Ea{r:R2}(ho:KW X r)(hd:zX X.K r d1 d2 d)(h1:VE X a δ d1)(h2:VE X b δ d2)(hs:rQ b:=by intro _ _;rfl):VE X (.Subscript a b pos) δ d:=.of (NK ho dM dM hs) (two_d hd h1 h2)
end
theorem SX(i j:Int):zX K (KS λi j=>.int (g i j)) (.int i) (.int j) (.int (g i j)):=λx y H0 H Q s r1 r2 k=>by cases r1;cases r2;exact⟨_,_,rfl,rfl,k _ _ _ (.refl s) (.int _)⟩
theorem zj{g:Int->Int->Bool}(i j:Int):zX K (KS λi j=>.bl (g i j)) (.int i) (.int j) (.bool (g i j)):=λx y H0 H Q s r1 r2 k=>by cases r1;cases r2;exact⟨_,_,rfl,rfl,k _ _ _ (.refl s) (.bl _)⟩
theorem Px{C:Int->Int->Prop}(i j:Int)(h:C i j):zX K (rI C λi j=>.int (g i j)) (.int i) (.int j) (.int (g i j)):=λx y H0 H Q s r1 r2 k=>by cases r1;cases r2;exact⟨_,_,rfl,rfl,h,k _ _ _ (.refl s) (.int _)⟩
def Py(K:ao)(n:Nat)(g:aq->aq->Bool):R2:=λx y H Q=>∃dx dy,Rep K H x dx/\Rep K H y dy/\Lay n dx/\Lay n dy/\Q (.bl (g dx dy)) H
theorem Jh(hu:X.A.units+n+2<cLine):rP X (compareOp .Eq) (Py X.K n λx y=>dE x y):=by
 intro pins s σ H x y v u Q I rx ry ⟨dx,dy,r1,r2,l1,l2,q⟩;obtain⟨as,ra⟩:=jO I dx l1.1 r1 rx;obtain⟨bs,rb⟩:=jO I dy l2.1 r2 ry;have h1:=l1.2;exact SeqAt.compareEq_reads ra rb l1.1 l2.1 (by omega) ⟨.bl _,H,I,rfl,q⟩
theorem Ji(hu:X.A.units+n+2<cLine):rP X (compareOp .NotEq) (Py X.K n λx y=>!dE x y):=by
 intro pins s σ H x y v u Q I rx ry ⟨dx,dy,r1,r2,l1,l2,q⟩;obtain⟨as,ra⟩:=jO I dx l1.1 r1 rx;obtain⟨bs,rb⟩:=jO I dy l2.1 r2 ry;have h1:=l1.2;exact SeqAt.neOverData X.prog X.w X.A X.xe s v u dx dy as bs _ ra rb l1.1 l2.1 (by omega) ⟨.bl _,H,I,rfl,q⟩
def uy(d:aq):aq->Bool
 | .list xs=>xs.any λy=>dE y d
 | .tuple xs=>xs.any λy=>dE y d
 |_=>false
def Ct:aq->Bool
 | .list _=>true
 | .tuple _=>true
 |_=>false
def Pz(K:ao)(n:Nat)(neg:Bool):R2:=λx y H Q=>∃dx dy,Rep K H x dx/\Rep K H y dy/\Ct dy=true/\Lay n dx/\Lay n dy/\Q (.bl (if neg then !uy dx dy else uy dx dy)) H
theorem Jj(hu:X.A.units+n+2<cLine):rP X (compareOp .In) (Pz X.K n false):=by
 intro pins s σ H x y v u Q I rx ry ⟨dx,dy,r1,r2,hs,l1,l2,q⟩;obtain⟨as,ra⟩:=jO I dx l1.1 r1 rx;obtain⟨bs,rb⟩:=jO I dy l2.1 r2 ry;have h1:=l1.2;cases dy with
 |list ys=>exact SeqAt.in_list_reads rb ra l2.1 l1.1 (by omega) ⟨.bl _,H,I,rfl,q⟩
 |tuple ys=>exact SeqAt.in_tuple_reads rb ra l2.1 l1.1 (by omega) ⟨.bl _,H,I,rfl,q⟩
 |_=>cases hs
theorem G_(hu:X.A.units+n+2<cLine):rP X (compareOp .NotIn) (Pz X.K n true):=by
 intro pins s σ H x y v u Q I rx ry ⟨dx,dy,r1,r2,hs,l1,l2,q⟩;obtain⟨as,ra⟩:=jO I dx l1.1 r1 rx;obtain⟨bs,rb⟩:=jO I dy l2.1 r2 ry;have h1:=l1.2;cases dy with
 |list ys=>exact SeqAt.notIn_list_reads rb ra l2.1 l1.1 (by omega) ⟨.bl _,H,I,rfl,q⟩
 |tuple ys=>exact SeqAt.notIn_tuple_reads rb ra l2.1 l1.1 (by omega) ⟨.bl _,H,I,rfl,q⟩
 |_=>cases hs
theorem FT{g:aq->aq->Bool}{d1 d2:aq}(l1:Lay n d1)(l2:Lay n d2):zX K (Py K n g) d1 d2 (.bool (g d1 d2)):=λx y H0 H Q s r1 r2 k=>⟨d1,d2,r1.mono s,r2.mono s,l1,l2,k _ _ _ (.refl s) (.bl _)⟩
theorem PB{neg:Bool}{d1 d2:aq}(hs:Ct d2=true)(l1:Lay n d1)(l2:Lay n d2):zX K (Pz K n neg) d1 d2 (.bool (if neg then !uy d1 d2 else uy d1 d2)):=λx y H0 H Q s r1 r2 k=>
 ⟨d1,d2,r1.mono s,r2.mono s,hs,l1,l2,k _ _ _ (.refl s) (.bl _)⟩
theorem Xe{ds:List aq}{i:Int}(h:sG ds i=some d):zX K (U7 K) (.list ds) (.int i) d:=λx y H0 H Q s r1 r2 k=>by
 cases r2;cases r1 with
 |lst hq r=>
  rename_i p xs
  have hl:=r.length;unfold sG at h;cases e:NF ds.length i with
  |none=>rw[e]at h;cases h
  |some j=>
   rw[e]at h;obtain⟨v,hv,rv⟩:=r.get (i:=j) (d:=d) h;exact .inl ⟨p,xs,i,v,rfl,rfl,s.seq hq,by unfold sG;rw[hl,e];exact hv,k v _ _ (.refl s) rv⟩
theorem SY{ds:List aq}{i:Int}(h:sG ds i=some d):zX K (U7 K) (.tuple ds) (.int i) d:=λx y H0 H Q s r1 r2 k=>by
 cases r2;cases r1 with
 |tup hq r=>
  rename_i p xs
  have hl:=r.length;unfold sG at h;cases e:NF ds.length i with
  |none=>rw[e]at h;cases h
  |some j=>
   rw[e]at h;obtain⟨v,hv,rv⟩:=r.get (i:=j) (d:=d) h;exact .inr (.inl ⟨p,xs,i,v,rfl,rfl,s.pN hq,by unfold sG;rw[hl,e];exact hv,k v _ _ (.refl s) rv⟩)
def S0(K:ao):R2:=λx y H Q=>∃l b xs zs,x=.ref l/\y=.ref b/\lg K H l xs/\lg K H b zs/\xs.length+zs.length<=sizeLine/\∀p,H p=none->Q (.ref p) (upd H p (.lst (xs++zs)))
theorem LY:rP X (binaryOp .Add) (S0 X.K):=by
 intro pins s σ H x y v u Q I rx ry h;obtain⟨l,b,xs,zs,rfl,rfl,hl,hb,hz,q⟩:=h;cases rx;cases ry;obtain⟨its,r1,⟨⟨cls,dd,data,sl⟩,n,e1,c1,_,d1⟩,z1⟩:=I.list hl;obtain⟨Ln,r2,⟨⟨WL,U4,data2,QZ⟩,n2,e2,c2,_,d2⟩,z2⟩:=I.list hb;simp only at c1 d1 c2 d2;subst c1 d1 c2 d2;have l1:=r1.length;have l2:=r2.length;refine concat_meets ⟨_,e1,rfl⟩ ⟨_,e2,rfl⟩ noFill_list_add seq_list_add PySem.F.slot_list_add PySem.F.entry_list_add (PySem.F.args_list_add_2 _ _) (list_addW l b its.toArray Ln.toArray n n2 dd U4 sl QZ (by rw[bp,bp];omega)) ⟨e1,e2,?_⟩
 rw[show its.toArray++Ln.toArray=(its++Ln).toArray by simp]
 exact⟨.ref _,_,I.Sn (t':=s.toks) (r1.append r2) (by rw[aV];omega),rfl,q _ I.fresh⟩
section
variable{X:Cx}{a b c e:cj}{es:List cj}{δ:List Slot}{d d1 d2 d3:aq}{ds:List aq}{pos:Pos}{i j:Int}{k:Nat}
theorem eL(h1:VE X a δ (.int i))(h2:VE X b δ (.int j)):VE X (.BinOp a .Add b pos) δ (.int (i+j)):=tq O1 (SX i j) h1 h2
theorem PD(h1:VE X a δ (.int i))(h2:VE X b δ (.int j)):VE X (.BinOp a .Sub b pos) δ (.int (i-j)):=tq O2 (SX i j) h1 h2
theorem tD(h1:VE X a δ (.int i))(h2:VE X b δ (.int j))(h:La i j):VE X (.BinOp a .Mult b pos) δ (.int (i*j)):=tq O4 (Px i j h) h1 h2
theorem cZ(h1:VE X a δ (.int i))(h2:VE X b δ (.int j))(h:0<j):VE X (.BinOp a .Mod b pos) δ (.int (i%j)):=tq O5 (Px i j h) h1 h2
theorem gO(h1:VE X a δ (.int i))(h2:VE X b δ (.int j))(h:OZ i j):VE X (.BinOp a .FloorDiv b pos) δ (.int (i/j)):=tq FC (Px i j h) h1 h2
theorem S1(h1:VE X a δ (.int i))(h2:VE X b δ (.int j)):VE X (.Compare a [.Gt] [b] pos) δ (.bool (decide (j<i))):=xO Nz (zj i j) h1 h2 (fE _)
theorem zY(h1:VE X a δ (.int i))(h2:VE X b δ (.int j)):VT X (.Compare a [.Lt] [b] pos) δ (decide (i<j)):=fN RW (zj i j) h1 h2 (fE _)
theorem FU(h1:VE X a δ (.int i))(h2:VE X b δ (.int j)):VT X (.Compare a [.Gt] [b] pos) δ (decide (j<i)):=fN Nz (zj i j) h1 h2 (fE _)
theorem Jk(h1:VE X a δ (.int i))(h2:VE X b δ (.int j)):VT X (.Compare a [.GtE] [b] pos) δ (decide (j<=i)):=fN RX (zj i j) h1 h2 (fE _)
theorem Cu(hr:fF k X.A):X.A.units+20+2<cLine:=by have:=hr.un;omega
theorem bU(hr:fF k X.A)(l1:Lay 20 d1)(l2:Lay 20 d2)(h1:VE X a δ d1)(h2:VE X b δ d2):VT X (.Compare a [.Eq] [b] pos) δ (dE d1 d2):=fN (Jh (Cu hr)) (FT l1 l2) h1 h2 (fE _)
theorem mZ(hr:fF k X.A)(l1:Lay 20 d1)(l2:Lay 20 d2)(h1:VE X a δ d1)(h2:VE X b δ d2):VT X (.Compare a [.NotEq] [b] pos) δ (!dE d1 d2):=fN (Ji (Cu hr)) (FT l1 l2) h1 h2 (fE _)
theorem sJ(hr:fF k X.A)(l1:Lay 20 d1)(l2:Lay 20 d2)(h1:VE X a δ d1)(h2:VE X b δ d2):VE X (.Compare a [.Eq] [b] pos) δ (.bool (dE d1 d2)):=xO (Jh (Cu hr)) (FT l1 l2) h1 h2 (fE _)
theorem S2(hr:fF k X.A)(hs:Ct d2=true)(l1:Lay 20 d1)(l2:Lay 20 d2)(h1:VE X a δ d1)(h2:VE X b δ d2)(hm:behindInMarks .In b=false:=by with_unfolding_all rfl):VT X (.Compare a [.In] [b] pos) δ (uy d1 d2):=fN (Jj (Cu hr)) (PB (neg:=false) hs l1 l2) h1 h2 hm
theorem xP(hr:fF k X.A)(hs:Ct d2=true)(l1:Lay 20 d1)(l2:Lay 20 d2)(h1:VE X a δ d1)(h2:VE X b δ d2)(hm:behindInMarks .NotIn b=false:=by with_unfolding_all rfl):VT X (.Compare a [.NotIn] [b] pos) δ (!uy d1 d2):=fN (G_ (Cu hr)) (PB (neg:=true) hs l1 l2) h1 h2 hm
theorem f7(h1:VE X a δ (.list ds))(h2:VE X b δ (.int i))(h:sG ds i=some d)(hs:rQ b:=by intro _ _;rfl):VE X (.Subscript a b pos) δ d:=Ea A8 (Xe h) h1 h2 hs
theorem c0(h1:VE X a δ (.tuple ds))(h2:VE X b δ (.int i))(h:sG ds i=some d)(hs:rQ b:=by intro _ _;rfl):VE X (.Subscript a b pos) δ d:=Ea A8 (SY h) h1 h2 hs
theorem q_:PT X e (λ_ _ _=>False):=λ_ _ _ _ _ _ h=>h.elim
theorem Be{k:Bool}(h:VT X a δ k):VT X (.UnaryOp .Not a pos) δ (!k):=.of (DS pO) λB0 B σ H0 H Q f q=>h B0 B σ H0 H _ f q
theorem pP(h1:VT X a δ k1)(h2:k1=true->VT X b δ k2):VT X (.BoolOp .And [a,b] pos) δ (k1&&k2):=by
 cases k1 with
 |true=>
  exact .of (pw_and pO (pw_and1 pO)).pt λB0 B σ H0 H Q f q=>h1 B0 B σ H0 H _ f λH1 eC g=>by
   rw[qQ3 rfl];exact h2 rfl B0 B σ H1 eC _ (f.grow g) λH2 iT g2=>q H2 iT (g.trans g2)
 |false=>
  exact .of (pw_and pO (pw_and1 q_)).pt λB0 B σ H0 H Q f q=>h1 B0 B σ H0 H _ f λH1 eC g=>by
   rw[qQ2 cF];exact q H1 eC g
theorem ju(h1:VT X a δ k1)(h2:k1=false->VT X b δ k2):VT X (.BoolOp .Or [a,b] pos) δ (k1||k2):=by
 cases k1 with
 |false=>
  exact .of (pw_or pO (pw_or1 pO)).pt λB0 B σ H0 H Q f q=>h1 B0 B σ H0 H _ f λH1 eC g=>by
   rw[qQ2 cF];exact h2 rfl B0 B σ H1 eC _ (f.grow g) λH2 iT g2=>q H2 iT (g.trans g2)
 |true=>
  exact .of (pw_or pO (pw_or1 q_)).pt λB0 B σ H0 H Q f q=>h1 B0 B σ H0 H _ f λH1 eC g=>by
   rw[qQ3 rfl];exact q H1 eC g
theorem xQ{k3: Bool}(h1:VT X a δ k1)(h2:k1=false->VT X b δ k2)(h3:k1=false->k2=false->VT X c δ k3):VT X (.BoolOp .Or [a,b,c] pos) δ (k1||(k2||k3)):=by
 cases k1 with
 |true=>
  exact .of (pw_or pO (pw_or q_ (pw_or1 q_))).pt λB0 B σ H0 H Q f q=>h1 B0 B σ H0 H _ f λH1 eC g=>by
   rw[qQ3 rfl];exact q H1 eC g
 |false=>
  cases k2 with
  |true=>
   exact .of (pw_or pO (pw_or pO (pw_or1 q_))).pt λB0 B σ H0 H Q f q=>h1 B0 B σ H0 H _ f λH1 eC g=>by
    rw[qQ2 cF];refine h2 rfl B0 B σ H1 eC _ (f.grow g) λH2 iT g2=>?_
    rw[qQ3 rfl];exact q H2 iT (g.trans g2)
  |false=>
   exact .of (pw_or pO (pw_or pO (pw_or1 pO))).pt λB0 B σ H0 H Q f q=>h1 B0 B σ H0 H _ f λH1 eC g=>by
    rw[qQ2 cF];refine h2 rfl B0 B σ H1 eC _ (f.grow g) λH2 iT g2=>?_
    rw[qQ2 cF];exact h3 rfl rfl B0 B σ H2 iT _ ((f.grow g).grow g2) λH3 wN g3=>q H3 wN ((g.trans g2).trans g3)
def Xf:aq->Option Bool
 | .none=>some false
 | .bool b=>some b
 | .int i=>some (i != 0)
 | .list ds=>some (!ds.isEmpty)
 | .tuple ds=>some (!ds.isEmpty)
 |_=>none
theorem dq.empty{ds:List aq}(r:dq K H xs ds):xs.isEmpty=ds.isEmpty:=by cases r<;>rfl
theorem pQ{t:Bool}(h:VE X a δ d)(ht:Xf d=some t)(he:∀whole,isTrue a X.env whole=(do let v <-whole;standAt a.pos;holding [v] (truthy v)):=by intro _;rfl):VT X a δ t:=
 .of (IB dM he) λB0 B σ H0 H Q f q=>h B0 B σ H0 H _ f λv H1 eC g r=>by
  refine⟨t,?_,q H1 eC g⟩
  cases r with
  |non=>cases ht;exact(rfl:false=false)
  |bl b=>cases ht;exact(rfl:t=t)
  |int i=>cases ht;exact(rfl:(i != 0)=(i != 0))
  |str x=>cases ht
  |lst hq r=>cases ht;exact .inl ⟨_,g.sub.seq hq,by rw[r.empty]⟩
  |tup hq r=>cases ht;exact .inr (.inl ⟨_,g.sub.pN hq,by rw[r.empty]⟩)
  |dct _ _ _=>cases ht
  |SW _ _ _=>cases ht
  |obj _ _ _ _ _=>cases ht
  |Xa _ _ _=>cases ht
theorem rg{k:Bool}(h:VT X c δ k)(h1:k=true->VE X a δ d)(h2:k=false->VE X b δ d):VE X (.IfExp c a b pos) δ d:=
 .of (Iw pO dM dM) λB0 B σ H0 H Q f q=>h B0 B σ H0 H _ f λH1 eC g=>by
  cases k with
  |true=>
   rw[qQ3 rfl];exact h1 rfl B0 B σ H1 eC _ (f.grow g) λv H2 iT g2 r=>q v H2 iT (g.trans g2) r
  |false=>
   rw[qQ2 cF];exact h2 rfl B0 B σ H1 eC _ (f.grow g) λv H2 iT g2 r=>q v H2 iT (g.trans g2) r
theorem aX:VA X [] δ []:=⟨_,fM,λ_ _ _ _ _ _ f q=>q _ _ _ (.refl f.sub) .nil⟩
theorem av(h:VE X e δ d)(hr:VA X es δ ds)(hs:starEach (e::es) X.env=(false,eval e X.env)::starEach es X.env:=by rfl):VA X (e::es) δ (d::ds):=by
 obtain⟨t,p,ht⟩:=hr;exact⟨_,dw dM p hs,λB0 B σ H0 H Q f q=>h B0 B σ H0 H _ f λv H1 eC g r=>ht B0 B σ H1 eC _ (f.grow g) λvs H2 iT g2 rs=>q _ _ _ (g.trans g2) (.cons (r.mono g2.gU) rs)⟩
theorem gf{x1}(h:VA X es δ ds)(hz:ds.length<=sizeLine:=by(simp only[gu];rw[cL];decide)):VE X (.Tuple es x1 pos) δ (.tuple ds):=by
 obtain⟨t,p,ht⟩:=h;exact .of (xC p) λB0 B σ H0 H Q f q=>ht B0 B σ H0 H _ f λvs H1 eC g r=>⟨by rw[r.length];exact hz,λa ha=>q _ _ _ (g.trans (.laid g.sub ha)) (.tup (qp.of bK) (r.mono (dU.laid g.sub ha).gU))⟩
theorem gG(h:VA X es δ ds)(hz:ds.length<=sizeLine:=by(simp only[gu];rw[cL];decide)):VO X (.List es pos) δ ds:=by
 obtain⟨t,p,ht⟩:=h;exact .of (A5 p) λB0 B σ H0 H Q f q=>ht B0 B σ H0 H _ f λvs H1 eC g r=>⟨by rw[r.length];exact hz,λa ha=>q a vs H1 _ (g.trans (.loose g.sub ha)) (g.big.free ha) (g.sub.free ha) bK r⟩
def cutD{α:Type}(xs:List α)(lo hi:Option Int):List α:=(xs.drop (HT.kS xs.length 0 lo)).take (HT.kS xs.length xs.length hi-HT.kS xs.length 0 lo)
theorem dq.cut(r:dq K H xs ds)(lo hi:Option Int):dq K H (Cj xs lo hi) (cutD ds lo hi):=by
 unfold Cj cutD;rw[r.length];exact(r.drop _).take _
inductive sL(X:Cx)(δ:List Slot):Option cj->Option Int->Prop
 |no:sL X δ none none
 |yes {e:cj} {i:Int}:VE X e δ (.int i)->sL X δ (some e) (some i)
theorem sL.ok{o:Option cj}{p:Option Int}(h:sL X δ o p):∃t,PO X o t/\∀B0 B σ H0 H Q,hU X.K B0 B H0 H σ δ->(∀eJ H',dU H0 H eJ H'->Q p H')->t σ H Q:=by
 cases h with
 |no=>exact⟨_,Li,λ_ _ _ _ _ _ f q=>q _ _ (.refl f.sub)⟩
 |yes h=>exact⟨_,Lj dM,λB0 B σ H0 H Q f q=>h B0 B σ H0 H _ f λv H1 eC g r=>by cases r;exact⟨_,rfl,q _ _ g⟩⟩
theorem eW{lo hi:Option cj}{l u:Option Int}(h:VE X a δ (.list ds))(hl:sL X δ lo l)(hh:sL X δ hi u):VO X (.Subscript a (.Slice lo hi none p2) pos) δ (cutD ds l u):=by
 obtain⟨tl,pl,ql⟩:=hl.ok;obtain⟨th,ph,qh⟩:=hh.ok;refine .of (xE Lr dM pl ph) λB0 B σ H0 H Q f q=>h B0 B σ H0 H _ f λv H1 eC g r=>ql B0 B σ H1 eC _ (f.grow g) λH2 iT g2=>qh B0 B σ H2 iT _ ((f.grow g).grow g2) λH3 wN g3=>?_
 cases r with
 |lst hq r=>
  refine⟨_,_,rfl,g3.sub.seq ((g2.gU.trans g3.gU).seq hq),λp hp=>?_⟩
  have gg:=(g.trans g2).trans g3;exact q p _ H3 _ (gg.trans (.loose g3.sub hp)) (gg.big.free hp) (g3.sub.free hp) bK ((r.mono (g2.gU.trans g3.gU)).cut l u)
theorem vk{lo hi:Option cj}{l u:Option Int}(h:VE X a δ (.tuple ds))(hl:sL X δ lo l)(hh:sL X δ hi u)(hw:¬(HT.kS ds.length 0 l=0/\HT.kS ds.length ds.length u=ds.length)):
  VE X (.Subscript a (.Slice lo hi none p2) pos) δ (.tuple (cutD ds l u)):=by
 obtain⟨tl,pl,ql⟩:=hl.ok;obtain⟨th,ph,qh⟩:=hh.ok;refine .of (xE Pb dM pl ph) λB0 B σ H0 H Q f q=>h B0 B σ H0 H _ f λv H1 eC g r=>ql B0 B σ H1 eC _ (f.grow g) λH2 iT g2=>qh B0 B σ H2 iT _ ((f.grow g).grow g2) λH3 wN g3=>?_
 cases r with
 |tup hq r=>
  refine⟨_,_,rfl,g3.sub.pN ((g2.gU.trans g3.gU).pN hq),by rw[r.length];exact hw,λp hp=>?_⟩
  have gg:=(g.trans g2).trans g3;exact q _ _ _ (gg.trans (.laid g3.sub hp)) (.tup (qp.of bK) (((r.mono (g2.gU.trans g3.gU)).cut l u).mono (dU.laid g3.sub hp).gU))
def oW(K:ao)(r:List V->Hp->VK->Prop)(ds:List aq)(d:aq):Prop:=∀vs H0 H Q,ej H0 H->dq K H0 vs ds->(∀v eJ H',dU H0 H eJ H'->Rep K eJ v d->Q v H')->r vs H Q
def NQ(K:ao)(r:List V->Hp->VK->Prop)(ds es:List aq):Prop:=∀vs H0 H Q,ej H0 H->dq K H0 vs ds->
 (∀p xs eJ H',dU H0 H eJ H'->H p=none->eJ p=none->H' p=some (.lst xs)->dq K eJ xs es->Q (.ref p) H')->r vs H Q
theorem iV(hc:jM X (.builtin id) r)(hd:oW X.K r ds d)(ha:VA X (e::es) δ ds)(hm:X.mg x=none)(hv:bootBuiltins x=some (.builtin id))(hg:Gl X x:=by rfl)(hn:x≠"__name__":=by decide)(qA:(x==("__debug__":Str))=false:=by decide)
  (he:starEach (e::es) X.env=(false,eval e X.env)::starEach es X.env:=by rfl)(pF:(backTo pos (starEach es X.env)).any (·.1)=false:=by rfl):VE X (.Call (.Name x p) (e::es) [] pos) δ d:=by
 obtain⟨t,pa,ht⟩:=ha;exact .of (qX hc hg hm hv pa hn qA he pF) λB0 B σ H0 H Q f q=>ht B0 B σ H0 H _ f λvs H1 eC g r=>hd vs H1 eC Q g.sub r λv H2 iT g2 r2=>q v H2 iT (g.trans g2) r2
theorem j9(hc:jM X (.type id) r)(hd:oW X.K r ds d)(ha:VA X (e::es) δ ds)(hm:X.mg x=none)(hv:bootBuiltins x=some (.type id))(hg:Gl X x:=by rfl)(hn:x≠"__name__":=by decide)(qA:(x==("__debug__":Str))=false:=by decide)
  (he:starEach (e::es) X.env=(false,eval e X.env)::starEach es X.env:=by rfl)(pF:(backTo pos (starEach es X.env)).any (·.1)=false:=by rfl):VE X (.Call (.Name x p) (e::es) [] pos) δ d:=by
 obtain⟨t,pa,ht⟩:=ha;exact .of (vg hc hg hm hv pa hn qA he pF) λB0 B σ H0 H Q f q=>ht B0 B σ H0 H _ f λvs H1 eC g r=>hd vs H1 eC Q g.sub r λv H2 iT g2 r2=>q v H2 iT (g.trans g2) r2
theorem G'{zs:List aq}(hc:jM X (.type id) r)(hd:NQ X.K r ds zs)(ha:VA X (e::es) δ ds)(hm:X.mg x=none)(hv:bootBuiltins x=some (.type id))(hg:Gl X x:=by rfl)(hn:x≠"__name__":=by decide)(qA:(x==("__debug__":Str))=false:=by decide)
  (he:starEach (e::es) X.env=(false,eval e X.env)::starEach es X.env:=by rfl)(pF:(backTo pos (starEach es X.env)).any (·.1)=false:=by rfl):VO X (.Call (.Name x p) (e::es) [] pos) δ zs:=by
 obtain⟨t,pa,ht⟩:=ha;exact .of (vg hc hg hm hv pa hn qA he pF) λB0 B σ H0 H Q f q=>ht B0 B σ H0 H _ f λvs H1 eC g r=>hd vs H1 eC Q g.sub r λv xs H2 iT g2 a1 a2 a3 a4=>q v xs H2 iT (g.trans g2) (g.big.free a1) a2 a3 a4
theorem dq.one(r:dq K H vs [d]):∃v,vs=[v]/\Rep K H v d:=by
 cases r with|cons a t=>cases t;exact⟨_,rfl,a⟩
theorem dq.two(r:dq K H vs [d1,d2]):∃v w,vs=[v,w]/\Rep K H v d1/\Rep K H w d2:=by
 cases r with|cons a t=>cases t with|cons b t=>cases t;exact⟨_,_,rfl,a,b⟩
theorem S3:oW K (λxs H Q=>∃p ys,xs=[.ref p]/\(lg K H p ys\/qp K H p ys)/\Q (.int ys.length) H) [.list ds] (.int ds.length):=λvs H0 H Q s r k=>by
 obtain⟨v,rfl,r1⟩:=r.one;cases r1 with|lst hq r=>exact⟨_,_,rfl,.inl (s.seq hq),k _ _ _ (.refl s) (by rw[r.length];exact .int _)⟩
theorem PF:oW K (λxs H Q=>∃p ys,xs=[.ref p]/\(lg K H p ys\/qp K H p ys)/\Q (.int ys.length) H) [.tuple ds] (.int ds.length):=λvs H0 H Q s r k=>by
 obtain⟨v,rfl,r1⟩:=r.one;cases r1 with|tup hq r=>exact⟨_,_,rfl,.inr (s.pN hq),k _ _ _ (.refl s) (by rw[r.length];exact .int _)⟩
theorem uz:oW K (λxs H Q=>∃p ys,xs=[.ref p]/\((lg K H p ys/\∀l,H l=none->Q (.ref l) (upd H l (.tup ys)))\/(qp K H p ys/\Q (.ref p) H))) [.list ds] (.tuple ds):=λvs H0 H Q s r k=>by
 obtain⟨v,rfl,r1⟩:=r.one;cases r1 with|lst hq r=>exact⟨_,_,rfl,.inl ⟨s.seq hq,λl hl=>k _ _ _ (.laid s hl) (.tup (qp.of bK) (r.mono (dU.laid s hl).gU))⟩⟩
theorem jE(h:VE X a δ (.list ds))(hm:X.mg "len"=none)(hg:Gl X "len":=by rfl)(hs:starEach [a] X.env=(false,eval a X.env)::starEach [] X.env:=by rfl):VE X (.Call (.Name "len" p) [a] [] pos) δ (.int ds.length):=iV um S3 (av h aX hs) hm su hg (he:=hs)
theorem kG(h:VE X a δ (.tuple ds))(hm:X.mg "len"=none)(hg:Gl X "len":=by rfl)(hs:starEach [a] X.env=(false,eval a X.env)::starEach [] X.env:=by rfl):VE X (.Call (.Name "len" p) [a] [] pos) δ (.int ds.length):=iV um PF (av h aX hs) hm su hg (he:=hs)
theorem jY{d1 d2:List aq}(h1:VE X a δ (.list d1))(h2:VE X b δ (.list d2))(hz:d1.length+d2.length<=sizeLine):VO X (.BinOp a .Add b pos) δ (d1++d2):=by
 refine .of (B9 LY dM dM) λB0 B σ H0 H Q f q=>h1 B0 B σ H0 H _ f λv H1 eC g1 r1=>h2 B0 B σ H1 eC _ (f.grow g1) λu H2 iT g2 r2=>?_
 cases r1 with
 |lst hq r1=>
  cases r2 with
  |lst Eb r2=>
   have gg:=g1.trans g2;refine⟨_,_,_,_,rfl,rfl,g2.sub.seq (g2.gU.seq hq),g2.sub.seq Eb,by rw[r1.length,r2.length];exact hz,λp hp=>?_⟩
   exact q p _ H2 _ (gg.trans (.loose g2.sub hp)) (gg.big.free hp) (g2.sub.free hp) bK ((r1.mono g2.gU).append r2)
end
inductive He where
 |one (i:Nat)
 |tup (is:List Nat)
variable{tgt:He}
def Ec:List Nat->Nx
 | []=>RJ
 |i::r=>Ny (zL i) (Ec r)
def LZ(K:ao):He->TG
 | .one i=>zL i
 | .tup is=>RK K is.length (Ec is)
def pR:List Nat->List aq->List Slot->List Slot
 |i::r,d::ds,δ=>pR r ds (δ.set i (.val d))
 |_,_,δ=>δ
def zk:He->aq->List Slot->Option (List Slot)
 | .one i,d,δ=>some (δ.set i (.val d))
 | .tup is,.tuple ds,δ=>if ds.length=is.length then some (pR is ds δ)else none
 |_,_,_=>none
section
variable{K:ao}{B0 B H0 H:Hp}
theorem Cv:∀{is:List Nat}{xs:List V}{ds:List aq}{σ:St}{δ:List Slot}{Q:St->Hp->Prop},hU K B0 B H0 H σ δ->dq K H0 xs ds->ds.length=is.length->(∀σ',hU K B0 B H0 H σ' (pR is ds δ)->Q σ' H)->Ec is xs σ H Q
 | [],xs,ds,σ,δ,Q,f,r,hl,q=>by
  have:ds=[]:=mr hl;subst this;cases r;exact⟨rfl,q σ f⟩
 |i::is,xs,ds,σ,δ,Q,f,r,hl,q=>by
  cases r with
  |nil=>cases hl
  |cons a t=>exact⟨_,_,rfl,Cv (is:=is) (f.set a) t (by simpa using hl) q⟩
theorem rh{v:V}{Q:St->Hp->Prop}(f:hU K B0 B H0 H σ δ)(r:Rep K H0 v d)(h:zk tgt d δ=some δ')(q:∀σ',hU K B0 B H0 H σ' δ'->Q σ' H):LZ K tgt v σ H Q:=by
 cases tgt with
 |one i=>cases h;exact q _ (f.set r)
 |tup is=>
  cases r with
  |tup hq r=>
   rename_i ds
   have h':(if ds.length=is.length then some (pR is ds δ)else none)=some δ':=h
   by_cases hl:ds.length=is.length
   ·rw[qQ3 hl]at h'
    cases h';exact⟨_,_,rfl,f.sub.pN hq,by rw[r.length,hl],Cv f r hl q⟩
   ·rw[qQ2 hl]at h';cases h'
  |_=>cases h
end
def ZQ(K:ao)(J:It)(H0:Hp)(ds:List aq):Prop:=∀eJ H',ej H0 eJ->ej eJ H'->∀i,(i<ds.length->J.go i H')/\(ds.length<=i->J.stop i H')/\
 ∀x yS d,ds[i]?=some d->J.RM i H' x yS->∃S4,dU eJ H' S4 yS/\Rep K S4 x d
def VI(X:Cx)(tg iter:cj)(δ:List Slot)(ds:List aq):Prop:=∃wi,PI X tg iter wi/\∀B0 B σ H0 H R,hU X.K B0 B H0 H σ δ->(∀J eJ H',dU H0 H eJ H'->ZQ X.K J eJ ds->R J H')->wi σ H R
def zZ(ds:List aq):List aq:=ds.zipIdx.map λp=>.tuple [.int p.2,p.1]
theorem dN(ds:List aq):(zZ ds).length=ds.length:=by simp[zZ]
theorem jy{ds:List aq}(h:(zZ ds)[i]?=some d):∃x,ds[i]?=some x/\d=.tuple [.int i,x]:=by
 unfold zZ at h;rw[aT,jB]at h;cases e:ds[i]? with
 |none=>rw[e]at h;simp at h
 |some x=>rw[e]at h;simp at h;exact⟨x,rfl,h.symm⟩
def jZ(n:Nat):List aq:=(cq n).map λ(i:Nat)=>.int (i:Int)
section
variable{X:Cx}{tg a b:cj}{δ:List Slot}{ds:List aq}{pos:Pos}
theorem je(h:VE X a δ (.list ds)):VI X tg a δ ds:=⟨_,K9 dM,λB0 B σ H0 H R f q=>h B0 B σ H0 H _ f λv H1 eC g r=>by
 cases r with
 |lst hq r=>
  refine⟨_,rfl,⟨_,g.sub.seq hq⟩,q _ H1 eC g λHa Hb s1 s2 i=>?_⟩
  have hl:=r.length;have hS:=(s1.trans s2).seq hq;refine⟨λhi=>?_,λhi=>⟨_,hS,by omega⟩,λx yS d hd ⟨e,y⟩=>?_⟩
  ·obtain⟨x,hx,_⟩:=r.get (i:=i) (d:=ds[i]) (by simp[hi])
   exact⟨_,x,hS,hx⟩
  ·subst e
   exact⟨Ha,.refl s2,(r.mono s1).at hd (y _ hS)⟩⟩
theorem vm(h:VE X a δ (.tuple ds)):VI X tg a δ ds:=⟨_,OX dM,λB0 B σ H0 H R f q=>h B0 B σ H0 H _ f λv H1 eC g r=>by
 cases r with
 |tup hq r=>
  refine⟨_,rfl,⟨_,g.sub.pN hq⟩,q _ H1 eC g λHa Hb s1 s2 i=>?_⟩
  have hl:=r.length;have hS:=(s1.trans s2).pN hq;refine⟨λhi=>?_,λhi=>⟨_,hS,by omega⟩,λx yS d hd ⟨e,y⟩=>?_⟩
  ·obtain⟨x,hx,_⟩:=r.get (i:=i) (d:=ds[i]) (by simp[hi])
   exact⟨_,x,hS,hx⟩
  ·subst e
   exact⟨Ha,.refl s2,(r.mono s1).at hd (y _ hS)⟩⟩
theorem xR{n:Int}(h:VE X a δ (.int n))(hm:X.mg "range"=none)(h1:-(2^62)<=n)(h2:n<2^62)(hg:Gl X "range":=by rfl)(hs:starEach [a] X.env=[(false,eval a X.env)]:=by rfl):VI X tg (.Call (.Name "range" p) [a] [] pos) δ (jZ n.toNat):=
 ⟨_,GJ hg hm (dw dM fM hs) hs,λB0 B σ H0 H R f q=>h B0 B σ H0 H _ f λv H1 eC g r=>by
  cases r;refine⟨n,rfl,h1,h2,q _ H1 eC g λHa Hb s1 s2 i=>⟨λhi=>(show i<n.toNat from by simpa[jZ]using hi),λhi=>(show n.toNat<=i from by simpa[jZ]using hi),λx yS d hd ⟨e,y⟩=>?_⟩⟩
  subst e;subst y;unfold jZ at hd;rw[aT]at hd;have hi:i<n.toNat:=by
   rcases Nat.lt_or_ge i n.toNat with z|z
   ·exact z
   ·rw[hX (by simpa using z)]at hd;cases hd
  rw[mS hi]at hd;cases hd;exact⟨Ha,.refl s2,by rw[Int.zero_add];exact .int _⟩⟩
theorem nR{k}(h:VE X a δ (.list ds))(hm:X.mg "enumerate"=none)(hg:Gl X "enumerate":=by rfl)(hs:starEach [a] X.env=[(false,eval a X.env)]:=by rfl):VI X (.Tuple elts k tp) (.Call (.Name "enumerate" p) [a] [] pos) δ (zZ ds):=
 ⟨_,LX hg hm (dw dM fM hs) hs,λB0 B σ H0 H R f q=>h B0 B σ H0 H _ f λv H1 eC g r=>by
  cases r with
  |lst hq r=>
   refine⟨_,rfl,⟨_,g.sub.seq hq⟩,q _ H1 eC g λHa Hb s1 s2 i=>?_⟩
   have hl:=r.length;have hS:=(s1.trans s2).seq hq;refine⟨λhi=>?_,λhi=>⟨_,hS,by rw[dN]at hi;omega⟩,λx yS d hd ⟨t,y,e1,e2,e3,e4⟩=>?_⟩
   ·rw[dN]at hi
    obtain⟨x,hx,_⟩:=r.get (i:=i) (d:=ds[i]) (by simp[hi])
    exact⟨_,x,hS,hx⟩
   ·obtain⟨z,hz,rfl⟩:=jy hd
    subst e1;subst e3;refine⟨upd Ha t (.tup [.int i,y]),.laid s2 e2,.tup (qp.of bK) (.cons (.int _) (.cons ?_ .nil))⟩
    exact((r.mono s1).at hz (e4 _ hS)).mono (dU.laid s2 e2).gU⟩
end
def ZR(X:Cx)(ifs:List cj):TT:=λσ H Q=>∀pins s,Inv X pins σ H s->wpAny (model X.prog X.w) X.A (testsOf ifs X.env) (TP X pins σ Q) X.xe s
def L4(X:Cx)(ifs:List cj)(δ:List Slot)(b:Bool):Prop:=∀B0 B σ H0 H Q,hU X.K B0 B H0 H σ δ->(∀eJ H',dU H0 H eJ H'->Q b H')->ZR X ifs σ H Q
theorem gv:L4 X [] δ true:=λ_ _ _ _ _ _ f q pins s I=>LR pins s _ _ _ I (q _ _ (.refl f.sub))
theorem Bf{c:cj}(h:VT X c δ b):L4 X [c] δ b:=λB0 B σ H0 H Q f q pins s I=>LV (t:=cT X c) pO pins s σ H Q I (h B0 B σ H0 H Q f q)
def S5:Slot->Slot
 | .val d=>.val d
 |_=>.un
def lL(own:List Str)(cap:List Nat)(δ:List Slot):List Slot:=aH own.length .un++cap.map λi=>S5 (δ.getD i .un)
section
variable{K:ao}{B0 B H0 H:Hp}{σ:St}{δ:List Slot}
theorem hU.comp(f:hU K B0 B H0 H σ δ)(own:List Str)(cap:List Nat):hU K B0 B H0 H (mj own cap σ) (lL own cap δ):=by
 have noOwn:∀(i:Nat)ds,(lL own cap δ)[i]?≠some (.own ds):=λi ds e=>by
  unfold lL at e;by_cases hi:i<own.length
  ·rw[cC (by simpa using hi),d_]at e
   split at e<;>cases e
  ·rw[cy (by simpa using fZ hi),aT]at e
   cases q:cap[i-(aH own.length Slot.un).length]? with
   |none=>rw[q]at e;cases e
   |some j=>
    rw[q]at e;simp only[mw,g_]at e
    revert e
    cases δ.getD j .un<;>(intro e;cases e)
 refine⟨f.ent,by simp[mj,lL],λi sl e=>?_,λi j ds es p _ a1=>qQ7 a1 (noOwn i ds)⟩
 unfold lL at e;unfold mj;by_cases hi:i<own.length
 ·rw[cC (by simpa using hi),d_]at e
  split at e<;>cases e<;>trivial
 ·rw[cy (by simpa using fZ hi),aT,cu]at e
  rw[cy (by simpa using fZ hi),aT,cu]
  cases q:cap[i-own.length]? with
  |none=>rw[q]at e;cases e
  |some j=>
   rw[q]at e;simp only[mw,g_]at e ⊢;cases w:δ[j]? with
   |none=>rw[aI,w]at e;subst e;trivial
   |some OG=>
    rw[aI,w]at e;cases OG with
    |un=>subst e;trivial
    |ref a=>subst e;trivial
    |own ds=>subst e;trivial
    |val d=>
     subst e;obtain⟨v,h1,h2⟩:=f.slot j _ w;exact⟨v,by rw[aI,h1];rfl,h2⟩
theorem hU.forget(f:hU K B0 B H0 H σ δ)(hl:δ'.length=δ.length)(h:∀(i:Nat)sl,δ'[i]?=some sl->sl=.un\/δ[i]?=some sl):hU K B0 B H0 H σ δ':=by
 refine⟨f.ent,by rw[hl];exact f.len,λi sl e=>?_,λi j ds es p zM a1 a2 a3=>?_⟩
 ·rcases h i sl e with rfl|z
  ·trivial
  ·exact f.slot i sl z
 ·rcases h i _ a1 with z|z
  ·cases z
  ·rcases h j _ a2 with y|y
   ·cases y
   ·exact f.apart i j ds es p zM z y a3
theorem hU.touch{D:aL}(f:hU K B0 B H0 H σ δ)(h0:H0 D=none)(hB:B D=none)(hn:∀(i:Nat)ds,δ[i]?≠some (.own ds)):hU K B0 B H0 (upd H D o) σ δ:=by
 refine⟨⟨λb u e=>by rw[aS (bj e hB)];exact f.ent.big b u e,f.ent.gU,λb u e=>by rw[aS (bj e h0)];exact f.ent.sub b u e,f.ent.new⟩,f.len,λi sl e=>?_,f.apart⟩
 have q:=f.slot i sl e;cases sl with
 |un=>trivial
 |ref a=>exact q
 |val d=>exact q
 |own ds=>exact qQ7 e (hn i ds)
end
theorem sM:∀(is:List Nat)(ds:List aq)(δ:List Slot),(pR is ds δ).length=δ.length
 | [],_,_=>rfl
 |_::_,[],_=>rfl
 |i::is,d::ds,δ=>by
  show(pR is ds (δ.set i (.val d))).length=_
  rw[sM];simp
theorem xS:∀(is:List Nat)(ds:List aq)(δ:List Slot)(j:Nat),j∉is->(pR is ds δ)[j]?=δ[j]?
 | [],_,_,_,_=>rfl
 |_::_,[],_,_,_=>rfl
 |i::is,d::ds,δ,j,h=>by
  show(pR is ds (δ.set i (.val d)))[j]?=_
  rw[xS is ds _ j λz=>h (aU _ z),a7 (λ(z:i=j)=>h (by rw[z];exact aP))]
def z0(n:Nat):He->Bool
 | .one i=>decide (i<n)
 | .tup is=>is.all λi=>decide (i<n)
theorem comp_back(ht:z0 own.length tgt=true)(h:zk tgt d (lL own cap δ)=some δ'):
  δ'.length=(lL own cap δ).length/\∀(i:Nat)sl,(lL own cap δ)[i]?=some sl->sl=.un\/δ'[i]?=some sl:=by
 have low:∀(i:Nat)sl,i<own.length->(lL own cap δ)[i]?=some sl->sl=.un:=λi sl hi e=>by
  unfold lL at e;rw[cC (by simpa using hi),d_]at e
  split at e<;>cases e<;>rfl
 cases tgt with
 |one i=>
  cases h;refine⟨by simp,λj sl e=>?_⟩
  have hi:i<own.length:=by simpa[z0]using ht
  by_cases hj:j<own.length
  ·exact .inl (low j sl hj e)
  ·exact .inr (by rw[a7 (by omega)];exact e)
 |tup is=>
  cases d with
  |tuple ds=>
   have h':(if ds.length=is.length then some (pR is ds (lL own cap δ))else none)=some δ':=h
   by_cases hl:ds.length=is.length
   ·rw[qQ3 hl]at h'
    cases h';refine⟨sM _ _ _,λj sl e=>?_⟩
    by_cases hj:j<own.length
    ·exact .inl (low j sl hj e)
    ·refine .inr ?_
     rw[xS _ _ _ _ λz=>hj ?_]
     ·exact e
     ·have:=ef.mp ht j z
      simpa using this
   ·rw[qQ2 hl]at h';cases h'
  |_=>cases h
theorem nS(i:Nat)(ds:List aq):(lL own cap δ)[i]?≠some (.own ds):=λe=>by
 unfold lL at e;by_cases hi:i<own.length
 ·rw[cC (by simpa using hi),d_]at e
  split at e<;>cases e
 ·rw[cy (by simpa using fZ hi),aT]at e
  cases q:cap[i-(aH own.length Slot.un).length]? with
  |none=>rw[q]at e;cases e
  |some j=>
   rw[q]at e;simp only[mw,g_]at e
   revert e
   cases δ.getD j .un<;>(intro e;cases e)
section
variable{X:Cx}{sc:kU}{own N:List Str}{cap:List Nat}{cl:List (Str×aL)}{tg elt iter:cj}{ifs:List cj}{δ:List Slot}{ds:List aq}{pos:Pos}{tgt:He}
def Ed(X:Cx)(sc:kU)(own:List Str)(cap:List Nat)(N:List Str)(cl:List (Str×aL))(tgt:He)(elt:cj)(ifs:List cj)(δ:List Slot)(F:aq->Option aq)(d:aq):Prop:=
 ∃δ',zk tgt d (lL own cap δ)=some δ'/\(∀f s3 H3,L4 (gF X sc N cl f s3 H3) ifs δ' (F d).isSome)/\∀r,F d=some r->∀f s3 H3,VE (gF X sc N cl f s3 H3) elt δ' r
def teC(X:Cx)(sc:kU)(N:List Str)(cl:List (Str×aL))(elt:cj):TE:=λσ H Q=>∀f s3 H3,cE (gF X sc N cl f s3 H3) elt σ H Q
def Vd(X:Cx)(sc:kU)(N:List Str)(cl:List (Str×aL))(ifs:List cj):TT:=λσ H Q=>∀f s3 H3,ZR (gF X sc N cl f s3 H3) ifs σ H Q
theorem vQ(ht:z0 own.length tgt=true)(hz:ds.length<=sizeLine)(step:∀d∈ds,Ed X sc own cap N cl tgt elt ifs δ F d){J:It}{B0 B: Hp}{Q:VK}(f:hU X.K B0 B H0 H σ δ)(it:ZQ X.K J H0 ds)
  (q:∀p xs eJ H',dU H0 H eJ H'->H p=none->eJ p=none->H' p=some (.lst xs)->dq X.K eJ xs (ds.filterMap F)->Q (.ref p) H'):
  vj J (LZ X.K tgt) (Vd X sc N cl ifs) (teC X sc N cl elt) (mj own cap σ) H Q:=by
 intro D hD;have ZS:B D=none:=f.ent.big.free hD;refine⟨λi m ys σ' H'=>i<=ds.length/\m=ds.length-i/\ys.length<=i/\∃Ha,dU H0 H Ha H'/\hU X.K B0 B Ha H' σ' (lL own cap δ)/\Ha D=none/\H' D=some (.lst ys)/\dq X.K Ha ys ((ds.take i).filterMap F),
  ⟨ds.length,bu _,rfl,aD _,H0,.loose f.sub hD,(f.comp own cap).touch (f.sub.free hD) ZS nS,f.sub.free hD,bK,by simpa using dq.nil⟩,?_⟩
 rintro i m ys σ' H' ⟨hi,rfl,hy,Ha,g,fa,ZT,Q0,rs⟩
 obtain⟨i1,i2,i3⟩:=it Ha H' g.gU g.sub i;by_cases rS:i<ds.length
 ·refine .inr ⟨i1 rS,λx H2 y=>?_⟩
  have hd:ds[i]?=some ds[i]:=by simp[rS]
  obtain⟨Hb,g2,rx⟩:=i3 x H2 ds[i] hd y;obtain⟨δ',e1,e2,e3⟩:=step ds[i] (dQ rS);obtain⟨k1,k2⟩:=comp_back ht e1;have ZU:∀{Hx Hy:Hp},dU Ha H' Hx Hy->Hx D=none:=λ{Hx Hy}gg=>by
   cases e:Hx D with
   |none=>rfl
   |some o=>
    rcases gg.new D (by rw[e];simp)with z|z
    ·exact qQ7 ZT z
    ·rw[Q0]at z;cases z
  have tk:(ds.take (i+1)).filterMap F=(ds.take i).filterMap F++(F ds[i]).toList:=by
   rw[eu,hd,lI];cases eF:F ds[i]<;>simp[gQ,eF]
  refine rh (fa.grow g2) rx e1 λσ3 f3=>?_
  intro fp s3 H3;refine e2 fp s3 H3 B0 B σ3 Hb H2 _ f3 λHc H4 g4=>?_
  have S6:=g2.trans g4;cases eF:F ds[i] with
  |none=>
   rw[show(none:Option aq).isSome=false from rfl,qQ2 cF]
   refine⟨ds.length-(i+1),by omega,rS,rfl,by omega,Hc,g.trans S6,(f3.grow g4).forget k1.symm k2,ZU S6,S6.big _ _ Q0,?_⟩
   rw[tk,eF];simpa using rs.mono S6.gU
  |some r=>
   rw[show(some r:Option aq).isSome=true from rfl,qQ3 rfl]
   intro Xg s3' wN;refine e3 r eF Xg s3' wN B0 B σ3 Hc H4 _ (f3.grow g4) λw Hd H5 g5 r5=>?_
   have K0:=S6.trans g5;have Xh:Hd D=none:=ZU K0;refine⟨K0.big _ _ Q0,by omega,ds.length-(i+1),by omega,rS,rfl,by simp;omega,Hd,?_,((f3.grow g4).grow g5 |>.forget k1.symm k2).touch Xh ZS nS,Xh,bK,?_⟩
   ·have gg:=g.trans K0
    exact⟨λb u e=>by rw[aS (bj e hD)];exact gg.big b u e,gg.gU,λb u e=>by rw[aS (bj e Xh)];exact gg.sub b u e,gg.new⟩
   ·rw[tk,eF]
    exact(rs.mono K0.gU).append (.cons r5 .nil)
 ·have e:i=ds.length:=by omega
  subst e;refine .inl ⟨i2 (aD _),q D ys Ha H' g hD ZT Q0 ?_⟩
  simpa using rs
theorem gw(hc:X.calm=true)(CS:lr X sc own cap N cl)(hi:VI X tg iter δ ds)(hg:∀f s3 H3,PG (gF X sc N cl f s3 H3) tg (LZ X.K tgt))(ht:z0 own.length tgt=true)(hz:ds.length<=sizeLine)
  (step:∀d∈ds,Ed X sc own cap N cl tgt elt ifs δ F d)(hs:∀x,foldedSetIterable iter X.env x=pure x:=by intro _;rfl):VO X (.ListComp elt [⟨tg,iter,ifs,0⟩] sc pos) δ (ds.filterMap F):=by
 obtain⟨wi,pi,qi⟩:=hi;refine .of (LW (tc:=Vd X sc N cl ifs) (te:=teC X sc N cl elt) hc CS pi hg (λf s3 H3 pins s σ H Q I h=>h f s3 H3 pins s I) (λf s3 H3 pins s σ H Q I h=>h f s3 H3 pins s I) hs) λB0 B σ H0 H Q f q=>?_
 refine qi B0 B σ H0 H _ f λJ H1 eC g it=>?_
 exact vQ ht hz step (f.grow g) it λp xs Ha Hb g2 a1 a2 a3 a4=>q p xs Ha Hb (g.trans g2) (g.big.free a1) a2 a3 a4
end
inductive Out where
 |nx (δ:List Slot)|bk (δ:List Slot)|ct (δ:List Slot)
 |rt (d:aq)|ro (ds:List aq)|r2 (ds:List aq) (d:aq)|ru (U:Hp->V->Hp->Hp->Prop)
def ri(K:ao)(B0 B H0:Hp)(D:Ends):Out->Prop
 | .nx δ=>∀σ' eJ H',ej H0 eJ->hU K B0 B eJ H' σ' δ->D.nx σ' H'
 | .bk δ=>∀σ' eJ H',ej H0 eJ->hU K B0 B eJ H' σ' δ->D.bk σ' H'
 | .ct δ=>∀σ' eJ H',ej H0 eJ->hU K B0 B eJ H' σ' δ->D.ct σ' H'
 | .rt d=>∀v eJ H',dU B0 B eJ H'->Rep K eJ v d->D.rt v H'
 | .ro ds=>∀p xs eJ H',dU B0 B eJ H'->B p=none->eJ p=none->H' p=some (.lst xs)->dq K eJ xs ds->D.rt (.ref p) H'
 | .r2 ds d=>∀t p xs v eJ H',dU B0 B eJ H'->B p=none->eJ p=none->H' p=some (.lst xs)->dq K eJ xs ds->B t=none->eJ t=none->H' t=some (.tup [.ref p,v])->Rep K eJ v d->D.rt (.ref t) H'
 | .ru U=>∀v eJ H',dU B0 B eJ H'->U B v eJ H'->D.rt v H'
def Jl:Out->Bool
 | .rt _=>true | .ro _=>true | .r2 _ _=>true | .ru _=>true|_=>false
theorem ri.mono{B0 B eJ: Hp}{D:Ends}(s:ej H0 eJ):∀{o:Out},ri K B0 B H0 D o->ri K B0 B eJ D o
 | .nx _,h=>λσ a b s' f=>h σ a b (s.trans s') f
 | .bk _,h=>λσ a b s' f=>h σ a b (s.trans s') f
 | .ct _,h=>λσ a b s' f=>h σ a b (s.trans s') f
 | .rt _,h=>h
 | .ro _,h=>h
 | .r2 _ _,h=>h
 | .ru _,h=>h
theorem ri.ret{B0 B eJ: Hp}{D D':Ends}(e:D.rt=D'.rt):∀{o:Out},Jl o=true->ri K B0 B H0 D o->ri K B0 B eJ D' o
 | .rt _,_,h=>by unfold ri at *;rw[<-e];exact h
 | .ro _,_,h=>by unfold ri at *;rw[<-e];exact h
 | .r2 _ _,_,h=>by unfold ri at *;rw[<-e];exact h
 | .ru _,_,h=>by unfold ri at *;rw[<-e];exact h
 | .nx _,z,_=>by cases z
 | .bk _,z,_=>by cases z
 | .ct _,z,_=>by cases z
def VS(X:Cx)(st:iH)(δ:List Slot)(o:Out):Prop:=∀B0 B σ H0 H D,hU X.K B0 B H0 H σ δ->ri X.K B0 B H0 D o->cS X st D σ H
def wB(X:Cx)(st:List iH)(δ:List Slot)(o:Out):Prop:=∀B0 B σ H0 H D,hU X.K B0 B H0 H σ δ->ri X.K B0 B H0 D o->FQ X st D σ H
section
variable{X:Cx}{st:iH}{rest body orelse:List iH}{δ δ':List Slot}{o:Out}{a b c e:cj}{d:aq}{ds:List aq}{pos px:Pos}{x:Str}
theorem bQ:wB X [] δ (.nx δ):=λ_ _ σ H0 H _ f ok pins s I=>A2 pins s σ H _ I (ok σ H0 H (ej.refl _) f)
theorem aE(h1:VS X st δ (.nx δ'))(h2:wB X rest δ' o):wB X (st::rest) δ o:=λB0 B σ H0 H D f ok pins s I=>
 kE Jf my pins s σ H D I (h1 B0 B σ H0 H _ f λσ' Ha Hb sm f'=>h2 B0 B σ' Ha Hb D f' (ok.mono sm))
theorem df(h1:VS X st δ o)(hr:Jl o=true):wB X (st::rest) δ o:=λB0 B σ H0 H D f ok pins s I=>
 kE Jf lj pins s σ H D I (h1 B0 B σ H0 H _ f (ri.ret (D:=D) (by rfl) hr ok))
theorem bq(h1:VS X st δ o):wB X [st] δ o:=λB0 B σ H0 H D f ok pins s I=>wJ Jf pins s σ H D I (h1 B0 B σ H0 H D f ok)
theorem bV(i:Nat)(h:VE X e δ d)(hN:X.N.Nodup)(hi:X.N[i]?=some x:=by rfl)(hx:Loc X.env.scope x:=by first|exact bB rfl|exact dm rfl)(hs:swapsWith e (some (.Name x px)) pos.line X.env=pure false:=by rfl)(hf:X.fn x=true\/X.env.scope.names.lookup x=some .local:=by first|exact .inl rfl|exact .inr rfl):
  VS X (.Assign [.Name x px] e pos) δ (.nx (δ.set i (.val d))):=λB0 B σ H0 H D f ok pins s I=>
 xt (i:=i) hN hi hx dM hs hf pins s σ H D I (h B0 B σ H0 H _ f λv H1 eC g r=>ok _ H1 eC g.gU ((f.grow g).set r))
theorem nU(i:Nat)(h:VO X e δ ds)(hN:X.N.Nodup)(hi:X.N[i]?=some x:=by rfl)(hx:Loc X.env.scope x:=by first|exact bB rfl|exact dm rfl)(hs:swapsWith e (some (.Name x px)) pos.line X.env=pure false:=by rfl)(hf:X.fn x=true\/X.env.scope.names.lookup x=some .local:=by first|exact .inl rfl|exact .inr rfl):
  VS X (.Assign [.Name x px] e pos) δ (.nx (δ.set i (.own ds))):=λB0 B σ H0 H D f ok pins s I=>
 xt (i:=i) hN hi hx dM hs hf pins s σ H D I (h B0 B σ H0 H _ f λp xs H1 eC g h1 h2 h3 r=>ok _ H1 eC g.gU ((f.grow g).Bd h3 h2 (f.ent.big.free h1) r λj es e2 e3=>by
  obtain⟨p',xs',g1,g2,_⟩:=f.slot j _ e2;rw[e3]at g1;cases g1;rw[h1]at g2;cases g2))
theorem dH(h:VT X c δ true)(h1:wB X body δ o):VS X (.If c body orelse pos) δ o:=λB0 B σ H0 H D f ok pins s I=>
 zK pO my lj pins s σ H D I (h B0 B σ H0 H _ f λH1 eC g=>Sv (h1 B0 B σ H1 eC D (f.grow g) (ok.mono g.gU)))
theorem cv(h:VT X c δ false)(h1:wB X orelse δ o):VS X (.If c body orelse pos) δ o:=λB0 B σ H0 H D f ok pins s I=>
 zK pO lj my pins s σ H D I (h B0 B σ H0 H _ f λH1 eC g=>IV (h1 B0 B σ H1 eC D (f.grow g) (ok.mono g.gU)))
theorem S7{k:Bool}(h:VT X c δ k)(h1:k=true->wB X body δ o)(h2:k=false->wB X orelse δ o):VS X (.If c body orelse pos) δ o:=by
 cases k with
 |true=>exact dH h (h1 rfl)
 |false=>exact cv h (h2 rfl)
theorem cn(h:VE X e δ d):VS X (.Return (some e) pos) δ (.rt d):=λB0 B σ H0 H D f ok pins s I=>xr dM pins s σ H D I (h B0 B σ H0 H _ f λv H1 eC g r=>ok v H1 eC (f.ent.trans g) r)
theorem wO(h:VO X e δ ds):VS X (.Return (some e) pos) δ (.ro ds):=λB0 B σ H0 H D f ok pins s I=>xr dM pins s σ H D I (h B0 B σ H0 H _ f λp xs H1 eC g a1 a2 a3 a4=>ok p xs H1 eC (f.ent.trans g) (f.ent.big.free a1) a2 a3 a4)
theorem FV(i:Nat)(h:δ[i]?=some (.own ds))(hN:X.N[i]?=some x:=by rfl)(hv:Ft X.env.scope x:=by first|exact bB rfl|exact dm (bB rfl)|exact dm (dm rfl))(hd:(x==("__debug__":Str))=false:=by decide)(qT:(x==("__classdict__":Str))=false:=by decide):
  VS X (.Return (some (.Name x px)) pos) δ (.ro ds):=λB0 B σ H0 H D f ok pins s I=>xr (h7 hN hv hd qT) pins s σ H D I (by
 obtain⟨p,xs,h1,h2,h3,h4,h5⟩:=f.slot i _ h;exact⟨_,h1,ok p xs H0 H f.ent h4 h3 h2 h5⟩)
theorem j_(i:Nat){ap:Pos}{p0:Pos}(hi:δ[i]?=some (.own ds))(h:VE X e δ d)(hz:ds.length<sizeLine)(hN:X.N[i]?=some x:=by rfl)(hv:Ft X.env.scope x:=by first|exact bB rfl|exact dm (bB rfl)|exact dm (dm rfl))(hd:(x==("__debug__":Str))=false:=by decide)(qT:(x==("__classdict__":Str))=false:=by decide)
  (hs:starEach [e] X.env=(false,eval e X.env)::starEach [] X.env:=by rfl)(mY:attributeBase (.Name x p0) "append" X.env (eval (.Name x p0) X.env)=eval (.Name x p0) X.env:=by rfl)
  (tj:((backTo px (starEach [e] X.env)).all (λx=>!x.1)&&(backToKw px (keywordEach [] X.env)).all (λx=>x.1.isSome)&&decide (([e]:List cj).length+([]:List iO).length+(if([]:List iO).isEmpty then 0 else 1)<30))=true:=by rfl)
  (hline:(ap.endLine==px.line)=true:=by rfl)(jX:(backTo px (starEach [] X.env)).any (·.1)=false:=by rfl)(Cr:swapsWith (.Call (.Attribute (.Name x p0) "append" ap) [e] [] px) none pos.line X.env=pure false:=by rfl):
  VS X (.Expr (.Call (.Attribute (.Name x p0) "append" ap) [e] [] px) pos) δ (.nx (δ.set i (.own (ds ++ [d])))):=λB0 B σ H0 H D f ok pins s I=>by
 refine pJ (xF iJ ou oy rR (h7 hN hv hd qT) (dw dM fM hs) mY tj hline hs jX) Cr pins s σ H D I ?_
 obtain⟨p,xs,h1,h2,h3,h4,h5⟩:=f.slot i _ hi;refine⟨_,h1,.inl ⟨rfl,_,lg.of h2⟩,?_⟩
 refine h B0 B σ H0 H _ f λv H1 eC g r=>?_
 refine⟨p,xs,v,rfl,rfl,g.big _ _ h2,by rw[h5.length];exact hz,ok σ H1 _ g.gU ((f.grow g).push hi h1 (g.big _ _ h2) r)⟩
theorem iA(i:Nat)(hi:δ[i]?=some (.own ds))(h:wB X rest (δ.set i (.val (.list ds))) o):wB X rest δ o:=λB0 B σ H0 H D f ok=>by
 obtain⟨p,xs,h1,h2,h3,h4,h5⟩:=f.slot i _ hi;obtain⟨f',sm⟩:=f.freeze hi h1 h2;exact h B0 B σ _ H D f' (ok.mono sm)
def K1:List Slot->List Slot->Prop
 | [],[]=>True
 |a::l,b::m=>(b=.un\/a=b)/\K1 l m
 |_,_=>False
theorem K1.len:∀{l m:List Slot},K1 l m->m.length=l.length
 | [],[],_=>rfl
 |_::_,_::_,h=>by simp[K1.len h.2]
 | [],_::_,h=>h.elim
 |_::_,[],h=>h.elim
theorem K1.at:∀{l m:List Slot},K1 l m->∀(i:Nat)sl,m[i]?=some sl->sl=.un\/l[i]?=some sl
 | [],[],_,_,_,e=>by simp at e
 |a::l,b::m,h,0,sl,e=>by
  simp at e;subst e;rcases h.1 with z|z
  ·exact .inl z
  ·exact .inr (by simp[z])
 |a::l,b::m,h,i+1,sl,e=>by simpa using K1.at h.2 i sl (by simpa using e)
 | [],_::_,h,_,_,_=>h.elim
 |_::_,[],h,_,_,_=>h.elim
theorem kH{δ2:List Slot}(h:wB X rest δ (.nx δ'))(hf:K1 δ' δ2):wB X rest δ (.nx δ2):=λB0 B σ H0 H D f ok=>h B0 B σ H0 H D f λσ' Ha Hb sm f'=>ok σ' Ha Hb sm (f'.forget hf.len hf.at)
theorem pS{tg iter:cj}(hp:AH (model X.prog X.w) X.A X.env X.xe)(hc:X.calm=true)(hi:VI X tg iter δ ds)(hg:PG X tg (LZ X.K tgt))(δs:Nat->List Slot)(m:Nat)(h0:δs 0=δ)(hm:m<=ds.length)
  (step:∀k d,k<m->ds[k]?=some d->∃δ',zk tgt d (δs k)=some δ'/\wB X body δ' (.nx (δs (k+1))))
  (fin:(m=ds.length/\o=.nx (δs m))\/∃d δ',ds[m]?=some d/\zk tgt d (δs m)=some δ'/\Jl o=true/\wB X body δ' o)
  (hs:∀x,foldedSetIterable iter X.env x=pure x:=by intro _;rfl):VS X (.For tg iter body [] pos) δ o:=λB0 B σ H0 H D f ok pins s I=>by
 obtain⟨wi,pi,qi⟩:=hi;refine A3 hp hc pi hg my hs pins s σ H D I ?_
 refine qi B0 B σ H0 H _ f λJ H1 eC g it=>?_
 refine⟨λi mm σ' H'=>i<=m/\mm=m+1-i/\∃Ha,ej H1 Ha/\hU X.K B0 B Ha H' σ' (δs i),⟨m+1,bu _,rfl,H1,ej.refl _,by rw[h0];exact f.grow g⟩,?_⟩
 rintro i mm σ' H' ⟨hi,rfl,Ha,sm,fa⟩
 obtain⟨i1,i2,i3⟩:=it Ha H' sm fa.sub i;by_cases rS:i<m
 ·refine .inr ⟨i1 (by omega),λσ'' yS=>∃Hb,ej H1 Hb/\hU X.K B0 B Hb yS σ'' (δs (i+1)),λσ'' yS ⟨Hb,z1,z2⟩=>⟨m+1-(i+1),by omega,rS,rfl,Hb,z1,z2⟩,λv H2 y=>?_⟩
  have hd:ds[i]?=some (ds[i]'(by omega)):=by simp
  obtain⟨Hb,g2,rx⟩:=i3 v H2 _ hd y;obtain⟨δ',e1,e2⟩:=step i _ rS hd;refine rh (fa.grow g2) rx e1 λσ3 f3=>?_
  exact e2 B0 B σ3 Hb H2 _ f3 λσ4 Hc H4 s4 f4=>⟨Hc,(sm.trans g2.gU).trans s4,f4⟩
 ·have e:i=m:=by omega
  subst e;rcases fin with⟨e1,e2⟩|⟨d,δ',hd,e1,hr,e2⟩
  ·subst e2
   exact .inl ⟨i2 (by omega),ok σ' Ha H' (g.gU.trans sm) fa⟩
  ·have Xi:i<ds.length:=(aJ.mp hd).1
   refine .inr ⟨i1 Xi,λ_ _=>False,λ_ _ z=>z.elim,λv H2 y=>?_⟩
   obtain⟨Hb,g2,rx⟩:=i3 v H2 _ hd y;refine rh (fa.grow g2) rx e1 λσ3 f3=>?_
   exact e2 B0 B σ3 Hb H2 _ f3 (ri.ret (D:=D) (by rfl) hr ok)
end
def hV(K:ao)(R:List aq->aq->Prop):Sp:=λvs H Q _=>∃H0 ds d,ej H0 H/\dq K H0 vs ds/\R ds d/\∀v eJ H',dU H0 H eJ H'->Rep K eJ v d->Q v H'
def FW(K:ao)(R:List aq->List aq->Prop):Sp:=λvs H Q _=>∃H0 ds es,ej H0 H/\dq K H0 vs ds/\R ds es/\
 ∀p xs eJ H',dU H0 H eJ H'->H p=none->eJ p=none->H' p=some (.lst xs)->dq K eJ xs es->Q (.ref p) H'
def bE(P:bC)(w:cw)(K:ao)(mg:Str->Option ay)(base:c6)(k:Nat)(x:Str)(ps:List Str)(sp:Sp):Prop:=
 ∃f fd,eX P w K mg base kF k f fd ps sp/\mg x=some (.ref f)/\eO K (.ref f)=true/\Binds K fd ps []
section
variable{X:Cx}{x:Str}{e:cj}{es:List cj}{δ:List Slot}{ds zs:List aq}{d:aq}{p pos:Pos}{k:Nat}{ps:List Str}
theorem bN{R:List aq->aq->Prop}(C:bE X.prog X.w X.K X.mg X.base k x ps (hV X.K R))(hr:fF k X.A)(ha:VA X (e::es) δ ds)(hp:R ds d)(hg:Gl X x:=by rfl)(qA:(x==("__debug__":Str))=false:=by decide)
  (he:starEach (e::es) X.env=(false,eval e X.env)::starEach es X.env:=by rfl)(pF:(backTo pos (starEach es X.env)).any (·.1)=false:=by rfl):VE X (.Call (.Name x p) (e::es) [] pos) δ d:=by
 obtain⟨f,fd,F,hm,hk,hb⟩:=C;obtain⟨t,pa,qa⟩:=ha;exact .of (A6 F hr hg hm hk hb .nil zU pa qA he pF) λB0 B σ H0 H Q fr q=>qa B0 B σ H0 H _ fr λvs H1 eC g1 rs=>by
  rw[dC];exact⟨H1,ds,d,g1.sub,rs,hp,λv H2 iT g2 r=>q v H2 iT (g1.trans g2) r⟩
theorem nV(C:bE X.prog X.w X.K X.mg X.base k x ps (FW X.K R))(hr:fF k X.A)(ha:VA X (e::es) δ ds)(hp:R ds zs)(hg:Gl X x:=by rfl)(qA:(x==("__debug__":Str))=false:=by decide)
  (he:starEach (e::es) X.env=(false,eval e X.env)::starEach es X.env:=by rfl)(pF:(backTo pos (starEach es X.env)).any (·.1)=false:=by rfl):VO X (.Call (.Name x p) (e::es) [] pos) δ zs:=by
 obtain⟨f,fd,F,hm,hk,hb⟩:=C;obtain⟨t,pa,qa⟩:=ha;exact .of (A6 F hr hg hm hk hb .nil zU pa qA he pF) λB0 B σ H0 H Q fr q=>qa B0 B σ H0 H _ fr λvs H1 eC g1 rs=>by
  rw[dC];exact⟨H1,ds,zs,g1.sub,rs,hp,λv xs H2 iT g2 a1 a2 a3 a4=>q v xs H2 iT (g1.trans g2) (g1.big.free a1) a2 a3 a4⟩
end
def rj(N:List Str)(ds:List aq):List Slot:=ds.map .val++aH (N.length-ds.length) .un
theorem hU.start{N:List Str}{ds:List aq}(s:ej H0 H)(r:dq K H0 vs ds):hU K H0 H H0 H (start N vs) (rj N ds):=by
 have hl:=r.length;refine⟨.refl s,by simp[L2.start,rj,hl],λi sl e=>?_,λi j a b p _ e=>?_⟩
 ·unfold rj at e
  unfold L2.start;by_cases hi:i<ds.length
  ·rw[cC (by simpa using hi),aT]at e
   have hd:ds[i]?=some ds[i]:=by simp[hi]
   rw[hd]at e;cases e;obtain⟨v,h1,h2⟩:=r.get hd;exact⟨v,by rw[cC (by simp;omega),aT,h1];rfl,h2⟩
  ·rw[cy (by simpa using fZ hi),d_]at e
   split at e<;>cases e
   trivial
 ·unfold rj at e
  by_cases hi:i<ds.length
  ·rw[cC (by simpa using hi),aT]at e
   have hd:ds[i]?=some ds[i]:=by simp[hi]
   rw[hd]at e;cases e
  ·rw[cy (by simpa using fZ hi),d_]at e
   split at e<;>cases e
section
variable{P:bC}{w:cw}{K:ao}{mg:Str->Option ay}{base:c6}{x qual:Str}{st:iH}{f:aL}{fd:e9}{N ps:List Str}{k:Nat}
abbrev z8(P:bC)(w:cw)(K:ao)(mg:Str->Option ay)(base:c6)(N:List Str)(qual:Str)(st:iH)(f:aL)(k:Nat)(ds:List aq)(o:Out):Prop:=
 ∀h8 A outer s H E,fF k (A.deeper (envOfC qual (b9 st) s.heap.objs.size f h8))->wB (y_ kF P w K mg base N qual (b9 st) f h8 A outer s H E).OV (jS st) (rj N ds) o
theorem jz{R:List aq->aq->Prop}(F:lq K x qual st f fd)(S:c9 N ps (b9 st))(hl:∀ds d,R ds d->ds.length=ps.length)(hb:∀ds d,R ds d->z8 P w K mg base N qual st f k ds (.rt d)):eX P w K mg base kF (k+1) f fd ps (hV K R):=by
 refine F.ok S (λvs H Q E h=>?_) (λh8 A outer s H vs Q E hr h=>?_)
 ·obtain⟨H0,ds,d,_,r,hp,_⟩:=h
  rw[r.length,hl ds d hp]
 ·obtain⟨H0,ds,d,sm,r,hp,q⟩:=h
  exact⟨_,my,hb ds d hp h8 A outer s H E hr H0 H _ H0 H _ (.start sm r) q⟩
theorem Jm(F:lq K x qual st f fd)(S:c9 N ps (b9 st))(hl:∀ds d,R ds d->ds.length=ps.length)(hb:∀ds d,R ds d->z8 P w K mg base N qual st f k ds (.ro d)):eX P w K mg base kF (k+1) f fd ps (FW K R):=by
 refine F.ok S (λvs H Q E h=>?_) (λh8 A outer s H vs Q E hr h=>?_)
 ·obtain⟨H0,ds,d,_,r,hp,_⟩:=h
  rw[r.length,hl ds d hp]
 ·obtain⟨H0,ds,d,sm,r,hp,q⟩:=h
  exact⟨_,my,hb ds d hp h8 A outer s H E hr H0 H _ H0 H _ (.start sm r) q⟩
end
end L2
namespace L2.Srt
open PySem PySem.W PyProof.Rows
section
variable{N:Nat}{lt:Nat->Nat->Bool}
end
end L2.Srt
namespace L2
open PySem PySem.Spec PyProof.Rows PySem.W
section
variable{P:bC}{w:cw}{A:dJ}{E:ay->aK->Prop}{s:aK}
end
theorem dq.ints{K:ao}{H:Hp}:∀{ns:List Int}{xs:List V},dq K H xs (ns.map .int)->xs=ns.map V.int
 | [],_,r=>by cases r;rfl
 |n::ns,_,r=>by cases r with|cons a t=>cases a;rw[aR,dq.ints t]
theorem ez.getD:∀{xs:List V}{us:List ay}(i:Nat),ez xs us->RelV (xs.getD i .non) (us.getD i eE)
 |_,_,_,.nil=>by simp;rfl
 |_,_,0,.cons r _=>by simpa using r
 |_,_,i+1,.cons _ t=>by simpa using ez.getD i t
end L2
namespace L2
open PySem PySem.Spec PyProof.Rows
variable{l:aL}{X:Cx}{c:cj}{h:c6}{H:Hp}{rest:List cj}{ns:List Int}{ds:List aq}{δ:List Slot}{n:Nat}{P:bC}{K:ao}{w:cw}
section
variable{X:Cx}{a b c e:cj}{es:List cj}{δ:List Slot}{d d1 d2 d3:aq}{ds:List aq}{pos:Pos}{k:Nat}
def NR:aq->Bool
 | .none=>true
 | .bool _=>true
 | .int _=>true
 | .str _=>true
 |_=>false
theorem Rep.Xj{H': Hp}{v:V}(r:Rep K H v d)(h:NR d=true):Rep K H' v d:=by
 cases r with
 |non=>exact .non
 |bl b=>exact .bl b
 |int i=>exact .int i
 |str x=>exact .str x
 |_=>cases h
theorem Xk{A:dJ}{E:ay->aK->Prop}{s:aK}{vs:List ay}{Q:ay->aK->Prop}(hh:A.handled=none)(hl:s.heap.IsList l vs.toArray)(hi:yX vs ns)(m8:ns≠[])
  (h:∀h' M (t:Tok) tk,(∀b o,s.heap.get? b=some o->h'.get? b=some o)->M∈ns->(∀z,z∈ns->z<=M)->Q (.int M t) { s with heap:=h',toks:=tk }):wpAny (model P w) A (call (.builtin "max") [.ref l]) Q E s:=by
 obtain⟨xs,ex⟩:=hi.allInts.items;have D7:ns=xs.toList.map (·.1):=by rw[<-hi.numsOf,<-nums_intItems,<-ex]
 have hz:0<xs.size:=by
  rcases u6 xs.size with z|z
  ·exfalso
   apply m8;rw[D7,Array.eq_empty_of_size_eq_zero z];rfl
  ·exact z
 rw[ex]at hl;refine max_intList hh hl hz λv h' tk hv hk=>?_
 obtain⟨t,rfl⟩:=intItems_at hv;obtain⟨g1,g2⟩:=argBest_gt (numAt xs) (xs.size-1);refine h h' _ t tk hk ?_ λz ZV=>?_
 ·rw[D7,numAt_eq]
  exact getD_mem (by rw[aj,cR];omega)
 ·rw[D7]at ZV
  obtain⟨j,hj,rfl⟩:=mem_getD ZV;rw[aj,cR]at hj;rw[<-numAt_eq];exact g2 j (by omega)
theorem Hf(hc:X.calm=true):jM X (.builtin "max") (λxs H Q=>∃p ns,xs=[.ref p]/\lg X.K H p (ns.map V.int)/\ns≠[]/\∀M,M∈ns->(∀z,z∈ns->z<=M)->Q (.int M) H):=by
 intro pins s σ H xs us Q I r h;obtain⟨p,ns,rfl,hq,m8,q⟩:=h;obtain⟨u,rfl,rx⟩:=vals1 r;cases rx;obtain⟨its,rv,pl,hz⟩:=I.list hq;exact Xk (I.ok.hd hc) pl.isList (intsAre_of rv) m8 λh' M t tk hk h1 h2=>⟨.int M,H,I.kept hk,⟨_,rfl⟩,q M h1 h2⟩
theorem S8{M:Int}(h1:M∈ns)(h2:∀z,z∈ns->z<=M):oW K (λxs H Q=>∃p ns,xs=[.ref p]/\lg K H p (ns.map V.int)/\ns≠[]/\∀M,M∈ns->(∀z,z∈ns->z<=M)->Q (.int M) H) [.list (ns.map .int)] (.int M):=λvs H0 H Q s r q=>by
 obtain⟨v,rfl,r1⟩:=r.one;cases r1 with
 |lst hq rs=>
  have e:=rs.ints;subst e;refine⟨_,ns,rfl,s.seq hq,(λz=>by rw[z]at h1;cases h1),λM' g1 g2=>q _ _ _ (.refl s) ?_⟩
  have:M'=M:=Int.le_antisymm (h2 M' g1) (g2 M h1);rw[this];exact .int _
end
section
variable{X:Cx}{sc:kU}{own N:List Str}{cap:List Nat}{cl:List (Str×aL)}{tg elt iter:cj}{ifs:List cj}{δ:List Slot}{ds:List aq}{pos px wA:Pos}{tgt:He}{x:Str}
theorem FY(i:Nat){F:aq->Option aq}(hc:X.calm=true)(CS:lr X sc own cap N cl)(hi:VI X tg iter δ ds)(hg:∀f s3 H3,PG (gF X sc N cl f s3 H3) tg (LZ X.K tgt))(ht:z0 own.length tgt=true)(hz:ds.length<=sizeLine)
  (step:∀d∈ds,Ed X sc own cap N cl tgt elt ifs δ F d)(hN:X.N.Nodup)(SQ:X.N[i]?=some x:=by rfl)(hx:Loc X.env.scope x:=by first|exact bB rfl|exact dm rfl)
  (Cr:swapsWith (.ListComp elt [⟨tg,iter,ifs,0⟩] sc pos) (some (.Name x px)) wA.line X.env=pure true:=by rfl)(hs:∀x,foldedSetIterable iter X.env x=pure x:=by intro _;rfl)(hf:X.fn x=true\/X.env.scope.names.lookup x=some .local:=by first|exact .inl rfl|exact .inr rfl):
  VS X (.Assign [.Name x px] (.ListComp elt [⟨tg,iter,ifs,0⟩] sc pos) wA) δ (.nx (δ.set i (.own (ds.filterMap F)))):=λB0 B σ H0 H D f ok pins s I=>by
 obtain⟨wi,pi,qi⟩:=hi;refine xN (i:=i) (tc:=Vd X sc N cl ifs) (te:=teC X sc N cl elt) hN SQ hx hc CS pi hg (λf s3 H3 pins s σ H Q I h=>h f s3 H3 pins s I) (λf s3 H3 pins s σ H Q I h=>h f s3 H3 pins s I) Cr hs hf pins s σ H D I ?_
 refine qi B0 B σ H0 H _ f λJ H1 eC g it=>?_
 refine vQ ht hz step (f.grow g) it λp xs Ha Hb g2 a1 a2 a3 a4=>?_
 have gg:=g.trans g2;have hp:H p=none:=g.big.free a1;refine ok _ Ha Hb gg.gU ((f.grow gg).Bd a3 a2 (f.ent.big.free hp) a4 λj es e2 e3=>?_)
 obtain⟨p',xs',g1,ZW,_⟩:=f.slot j _ e2;rw[e3]at g1;cases g1;rw[hp]at ZW;cases ZW
end
theorem VT.to{k k':Bool}(h:VT X c δ k')(e:k'=k):VT X c δ k:=e▸h
theorem VE.to{k k':aq}(h:VE X c δ k')(e:k'=k):VE X c δ k:=e▸h
theorem VO.to{k k':List aq}(h:VO X c δ k')(e:k'=k):VO X c δ k:=e▸h
theorem dg(n:Nat)(i:Int):Lay n (.int i):=⟨rfl,bu _⟩
theorem bH{x:Str}(h:cP (.str x)=true):Lay n (.str x):=⟨h,bu _⟩
theorem Ee:∀{ds:List aq},(∀d∈ds,Lay n d)->oq ds=true/\aq.depthAll ds<=n
 | [],_=>⟨rfl,bu _⟩
 |d::ds,h=>by
  obtain⟨h1,h2⟩:=Ee λe he=>h e (aU _ he)
  obtain⟨h3,h4⟩:=h d aP;refine⟨by simp[oq,h1,h3],?_⟩
  show max d.depth (aq.depthAll ds)<=n;omega
theorem FZ(h:∀d∈ds,Lay n d):Lay (n+1) (.list ds):=by
 obtain⟨h1,h2⟩:=Ee h;exact⟨h1,xh h2⟩
theorem F0(h:∀d∈ds,Lay n d):Lay (n+1) (.tuple ds):=by
 obtain⟨h1,h2⟩:=Ee h;exact⟨h1,xh h2⟩
theorem filterMap_some{α β:Type}{F:α->Option β}{g:α->β}:∀{l:List α},(∀a∈l,F a=some (g a))->l.filterMap F=l.map g
 | [],_=>rfl
 |a::l,h=>by
  rw[dB (h a aP),aR,filterMap_some λb hb=>h b (aU _ hb)]
def NS:Slot->Bool
 | .own _=>true
 |_=>false
def noOwn(δ:List Slot):Bool:=δ.all λs=>!NS s
theorem oX(h:noOwn δ=true)(i:Nat)(ds:List aq):δ[i]?≠some (.own ds):=λe=>by
 have:=ef.mp h _ (bO e);cases this
section
variable{K:ao}{B0 B H0 H eJ H' C0 C Ha Hb:Hp}{σ σ':St}{δ δ':List Slot}
theorem hU.Cw(f:hU K B0 B H0 H σ δ){i:Nat}{v:V}{sl:Slot}(hs:Je K B H0 H sl (some (some v)))(hn:NS sl=false):hU K B0 B H0 H (σ.set i (some v)) (δ.set i sl):=by
 refine⟨f.ent,by simp[f.len],λj OG e=>?_,λj k ds es p DE e1 e2 e3=>?_⟩
 ·by_cases hj:j=i
  ·subst hj
   have hl:j < δ.length:=by simpa using(aJ.mp e).1
   rw[a8 hl]at e;cases e;rw[a8 (by rw[f.len];exact hl)]
   exact hs
  ·rw[a7 (bM hj)]at e
   rw[a7 (bM hj)];exact f.slot j OG e
 ·have nj:j≠i:=λz=>by
   subst z;have hl:j < δ.length:=by simpa using(aJ.mp e1).1
   rw[a8 hl]at e1;cases e1;cases hn
  have nk:k≠i:=λz=>by
   subst z;have hl:k < δ.length:=by simpa using(aJ.mp e2).1
   rw[a8 hl]at e2;cases e2;cases hn
  rw[a7 (bM nj)]at e1 e3;rw[a7 (bM nk)]at e2 ⊢;exact f.apart j k ds es p DE e1 e2 e3
theorem hU.re(f:hU K B0 B H0 H σ δ)(hn:noOwn δ=true)(g:dU C0 C H0 H):hU K C0 C H0 H σ δ:=by
 refine⟨g,f.len,λi sl e=>?_,f.apart⟩
 have q:=f.slot i sl e;cases sl with
 |own ds=>exact qQ7 e (oX hn i ds)
 |_=>exact q
theorem dU.still(g:dU H0 H Ha Hb){p:aL}{o:HO}(h0:H0 p=none)(h:H p=some o):Ha p=none:=by
 cases e:Ha p with
 |none=>rfl
 |some u=>
  rcases g.new p (by rw[e];simp)with z|z
  ·exact qQ7 h0 z
  ·rw[h]at z;cases z
theorem dU.far(s:ej H0 H)(b:ej H Hb):dU H0 H H0 Hb:=⟨b,ej.refl _,s.trans b,λ_ z=>.inl z⟩
end
section
variable{X:Cx}{st:iH}{rest body orelse:List iH}{δ δ':List Slot}{o:Out}{a b c e arg:cj}{d d1 d2 da:aq}{ds zs:List aq}{pos px py:Pos}{x y:Str}
theorem oB(n:Nat):(jZ n).length=n:=by simp[jZ]
theorem PH(i j:Nat){pt DT:Pos}{kt k2}(h1:VE X a δ d1)(h2:VE X b δ d2)(hc:X.calm=true)(hN:X.N.Nodup)(zM:i≠j)(hi:X.N[i]?=some x:=by rfl)(hj:X.N[j]?=some y:=by rfl)(hx:X.env.scope.names.lookup x=some .local:=by rfl)(hy:X.env.scope.names.lookup y=some .local:=by rfl)
  (hw:swappedStores [.Tuple [.Name x px,.Name y py] kt pt] (.Tuple [a,b] k2 DT) X.env=pure (some [x,y]):=by rfl)(hs:swapsWithSole [.Tuple [.Name x px,.Name y py] kt pt] (.Tuple [a,b] k2 DT) pos.line X.env=pure false:=by rfl)
  (Ef:starEach [a,b] X.env=(false,eval a X.env)::starEach [b] X.env:=by rfl)(qt:starEach [b] X.env=(false,eval b X.env)::starEach [] X.env:=by rfl):
  VS X (.Assign [.Tuple [.Name x px,.Name y py] kt pt] (.Tuple [a,b] k2 DT) pos) δ (.nx ((δ.set i (.val d1)).set j (.val d2))):=λB0 B σ H0 H D f ok pins s I=>by
 obtain⟨t,pa,qa⟩:=av h1 (av h2 aX qt) Ef;refine Iy hc hN hi hj zM hx hy pa hw hs pins s σ H D I (qa B0 B σ H0 H _ f λvs H1 eC g rs=>?_)
 obtain⟨v,w,rfl,r1,r2⟩:=rs.two;exact⟨v,w,rfl,ok _ H1 eC g.gU (((f.grow g).set r1).set r2)⟩
end
structure uZ(K:ao)(B0 B:Hp)(a:aL)(ps:List aL)(gs:List (List aq))(H0 H:Hp)(σ:St)(δ:List Slot):Prop where
 fr:hU K B0 B H0 H σ δ
 no:noOwn δ=true
 arr:H a=some (.lst (ps.map V.ref))
 a0:H0 a=none
 aB:B a=none
 na:a∉ps
 nd:ps.Nodup
 len:ps.length=gs.length
 cell:∀(i:Nat)p ds,ps[i]?=some p->gs[i]?=some ds->H0 p=none/\B p=none/\∃xs,H p=some (.lst xs)/\dq K H0 xs ds
section
variable{K:ao}{B0 B H0 H eJ H' C0 C Ha Hb:Hp}{σ σ':St}{δ δ':List Slot}{a:aL}{ps:List aL}{gs:List (List aq)}
theorem uZ.go(G:uZ K B0 B a ps gs H0 H σ δ)(f':hU K H0 H Ha Hb σ' δ')(hn:noOwn δ'=true):uZ K B0 B a ps gs Ha Hb σ' δ' where
 fr:=f'.re hn (G.fr.ent.trans f'.ent)
 no:=hn
 arr:=f'.ent.big _ _ G.arr
 a0:=f'.ent.still G.a0 G.arr
 aB:=G.aB
 na:=G.na
 nd:=G.nd
 len:=G.len
 cell:=λi p ds e1 e2=>by
  obtain⟨h1,h2,xs,h3,h4⟩:=G.cell i p ds e1 e2;exact⟨f'.ent.still h1 h3,h2,xs,f'.ent.big _ _ h3,h4.mono f'.ent.gU⟩
theorem uZ.from(G:uZ K B0 B a ps gs H0 H σ δ)(g:dU C0 B H0 H):uZ K C0 B a ps gs H0 H σ δ where
 fr:=G.fr.re G.no g
 no:=G.no
 arr:=G.arr
 a0:=G.a0
 aB:=G.aB
 na:=G.na
 nd:=G.nd
 len:=G.len
 cell:=G.cell
theorem uZ.own(G:uZ K B0 B a ps gs H0 H σ δ):hU K H0 H H0 H σ δ:=G.fr.re G.no (.refl G.fr.sub)
theorem uZ.forget(G:uZ K B0 B a ps gs H0 H σ δ)(hf:K1 δ δ')(hn:noOwn δ'=true):uZ K B0 B a ps gs H0 H σ δ':=G.go (G.own.forget hf.len hf.at) hn
end
section
variable{X:Cx}{B0 B H0 H eJ H' Ha Hb:Hp}{σ σ':St}{D:Ends}{st:iH}{rest body orelse:List iH}{δ δ':List Slot}{a:aL}{ps:List aL}{gs:List (List aq)}{e c tg iter:cj}{d:aq}{ds:List aq}{pos px wA:Pos}{x y:Str}
def Ends.tail(D:Ends)(u:St->Hp->Prop):Ends:={ D with nx:=u }
theorem eG(h:cS X st (D.tail λσ H=>FQ X rest D σ H) σ H):FQ X (st::rest) D σ H:=λpins s I=>kE Jf my pins s σ H D I h
theorem dR(h:cS X st D σ H):FQ X [st] D σ H:=λpins s I=>wJ Jf pins s σ H D I h
theorem Jn(G:uZ X.K B0 B a ps gs H0 H σ δ)(h:VS X st δ (.nx δ'))(hn:noOwn δ'=true)(q:∀σ' eJ H',uZ X.K B0 B a ps gs eJ H' σ' δ'->D.nx σ' H'):cS X st D σ H:=
 h H0 H σ H0 H D G.own λσ' Ha Hb sm f'=>q σ' Ha Hb (G.go f' hn)
theorem S9{tgt:He}(G:uZ X.K B0 B a ps gs H0 H σ δ)(hp:AH (model X.prog X.w) X.A X.env X.xe)(hc:X.calm=true)(hi:VI X tg iter δ ds)(hg:PG X tg (LZ X.K tgt))(Q7:Nat->List (List aq))(h0:Q7 0=gs)
  (step:∀k d,ds[k]?=some d->∃δ',zk tgt d δ=some δ'/\noOwn δ'=true/\∀(D:Ends)C0 σ' eJ H',uZ X.K C0 B a ps (Q7 k) eJ H' σ' δ'->(∀σ2 Ha Hb,uZ X.K C0 B a ps (Q7 (k+1)) Ha Hb σ2 δ->D.nx σ2 Hb)->FQ X body D σ' H')
  (q:∀σ2 Ha Hb,uZ X.K B0 B a ps (Q7 ds.length) Ha Hb σ2 δ->D.nx σ2 Hb)
  (hs:∀x,foldedSetIterable iter X.env x=pure x:=by intro _;rfl):cS X (.For tg iter body [] pos) D σ H:=λpins s I=>by
 obtain⟨wi,pi,qi⟩:=hi;refine A3 hp hc pi hg my hs pins s σ H D I ?_
 refine qi H0 H σ H0 H _ G.own λJ H1 eC g it=>?_
 have G1:=G.go (G.own.grow g) G.no;refine⟨λi mm σ' H'=>i<=ds.length/\mm=ds.length-i/\∃Ha,uZ X.K H1 B a ps (Q7 i) Ha H' σ' δ,⟨ds.length,bu _,rfl,H1,by rw[h0];exact G1.from ⟨G1.fr.ent.big,ej.refl _,G1.fr.sub,λ_ z=>.inl z⟩⟩,?_⟩
 rintro i mm σ' H' ⟨hi,rfl,Ha,Ga⟩
 obtain⟨i1,i2,i3⟩:=it Ha H' Ga.fr.ent.gU Ga.fr.sub i;by_cases rS:i<ds.length
 ·have hd:ds[i]?=some ds[i]:=by simp[rS]
  obtain⟨δ',e1,e2,e3⟩:=step i _ hd;refine .inr ⟨i1 rS,λσ'' yS=>∃Hb,uZ X.K H1 B a ps (Q7 (i+1)) Hb yS σ'' δ,λσ'' yS ⟨Hb,z⟩=>⟨ds.length-(i+1),by omega,rS,rfl,Hb,z⟩,λv H2 y=>?_⟩
  obtain⟨Hb,g2,rx⟩:=i3 v H2 _ hd y;refine rh (Ga.own.grow g2) rx e1 λσ3 f3=>?_
  exact e3 _ H1 σ3 Hb H2 (Ga.go f3 e2) λσ2 Hc Hd z=>⟨Hc,z⟩
 ·have e:i=ds.length:=by omega
  subst e;refine .inl ⟨i2 (aD _),q σ' Ha H' (Ga.from ⟨Ga.fr.ent.big,G1.fr.ent.gU.trans Ga.fr.ent.gU,Ga.fr.sub,λb z=>?_⟩)⟩
  rcases Ga.fr.ent.new b z with z|z
  ·exact G1.fr.ent.new b z
  ·exact .inr z
end
section
variable{X:Cx}{sc:kU}{own N:List Str}{cap:List Nat}{cl:List (Str×aL)}{tg iter:cj}{δ:List Slot}{ds:List aq}{pos px wA lp:Pos}{tgt:He}{x:Str}{B0 B H0 H:Hp}{σ:St}{D:Ends}
theorem L5(i:Nat)(f:hU X.K B0 B H0 H σ δ)(sv:noOwn δ=true)(hc:X.calm=true)(CS:lr X sc own cap N cl)(hi:VI X tg iter δ ds)(hg:∀f s3 H3,PG (gF X sc N cl f s3 H3) tg (LZ X.K tgt))(ht:z0 own.length tgt=true)(hz:ds.length<=sizeLine)
  (step:∀d∈ds,∃δ',zk tgt d (lL own cap δ)=some δ')(hN:X.N.Nodup)(q:∀σ' a ps eJ H',uZ X.K B0 B a ps (aH ds.length []) eJ H' σ' (δ.set i (.ref a))->D.nx σ' H')(hn:∀a,noOwn (δ.set i (.ref a))=true)(SQ:X.N[i]?=some x:=by rfl)(hx:Loc X.env.scope x:=by first|exact bB rfl|exact dm rfl)
  (Cr:swapsWith (.ListComp (.List [] lp) [⟨tg,iter,[],0⟩] sc pos) (some (.Name x px)) wA.line X.env=pure true:=by rfl)(hs:∀x,foldedSetIterable iter X.env x=pure x:=by intro _;rfl)(hf:X.fn x=true\/X.env.scope.names.lookup x=some .local:=by first|exact .inl rfl|exact .inr rfl):
  cS X (.Assign [.Name x px] (.ListComp (.List [] lp) [⟨tg,iter,[],0⟩] sc pos) wA) D σ H:=λpins s I=>by
 obtain⟨wi,pi,qi⟩:=hi;refine xN (i:=i) (tc:=Vd X sc N cl []) (te:=teC X sc N cl (.List [] lp)) hN SQ hx hc CS pi hg (λf s3 H3 pins s σ H Q I h=>h f s3 H3 pins s I) (λf s3 H3 pins s σ H Q I h=>h f s3 H3 pins s I) Cr hs hf pins s σ H D I ?_
 refine qi B0 B σ H0 H _ f λJ H1 eC g it=>?_
 have f1:=f.grow g;intro L hL;have Xl:B L=none:=f1.ent.big.free hL;refine⟨λi m ys σ' H'=>i<=ds.length/\m=ds.length-i/\∃Ha ps,dU H1 eC Ha H'/\hU X.K B0 B Ha H' σ' (lL own cap δ)/\Ha L=none/\ys=ps.map V.ref/\H' L=some (.lst ys)/\L∉ps/\ps.Nodup/\ps.length=i/\∀p∈ps,B p=none/\Ha p=none/\H' p=some (.lst []),
  ⟨ds.length,bu _,rfl,H1,[],.loose f1.sub hL,(f1.comp own cap).touch (f1.sub.free hL) Xl nS,f1.sub.free hL,rfl,bK,by simp,by simp,rfl,λp hp=>by cases hp⟩,?_⟩
 rintro n m ys σ' H' ⟨ZX,rfl,Ha,ps,g1,fa,ZY,rfl,Ve,Xm,Vf,pF,NT⟩
 obtain⟨i1,i2,i3⟩:=it Ha H' g1.gU g1.sub n;by_cases rS:n<ds.length
 ·refine .inr ⟨i1 rS,λv H2 y=>?_⟩
  have hd:ds[n]?=some ds[n]:=by simp[rS]
  obtain⟨Hb,g2,rx⟩:=i3 v H2 ds[n] hd y;obtain⟨δ',e1⟩:=step ds[n] (dQ rS);obtain⟨k1,k2⟩:=comp_back ht e1;refine rh (fa.grow g2) rx e1 λσ3 f3=>?_
  intro fp s3 H3;refine gv B0 B σ3 Hb H2 _ f3 λHc H4 g4=>?_
  rw[qQ3 rfl];intro Xg s3' wN;have vo:VO (gF X sc N cl Xg s3' wN) (.List [] lp) δ' []:=gG (ds:=[]) aX;refine vo B0 B σ3 Hc H4 _ (f3.grow g4) λp xs Hd H5 g5 a1 a2 a3 a4=>?_
  cases a4;have K0:=(g2.trans g4).trans g5;have Xn:Hd L=none:=K0.still ZY Ve;have ZZ:L≠p:=λz=>by
   have:=(g2.trans g4).big _ _ Ve;rw[z,a1]at this;cases this
  have pB:B p=none:=(f3.grow g4).ent.big.free a1;refine⟨K0.big _ _ Ve,by rw[aj,pF];omega,ds.length-(n+1),by omega,rS,rfl,Hd,ps ++ [p],?_,((f3.grow g4).grow g5 |>.forget k1.symm k2).touch Xn Xl nS,Xn,by simp,bK,by simp[Xm,ZZ],?_,by simp[pF],λp' hp'=>?_⟩
  ·have gg:=g1.trans K0
   exact⟨λb u e=>by rw[aS (bj e hL)];exact gg.big b u e,gg.gU,λb u e=>by rw[aS (bj e Xn)];exact gg.sub b u e,gg.new⟩
  ·rw[eN]
   refine⟨Vf,by simp,λb hb c hc=>?_⟩
   simp only[bo]at hc;subst hc;intro z;subst z;have:=(g2.trans g4).big _ _ (NT b hb).2.2;rw[a1]at this;cases this
  ·rcases bX.mp hp' with h|h
   ·obtain⟨h1,h2,h3⟩:=NT p' h
    have np:p'≠L:=λz=>Xm (by rw[<-z];exact h)
    exact⟨h1,K0.still h2 h3,by rw[aS np];exact K0.big _ _ h3⟩
   ·simp only[bo]at h
    subst h;exact⟨pB,a2,by rw[aS (bM ZZ)];exact a3⟩
 ·have e:n=ds.length:=by omega
  subst e;refine .inl ⟨i2 (aD _),q _ L ps Ha H' ?_⟩
  have gg:=g.trans g1;refine⟨(f.grow gg).Cw (v:=.ref L) (sl:=.ref L) rfl rfl,hn L,Ve,ZY,Xl,Xm,Vf,by simp[pF],λj p es e1 e2=>?_⟩
  obtain⟨h1,h2,h3⟩:=NT p (bO e1);rw[d_]at e2
  split at e2<;>cases e2
  exact⟨h2,h1,[],h3,.nil⟩
end
section
variable{X:Cx}{B0 B H0 H:Hp}{σ:St}{D:Ends}{δ:List Slot}{a:aL}{ps:List aL}{gs:List (List aq)}{pos px:Pos}{x:Str}
end
theorem uA{α:Type}(l:List α)(n:Nat):cutD l none (some (n:Int))=l.take n:=by
 unfold cutD;rw[HT.Ci,HT.pL,kZ,Nat.sub_zero];by_cases h:n<=l.length
 ·rw[ky h]
 ·rw[Nat.min_eq_right (by omega),dA (aD _),dA (by omega)]
theorem F1:Lay 20 (.list []):=FZ (n:=19) λd hd=>by cases hd
structure Nm(mg:Str->Option ay):Prop where
 len:mg "len"=none
 L6:mg "enumerate"=none
 srt:mg "sorted"=none
 max:mg "max"=none
 min:mg "min"=none
 rng:mg "range"=none
 sum:mg "sum"=none
 Xo:mg "isinstance"=none
 tup:mg "tuple"=none
 lst:mg "list"=none
 int:mg "int"=none
 bool:mg "bool"=none
section
variable{P:bC}{w:cw}{A:dJ}{R:sX->aK->Prop}{it S:aL}{fp wr:List aL}{n:Nat}{V:Nat->ay->Prop}{St:Nat->c6->Prop}{Kp:c6->Prop}{bt:Nat->Nat->Bool}
end
section
variable{P:bC}{w:cw}{A:dJ}{E:ay->aK->Prop}{s:aK}
end
section
variable{X:Cx}
end
def Hi(l:aL)(n:Nat):c6->Prop:=λh=>∃o es ep t,h.get? l=some o/\o.ExactSet/\o.data=.set es ep t/\t.fits es.size=true/\es.size=n
theorem Hi.ok(x:Hi l n h):gS P w H h l (.ext (Hi l n)):=by
 refine⟨x,?_,λh1 h2 y k=>?_⟩
 ·obtain⟨o,_,_,_,e,_⟩:=x
  exact⟨o,e⟩
 ·obtain⟨o,es,ep,t,e,r⟩:=y
  exact⟨o,es,ep,t,k o e,r⟩
section
variable{X:Cx}
def dd:List Str->List Str->List Str
 |acc,[]=>acc
 |acc,x::l=>dd (if decide (x∈acc)=true then acc else acc ++ [x]) l
theorem z_:∀(l:List Str)(acc m:List Str),dd acc (l++m)=dd (dd acc l) m
 | [],_,_=>rfl
 |x::l,acc,m=>z_ l _ m
theorem vn:∀(l acc:List Str),(dd acc l).length<=acc.length+l.length
 | [],_=>aD _
 |x::l,acc=>by
  have:=vn l (if decide (x∈acc)=true then acc else acc ++ [x])
  unfold dd
  split at this
  ·rename_i h;rw[qQ3 h];simp;omega
  ·rename_i h;rw[qQ2 h];simp at this ⊢;omega
theorem Cy:∀{l acc:List Str},(acc++l).Nodup->dd acc l=acc++l
 | [],acc,_=>by rw[dC];rfl
 |x::l,acc,h=>by
  unfold dd;have hx:x∉acc:=λz=>by
   rw[eN]at h;exact h.2.2 x z x aP rfl
  rw[qQ2 (by simpa using hx),Cy (by simpa using h)]
  simp
theorem Aa:∀{ss:List Str}{its:List ay},ez (ss.map V.str) its->∀(i:Nat)v,its[i]?=some v->∃x t,ss[i]?=some x/\v=.str x t
 | [],_,r,i,v,e=>by cases r;simp at e
 |x::ss,_,r,i,v,e=>by
  cases r with
  |cons a t=>
   cases i with
   |zero=>obtain⟨t,rfl⟩:=a;simp at e;exact⟨x,t,rfl,e.symm⟩
   |succ i=>simpa using Aa t i v (by simpa using e)
theorem SetOf.Xp{S:Str->Bool}(x:h.SetOf (strKind P w) l S n):Hi l n h:=by
 obtain⟨o,es,ep,t,ho,hex,hd,_,_,_,hf,hn⟩:=x;exact⟨o,es,ep,t,ho,hex,hd,hf,hn⟩
theorem zl:jM X (.builtin "len") (λxs H Q=>∃p n,xs=[.ref p]/\H p=some (.ext (Hi p n))/\n<10000/\Q (.int n) H):=by
 intro pins s σ H xs us Q I r h;obtain⟨p,n,rfl,hp,hn,q⟩:=h;obtain⟨u,rfl,rx⟩:=vals1 r;cases rx;obtain⟨⟨o,es,ep,t,ho,hex,hd,hf,hz⟩,_⟩:=I.hok p _ hp;exact call_len_set ho hex hd hf (by omega) ⟨.int n,H,I.tok _,⟨_,by rw[hz]⟩,q⟩
end
section
variable{X:Cx}{a b c e:cj}{δ:List Slot}{d d1 d2 d3:aq}{ds:List aq}{pos p p2 Cz:Pos}{k:Nat}
theorem dq.strs:∀{ss:List Str}{xs:List V},dq K H xs (ss.map .str)->xs=ss.map V.str
 | [],_,r=>by cases r;rfl
 |x::ss,_,r=>by cases r with|cons a t=>cases a;rw[dq.strs t];rfl
theorem xU:PE X e (λ_ _ _=>False):=λ_ _ _ _ _ _ h=>h.elim
theorem j0{op}(h:VE X a δ d):VE X (.BoolOp op [a] pos) δ d:=.of (OS dM) λB0 B σ H0 H Q f q=>h B0 B σ H0 H Q f q
theorem m9{k1 k2:Bool}(h1:VE X a δ (.bool k1))(h2:k1=true->VE X (.BoolOp .And (b::rest) pos) δ (.bool k2)):VE X (.BoolOp .And (a::b::rest) pos) δ (.bool (k1&&k2)):=by
 cases k1 with
 |true=>
  refine .of (Iv dM dM) λB0 B σ H0 H Q f q=>h1 B0 B σ H0 H _ f λv H1 eC g r=>?_
  cases r;refine⟨true,rfl,?_⟩
  rw[qQ3 rfl];exact h2 rfl B0 B σ H1 eC _ (f.grow g) λu H2 iT g2 r2=>q u H2 iT (g.trans g2) r2
 |false=>
  refine .of (Iv dM xU) λB0 B σ H0 H Q f q=>h1 B0 B σ H0 H _ f λv H1 eC g r=>?_
  cases r;refine⟨false,rfl,?_⟩
  rw[qQ2 cF];exact q _ H1 eC g (.bl false)
theorem uB{k1 k2:Bool}(h1:VE X a δ (.bool k1))(h2:k1=false->VE X (.BoolOp .Or (b::rest) pos) δ (.bool k2)):VE X (.BoolOp .Or (a::b::rest) pos) δ (.bool (k1||k2)):=by
 cases k1 with
 |false=>
  refine .of (Nv dM dM) λB0 B σ H0 H Q f q=>h1 B0 B σ H0 H _ f λv H1 eC g r=>?_
  cases r;refine⟨false,rfl,?_⟩
  rw[qQ2 cF];exact h2 rfl B0 B σ H1 eC _ (f.grow g) λu H2 iT g2 r2=>q u H2 iT (g.trans g2) r2
 |true=>
  refine .of (Nv dM xU) λB0 B σ H0 H Q f q=>h1 B0 B σ H0 H _ f λv H1 eC g r=>?_
  cases r;refine⟨true,rfl,?_⟩
  rw[qQ3 rfl];exact q _ H1 eC g (.bl true)
theorem PJ{n:Int}(h1:VO X a δ ds)(h2:VE X b δ (.int n))(hn:-1000<=n/\n<=1000)(hz:ds.length<=100):VO X (.BinOp a .Mult b pos) δ (aH n.toNat ds).flatten:=by
 refine .of (B9 Pm dM dM) λB0 B σ H0 H Q f q=>h1 B0 B σ H0 H _ f λp xs H1 eC g1 a1 a2 a3 a4=>h2 B0 B σ H1 eC _ (f.grow g1) λu H2 iT g2 r2=>?_
 cases r2;have gg:=g1.trans g2;have hl:=a4.length;have Xq:(1000:Int)<2^63:=by decide
 refine⟨p,n,xs,rfl,rfl,g2.big _ _ a3,by omega,by omega,?_,λl S_=>?_⟩
 ·rw[cL,hl]
  have:n.toNat<=1000:=by omega
  have:=eD hz this;omega
 ·refine q l _ H2 _ (gg.trans (.loose g2.sub S_)) (gg.big.free S_) (g2.sub.free S_) bK ?_
  have rs:=a4.mono g2.gU;have go:∀m,dq X.K H2 (aH m xs).flatten (aH m ds).flatten:=by
   intro m
   induction m with
   |zero=>exact .nil
   |succ m ih=>rw[dv,eM,dv,eM];exact rs.append ih
  exact go _
def nW:List Bool->Bool:=λl=>l.all id
theorem oY(hc:X.calm=true):jM X (.builtin "all") (λxs H Q=>∃p bs,xs=[.ref p]/\lg X.K H p (bs.map V.bl)/\Q (.bl (nW bs)) H):=by
 intro pins s σ H xs us Q I r h;obtain⟨p,bs,rfl,hq,q⟩:=h;obtain⟨u,rfl,rx⟩:=vals1 r;cases rx;obtain⟨its,rv,pl,hz⟩:=I.list hq;have hl:=rv.length;simp only[aj]at hl;refine call_all_walkS (qD pl.isList ?_)
 have m8:p≠s.heap.objs.size:=a_ (aW pl.isList.choose_spec.1);have Xr:∀(i:Nat)v,its.toArray[i]?=some v->v=.bool (bs.getD i false):=λi v hv=>by
  have Ld:its[i]?=some v:=by simpa using hv
  have e:=rv.getD i;have e2:its.getD i eE=v:=by rw[aI,Ld];rfl
  have hi:i<bs.length:=by have:=(aJ.mp Ld).1;omega
  have e3:(bs.map V.bl).getD i .non=.bl (bs.getD i false):=by
   rw[aI,aT,aI,ax hi];rfl
  rw[e2,e3]at e;exact e
 refine⟨_,_,_,_,_,_,_,λi=>bs.getD i false,rfl,(Walks.list (by simp[I.ok.hd hc]) _ p m8 its.toArray).toS,⟨⟨_,bD _ rfl,rfl,rfl⟩,pl.isList.push _⟩,?_,λs' hm=>?_⟩
 ·intro i v Q' E' s' hv q'
  rw[Xr i v hv];exact eZ q'
 ·have ea:(cq its.toArray.size).all (λi=>bs.getD i false)=nW bs:=by
   rw[bp,<-hl];unfold nW;rw[fH,ef,ef]
   constructor
   ·intro h x hx
    obtain⟨i,hi⟩:=rO.mp hx;have:=h i (dG.mpr (aJ.mp hi).1);rw[aI,hi]at this;exact this
   ·intro h i hi
    have hi:=dG.mp hi;rw[aI,ax hi];exact h _ (dQ hi)
  rw[ea];obtain⟨h',g',d',S',Lf⟩:=s';have eg:g'=s.gens:=hm.gens;have ed:d'=s.drawn:=hm.drawn;have eo:Lf=s.os:=hm.os;subst eg;subst ed;subst eo;refine⟨.bl _,H,I.kept (t':=S') λb o e=>hm.heap b o ?_ (aA _ e),rfl,q⟩
  have:=aW e;simp only[bo];exact a_ this
theorem dq.Xs:∀{bs:List Bool}{xs:List V},dq K H xs (bs.map .bool)->xs=bs.map V.bl
 | [],_,r=>by cases r;rfl
 |x::ss,_,r=>by cases r with|cons a t=>cases a;rw[dq.Xs t];rfl
theorem Ab{bs:List Bool}:oW K (λxs H Q=>∃p bs,xs=[.ref p]/\lg K H p (bs.map V.bl)/\Q (.bl (nW bs)) H) [.list (bs.map .bool)] (.bool (nW bs)):=λvs H0 H Q s r q=>by
 obtain⟨v,rfl,r1⟩:=r.one;cases r1 with
 |lst hq rs=>
  have e:=rs.Xs;subst e;exact⟨_,bs,rfl,s.seq hq,q _ _ _ (.refl s) (.bl _)⟩
theorem NV(hr:fF k X.A)(hs:Ct d2=true)(l1:Lay 20 d1)(l2:Lay 20 d2)(h1:VE X a δ d1)(h2:VE X b δ d2)(hm:behindInMarks .In b=false:=by with_unfolding_all rfl):VE X (.Compare a [.In] [b] pos) δ (.bool (uy d1 d2)):=xO (Jj (Cu hr)) (PB (neg:=false) hs l1 l2) h1 h2 hm
theorem Jo(hr:fF k X.A)(l1:Lay 20 d1)(l2:Lay 20 d2)(h1:VE X a δ d1)(h2:VE X b δ d2):VE X (.Compare a [.NotEq] [b] pos) δ (.bool (!dE d1 d2)):=xO (Ji (Cu hr)) (FT l1 l2) h1 h2 (fE _)
end
end L2
namespace L2
open PySem PySem.Spec PyProof.Rows PySem.Builtin PySem.Builtin.Str
variable{i n:Int}{ap:Pos}{K:ao}
section
variable{X:Cx}
def PK:V->List V->Hp->VK->Prop:=λx vs H Q=>∃z y,x=.str z/\vs=[.str y]/\(y.length==0)=false/\z.length+2<=sizeLine/\∀l,H l=none->Q (.ref l) (upd H l (.lst ((bL z y).map V.str)))
theorem uC:∀(l:List (Str×Tok)),ez ((l.map (·.1)).map V.str) (strValues l)
 | []=>.nil
 |(x,t)::l=>.cons ⟨t,rfl⟩ (uC l)
theorem split_len{z y:Str}(hz:z.length+2<=sizeLine):(bL z y).length<=sizeLine/\(partsBetween z (occurrences z y 0 z.length (z.length+1)) y.length).length<=sizeLine:=by
 have e1:=BZ z y 0 z.length (z.length+1);have e2:(partsBetween z (occurrences z y 0 z.length (z.length+1)) y.length).length<=sizeLine:=by rw[wo];omega
 refine⟨?_,e2⟩
 unfold bL
 split
 ·show 1<=sizeLine;omega
 ·split
  ·show 1<=sizeLine;omega
  ·exact e2
theorem Jp:Sj X "str.split" PK:=by
 intro pins s σ H x vs v us Q I rx rv h;obtain⟨z,y,rfl,rfl,hy,hz,q⟩:=h;obtain⟨t,rfl⟩:=rx;obtain⟨u,rfl,ru⟩:=rv.one;obtain⟨tu,rfl⟩:=ru;obtain⟨sl,sp⟩:=split_len (y:=y) hz;have fin:∀(l:List (Str×Tok))(k:Nat),l.map (·.1)=bL z y->EP X pins σ Q (.ref s.heap.objs.size) { s with heap:=s.heap.push { cls:=.type "list",data:=.seq (strValues l).toArray },toks:=k }:=λl k e=>by
  refine⟨.ref s.heap.objs.size,_,I.laid (λb o e=>aA _ e) (aD _) (show gS X.prog X.w _ _ _ (.lst ((bL z y).map V.str)) from⟨by rw[aj];exact sl,strValues l,0,by rw[<-e];exact uC l,bD _ rfl⟩),rfl,q _ (I.hok.fresh (aD _))⟩
 cases h1:(decide (z.length<y.length)||decide (strKind z<strKind y)) with
 |true=>exact jm y0 (pH _ _ _) xi (wq _ _) (meets_str_split_cannot_occur z y t tu h1) (fin [(z,t)] s.toks (by unfold bL;rw[qQ3 h1];rfl))
 |false=>
  cases hf:(occurrences z y 0 z.length (z.length+1)).isEmpty with
  |true=>exact jm y0 (pH _ _ _) xi (wq _ _) (meets_str_split_not_found z y t tu h1 hy hf) (fin [(z,t)] s.toks (by unfold bL;rw[qQ2 (by rw[h1];decide),qQ3 hf];rfl))
  |false=>
   refine jm y0 (pH _ _ _) xi (wq _ _) (meets_str_split_sep z y t tu h1 hy hf (by omega) sp) ?_
   rw[strsFrom_eq];exact fin (numbered s.toks _) _ ((numbered_texts _ _).trans (by unfold bL;rw[qQ2 (by rw[h1];decide),qQ2 (by rw[hf];decide)]))
def rJoin(K:ao):V->List V->Hp->VK->Prop:=λx vs H Q=>∃y p zs,x=.str y/\vs=[.ref p]/\(lg K H p (zs.map V.str)\/qp K H p (zs.map V.str))/\(zs.map (·.length)).sum+zs.length*y.length<=16777216/\Q (.str (cK y zs)) H
theorem xV:∀{zs:List Str}{us:List ay},ez (zs.map V.str) us->StrsAre us zs
 | [],_,r=>by cases r;exact .nil
 |z::zs,_,r=>by cases r with|cons a t=>obtain⟨tk,rfl⟩:=a;exact .cons z tk (xV t)
theorem L7:Sj X "str.join" (rJoin X.K):=by
 intro pins s σ H x vs v us Q I rx rv h;obtain⟨y,p,zs,rfl,rfl,hq,hz,q⟩:=h;obtain⟨t,rfl⟩:=rx;obtain⟨u,rfl,ru⟩:=rv.one;cases ru;have e:Txt.join y zs=cK y zs:=StrLaws.glued_eq_join y zs;rcases hq with hq|hq
 ·obtain⟨its,r,pl,_⟩:=I.list hq
  exact join_list pl.isList (by simpa using xV r) hz λt' k=>⟨.str _,H,I.tok k,⟨t',by rw[e]⟩,q⟩
 ·obtain⟨its,r,pl,_⟩:=I.tuple hq
  exact join_tuple pl (by simpa using xV r) hz λt' k=>⟨.str _,H,I.tok k,⟨t',by rw[e]⟩,q⟩
theorem zm:jM X (.type "int") (λxs H Q=>∃x n,xs=[.str x]/\intText? x=some n/\x.length<=640/\Q (.int n) H):=by
 intro pins s σ H xs us Q I r h;obtain⟨x,n,rfl,hn,hl,q⟩:=h;obtain⟨u,rfl,t,rfl⟩:=vals1 r;exact PySem.W.KIN.call_text hn hl ⟨.int n,H,I.tok _,⟨_,rfl⟩,q⟩
def gi(x:Str):Nat->Str
 |0=>ei
 |n+1=>x++gi x n
theorem Bg(x:Str):∀(n:Nat)(acc:Array Nat),(aH n x.cps).foldl (· ++ ·) acc=acc++(gi x n).cps
 |0,acc=>by show acc=acc ++ #[];simp
 |n+1,acc=>by
  rw[dv,mM,Bg x n];show acc++x.cps++(gi x n).cps=acc++(x.cps++(gi x n).cps);rw[Array.append_assoc]
theorem rT(x:Str):∀n,(gi x n).length=n*x.length
 |0=>by show(ei).length=_;simp[ei,Str.length]
 |n+1=>by
  show(x++gi x n).length=_
  rw[b0,rT x n,qJ,Nat.add_comm]
theorem L8:rP X (binaryOp .Mult) (λx y H Q=>∃z n,x=.str z/\y=.int n/\0<=n/\n<=1000/\z.length<=1000/\Q (.str (gi z n.toNat)) H):=by
 intro pins s σ H x y v u Q I rx ry h;obtain⟨z,n,rfl,rfl,h0,h1,hz,q⟩:=h;obtain⟨t,rfl⟩:=rx;obtain⟨t',rfl⟩:=ry;have Xq:(1000:Int)<2^63:=by decide
 have e63:(2:Int)^63=9223372036854775808:=by decide
 refine PySem.P.mul_str (by rw[qQ0 (by omega),qQ0 (by omega)];rfl) (λha _=>?_) (λ_ _=>?_) ?_
 ·have:((2:Int)^63-1)/n>=1000:=by
   rw[ge_iff_le,DK (by omega)]
   omega
  omega
 ·unfold tooLong
  rw[qQ0];rw[cL];have:z.length*n.toNat<=1000*1000:=eD hz (by omega)
  omega
 ·by_cases hn:n<1
  ·rw[qQ3 hn]
   have:n.toNat=0:=by omega
   rw[this]at q;exact⟨by decide,.str _,H,I.tok _,⟨_,rfl⟩,q⟩
  ·rw[qQ2 hn]
   by_cases hc:(n==1||z.length==0)=true
   ·rw[qQ3 hc]
    have e:gi z n.toNat=z:=by
     rw[yN]at hc;rcases hc with hc|hc
     ·have:n=1:=by simpa using hc
      subst this;show z++ei=z;cases z with|mk c=>show(⟨c ++ #[]⟩:Str)=⟨c⟩;simp
     ·have Z0:z.length=0:=by simpa using hc
      have:z=ei:=by cases z with|mk c=>simp[Str.length]at Z0;simp[ei,Z0]
      subst this;have:∀m,gi ei m=ei:=by
       intro m
       induction m with
       |zero=>rfl
       |succ m ih=>show ei++gi ei m=_;rw[ih];rfl
      exact this _
    rw[e]at q;exact⟨.str _,H,I.tok _,⟨_,rfl⟩,q⟩
   ·rw[qQ2 hc]
    have e:(⟨(aH n.toNat z.cps).foldl (· ++ ·) #[]⟩:Str)=gi z n.toNat:=by rw[Bg];simp
    rw[e];refine⟨?_,.str _,H,I.tok _,⟨_,rfl⟩,q⟩
    rw[rT,cL];have:n.toNat*z.length<=1000*1000:=eD (by omega) hz
    omega
def Its(x:Str):It:=⟨λi _=>i<x.cps.size,λi H v H'=>H'=H/\∃c,x.cps[i]?=some c/\v=.str ⟨#[c]⟩,λi _=>x.cps.size<=i⟩
theorem Jq{P:bC}{w:cw}{tg:cj}(it:aL)(x:Str)(t:Tok){ty:String}(hty:ty="str_ascii_iterator"\/ty="str_iterator"):Turn P w K tg (Its x) [it] it (λi h=>h.IsStrIter it ty x t i) where
 mem:=by simp
 obj:=λi h st b hb=>by
  have e:b=it:=by simpa using hb
  subst e;obtain⟨o,e,c,d⟩:=st;exact⟨o,e,λv z=>by rw[d]at z;cases z⟩
 keep:=λi h h' st k=>let⟨o,e,r⟩:=st;⟨o,k it (by simp) o e,r⟩
 item:=by
  intro X hP hw hK hc i pins s σ H E I hf st hg;subst hP hw hK;obtain⟨f0,f1,f2,f3,f4,f5⟩:=hf it (by simp)
  have hn:["enumerate","zip","dict_itemiterator","dict_reverseitemiterator","odict_iterator","itertools.zip_longest","itertools.pairwise"].contains ty=false:=by rcases hty with rfl|rfl<;>decide
  have fin:∀v h' tk,SignAt x i v->h'.IsStrIter it ty x t (i+1)->(∀b o,b∉[it]->s.heap.get? b=some o->h'.get? b=some o)->∃u,some v=some u/\wpAny (model X.prog X.w) X.A (letOwnedTupleGo tg (.ref it) u) (λ_ s2=>∃y H',Inv X pins σ H' s2/\RelV y u/\(Its x).RM i H y H'/\s2.heap.IsStrIter it ty x t (i+1)/\∀b∈[it],H' b=none) E { s with heap:=h',toks:=tk }:=by
   intro v h' tk hv y9 kk;obtain⟨c,u,hcu,rfl⟩:=hv;have I1:Inv X pins σ H { s with heap:=h',toks:=tk }:=I.turned (λb o hb e=>kk b o (by simpa using hb) e) f0 f1 f3 f4 f5
   obtain⟨o,e,cc,d⟩:=id y9;exact⟨_,rfl,Fz (s:={ s with heap:=h',toks:=tk }) e cc d hn ⟨.str ⟨#[c]⟩,H,I1,⟨u,rfl⟩,⟨rfl,c,hcu,rfl⟩,y9,λb hb=>(hf b hb).1⟩⟩
  rcases hty with rfl|rfl
  ·exact(Walks.strAscii (prog:=X.prog) (w:=X.w) (I.ok.hd hc) it x t).item i s _ _ hg st λv h' tk hv y9 kk=>fin v h' tk hv y9 kk
  ·exact(Walks.strWide (prog:=X.prog) (w:=X.w) (I.ok.hd hc) it x t).item i s _ _ hg st λv h' tk hv y9 kk=>fin v h' tk hv y9 kk
 done:=by
  intro X hP hw hK hc i pins s σ H E I hf st hg;subst hP hw hK;obtain⟨f0,f1,f2,f3,f4,f5⟩:=hf it (by simp)
  have Z1:x.cps.size<=i:=hg;rcases hty with rfl|rfl
  ·exact wpAny_pyNext_ascii_end (I.ok.hd hc) st (by simp;exact Z1) λh' eb=>⟨rfl,I.turned (t':=s.toks) (λb o hb e=>eb b o hb e) f0 f1 f3 f4 f5⟩
  ·exact wpAny_pyNext_wide_end (I.ok.hd hc) st (by simp;exact Z1) λh' eb=>⟨rfl,I.turned (t':=s.toks) (λb o hb e=>eb b o hb e) f0 f1 f3 f4 f5⟩
 self:=λ_ _ _ _ _ st h=>by
  rcases hty with rfl|rfl
  ·exact wpAny_pyIter_striter_ascii st h
  ·exact wpAny_pyIter_striter_wide st h
def Xt(tl:TE):TI:=λσ H R=>tl σ H λv H1=>∃x,v=.str x/\R (Its x) H1
theorem PL{tg l:cj}{tl:TE}(hl:PE X l tl):PI X tg l (Xt tl):=by
 intro pins s σ H R I h;refine fS (hl pins s σ H _ I h) λv s1 ⟨y,H1,I1,r1,q1⟩=>?_
 obtain⟨x,e,q⟩:=q1;subst e;obtain⟨t,rfl⟩:=r1;have go:∀ty,(ty="str_ascii_iterator"\/ty="str_iterator")->∀o:Obj,o.cls=.type ty->o.data=.fields #[.str x t,.int (0:Nat) 0]->o.isFreed=false->Wt X pins σ tg R (.ref s1.heap.objs.size) { s1 with heap:=s1.heap.push o }:=λty hty o c d fr=>
  ⟨s1.heap.objs.size,[s1.heap.objs.size],_,_,H1,rfl,I1.kept (t':=s1.toks) λb o e=>aA _ e,Jq _ x t hty,⟨o,bD _ fr,c,d⟩,λb hb=>by
   have e:b=s1.heap.objs.size:=by simpa using hb
   subst e;exact I1.y8 (aD _) (I1.hok.fresh (aD _)),q⟩
 cases ha:x.cps.all (·<128)
 ·exact wpAny_pyIter_wide ha (go "str_iterator" (.inr rfl) _ rfl rfl rfl)
 ·exact wpAny_pyIter_ascii ha (go "str_ascii_iterator" (.inl rfl) _ rfl rfl rfl)
end
section
variable{X:Cx}{tg a b c e:cj}{es:List cj}{δ:List Slot}{d d1 d2 d3:aq}{ds:List aq}{pos p p2 Cz:Pos}{k:Nat}{x y z:Str}
def pT(x:Str):List aq:=x.cps.toList.map λc=>.str ⟨#[c]⟩
theorem PN(h:VE X a δ (.str x)):VI X tg a δ (pT x):=⟨_,PL dM,λB0 B σ H0 H R f q=>h B0 B σ H0 H _ f λv H1 eC g r=>by
 cases r;have hl:(pT x).length=x.cps.size:=by unfold pT;rw[aj,cR]
 refine⟨x,rfl,q _ H1 eC g λHa Hb s1 s2 i=>⟨λhi=>(show i<x.cps.size by omega),λhi=>(show x.cps.size<=i by omega),λv yS d hd ⟨e,c,hc,ev⟩=>?_⟩⟩
 subst e;subst ev;unfold pT at hd;rw[aT,Array.getElem?_toList,hc]at hd
 cases hd;exact⟨Ha,.refl s2,.str _⟩⟩
theorem odS(h:x.length+y.length<=sizeLine):zX K (λx y H Q=>∃i j,x=.str i/\y=.str j/\i.length+j.length<=sizeLine/\Q (.str (i++j)) H) (.str x) (.str y) (.str (x++y)):=λv u H0 H Q s r1 r2 k=>by cases r1;cases r2;exact⟨_,_,rfl,rfl,h,k _ _ _ (.refl s) (.str _)⟩
theorem iw(h1:VE X a δ (.str x))(h2:VE X b δ (.str y))(h:x.length+y.length<=sizeLine):VE X (.BinOp a .Add b pos) δ (.str (x++y)):=tq DX (odS h) h1 h2
theorem PQ(h0:0<=n)(h1:n<=1000)(hz:x.length<=1000):zX K (λx y H Q=>∃z n,x=.str z/\y=.int n/\0<=n/\n<=1000/\z.length<=1000/\Q (.str (gi z n.toNat)) H) (.str x) (.int n) (.str (gi x n.toNat)):=λv u H0 H Q s r1 r2 k=>by cases r1;cases r2;exact⟨_,_,rfl,rfl,h0,h1,hz,k _ _ _ (.refl s) (.str _)⟩
theorem Bh(h1:VE X a δ (.str x))(h2:VE X b δ (.int n))(h0:0<=n)(hn:n<=1000)(hz:x.length<=1000):VE X (.BinOp a .Mult b pos) δ (.str (gi x n.toNat)):=tq L8 (PQ h0 hn hz) h1 h2
theorem Ta{c:Nat}(hz:x.length<=sizeLine)(h:sG x.cps.toList i=some c):zX K (U7 K) (.str x) (.int i) (.str ⟨#[c]⟩):=λv u H0 H Q s r1 r2 k=>by
 cases r1;cases r2;exact .inr (.inr ⟨x,i,c,rfl,rfl,hz,h,k _ _ _ (.refl s) (.str _)⟩)
theorem Bi{c:Nat}(h1:VE X a δ (.str x))(h2:VE X b δ (.int i))(hz:x.length<=sizeLine)(h:sG x.cps.toList i=some c)(hs:rQ b:=by intro _ _;rfl):VE X (.Subscript a b pos) δ (.str ⟨#[c]⟩):=Ea A8 (Ta hz h) h1 h2 hs
def Bj(x y:Str):Bool:=!(occurrences y x 0 y.length 1).isEmpty
theorem Tb:zX K (λx y H Q=>∃i j,x=.str i/\y=.str j/\Q (.bl (!(occurrences j i 0 j.length 1).isEmpty)) H) (.str x) (.str y) (.bool (Bj x y)):=λv u H0 H Q s r1 r2 k=>by cases r1;cases r2;exact⟨_,_,rfl,rfl,k _ _ _ (.refl s) (.bl _)⟩
theorem PV(h1:VE X a δ (.str x))(h2:VE X b δ (.str y))(hm:behindInMarks .In b=false:=by with_unfolding_all rfl):VE X (.Compare a [.In] [b] pos) δ (.bool (Bj x y)):=xO GL Tb h1 h2 hm
theorem PX(hz:x.length<=sizeLine):oW K (λxs H Q=>∃z,xs=[.str z]/\z.length<=sizeLine/\Q (.int z.length) H) [.str x] (.int x.length):=λvs H0 H Q s r k=>by
 obtain⟨v,rfl,r1⟩:=r.one;cases r1;exact⟨x,rfl,hz,k _ _ _ (.refl s) (.int _)⟩
theorem F2(h:VE X a δ (.str x))(hz:x.length<=sizeLine)(hm:X.mg "len"=none)(hg:Gl X "len":=by rfl)(hs:starEach [a] X.env=(false,eval a X.env)::starEach [] X.env:=by rfl):VE X (.Call (.Name "len" p) [a] [] pos) δ (.int x.length):=iV A_ (PX hz) (av h aX hs) hm su hg (he:=hs)
theorem PY(h:i.natAbs.log2<1920):oW K (λxs H Q=>∃i,xs=[.int i]/\i.natAbs.log2<1920/\Q (.str (toString i)) H) [.int i] (.str (toString i)):=λvs H0 H Q s r k=>by
 obtain⟨v,rfl,r1⟩:=r.one;cases r1;exact⟨i,rfl,h,k _ _ _ (.refl s) (.str _)⟩
theorem PZ(h:intText? x=some n)(hl:x.length<=640):oW K (λxs H Q=>∃x n,xs=[.str x]/\intText? x=some n/\x.length<=640/\Q (.int n) H) [.str x] (.int n):=λvs H0 H Q s r k=>by
 obtain⟨v,rfl,r1⟩:=r.one;cases r1;exact⟨x,n,rfl,h,hl,k _ _ _ (.refl s) (.int _)⟩
theorem rU(h:VE X a δ (.int i))(hl:i.natAbs.log2<1920)(hm:X.mg "str"=none)(hg:Gl X "str":=by rfl)(hs:starEach [a] X.env=(false,eval a X.env)::starEach [] X.env:=by rfl):VE X (.Call (.Name "str" p) [a] [] pos) δ (.str (toString i)):=j9 A4 (PY hl) (av h aX hs) hm rfl hg (he:=hs)
theorem L9(h:VE X a δ (.str x))(hn:intText? x=some n)(hl:x.length<=640)(hm:X.mg "int"=none)(hg:Gl X "int":=by rfl)(hs:starEach [a] X.env=(false,eval a X.env)::starEach [] X.env:=by rfl):VE X (.Call (.Name "int" p) [a] [] pos) δ (.int n):=j9 zm (PZ hn hl) (av h aX hs) hm rfl hg (he:=hs)
theorem oZ(h1:VE X a δ (.str x))(h2:VE X b δ (.str y))(hy:(y.length==0)=false)(hz:x.length+2<=sizeLine)
  (hs:starEach [b] X.env=(false,eval b X.env)::starEach [] X.env:=by rfl)(mY:attributeBase a "split" X.env (eval a X.env)=eval a X.env:=by rfl)
  (tj:((backTo pos (starEach [b] X.env)).all (λx=>!x.1)&&(backToKw pos (keywordEach [] X.env)).all (λx=>x.1.isSome)&&decide (([b]:List cj).length+([]:List iO).length+(if([]:List iO).isEmpty then 0 else 1)<30))=true:=by rfl)
  (hline:(ap.endLine==pos.line)=true:=by rfl)(jX:(backTo pos (starEach [] X.env)).any (·.1)=false:=by rfl):VO X (.Call (.Attribute a "split" ap) [b] [] pos) δ ((bL x y).map .str):=
 .of (xF pI PySem.F.slot_str_split PySem.F.type_str_split Jp dM (dw dM fM hs) mY tj hline hs jX) λB0 B σ H0 H Q f q=>h1 B0 B σ H0 H _ f λv H1 eC g r1=>by
  cases r1;refine⟨rfl,h2 B0 B σ H1 eC _ (f.grow g) λu H2 iT g2 r2=>?_⟩
  cases r2;refine⟨x,y,rfl,rfl,hy,hz,λl hl=>?_⟩
  have gg:=g.trans g2;refine q l _ H2 _ (gg.trans (.loose g2.sub hl)) (gg.big.free hl) (g2.sub.free hl) bK ?_
  have go:∀l:List Str,dq X.K H2 (l.map V.str) (l.map aQ):=by
   intro l
   induction l with
   |nil=>exact .nil
   |cons z l ih=>exact .cons (.str z) ih
  exact go _
theorem nX{zs:List Str}(h1:VE X a δ (.str y))(h2:VE X b δ (.list (zs.map .str)))(hz:(zs.map (·.length)).sum+zs.length*y.length<=16777216)
  (hs:starEach [b] X.env=(false,eval b X.env)::starEach [] X.env:=by rfl)(mY:attributeBase a "join" X.env (eval a X.env)=eval a X.env:=by rfl)
  (tj:((backTo pos (starEach [b] X.env)).all (λx=>!x.1)&&(backToKw pos (keywordEach [] X.env)).all (λx=>x.1.isSome)&&decide (([b]:List cj).length+([]:List iO).length+(if([]:List iO).isEmpty then 0 else 1)<30))=true:=by rfl)
  (hline:(ap.endLine==pos.line)=true:=by rfl)(jX:(backTo pos (starEach [] X.env)).any (·.1)=false:=by rfl):VE X (.Call (.Attribute a "join" ap) [b] [] pos) δ (.str (cK y zs)):=
 .of (xF pI PySem.F.slot_str_join PySem.F.type_str_join L7 dM (dw dM fM hs) mY tj hline hs jX) λB0 B σ H0 H Q f q=>h1 B0 B σ H0 H _ f λv H1 eC g r1=>by
  cases r1;refine⟨rfl,h2 B0 B σ H1 eC _ (f.grow g) λu H2 iT g2 r2=>?_⟩
  cases r2 with
  |lst hq rs=>
   have e:=rs.strs;subst e;exact⟨y,_,zs,rfl,rfl,.inl (g2.sub.seq hq),hz,q _ H2 iT (g.trans g2) (.str _)⟩
end
end L2
namespace L2
open PySem PySem.Spec PyProof.Rows
variable{a it l l1 l2:aL}{items xs ys:Array ay}{X:Cx}{h:c6}{H:Hp}{pins:List (aL×Obj)}{elts:List cj}{ds:List aq}{i:Nat}{d:Option aq}{o:Option V}{tp:Pos}{K:ao}{s:aK}{x:ay}{Q:ay->aK->Prop}
def uD(kvs:List (Str×aq)):aq:=.dict (kvs.map λp=>(.str p.1,p.2))
def Jr(kvs:List ((Str×Str)×aq)):aq:=.dict ((.none,.bool true)::kvs.map λp=>(.tuple [.str p.1.1,.str p.1.2],p.2))
def L_(fs:List (Str×aq)):aq:=.dict ((.none,.none)::fs.map λp=>(.str p.1,p.2))
def jP{κ:Type}[DecidableEq κ](kvs:List (κ×aq))(k:κ):Option aq:=(kvs.find? λp=>decide (p.1=k)).map (·.2)
theorem gj{κ:Type}[DecidableEq κ]{p:κ×aq}{r:List (κ×aq)}{k:κ}(e:p.1=k):jP (p::r) k=some p.2:=by simp[jP,dY,e]
theorem cY{κ:Type}[DecidableEq κ]{p:κ×aq}{r:List (κ×aq)}{k:κ}(e:¬p.1=k):jP (p::r) k=jP r k:=by simp[jP,dY,e]
def CB(K:ao)(H:Hp):Option V->Option aq->Prop
 |none,none=>True
 |some v,some d=>Rep K H v d
 |_,_=>False
theorem CB.some_of{d:aq}(h:CB K H o (some d)):∃v,o=some v/\Rep K H v d:=by
 cases o with
 |none=>exact h.elim
 |some v=>exact⟨v,rfl,h⟩
theorem CB.isSome(h:CB K H o d):o.isSome=d.isSome:=by
 cases o<;>cases d<;>first|rfl|exact h.elim
theorem CB.getD{v:V}{e:aq}(h:CB K H o d)(r:Rep K H v e):Rep K H (o.getD v) (d.getD e):=by
 cases o<;>cases d<;>first|exact r|exact h|exact h.elim
section
variable{K:ao}{H:Hp}{v:V}
theorem Rep.uE{kvs:List (Str×aq)}(r:Rep K H v (uD kvs)):∃a ws,v=.ref a/\H a=some (.dK ws)/\ws.map (·.1)=kvs.map (λp=>(cx p.1:Key))/\dq K H (ws.map (·.2)) (kvs.map (·.2)):=by
 unfold uD at r
 generalize e:kvs.map (λp=>(aQ p.1,p.2))=ds at r
 cases r with
 |dct h k t=>
  rename_i a ws
  refine⟨a,ws,rfl,h,?_,?_⟩
  ·have k2:ws.map (λp=>zh p.1)=kvs.map λp=>aQ p.1:=by rw[<-k,<-e,bA];rfl
   clear k t h e
   induction ws generalizing kvs with
   |nil=>cases kvs with|nil=>rfl|cons p l=>simp at k2
   |cons q ws ih=>
    cases kvs with
    |nil=>simp at k2
    |cons p l=>
     rw[aR,aR]at k2 ⊢
     injection k2 with h1 h2
     rw[ih h2]
     congr 1
     cases eq:q.1 with
     |inl i=>rw[eq]at h1;cases h1
     |inr x=>rw[eq]at h1;injection h1 with h1;rw[h1]
  ·rw[<-e,bA]at t
   exact t
 |SW _ _ _=>cases kvs with|nil=>simp at e|cons p l=>simp at e
 |obj _ _ _ _ _=>cases kvs with|nil=>simp at e|cons p l=>simp at e
 |Xa _ _ _=>cases kvs with|nil=>simp at e|cons p l=>simp at e
theorem xW:∀{kvs:List (Str×aq)}{ws:List (Key×V)},ws.map (·.1)=kvs.map (λp=>(cx p.1:Key))->dq K H (ws.map (·.2)) (kvs.map (·.2))->∀k,CB K H (ja ws (cx k)) (jP kvs k)
 | [],ws,e,_,k=>by
  have:ws=[]:=by simpa using e
  subst this;exact fz
 |p::kvs,ws,e,r,k=>by
  cases ws with
  |nil=>simp at e
  |cons q ws=>
   rw[aR,aR]at e r
   injection e with e1 e2
   cases r with
   |cons r1 r2=>
    by_cases h:p.1=k
    ·rw[gj h,oS (by rw[e1,h])];exact r1
    ·rw[cY h,lK (λz=>h (by rw[e1]at z;injection z))];exact xW e2 r2 k
def vp(p:Str×Str):List Key:=[.inr p.1,.inr p.2]
theorem CD{p q:Str×Str}(e:vp p=vp q):p=q:=by
 unfold vp at e
 injection e with e1 e2
 injection e2 with e2 _
 injection e1 with e1
 injection e2 with e2
 exact Prod.ext e1 e2
theorem Rep.Js{kvs:List ((Str×Str)×aq)}(r:Rep K H v (Jr kvs)):∃a ws,v=.ref a/\H a=some (.dT ws)/\ws.map (·.1)=kvs.map (λp=>vp p.1)/\dq K H (ws.map (·.2)) (kvs.map (·.2)):=by
 unfold Jr at r
 generalize e:kvs.map (λp=>(fX [.str p.1.1,.str p.1.2],p.2))=ds at r
 cases r with
 |dct h k t=>
  rename_i a ws
  exfalso
  cases ws with
  |nil=>simp at k
  |cons q ws=>
   rw[aR,aR]at k
   injection k with k1 _
   cases eq:q.1 with
   |inl i=>rw[eq]at k1;cases k1
   |inr x=>rw[eq]at k1;cases k1
 |SW h k t=>
  rename_i a ws
  refine⟨a,ws,rfl,h,?_,?_⟩
  ·have k2:ws.map (λp=>fX (p.1.map zh))=kvs.map λp=>fX [.str p.1.1,.str p.1.2]:=by rw[<-k,<-e,bA];rfl
   clear k t h e
   induction ws generalizing kvs with
   |nil=>cases kvs with|nil=>rfl|cons p l=>simp at k2
   |cons q ws ih=>
    cases kvs with
    |nil=>simp at k2
    |cons p l=>
     rw[aR,aR]at k2 ⊢
     injection k2 with h1 h2
     rw[ih h2]
     congr 1
     injection h1 with h1
     have one:∀(k:Key)(x:Str),zh k=.str x->k=.inr x:=λk x h=>by
      cases k with
      |inl i=>cases h
      |inr y=>injection h with h;rw[h]
     cases e0:q.1 with
     |nil=>rw[e0]at h1;cases h1
     |cons k1 l1=>
      rw[e0]at h1;rw[aR]at h1
      injection h1 with g1 g2
      cases l1 with
      |nil=>cases g2
      |cons k2 l2=>
       rw[aR]at g2
       injection g2 with g2 g3
       have:l2=[]:=by simpa using g3
       subst this;rw[one k1 _ g1,one k2 _ g2];rfl
  ·rw[<-e,bA]at t
   exact t
theorem Jt:∀{kvs:List ((Str×Str)×aq)}{ws:List (List Key×V)},ws.map (·.1)=kvs.map (λp=>vp p.1)->dq K H (ws.map (·.2)) (kvs.map (·.2))->∀k,CB K H (ja ws (vp k)) (jP kvs k)
 | [],ws,e,_,k=>by
  have:ws=[]:=by simpa using e
  subst this;exact fz
 |p::kvs,ws,e,r,k=>by
  cases ws with
  |nil=>simp at e
  |cons q ws=>
   rw[aR,aR]at e r
   injection e with e1 e2
   cases r with
   |cons r1 r2=>
    by_cases h:p.1=k
    ·rw[gj h,oS (by rw[e1,h])];exact r1
    ·rw[cY h,lK (λz=>h (CD (by rw[<-e1];exact z)))];exact Jt e2 r2 k
theorem Rep.Ju{fs:List (Str×aq)}(r:Rep K H v (L_ fs)):∃a C dx ws,v=.ref a/\H a=some (.ins C dx ws)/\Cb K C/\(∀f∈ws.map (·.1),fK K C f)/\ws.map (·.1)=fs.map (·.1)/\dq K H (ws.map (·.2)) (fs.map (·.2)):=by
 unfold L_ at r
 generalize e:fs.map (λp=>(aQ p.1,p.2))=ds at r
 cases r with
 |dct h k t=>
  rename_i a ws
  exfalso
  cases ws with
  |nil=>simp at k
  |cons q ws=>
   rw[aR,aR]at k
   injection k with k1 _
   cases eq:q.1 with
   |inl i=>rw[eq]at k1;cases k1
   |inr x=>rw[eq]at k1;cases k1
 |obj h c nn k t=>
  rename_i a C dx ws
  refine⟨a,C,dx,ws,rfl,h,c,nn,?_,?_⟩
  ·have k2:ws.map (λp=>aQ p.1)=fs.map λp=>aQ p.1:=by rw[<-k,<-e,bA];rfl
   clear k t h e nn
   induction ws generalizing fs with
   |nil=>cases fs with|nil=>rfl|cons p l=>simp at k2
   |cons q ws ih=>
    cases fs with
    |nil=>simp at k2
    |cons p l=>
     rw[aR,aR]at k2 ⊢
     injection k2 with h1 h2
     injection h1 with h1
     rw[ih h2,h1]
  ·rw[<-e,bA]at t
   exact t
theorem Jv:∀{fs:List (Str×aq)}{ws:List (Str×V)},ws.map (·.1)=fs.map (·.1)->dq K H (ws.map (·.2)) (fs.map (·.2))->∀k d,jP fs k=some d->∃u,ws.lookup k=some u/\k∈ws.map (·.1)/\Rep K H u d
 | [],ws,e,_,k,d,h=>by cases h
 |p::fs,ws,e,r,k,d,h=>by
  cases ws with
  |nil=>simp at e
  |cons q ws=>
   obtain⟨q1,q2⟩:=q;rw[aR,aR]at e r
   injection e with e1 e2
   have e1:q1=p.1:=e1;cases r with
   |cons r1 r2=>
    by_cases hk:p.1=k
    ·rw[gj hk]at h
     cases h;refine⟨q2,?_,?_,r1⟩
     ·rw[dP,e1,hk];simp
     ·rw[aR,e1,hk];exact aP
    ·rw[cY hk]at h
     obtain⟨u,h1,h2,h3⟩:=Jv e2 r2 k d h;refine⟨u,?_,aU _ h2,h3⟩
     rw[dP];have:(k==q1)=false:=by rw[beq_eq_false_iff_ne,e1];exact λz=>hk z.symm
     rw[this];exact h1
end
section
variable{X:Cx}{a b c e:cj}{δ:List Slot}{d d1 d2 d3:aq}{ds:List aq}{pos ap:Pos}{k:Nat}{kvs fs:List (Str×aq)}{Z2:List ((Str×Str)×aq)}{x y z:Str}
theorem P0(hr:fF k X.A):X.A.units+1<cLine:=by have:=hr.un;omega
theorem pU{f:Str}(h:VE X a δ (L_ fs))(hf:jP fs f=some d)(hb:attributeBase a f X.env (eval a X.env)=eval a X.env:=by rfl):VE X (.Attribute a f pos) δ d:=
 .of (xA dM hb) λB0 B σ H0 H Q fr q=>h B0 B σ H0 H _ fr λv H1 eC g r=>by
  obtain⟨p,C,dx,ws,rfl,hp,cl,nn,ke,rs⟩:=r.Ju;obtain⟨u,h1,h2,h3⟩:=Jv ke rs f d hf;exact⟨p,C,dx,ws,u,rfl,g.sub _ _ hp,cl,nn f h2,h1,q u H1 eC g h3⟩
theorem nY(hr:fF k X.A)(h1:VE X a δ (uD kvs))(h2:VE X b δ (.str x))(hx:jP kvs x=some d)(hs:Lx b:=by intro _ _;rfl):VE X (.Subscript a b pos) δ d:=
 .of (Lz (P0 hr) dM dM hs) λB0 B σ H0 H Q fr q=>h1 B0 B σ H0 H _ fr λv H1 eC g r=>h2 B0 B σ H1 eC _ (fr.grow g) λu H2 iT g2 r2=>by
  obtain⟨p,ws,rfl,hp,ke,rs⟩:=r.uE;cases r2;have o:=xW ke rs x;rw[hx]at o;obtain⟨w,hw,qz⟩:=o.some_of;refine⟨p,w,rfl,?_,q w H2 iT (g.trans g2) (qz.mono g2.gU)⟩
  rw[<-hw];exact qY.k (k:=.inr x) (g2.sub _ _ (g2.gU _ _ hp))
theorem Eg(hr:fF k X.A)(h2:VE X b δ (.str x))(h1:VE X a δ (uD kvs))(hm:behindInMarks .In a=false:=by with_unfolding_all rfl):VE X (.Compare b [.In] [a] pos) δ (.bool (jP kvs x).isSome):=
 .of (DQ (IX (P0 hr) dM dM) hm) λB0 B σ H0 H Q fr q=>h2 B0 B σ H0 H _ fr λu H1 eC g r2=>h1 B0 B σ H1 eC _ (fr.grow g) λv H2 iT g2 r=>by
  obtain⟨p,ws,rfl,hp,ke,rs⟩:=r.uE;cases r2;refine⟨p,ja ws (.inr x),rfl,qY.k (k:=.inr x) (g2.sub _ _ hp),q _ H2 iT (g.trans g2) ?_⟩
  rw[(xW ke rs x).isSome];exact .bl _
theorem Hj(hr:fF k X.A)(h2:VE X b δ (.str x))(h1:VE X a δ (uD kvs))(hm:behindInMarks .NotIn a=false:=by with_unfolding_all rfl):VE X (.Compare b [.NotIn] [a] pos) δ (.bool (!(jP kvs x).isSome)):=
 .of (DQ (G5 (P0 hr) dM dM) hm) λB0 B σ H0 H Q fr q=>h2 B0 B σ H0 H _ fr λu H1 eC g r2=>h1 B0 B σ H1 eC _ (fr.grow g) λv H2 iT g2 r=>by
  obtain⟨p,ws,rfl,hp,ke,rs⟩:=r.uE;cases r2;refine⟨p,ja ws (.inr x),rfl,qY.k (k:=.inr x) (g2.sub _ _ hp),q _ H2 iT (g.trans g2) ?_⟩
  rw[(xW ke rs x).isSome];exact .bl _
theorem Ma{x1}(hr:fF k X.A)(h1:VE X a δ (.str x))(h2:VE X b δ (.str y))(h3:VE X c δ (Jr Z2))(hm:behindInMarks .In c=false:=by with_unfolding_all rfl)
  (hs:starEach [a,b] X.env=(false,eval a X.env)::starEach [b] X.env:=by rfl)(qt:starEach [b] X.env=(false,eval b X.env)::starEach [] X.env:=by rfl):VE X (.Compare (.Tuple [a,b] x1 tp) [.In] [c] pos) δ (.bool (jP Z2 (x,y)).isSome):=
 .of (DQ (IX (P0 hr) (xC (dw dM (dw dM fM qt) hs)) dM) hm) λB0 B σ H0 H Q fr q=>h1 B0 B σ H0 H _ fr λv H1 eC g r1=>h2 B0 B σ H1 eC _ (fr.grow g) λu H2 iT g2 r2=>by
  cases r1;cases r2;refine⟨by show 2<=sizeLine;rw[cL];decide,λt ht=>?_⟩
  have g3:=(g.trans g2).trans (dU.loose (o:=HO.tup [.str x,.str y]) g2.sub ht);refine h3 B0 B σ H2 _ _ (fr.grow g3) λv H4 Xu g4 r=>?_
  obtain⟨p,ws,rfl,hp,ke,rs⟩:=r.Js;refine⟨p,ja ws (vp (x,y)),rfl,qY.t (k:=vp (x,y)) (g4.sub _ _ hp) (g4.big _ _ bK),q _ H4 Xu (g3.trans g4) ?_⟩
  rw[(Jt ke rs (x,y)).isSome];exact .bl _
end
section
variable{prog:bC}{w:cw}{A:dJ}{E:ay->aK->Prop}{s:aK}
theorem Tc:(bf l==eE)=false:=rfl
theorem Eh(hit:s.heap.IsTupleIter it l i)(hl:s.heap.IsTuple l items)(hx:items[i]?=some x)
  (hQ:∀h',h'.IsTupleIter it l (i+1)->jG it s.heap h'->Q x { s with heap:=h' }):wpAny (model prog w) A (c7 (.ref it)) Q E s:=by
 obtain⟨o,ho,hc,hd⟩:=id hit;obtain⟨ol,K2,Ik,nl,K3⟩:=hl;unfold c7;refine au (iZ (name:=nB "__next__") hit.typeIs jL (mR jL hit.typeIs B1 ?_ (AX _)))
 show wpAny _ _ (field (.ref it) 0 >>= _) _ _ s;refine au (er ho hd (x:=.ref l) rfl ?_)
 show wpAny _ _ (if(bf l==eE)=true then _ else _) _ _ s
 rw[qQ2 (by rw[Tc];decide)]
 show wpAny _ _ (field (.ref it) 1 >>= _) _ _ s;refine au (er ho hd (x:=.int i 0) rfl ?_)
 show wpAny _ _ (seqItems? (.ref l) >>= _) _ _ s;refine au (i_ K2 K3 ?_)
 simp only[eA,hx];refine au (lY ho hd (by simp) (aY ⟨x,rfl,aY (hQ _ ?_ (y4 ..))⟩))
 refine⟨_,fQ _ ho (jo (f6 hd _)),(Obj.cls_mapFields ..).trans hc,?_⟩
 rw[f6 hd];simp[rawInt]
theorem Hn(hh:A.handled=none)(hit:s.heap.IsTupleIter it l i)(hl:s.heap.IsTuple l items)(hx:items[i]?=none)
  (hE:∀h' e,c6.ExtBut it s.heap h'->(∃o,h'.get? e=some o/\o.cls=.type "StopIteration")->E (.ref e) { s with heap:=h' }):wpAny (model prog w) A (c7 (.ref it)) Q E s:=by
 obtain⟨o,ho,hc,hd⟩:=id hit;obtain⟨ol,K2,Ik,nl,K3⟩:=hl;unfold c7;refine au (iZ (name:=nB "__next__") hit.typeIs jL (mR jL hit.typeIs B1 ?_ (AX _)))
 show wpAny _ _ (field (.ref it) 0 >>= _) _ _ s;refine au (er ho hd (x:=.ref l) rfl ?_)
 show wpAny _ _ (if(bf l==eE)=true then _ else _) _ _ s
 rw[qQ2 (by rw[Tc];decide)]
 show wpAny _ _ (field (.ref it) 1 >>= _) _ _ s;refine au (er ho hd (x:=.int i 0) rfl ?_)
 show wpAny _ _ (seqItems? (.ref l) >>= _) _ _ s;refine au (i_ K2 K3 ?_)
 simp only[eA,hx];refine au (wZ (au (lY ho hd (by simp) ?_)))
 show wpAny _ _ (newExc (.type "StopIteration") [] >>= _) _ _ _;refine au ?_
 simp only[newExc,newTuple];refine au (eQ ?_ (by size_fits))
 refine au (m:=firstArgMember _ _) (wpAny_of_eq (a:=eE) (by first|rfl|(simp only[firstArgMember];rfl)) ?_)
 refine eQ ?_ (by size_fits)
 simp only[raiseNew];refine au (wpAny_handled ?_)
 first|rw[show A.in1.handled=none from hh]|rw[hh]
 refine au (aY (wpAny_throw ?_))
 exact hE _ _ (((y4 ..).extBut.push _).push _) ⟨_,bD _ rfl,rfl⟩
end
inductive Ei where|lst|tup
variable{k k1 k2:Ei}
def o6(k:Ei)(h:c6)(l:aL)(xs:Array ay):Prop:=match k with | .lst=>h.IsList l xs | .tup=>h.IsTuple l xs
def tE(k:Ei)(h:c6)(i l:aL)(n:Nat):Prop:=match k with | .lst=>h.IsListIter i l n | .tup=>h.IsTupleIter i l n
theorem tE.at{h': c6}{i: aL}{n:Nat}(x:tE k h i l n)(e:∀o,h.get? i=some o->h'.get? i=some o):tE k h' i l n:=by
 cases k with
 |lst=>obtain⟨o,a,r⟩:=(show h.IsListIter i l n from x);exact(⟨o,e o a,r⟩:h'.IsListIter i l n)
 |tup=>obtain⟨o,a,r⟩:=(show h.IsTupleIter i l n from x);exact(⟨o,e o a,r⟩:h'.IsTupleIter i l n)
theorem o6.at{h': c6}(x:o6 k h l xs)(e:∀o,h.get? l=some o->h'.get? l=some o):o6 k h' l xs:=by
 cases k with
 |lst=>obtain⟨o,a,r⟩:=(show h.IsList l xs from x);exact(⟨o,e o a,r⟩:h'.IsList l xs)
 |tup=>obtain⟨o,a,r⟩:=(show h.IsTuple l xs from x);exact(⟨o,e o a,r⟩:h'.IsTuple l xs)
theorem tE.get{i: aL}{n:Nat}(x:tE k h i l n):∃o,h.get? i=some o/\∀v,o.data≠.cell v:=by
 cases k with
 |lst=>obtain⟨o,a,_,d⟩:=(show h.IsListIter i l n from x);exact⟨o,a,λv z=>by rw[d]at z;cases z⟩
 |tup=>obtain⟨o,a,_,d⟩:=(show h.IsTupleIter i l n from x);exact⟨o,a,λv z=>by rw[d]at z;cases z⟩
theorem o6.get(x:o6 k h l xs):∃o,h.get? l=some o:=by
 cases k with
 |lst=>obtain⟨o,a,_⟩:=(show h.IsList l xs from x);exact⟨o,a⟩
 |tup=>obtain⟨o,a,_⟩:=(show h.IsTuple l xs from x);exact⟨o,a⟩
section
variable{prog:bC}{w:cw}{A:dJ}{E:ay->aK->Prop}{s:aK}
theorem next_item(hit:tE k s.heap it l i)(hl:o6 k s.heap l items)(hx:items[i]?=some x)
  (hQ:∀h',tE k h' it l (i+1)->jG it s.heap h'->Q x { s with heap:=h' }):wpAny (model prog w) A (c7 (.ref it)) Q E s:=by
 cases k with
 |lst=>exact wpAny_nextOf_list_item hit hl hx hQ
 |tup=>exact Eh hit hl hx hQ
theorem next_end(hh:A.handled=none)(hit:tE k s.heap it l i)(hl:o6 k s.heap l items)(hx:items[i]?=none)
  (hE:∀h' e,c6.ExtBut it s.heap h'->(∃o,h'.get? e=some o/\o.cls=.type "StopIteration")->E (.ref e) { s with heap:=h' }):wpAny (model prog w) A (c7 (.ref it)) Q E s:=by
 cases k with
 |lst=>exact wpAny_nextOf_list_end hh hit hl hx hE
 |tup=>exact Hn hh hit hl hx hE
structure Zp(k1 k2:Ei)(h:c6)(z TI TO i1 i2 l1 l2:aL)(f0:ay)(a b:ay)(n1 n2:Nat)(xs ys:Array ay):Prop where
 hz:B2 h z TI TO f0
 hTI:qM h TI (.ref i1) (.ref i2)
 hTO:qM h TO a b
 h1:tE k1 h i1 l1 n1
 h2:tE k2 h i2 l2 n2
 s1:o6 k1 h l1 xs
 s2:o6 k2 h l2 ys
theorem Ho{z TI TO i1 i2: aL}{n1 n2:Nat}{y a b: ay}{Q:Option ay->aK->Prop}(D:ZipApart z TI TO i1 i2 l1 l2)(Z:Zp k1 k2 s.heap z TI TO i1 i2 l1 l2 .none a b n1 n2 xs ys)(hx:xs[n1]?=some x)(hy:ys[n2]?=some y)
  (hQ:∀h',Zp k1 k2 h' z TI TO i1 i2 l1 l2 (rawInt s.heap.objs.size) x y (n1+1) (n2+1) xs ys->qM h' s.heap.objs.size x y->(∀c o,c≠z->c≠TO->c≠i1->c≠i2->s.heap.get? c=some o->h'.get? c=some o)->Q (some (.ref s.heap.objs.size)) { s with heap:=h' }):
  wpAny (model prog w) A (pyNext (.ref z)) Q E s:=by
 obtain⟨hz,hTI,hTO,h1,h2,s1,s2⟩:=Z;have hT:s.TypeIs (.ref z) "zip":=⟨_,hz,rfl⟩;unfold pyNext;refine au (wG (iZ (name:=nB "__next__") hT sE (mR sE hT F.entry_zip_next ?_ (F.args_zip_next_1 _))))
 show wpAny _ _ (field (.ref z) 2 >>= _) _ _ _;refine au (er hz rfl (x:=.bool false) rfl ?_)
 show wpAny _ _ (field (.ref z) 3 >>= _) _ _ _;refine au (er hz rfl (x:=.ref TI) rfl (au (i_ hTI rfl ?_)))
 show wpAny _ _ (fV (.ref z) >>= _) _ _ _;refine au ?_
 unfold fV;refine au (er hz rfl (x:=.none) rfl (aY ?_))
 simp only[if_true];refine au (wZ (au (er hz rfl (x:=.ref TO) rfl (au (jq hz (by simp) λha NW sa=>?_)))))
 replace NW:B2 ha z TI TO .ellipsis:=NW
 refine au ?_
 simp only[lS,List.zipIdx_nil,yM,List.forIn_nil];refine au (au (qN ?_))
 show wpAny _ _ (c7 (.ref i1) >>= _) _ _ _;refine au (next_item (h1.at λo e=>sa.extBut _ o D.i1z e) (s1.at λo e=>sa.extBut _ o D.l1z e) hx λhb Z3 sb=>aY ?_)
 have tb:qM hb TO a b:=sb.extBut _ _ D.TOi1 (sa.extBut _ _ D.TOz hTO);refine au (i_ tb rfl (au (u9 tb λhc tc sc=>?_)))
 replace tc:qM hc TO x b:=tc
 refine au (B3 (aY (au (au (qN ?_)))))
 show wpAny _ _ (c7 (.ref i2) >>= _) _ _ _;refine au (next_item (h2.at λo e=>sc.extBut _ o D.TOi2.symm (sb.extBut _ o D.i12.symm (sa.extBut _ o D.i2z e))) (s2.at λo e=>sc.extBut _ o D.l2TO (sb.extBut _ o D.l2i1 (sa.extBut _ o D.l2z e))) hy λhd h2d sd=>aY ?_)
 have td:qM hd TO x b:=sd.extBut _ _ D.TOi2 tc;refine au (i_ td rfl (au (u9 td λhe te se=>?_)))
 replace te:qM he TO x y:=te
 refine au (B3 (aY (aY (au (i_ te rfl (au (wpAny_newTuple ?_)))))))
 have hsz:he.objs.size=s.heap.objs.size:=by rw[se.1,sd.1,sc.1,sb.1,sa.1]
 have kp:∀c o,c≠z->c≠TO->c≠i1->c≠i2->s.heap.get? c=some o->he.get? c=some o:=λc o c1 c2 c3 c4 e=>se.extBut _ _ c2 (sd.extBut _ _ c4 (sc.extBut _ _ c2 (sb.extBut _ _ c3 (sa.extBut _ _ c1 e))))
 have ze:B2 he z TI TO .ellipsis:=se.extBut _ _ D.TOz.symm (sd.extBut _ _ D.i2z.symm (sc.extBut _ _ D.TOz.symm (sb.extBut _ _ D.i1z.symm NW)));have h1e:tE k1 he i1 l1 (n1+1):=Z3.at λo e=>se.extBut _ o D.TOi1.symm (sd.extBut _ o D.i12 (sc.extBut _ o D.TOi1.symm e))
 have h2e:tE k2 he i2 l2 (n2+1):=h2d.at λo e=>se.extBut _ o D.TOi2.symm e
 show wpAny _ _ (nG (.ref z) (.ref he.objs.size) >>= _) _ _ _;refine au ?_
 unfold nG;have zf:B2 (he.push { cls:=.type "tuple",data:=.seq #[x,y] }) z TI TO .ellipsis:=aA _ ze;refine au (jq zf (by simp) λhg zg sg=>?_)
 replace zg:B2 hg z TI TO (rawInt he.objs.size):=zg
 refine jq zg (by simp) λhi zi si=>?_
 replace zi:B2 hi z TI TO (rawInt he.objs.size):=zi
 have up:∀c o,c≠z->he.get? c=some o->hi.get? c=some o:=λc o c1 e=>si.extBut _ _ c1 (sg.extBut _ _ c1 (aA _ e))
 have ti:qM hi he.objs.size x y:=si.extBut _ _ (eT (aW ze)) (sg.extBut _ _ (eT (aW ze)) (bD _ rfl));rw[hsz]at zi ti;refine aY ⟨_,rfl,?_⟩
 show wpAny _ _ (pure (some (bf he.objs.size))) _ _ _;rw[hsz];refine aY (hQ hi ⟨zi,up _ _ D.TIz (kp _ _ D.TIz D.TITO D.TIi1 D.TIi2 hTI),up _ _ D.TOz te,h1e.at λo e=>up _ o D.i1z e,h2e.at λo e=>up _ o D.i2z e,s1.at λo e=>up _ o D.l1z (kp _ o D.l1z D.l1TO D.l1i1 D.l1i2 e),s2.at λo e=>up _ o D.l2z (kp _ o D.l2z D.l2TO D.l2i1 D.l2i2 e)⟩ ti λc o c1 c2 c3 c4 e=>up c o c1 (kp c o c1 c2 c3 c4 e))
theorem Jw{z TI TO i1 i2: aL}{n1 n2:Nat}{a b:ay}{Q:Option ay->aK->Prop}(hh:A.handled=none)(D:ZipApart z TI TO i1 i2 l1 l2)(Z:Zp k1 k2 s.heap z TI TO i1 i2 l1 l2 .none a b n1 n2 xs ys)(Mb:xs[n1]?=none\/ys[n2]?=none)
  (hQ:∀h',(∀c o,c≠z->c≠TO->c≠i1->c≠i2->s.heap.get? c=some o->h'.get? c=some o)->Q none { s with heap:=h' }):wpAny (model prog w) A (pyNext (.ref z)) Q E s:=by
 obtain⟨hz,hTI,hTO,h1,h2,s1,s2⟩:=Z;have hT:s.TypeIs (.ref z) "zip":=⟨_,hz,rfl⟩;have fin:∀h' e,(∀c o,c≠z->c≠TO->c≠i1->c≠i2->s.heap.get? c=some o->h'.get? c=some o)->(∃o,h'.get? e=some o/\o.cls=.type "StopIteration")->wpAny (model prog w) A (do if <-isInstance (.ref e) (.type "StopIteration")then pure none else throw (.ref e)) Q E { s with heap:=h' }:=by
  intro h' e hk ⟨o,ho,hc⟩;exact au (wpAny_isInstance (T:="StopIteration") (b:=true) (s:={ s with heap:=h' }) ⟨o,ho,hc⟩ isSubtype_stop (aY (hQ _ hk)))
 unfold pyNext;refine au (wG (iZ (name:=nB "__next__") hT sE (mR sE hT F.entry_zip_next ?_ (F.args_zip_next_1 _))))
 show wpAny _ _ (field (.ref z) 2 >>= _) _ _ _;refine au (er hz rfl (x:=.bool false) rfl ?_)
 show wpAny _ _ (field (.ref z) 3 >>= _) _ _ _;refine au (er hz rfl (x:=.ref TI) rfl (au (i_ hTI rfl ?_)))
 show wpAny _ _ (fV (.ref z) >>= _) _ _ _;refine au ?_
 unfold fV;refine au (er hz rfl (x:=.none) rfl (aY ?_))
 simp only[if_true];refine au (wZ (au (er hz rfl (x:=.ref TO) rfl (au (jq hz (by simp) λha NW sa=>?_)))))
 replace NW:B2 ha z TI TO .ellipsis:=NW
 refine au ?_
 simp only[lS,List.zipIdx_nil,yM,List.forIn_nil];refine au (au (qN ?_))
 show wpAny _ _ (c7 (.ref i1) >>= _) _ _ _;cases hx:xs[n1]? with
 |none=>
  refine au (next_end hh (h1.at λo e=>sa.extBut _ o D.i1z e) (s1.at λo e=>sa.extBut _ o D.l1z e) hx λhb e sb he=>?_)
  obtain⟨oe,P1,Td⟩:=he;have zb:B2 hb z TI TO .ellipsis:=sb _ _ D.i1z.symm NW;have ne:e≠z:=λx=>by subst x;rw[zb]at P1;cases P1;simp at Td
  exact jq zb (by simp) λhc _ sc=>fin hc e (λc o c1 _ c3 _ x=>sc.extBut _ _ c1 (sb _ _ c3 (sa.extBut _ _ c1 x))) ⟨oe,sc.extBut _ _ ne P1,Td⟩
 |some x=>
  have hy:ys[n2]?=none:=by
   rcases Mb with h|h
   ·rw[hx]at h;cases h
   ·exact h
  refine au (next_item (h1.at λo e=>sa.extBut _ o D.i1z e) (s1.at λo e=>sa.extBut _ o D.l1z e) hx λhb Z3 sb=>aY ?_)
  have tb:qM hb TO a b:=sb.extBut _ _ D.TOi1 (sa.extBut _ _ D.TOz hTO);refine au (i_ tb rfl (au (u9 tb λhc tc sc=>?_)))
  refine au (B3 (aY (au (au (qN ?_)))))
  show wpAny _ _ (c7 (.ref i2) >>= _) _ _ _;refine au (next_end hh (h2.at λo e=>sc.extBut _ o D.TOi2.symm (sb.extBut _ o D.i12.symm (sa.extBut _ o D.i2z e))) (s2.at λo e=>sc.extBut _ o D.l2TO (sb.extBut _ o D.l2i1 (sa.extBut _ o D.l2z e))) hy λhd e sd he=>?_)
  obtain⟨oe,P1,Td⟩:=he;have zd:B2 hd z TI TO .ellipsis:=sd _ _ D.i2z.symm (sc.extBut _ _ D.TOz.symm (sb.extBut _ _ D.i1z.symm NW));have ne:e≠z:=λx=>by subst x;rw[zd]at P1;cases P1;simp at Td
  exact jq zd (by simp) λhg _ sg=>fin hg e (λc o c1 c2 c3 c4 x=>sg.extBut _ _ c1 (sd _ _ c4 (sc.extBut _ _ c2 (sb.extBut _ _ c3 (sa.extBut _ _ c1 x))))) ⟨oe,sg.extBut _ _ ne P1,Td⟩
def qu(k:Ei)(l:aL):Obj:=match k with | .lst=>{ cls:=.type "list_iterator",data:=.fields #[.ref l,.int 0 0] } | .tup=>{ cls:=.type "tuple_iterator",data:=.fields #[.ref l,.int 0 0] }
theorem F3(hl:o6 k s.heap l xs)(h:Q (.ref s.heap.objs.size) { s with heap:=s.heap.push (qu k l) }):wpAny (model prog w) A (pyIter (.ref l)) Q E s:=by
 cases k with
 |lst=>exact qD hl h
 |tup=>exact w8 hl h
def DF(k1 k2:Ei)(h:c6)(l1 l2:aL):c6:=(h.push (qu k1 l1)).push (qu k2 l2)
def Xv(k1 k2:Ei)(h:c6)(l1 l2:aL):c6:=(((DF k1 k2 h l1 l2).push { cls:=.type "tuple",data:=.seq #[.ref h.objs.size,.ref (h.push (qu k1 l1)).objs.size] }).push { cls:=.type "tuple",data:=.seq #[.none,.none] }).push
 { cls:=.type "zip",data:=.fields #[.none,.bool false,.bool false,.ref (DF k1 k2 h l1 l2).objs.size,.ref ((DF k1 k2 h l1 l2).push { cls:=.type "tuple",data:=.seq #[.ref h.objs.size,.ref (h.push (qu k1 l1)).objs.size] }).objs.size] }
theorem o6.push(x:o6 k h l xs)(o:Obj):o6 k (h.push o) l xs:=x.at λ_ e=>aA _ e
theorem Ej(k1 k2:Ei)(l1 l2:aL)(xs ys:Array ay):Meets (oO.«zip.__new__» ⟨[.type "zip",.ref l1,.ref l2],[]⟩) (λ_ R s=>o6 k1 s.heap l1 xs/\o6 k2 s.heap l2 ys/\
  R (.ok (.ret (.ref (((DF k1 k2 s.heap l1 l2).push { cls:=.type "tuple",data:=.seq #[.ref s.heap.objs.size,.ref (s.heap.push (qu k1 l1)).objs.size] }).push { cls:=.type "tuple",data:=.seq #[.none,.none] }).objs.size))) { s with heap:=Xv k1 k2 s.heap l1 l2 }):=
 .of_wp λprog w A R s h=>by
  obtain⟨hp,g,d,tk,os⟩:=s;obtain⟨P2,P4,h⟩:=h;have LJ:=sub_zip;have a1:o6 k1 (aK.heap ⟨hp,g,d,tk,os⟩) l1 xs:=P2;have a2:o6 k2 (aK.heap ⟨hp.push (qu k1 l1),g,d,tk,os⟩) l2 ys:=P4.push _
  wp_walk using F3 a1,F3 a2
  exact⟨_,rfl,h⟩
theorem CF{i: aL}(e:h.get? i=some (qu k l)):tE k h i l 0:=by
 cases k with
 |lst=>exact(⟨_,e,rfl,rfl⟩:h.IsListIter i l 0)
 |tup=>exact(⟨_,e,rfl,rfl⟩:h.IsTupleIter i l 0)
theorem xX(k:Ei)(l:aL):(qu k l).isFreed=false:=by cases k<;>rfl
theorem Hq(P2:o6 k1 s.heap l1 xs)(P4:o6 k2 s.heap l2 ys)
  (h:∀h',Zp k1 k2 h' (s.heap.objs.size+4) (s.heap.objs.size+2) (s.heap.objs.size+3) s.heap.objs.size (s.heap.objs.size+1) l1 l2 .none .none .none 0 0 xs ys->(∀c o,s.heap.get? c=some o->h'.get? c=some o)->Q (.ref (s.heap.objs.size+4)) { s with heap:=h' }):
  wpAny (model prog w) A (call (.type "zip") [.ref l1,.ref l2]) Q E s:=by
 refine callType_new F.called_zip (by decide) (F.typeCall_zip_2 _ _) (F.newCall_zip_2 _ _) (λobj=>F.args_object_init_3 obj _ _) F.entry_zip_new (Ej k1 k2 l1 l2 xs ys) ⟨P2,P4,?_⟩
 have z1:(s.heap.push (qu k1 l1)).objs.size=s.heap.objs.size+1:=fA ..;have z2:(DF k1 k2 s.heap l1 l2).objs.size=s.heap.objs.size+2:=by unfold DF;rw[fA,z1]
 generalize hT:({ cls:=.type "tuple",data:=.seq #[.ref s.heap.objs.size,.ref (s.heap.push (qu k1 l1)).objs.size] }:Obj)=tI
 generalize Xw:({ cls:=.type "tuple",data:=.seq #[.none,.none] }:Obj)=tO
 have z3:((DF k1 k2 s.heap l1 l2).push tI).objs.size=s.heap.objs.size+3:=by rw[fA,z2]
 have z4:(((DF k1 k2 s.heap l1 l2).push tI).push tO).objs.size=s.heap.objs.size+4:=by rw[fA,z3]
 have fI:tI.isFreed=false:=by rw[<-hT];rfl
 have fO:tO.isFreed=false:=by rw[<-Xw];rfl
 have eq:Xv k1 k2 s.heap l1 l2=(((DF k1 k2 s.heap l1 l2).push tI).push tO).push { cls:=.type "zip",data:=.fields #[.none,.bool false,.bool false,.ref (s.heap.objs.size+2),.ref (s.heap.objs.size+3)] }:=by
  unfold Xv;rw[hT,Xw,z2,z3]
 rw[eq,z4];have g5:((((DF k1 k2 s.heap l1 l2).push tI).push tO).push { cls:=.type "zip",data:=.fields #[.none,.bool false,.bool false,.ref (s.heap.objs.size+2),.ref (s.heap.objs.size+3)] }).get? (s.heap.objs.size+4)=some { cls:=.type "zip",data:=.fields #[.none,.bool false,.bool false,.ref (s.heap.objs.size+2),.ref (s.heap.objs.size+3)] }:=by
  rw[<-z4];exact bD _ rfl
 have Z4:∀c o,((DF k1 k2 s.heap l1 l2).push tI).get? c=some o->((((DF k1 k2 s.heap l1 l2).push tI).push tO).push { cls:=.type "zip",data:=.fields #[.none,.bool false,.bool false,.ref (s.heap.objs.size+2),.ref (s.heap.objs.size+3)] }).get? c=some o:=λc o e=>aA _ (aA _ e)
 have Te:∀c o,(DF k1 k2 s.heap l1 l2).get? c=some o->_:=λc o e=>Z4 c o (aA _ e)
 have Xx:∀c o,s.heap.get? c=some o->(DF k1 k2 s.heap l1 l2).get? c=some o:=λc o e=>aA _ (aA _ e)
 refine⟨⟨_,g5,rfl⟩,h _ ⟨g5,?_,?_,?_,?_,?_,?_⟩ λc o e=>Te c o (Xx c o e)⟩
 ·refine Z4 _ _ ?_
  rw[<-z2];have:=bD (DF k1 k2 s.heap l1 l2) fI;rw[this,<-hT,z1]
 ·refine aA _ ?_
  rw[<-z3];have:=bD ((DF k1 k2 s.heap l1 l2).push tI) fO;rw[this,<-Xw]
 ·exact CF (Te _ _ (aA _ (bD _ (xX k1 l1))))
 ·refine CF (Te _ _ ?_)
  have:=bD (s.heap.push (qu k1 l1)) (xX k2 l2);rw[z1]at this;exact this
 ·exact P2.at λo e=>Te _ o (Xx _ o e)
 ·exact P4.at λo e=>Te _ o (Xx _ o e)
end
def F4(k:Ei)(K:ao)(H:Hp)(a:aL)(xs:List V):Prop:=match k with | .lst=>lg K H a xs | .tup=>qp K H a xs
theorem Inv.sq{σ:St}{xs:List V}(I:Inv X pins σ H s)(h:F4 k X.K H a xs):∃its,ez xs its/\o6 k s.heap a its.toArray/\xs.length<=sizeLine:=by
 cases k with
 |lst=>obtain⟨its,r,p,z⟩:=I.list h;exact⟨its,r,p.isList,z⟩
 |tup=>obtain⟨its,r,p,z⟩:=I.tuple h;exact⟨its,r,(show s.heap.IsTuple a its.toArray from p),z⟩
theorem Inv.Jx{σ:St}{xs ys:List V}(I:Inv X pins σ H s)(h:F4 k X.K H a xs)(h':F4 k X.K H a ys):xs=ys:=by
 cases k with
 |lst=>exact I.xq h h'
 |tup=>exact I.zJ h h'
theorem ej.NX{H': Hp}{xs:List V}(e:ej H H')(h:F4 k K H a xs):F4 k K H' a xs:=by
 cases k with
 |lst=>exact e.seq h
 |tup=>exact e.pN h
def Z5(k1 k2:Ei)(K:ao)(a b:aL):It:=
 ⟨λi H=>∃xs x ys y,F4 k1 K H a xs/\xs[i]?=some x/\F4 k2 K H b ys/\ys[i]?=some y,
  λi H v H'=>∃t x y,v=.ref t/\H t=none/\H'=upd H t (.tup [x,y])/\(∀xs,F4 k1 K H a xs->xs[i]?=some x)/\∀ys,F4 k2 K H b ys->ys[i]?=some y,
  λi H=>∃xs ys,F4 k1 K H a xs/\F4 k2 K H b ys/\(xs.length<=i\/ys.length<=i)⟩
theorem Jy{P:bC}{w:cw}{kk}{z TI TO i1 i2: aL}(D:ZipApart z TI TO i1 i2 l1 l2):
  Turn P w K (.Tuple elts kk tp) (Z5 k1 k2 K l1 l2) [z,TI,TO,i1,i2] z (λi h=>B2 h z TI TO .none/\qM h TI (.ref i1) (.ref i2)/\(∃a b,qM h TO a b)/\tE k1 h i1 l1 i/\tE k2 h i2 l2 i) where
 mem:=by simp
 obj:=λi h st b hb=>by
  obtain⟨hz,hTI,⟨a,c,hTO⟩,h1,h2⟩:=st;simp only[aG,bP,or_false]at hb;rcases hb with rfl|rfl|rfl|rfl|rfl
  ·exact⟨_,hz,λv z=>by cases z⟩
  ·exact⟨_,hTI,λv z=>by cases z⟩
  ·exact⟨_,hTO,λv z=>by cases z⟩
  ·exact h1.get
  ·exact h2.get
 keep:=λi h h' st kp=>by
  obtain⟨hz,hTI,⟨a,c,hTO⟩,h1,h2⟩:=st;exact⟨kp z (by simp) _ hz,kp TI (by simp) _ hTI,⟨a,c,kp TO (by simp) _ hTO⟩,h1.at λo e=>kp i1 (by simp) o e,h2.at λo e=>kp i2 (by simp) o e⟩
 item:=by
  intro X hP hw hK hc i pins s σ H E I hf st hg;subst hP hw hK;obtain⟨hz,hTI,⟨a,c,hTO⟩,h1,h2⟩:=st;obtain⟨xs,x,ys,y,Jz,hx,Eb,hy⟩:=hg;obtain⟨its,rv,p1,_⟩:=I.sq Jz;obtain⟨Z6,Vg,p2,_⟩:=I.sq Eb;obtain⟨u,hu,ru⟩:=rv.get hx;obtain⟨u2,hu2,Q8⟩:=Vg.get hy;refine Ho D ⟨hz,hTI,hTO,h1,h2,p1,p2⟩ (x:=u) (y:=u2) (by simpa using hu) (by simpa using hu2) λha Z ht hk=>?_
  obtain⟨az,aTI,aTO,a1,a2,_,_⟩:=Z;refine⟨.ref s.heap.objs.size,rfl,wpAny_letOwnedTupleGo_zip az λhb bz sb=>?_⟩
  have Z7:z<s.heap.objs.size:=aW hz;have k2:∀b o,b∉[z,TI,TO,i1,i2]->s.heap.get? b=some o->hb.get? b=some o:=λb o nb q=>by
   have n1:b≠z:=λe=>nb (by simp[e])
   have n2:b≠TO:=λe=>nb (by simp[e])
   have n3:b≠i1:=λe=>nb (by simp[e])
   have n4:b≠i2:=λe=>nb (by simp[e])
   exact(sb.2 b n1).trans (hk b o n1 n2 n3 n4 q)
  have I2:Inv X pins σ H { s with heap:=hb,toks:=s.toks }:=I.wM k2 hf
  have Q5:qM hb s.heap.objs.size u u2:=(sb.2 _ (eT Z7)).trans ht;have fT:uj X pins H s.heap.objs.size:=I.y8 (aD _) I.fresh;have I3:Inv X pins σ (upd H s.heap.objs.size (.tup [x,y])) { s with heap:=hb,toks:=s.toks }:=
   I2.track fT ⟨by show 2<=sizeLine;rw[cL];decide,[u,u2],.cons ru (.cons Q8 .nil),⟨_,Q5,rfl,_,rfl⟩⟩
  have up:∀b o,b≠z->ha.get? b=some o->hb.get? b=some o:=λb o nb q=>(sb.2 b nb).trans q
  refine⟨.ref s.heap.objs.size,_,I3,rfl,⟨_,x,y,rfl,I.fresh,rfl,λzs Xy=>by rw[I.Jx Xy Jz];exact hx,λzs Xy=>by rw[I.Jx Xy Eb];exact hy⟩,⟨bz,up _ _ D.TIz aTI,⟨_,_,up _ _ D.TOz aTO⟩,a1.at λo q=>up _ o D.i1z q,a2.at λo q=>up _ o D.i2z q⟩,λb Tf=>?_⟩
  have rS:b<s.heap.objs.size:=by
   simp only[aG,bP,or_false]at Tf;rcases Tf with rfl|rfl|rfl|rfl|rfl
   ·exact Z7
   ·exact aW hTI
   ·exact aW hTO
   ·obtain⟨o,q,_⟩:=h1.get;exact aW q
   ·obtain⟨o,q,_⟩:=h2.get;exact aW q
  rw[aS (a_ rS)];exact(hf b Tf).1
 done:=by
  intro X hP hw hK hc i pins s σ H E I hf st hg;subst hP hw hK;obtain⟨hz,hTI,⟨a,c,hTO⟩,h1,h2⟩:=st;obtain⟨xs,ys,Jz,Eb,hx⟩:=hg;obtain⟨its,rv,p1,_⟩:=I.sq Jz;obtain⟨Z6,Vg,p2,_⟩:=I.sq Eb;have e1:=rv.length;have e2:=Vg.length;refine Jw (I.ok.hd hc) D ⟨hz,hTI,hTO,h1,h2,p1,p2⟩ ?_ λh' hk=>⟨rfl,I.wM (ch:=[z,TI,TO,i1,i2]) (t':=s.toks) (λb o hb q=>hk b o (λe=>hb (by simp[e])) (λe=>hb (by simp[e])) (λe=>hb (by simp[e])) (λe=>hb (by simp[e])) q) hf⟩
  rcases hx with hx|hx
  ·left;simp;omega
  ·right;simp;omega
 self:=λ_ _ _ _ _ st h=>wpAny_pyIter_zip st.1 h
def Xz(k1 k2:Ei)(K:ao)(ta:TA):TI:=λσ H R=>ta σ H λvs H1=>∃a b,vs=[.ref a,.ref b]/\(∃xs,F4 k1 K H1 a xs)/\(∃ys,F4 k2 K H1 b ys)/\R (Z5 k1 k2 K a b) H1
theorem boot_zip:bootBuiltins "zip"=some (.type "zip"):=rfl
theorem P5{a b:cj}{ta:TA}{p pos: Pos}{kk}(k1 k2:Ei)(hg:Gl X "zip")(hm:X.mg "zip"=none)(ha:PA X [a,b] ta)(hs:starEach [a,b] X.env=[(false,eval a X.env),(false,eval b X.env)]:=by rfl)(qt:starEach [b] X.env=[(false,eval b X.env)]:=by rfl):
  PI X (.Tuple elts kk tp) (.Call (.Name "zip" p) [a,b] [] pos) (Xz k1 k2 X.K ta):=by
 intro pins s σ H R I h;refine Call_ (vb I hg hm boot_zip (iR (fS (ha pos pins s σ H _ I h) λus s1 ⟨vs,H1,I1,r1,q1⟩=>?_) (by rw[hs,qt]) (by rw[qt];rfl)))
 obtain⟨l1,l2,e,⟨xs,Jz⟩,⟨ys,Eb⟩,q⟩:=q1;subst e;obtain⟨u,u2,rfl,rx,rx2⟩:=vals2 r1;cases rx;cases rx2;obtain⟨its,rv,p1,_⟩:=I1.sq Jz;obtain⟨Z6,Vg,p2,_⟩:=I1.sq Eb;obtain⟨o1,e1⟩:=p1.get;obtain⟨o2,e2⟩:=p2.get;have Vh:=aW e1;have Vi:=aW e2;refine Hq p1 p2 λh' Z hk=>wpAny_pyIter_zip Z.hz ?_
 have I2:Inv X pins σ H1 { s1 with heap:=h' }:=I1.kept (t':=s1.toks) hk
 have D:ZipApart (s1.heap.objs.size+4) (s1.heap.objs.size+2) (s1.heap.objs.size+3) s1.heap.objs.size (s1.heap.objs.size+1) l1 l2:=by
  constructor
  ·exact a_ (iQ (by decide) _)
  ·exact a_ (iQ (by decide) _)
  ·exact a_ (qx (by decide))
  ·exact a_ (iQ (by decide) _)
  ·exact a_ (iQ (by decide) _)
  ·exact eT (qx (by decide))
  ·exact eT (iQ (by decide) _)
  ·exact eT (qx (by decide))
  ·exact eT (iQ (by decide) _)
  ·exact a_ (jK _)
  ·exact a_ (bF Vh (fj _ _))
  ·exact a_ (bF Vh (fj _ _))
  ·exact a_ Vh
  ·exact a_ (bF Vh (fj _ _))
  ·exact a_ (bF Vi (fj _ _))
  ·exact a_ (bF Vi (fj _ _))
  ·exact a_ Vi
  ·exact a_ (bF Vi (fj _ _))
 refine⟨_,[s1.heap.objs.size+4,s1.heap.objs.size+2,s1.heap.objs.size+3,s1.heap.objs.size,s1.heap.objs.size+1],_,_,H1,rfl,I2,Jy D,⟨Z.hz,Z.hTI,⟨_,_,Z.hTO⟩,Z.h1,Z.h2⟩,λb hb=>?_,q⟩
 have hle:s1.heap.objs.size<=b:=by
  simp only[aG,bP,or_false]at hb;rcases hb with rfl|rfl|rfl|rfl|rfl
  ·exact fj _ _
  ·exact fj _ _
  ·exact fj _ _
  ·exact aD _
  ·exact fj _ _
 exact I1.y8 hle (I1.hok.fresh hle)
def xY(ds es:List aq):List aq:=(ds.zip es).map λp=>.tuple [p.1,p.2]
theorem vR(ds es:List aq):(xY ds es).length=min ds.length es.length:=by simp[xY]
theorem JA{es: List aq}{d:aq}(h:(xY ds es)[i]?=some d):∃x y,ds[i]?=some x/\es[i]?=some y/\d=.tuple [x,y]:=by
 unfold xY at h;rw[aT]at h;cases e:(ds.zip es)[i]? with
 |none=>rw[e]at h;cases h
 |some p=>
  rw[e]at h;cases h;rw[List.getElem?_zip_eq_some]at e
  exact⟨_,_,e.1,e.2,rfl⟩
def P6(k:Ei)(ds:List aq):aq:=match k with | .lst=>.list ds | .tup=>.tuple ds
theorem Rep.NX{v:V}(r:Rep K H v (P6 k ds)):∃a xs,v=.ref a/\F4 k K H a xs/\dq K H xs ds:=by
 cases k with
 |lst=>cases(show Rep K H v (.list ds)from r)with|lst h t=>exact⟨_,_,rfl,h,t⟩
 |tup=>cases(show Rep K H v (.tuple ds)from r)with|tup h t=>exact⟨_,_,rfl,h,t⟩
theorem Ek{a b:cj}{δ:List Slot}{es: List aq}{p pos: Pos}{kk}(k1 k2:Ei)(h1:VE X a δ (P6 k1 ds))(h2:VE X b δ (P6 k2 es))(hm:X.mg "zip"=none)(hg:Gl X "zip":=by rfl)(hs:starEach [a,b] X.env=(false,eval a X.env)::starEach [b] X.env:=by rfl)(qt:starEach [b] X.env=(false,eval b X.env)::starEach [] X.env:=by rfl)(hn:starEach [] X.env=[]:=by rfl):
  VI X (.Tuple elts kk tp) (.Call (.Name "zip" p) [a,b] [] pos) δ (xY ds es):=
 ⟨_,P5 k1 k2 hg hm (dw dM (dw dM fM qt) hs) (by rw[hs,qt,hn]) (by rw[qt,hn]),λB0 B σ H0 H R f q=>h1 B0 B σ H0 H _ f λv H1 eC g r1=>h2 B0 B σ H1 eC _ (f.grow g) λu H2 iT g2 r2=>by
  obtain⟨a1,xs,rfl,Jz,Tg⟩:=r1.NX;obtain⟨a2,ys,rfl,Eb,Q9⟩:=r2.NX;have Tg:=Tg.mono g2.gU;have Jz:=g2.gU.NX Jz;refine⟨a1,a2,rfl,⟨_,g2.sub.NX Jz⟩,⟨_,g2.sub.NX Eb⟩,q _ H2 iT (g.trans g2) λHa Hb s1 s2 i=>?_⟩
  have l1:=Tg.length;have l2:=Q9.length;have XA:=(s1.trans s2).NX Jz;have XB:=(s1.trans s2).NX Eb;refine⟨λhi=>?_,λhi=>⟨_,_,XA,XB,by rw[vR]at hi;omega⟩,λx yS d hd ⟨t,x1,y1,e1,e2,e3,e4,e5⟩=>?_⟩
  ·rw[vR]at hi
   obtain⟨x,hx,_⟩:=Tg.get (i:=i) (d:=ds[i]'(by omega)) (by simp)
   obtain⟨y,hy,_⟩:=Q9.get (i:=i) (d:=es[i]'(by omega)) (by simp)
   exact⟨_,x,_,y,XA,hx,XB,hy⟩
  ·obtain⟨dx,dy,hx,hy,rfl⟩:=JA hd
   subst e1;subst e3;refine⟨upd Ha t (.tup [x1,y1]),.laid s2 e2,.tup (qp.of bK) (.cons ?_ (.cons ?_ .nil))⟩
   ·exact((Tg.mono s1).at hx (e4 _ XA)).mono (dU.laid s2 e2).gU
   ·exact((Q9.mono s1).at hy (e5 _ XB)).mono (dU.laid s2 e2).gU⟩
end L2
namespace L2
open PySem PySem.Spec PyProof.Rows
open AutoSeq1 (wpAny_loadPart')
theorem Hr(l:aL)(items:Array ay)(n:Nat)(dd:Option aL)(sl:Array (Option ay))(x:ay)(e:ay->Bool)(i j:Nat)(t:Tok)(zM:i<=j)(hj:j<items.size)(P7:(j:Int)<2^63-1)
  (hit:e items[j]=true)(sv:∀m (hm:m<items.size),i<=m->m<j->e items[m]=false):
  Meets (oO.«list.index» ⟨[.ref l,x,.int i t],[]⟩)
   (λA R s=>s.heap.get? l=some { cls:=.type "list",dict:=dd,data:=.seq items n,slots:=sl }/\(∀y,y∈items->SeqAt.EqAt A.in1 s y x (e y))/\R (.ok (.ret (.int j s.toks))) { s with toks:=s.toks+1 }):=by
 intro prog w A R s h;obtain⟨hp,g,d,tk,os⟩:=s;obtain⟨hl,he,h⟩:=h
 wp_walk using fW hl
 have a1:((λi:Int=>if i<0 then max 0 (i+(items.size:Int))else i) ((some (i:Int)).getD 0))=((i:Nat):Int):=by
  show(if(i:Int)<0 then max 0 ((i:Int)+(items.size:Int)) else(i:Int))=_
  rw[qQ2 (by omega)]
 have a2:((λi:Int=>if i<0 then max 0 (i+(items.size:Int))else i) ((none:Option Int).getD (2^63-1)))=2^63-1:=by simp
 rw[a1,a2];exact⟨plainId_quiet qO _,tV PySem.MeetsSeq.entry_index_loop (by
  rw[rN qO _];exact SeqAt.index_loopAt l items n dd sl x e (2^63-1) j hj P7 hit _ i rfl zM sv prog w A R _ ⟨hl,he,h⟩)⟩
section
variable{X:Cx}{a b c e:cj}{es:List cj}{δ:List Slot}{d d1 d2 d3:aq}{ds:List aq}{pos:Pos}{k:Nat}
def Md(K:ao)(n:Nat):V->List V->Hp->VK->Prop:=λx vs H Q=>∃p ds y d i j,x=.ref p/\vs=[y,.int ((i:Nat):Int)]/\Rep K H (.ref p) (.list ds)/\Rep K H y d/\Lay n (.list ds)/\Lay n d/\i<=j/\(∃h:j<ds.length,dE ds[j] d=true)/\
 (∀m (h:m<ds.length),i<=m->m<j->dE ds[m] d=false)/\Q (.int j) H
theorem Hs{n:Nat}(hu:X.A.units+n+2<cLine):Sj X "list.index" (Md X.K n):=by
 intro pins s σ H x vs v us Q I rx rv h;obtain⟨p,ds,y,d,i,j,rfl,rfl,r1,r2,l1,l2,zM,⟨hj,hit⟩,sv,q⟩:=h;cases rx;obtain⟨u,u2,rfl,ru,Q8⟩:=vals2 rv;obtain⟨t2,rfl⟩:=Q8;obtain⟨bs,rb⟩:=jO I d l2.1 r2 ru;cases r1 with
 |lst hq rs=>
  obtain⟨its,Z8,⟨⟨cls,dd,data,sl⟩,m,eo,ec,_,ed⟩,hz⟩:=I.list hq;simp only at ec ed;subst ec ed;obtain⟨as,ra⟩:=nQ I ds l1.1 rs Z8;have hl:=Z8.length;have P4:=rs.length;have hm:=SeqAt.readsAll_map ds its as l1.1 ra;have rd:∀i (h1:i<its.length) (h2:i<ds.length),u_ s.heap its[i]=ds[i]:=λi h1 h2=>by
   have e1:(its.map (u_ s.heap))[i]?=some (u_ s.heap its[i]):=by simp[h1]
   rw[hm]at e1;rw[ax h2]at e1;exact(di e1).symm
  have h1:=l2.2;have hn:=sZ;have zcf:sizeLine=16777216:=cL;refine jm F.slot_list_index ⟨_,eo,rfl⟩ F.entry_list_index (F.args_list_index_3 _ _ _) (Hr p its.toArray m dd sl u (λy=>dE (u_ s.heap y) d) i j t2 zM (by simp;omega) (by omega) ?_ ?_) ⟨eo,?_,?_⟩
  ·have:=rd j (by omega) hj
   simp only[Fo];rw[this];exact hit
  ·intro i' hi XC XD
   simp only[bp]at hi;have:=rd i' hi (by omega)
   simp only[Fo];rw[this];exact sv i' (by omega) XC XD
  ·exact SeqAt.items_eqAt (by simpa using ra) rb l1.1 l2.1 (by omega)
  ·exact⟨.int j,H,I.tok _,⟨_,rfl⟩,q⟩
theorem Ac{i j:Nat}{ap:Pos}(hr:fF k X.A)(h1:VE X a δ (.list ds))(h2:VE X b δ d)(h3:VE X c δ (.int (i:Nat)))(l1:Lay 20 (.list ds))(l2:Lay 20 d)(zM:i<=j)(hj:∃h:j<ds.length,dE ds[j] d=true)(sv:∀m (h:m<ds.length),i<=m->m<j->dE ds[m] d=false)
  (hs:starEach [b,c] X.env=(false,eval b X.env)::starEach [c] X.env:=by rfl)(qt:starEach [c] X.env=(false,eval c X.env)::starEach [] X.env:=by rfl)(mY:attributeBase a "index" X.env (eval a X.env)=eval a X.env:=by rfl)
  (tj:((backTo pos (starEach [b,c] X.env)).all (λx=>!x.1)&&(backToKw pos (keywordEach [] X.env)).all (λx=>x.1.isSome)&&decide (([b,c]:List cj).length+([]:List iO).length+(if([]:List iO).isEmpty then 0 else 1)<30))=true:=by rfl)
  (hline:(ap.endLine==pos.line)=true:=by rfl)(jX:(backTo pos (starEach [c] X.env)).any (·.1)=false:=by rfl):VE X (.Call (.Attribute a "index" ap) [b,c] [] pos) δ (.int j):=
 .of (xF iJ PySem.F.slot_list_index PySem.F.type_list_index (Hs (Cu hr)) dM (dw dM (dw dM fM qt) hs) mY tj hline hs jX) λB0 B σ H0 H Q f q=>h1 B0 B σ H0 H _ f λv H1 eC g r1=>by
  cases r1 with
  |lst hq rs=>
   refine⟨.inl ⟨rfl,_,g.sub.seq hq⟩,h2 B0 B σ H1 eC _ (f.grow g) λu H2 iT g2 r2=>h3 B0 B σ H2 iT _ ((f.grow g).grow g2) λu3 H3 wN g3 r3=>?_⟩
   cases r3;have gg:=g2.trans g3;exact⟨_,ds,u,d,i,j,rfl,rfl,.lst (gg.sub.seq (gg.gU.seq hq)) (rs.mono (gg.gU.trans gg.sub)),(r2.mono g3.gU).mono g3.sub,l1,l2,zM,hj,sv,q _ H3 wN (g.trans gg) (.int _)⟩
theorem uF{d1 d2:List aq}(h1:VE X a δ (.tuple d1))(h2:VE X b δ (.tuple d2))(hn:d1≠[])(hz:d1.length+d2.length<=sizeLine):VE X (.BinOp a .Add b pos) δ (.tuple (d1++d2)):=by
 refine .of (B9 Lk dM dM) λB0 B σ H0 H Q f q=>h1 B0 B σ H0 H _ f λv H1 eC g1 r1=>h2 B0 B σ H1 eC _ (f.grow g1) λu H2 iT g2 r2=>?_
 cases r1 with
 |tup hq r1=>
  cases r2 with
  |tup Eb r2=>
   have gg:=g1.trans g2;have e1:=r1.length;have hx:∀xs:List V,xs.length=d1.length->xs≠[]:=λxs h z=>by rw[z]at h;exact hn (mr h.symm)
   refine⟨_,_,_,_,rfl,rfl,g2.sub.pN (g2.gU.pN hq),g2.sub.pN Eb,hx _ e1,by rw[e1,r2.length];exact hz,λhy=>?_,λ_ p hp=>q _ _ _ (gg.trans (.laid g2.sub hp)) (.tup (qp.of bK) (((r1.mono g2.gU).append r2).mono (dU.laid g2.sub hp).gU))⟩
   subst hy;cases r2;rw[dC]at q;exact q _ H2 iT gg (.tup (g2.gU.pN hq) (r1.mono g2.gU))
end
end L2
namespace L2
open PySem PySem.Spec PyProof.Rows
variable{a p q:aL}{H:Hp}{kvs:List (Key×V)}{as:List aL}{xs:List V}{ig:Nat}{pt:Pos}{P:bC}{d:aq}{K:ao}{Q:ay->aK->Prop}{w:cw}
def JB(K:ao)(b:aL)(ws:List Str):Prop:=∃(o:Obj)(its:Array ay)(n:Nat),K.lookup b=some o/\o.cls=.type "tuple"/\o.data=.seq its n/\its.size<=sizeLine/\ez (ws.map V.str) its.toList
inductive GE(pr:AU)(K:ao):List AV->List (Str×List Str)->Prop
 |nil:GE pr K [] []
 |cons {h:Int} {k:Str} {t:Tok} {b:aL} {ws:List Str} {es:List AV} {kvs:List (Str×List Str)}:h=aq.keyHash pr k->JB K b ws->GE pr K es kvs->GE pr K (⟨h,.str k t,.ref b⟩::es) ((k,ws)::kvs)
structure GD(pr:AU)(K:ao)(a:aL)(kvs:List (Str×List Str)):Prop where
 nm:(a==sysModules)=false
 nd:(kvs.map (·.1)).Nodup
 ob:∃o es ep,K.lookup a=some o/\o.ExactDict/\o.data=.dict es ep/\GE pr K es.toList kvs
def gy(kvs:List (Str×List Str))(k:Str):Option (List Str):=(kvs.find? λp=>decide (p.1=k)).map (·.2)
theorem GE.pairs{P:bC}{w:cw}{K:ao}:∀{es:List AV}{kvs:List (Str×List Str)},GE w.params K es kvs->∃vs:List (Key×ay),Pairs (fq P w) es vs/\vs.map (·.1)=kvs.map (λp=>(cx p.1:Key))/\
  (∀e∈es,∃k,(fq P w).is k e.key=true/\e.hash=(fq P w).hash k)/\∀k,match gy kvs k with|none=>valueAt vs (cx k)=none|some ws=>∃b,valueAt vs (cx k)=some (.ref b)/\JB K b ws
 |_,_,.nil=>⟨[],.nil,rfl,λe h=>by(cases h),λk=>rfl⟩
 |_,_,@GE.cons _ _ hh k t b ws es kvs e kt r=>by
  obtain⟨vs,h1,h2,h3,h4⟩:=GE.pairs (P:=P) r;refine⟨(.inr k,.ref b)::vs,.cons (qS P w k t) rfl h1,by rw[aR,aR,h2],λx hx=>?_,λj=>?_⟩
  ·rcases aG.mp hx with rfl|hx
   ·exact⟨.inr k,qS P w k t,by rw[e];rfl⟩
   ·exact h3 x hx
  ·by_cases hj:k=j
   ·subst hj
    have:gy ((k,ws)::kvs) k=some ws:=by simp[gy,dY]
    rw[this];exact⟨b,by simp[valueAt,dY],kt⟩
   ·have:gy ((k,ws)::kvs) j=gy kvs j:=by simp[gy,dY,hj]
    rw[this];have e2:valueAt ((cx k,bf b)::vs) (cx j:Key)=valueAt vs (cx j):=by
     have:¬(cx k:Key)=cx j:=λz=>hj (by injection z)
     simp[valueAt,dY,this]
    rw[e2];exact h4 j
theorem GD.dict{h:c6}{kvs:List (Str×List Str)}(g:GD w.params K a kvs)(Nq:K.In h):∃vs:List (Key×ay),h.DictOf (fq P w) a vs/\∀k,match gy kvs k with|none=>valueAt vs (cx k)=none|some ws=>∃b,valueAt vs (cx k)=some (.ref b)/\JB K b ws:=by
 obtain⟨o,es,ep,h1,h2,h3,h4⟩:=g.ob;obtain⟨vs,p1,p2,p3,p4⟩:=h4.pairs (P:=P);refine⟨vs,⟨o,es,ep,Nq a o h1,h2,h3,λe he=>p3 e (by simpa using he),p1,?_⟩,p4⟩
 rw[p2];have nd:=g.nd
 clear p2 p4 h4
 induction kvs with
 |nil=>exact zC
 |cons p l ih=>
  rw[aR,gL]at nd ⊢;refine⟨λz=>nd.1 ?_,?_⟩
  ·obtain⟨q,hq,e⟩:=aN.mp z
   injection e with e
   exact aN.mpr ⟨q,hq,e⟩
  ·have go:∀l:List (Str×List Str),(l.map (·.1)).Nodup->(l.map λp=>(cx p.1:Key)).Nodup:=by
    intro l
    induction l with
    |nil=>intro _;exact zC
    |cons p l ih=>
     intro nd;rw[aR,gL]at nd ⊢;refine⟨λz=>nd.1 ?_,ih nd.2⟩
     obtain⟨q,hq,e⟩:=aN.mp z
     injection e with e
     exact aN.mpr ⟨q,hq,e⟩
   exact go l nd.2
section
variable{X:Cx}{a b c e:cj}{δ:List Slot}{pos p:Pos}{k:Nat}{x y:Str}{kvs:List (Str×List Str)}{ws:List Str}{g:aL}
theorem vq:∀l:List Str,dq K H (l.map V.str) (l.map aQ)
 | []=>.nil
 |z::l=>.cons (.str z) (vq l)
theorem wQ(hm:X.mg x=some (.ref g))(G:GD X.w.params X.K g kvs)(h:VE X b δ (.str y))(hk:gy kvs y=some ws)(hg:Gl X x:=by rfl)(hs:Lx b:=by intro _ _;rfl)(hd:(x==("__debug__":Str))=false:=by decide):VE X (.Subscript (.Name x p) b pos) δ (.tuple (ws.map .str)):=by
 have pe:PE X (.Subscript (.Name x p) b pos) (λσ H Q=>cE X b σ H λv H1=>v=.str y/\∀q,JB X.K q ws->Q (.ref q) H1):=by
  intro pins s σ H Q I hw;refine FL yL.lookup hs (fS (nM (pos:=p) hg hm (v:=.ref g) rfl hd pins s σ H (λv H'=>v=.ref g/\H'=H) I ⟨rfl,rfl⟩) λu s1 ⟨vx,H1,I1,rx,ex,eH⟩=>?_)
  subst ex eH;obtain rfl:u=bf g:=rx;refine fS (hw pins s1 I1) λiv s2 ⟨v,H2,I2,rv,ev,q⟩=>?_
  subst ev;obtain⟨vs,dd,hv⟩:=G.dict (P:=X.prog) I2.sF;have hv:=hv y;rw[hk]at hv;obtain⟨bb,hb,kt⟩:=hv;refine⟨dd.typeIs,wpAny_getItem_of (sH (k:=.inr y) rv) dd.mapOf hb ?_⟩
  exact⟨.ref bb,H2,I2.tok _,rfl,q bb kt⟩
 exact .of pe λB0 B σ H0 H Q f q=>h B0 B σ H0 H _ f λv H1 eC g1 r=>by
  cases r;exact⟨rfl,λb' hb=>q _ H1 eC g1 (.tup (.inr hb) (vq ws))⟩
theorem o7(hm:X.mg x=some (.ref g))(G:GD X.w.params X.K g kvs)(h:VE X b δ (.str y))(hg:Gl X x:=by rfl)(hd:(x==("__debug__":Str))=false:=by decide)(hmk:behindInMarks .NotIn (.Name x p)=false:=by with_unfolding_all rfl):VT X (.Compare b [.NotIn] [.Name x p] pos) δ (!(gy kvs y).isSome):=by
 have pc:PC X .NotIn b (.Name x p) (λσ H Q=>cE X b σ H λv H1=>v=.str y/\Q (.bl (!(gy kvs y).isSome)) H1):=by
  intro pins s σ H Q I hw;refine fS (hw pins s I) λiv s1 ⟨v,H1,I1,rv,ev,q⟩=>?_
  subst ev;refine fS (nM (pos:=p) hg hm (v:=.ref g) rfl hd pins s1 σ H1 (λv H'=>v=.ref g/\H'=H1) I1 ⟨rfl,rfl⟩) λu s2 ⟨vx,H2,I2,rx,ex,eH⟩=>?_
  subst ex eH;obtain rfl:u=bf g:=rx;obtain⟨vs,dd,hv⟩:=G.dict (P:=X.prog) I2.sF;have hv:=hv y;refine wpAny_notIn_of (sH (k:=.inr y) rv) G.nm dd.mapOf ?_
  have e:(valueAt vs (cx y)).isSome=(gy kvs y).isSome:=by
   cases el:gy kvs y with
   |none=>rw[el]at hv;rw[hv];rfl
   |some ws=>rw[el]at hv;obtain⟨bb,hb,_⟩:=hv;rw[hb];rfl
  rw[e];exact⟨.bl _,H2,I2.tok _,rfl,q⟩
 exact .of (OQ pc hmk) λB0 B σ H0 H Q f q=>h B0 B σ H0 H _ f λv H1 eC g1 r=>by
  cases r;exact⟨rfl,_,rfl,q H1 eC g1⟩
end
section
variable{X:Cx}{a b c e:cj}{δ:List Slot}{d d1 d2:aq}{ds:List aq}{pos px py p:Pos}{x y:Str}{k:Nat}{kvs:List (Str×aq)}
theorem P8:U6 X (λx lo hi H Q=>∃z,x=.str z/\z.length<=sizeLine/\Q (.str (lZ z lo hi)) H):=by
 intro pins s σ H x v vl vu lo hi sl Q I rx hs pl pu h;obtain⟨z,rfl,hz,q⟩:=h;obtain⟨t,rfl⟩:=rx;refine⟨"str",_,PySem.F.slot_str_getitem.lookup,pH _ _ _,?_⟩
 have fin:∀(l u:Option (Int×Tok)),l.map (·.1)=lo->u.map (·.1)=hi->s.heap.IsSlice sl l u none->wpAny (model X.prog X.w) X.A (getItem (.str z t) (.ref sl)) (EP X pins σ Q) X.xe s:=by
  intro l u e1 e2 hl;subst e1 e2;refine wpAny_getItem_str_slice (l:=l) (u:=u) (st:=none) hl rfl (post_val_or_str ⟨bZ (DL z _ _) hz,λt' k=>?_⟩)
  exact⟨.str (lZ z _ _),H,I.tok _,⟨t',rfl⟩,q⟩
 obtain⟨os,h1,h2,h3⟩:=hs;cases pl with
 |none=>cases pu with
  |none=>exact fin none none rfl rfl ⟨os,h1,h2,h3⟩
  |int j t2=>exact fin none (some (j,t2)) rfl rfl ⟨os,h1,h2,h3⟩
 |int i t1=>cases pu with
  |none=>exact fin (some (i,t1)) none rfl rfl ⟨os,h1,h2,h3⟩
  |int j t2=>exact fin (some (i,t1)) (some (j,t2)) rfl rfl ⟨os,h1,h2,h3⟩
theorem Ad{lo hi:Option cj}{l u:Option Int}{p2:Pos}(h:VE X a δ (.str x))(hz:x.length<=sizeLine)(hl:sL X δ lo l)(hh:sL X δ hi u):VE X (.Subscript a (.Slice lo hi none p2) pos) δ (.str (lZ x l u)):=by
 obtain⟨tl,pl,ql⟩:=hl.ok;obtain⟨th,ph,qh⟩:=hh.ok;refine .of (xE P8 dM pl ph) λB0 B σ H0 H Q f q=>h B0 B σ H0 H _ f λv H1 eC g r=>ql B0 B σ H1 eC _ (f.grow g) λH2 iT g2=>qh B0 B σ H2 iT _ ((f.grow g).grow g2) λH3 wN g3=>?_
 cases r;exact⟨x,rfl,hz,q _ _ _ ((g.trans g2).trans g3) (.str _)⟩
inductive VP(X:Cx)(δ:List Slot):List (Option cj)->List cj->List (Str×aq)->Prop
 |nil:VP X δ [] [] []
 |cons {k v:cj} {ks vs} {x:Str} {d:aq} {r}:VE X k δ (.str x)->VE X v δ d->VP X δ ks vs r->VP X δ (some k::ks) (v::vs) ((x,d)::r)
theorem VP.ok{keys vals}(h:VP X δ keys vals kvs):keys.all (·.isSome)=true/\keys.length=vals.length/\keys.length=kvs.length/\∃GX,Sz X pos keys vals GX/\∀B0 B σ H0 H Q,hU X.K B0 B H0 H σ δ->
  (∀eJ H' (ws:List (Key×V)),dU H0 H eJ H'->ws.map (·.1)=kvs.map (λp=>(cx p.1:Key))->dq X.K eJ (ws.map (·.2)) (kvs.map (·.2))->Q (ws.map λkv=>(kV kv.1,kv.2)) H')->Bb GX σ H Q:=by
 induction h with
 |nil=>exact⟨rfl,rfl,rfl,[],LC,λB0 B σ H0 H Q f q=>q _ _ [] (.refl f.sub) rfl .nil⟩
 | @cons k v ks vs x d r hk hv _ ih=>
  obtain⟨a1,a2,a3,GX,pp,ht⟩:=ih;refine⟨by simpa using a1,by simp[a2],by simp[a3],_,I0 dM dM pp,λB0 B σ H0 H Q f q=>?_⟩
  refine hk B0 B σ H0 H _ f λu H1 eC g1 r1=>hv B0 B σ H1 eC _ (f.grow g1) λw H2 iT g2 r2=>?_
  cases r1;refine ht B0 B σ H2 iT _ ((f.grow g1).grow g2) λH3 wN ws g3 e1 rs=>?_
  exact q H3 wN ((cx x,w)::ws) ((g1.trans g2).trans g3) (by simp[e1]) (.cons (r2.mono g3.gU) rs)
theorem Mf:∀{kvs:List (Key×V)}{k:Key}{v:V},k∉kvs.map (·.1)->putK kvs k v=kvs ++ [(k,v)]:=by
 intro kvs k v h;unfold putK
 first
  |(rw[qQ2];simpa using h)
  |(simp at h;simp[h])
theorem Ae:∀{more kvs:List (Key×V)},((kvs++more).map (·.1)).Nodup->qZ kvs more=kvs++more
 | [],kvs,_=>by simp[qZ]
 |p::more,kvs,h=>by
  show qZ (putK kvs p.1 p.2) more=_;have hp:p.1∉kvs.map (·.1):=λz=>by
   rw[bh,aR]at h;exact(eN.mp h).2.2 _ z _ (aP) rfl
  rw[Mf hp,Ae (by simpa using h)]
  simp
theorem F5{keys vals}(h:VP X δ keys vals kvs)(hn:(kvs.map (·.1)).Nodup)(h0:kvs≠[])(ZL:kvs.length<=15):VE X (.Dict keys vals pos) δ (uD kvs):=by
 obtain⟨a1,a2,a3,GX,pp,ht⟩:=h.ok (pos:=pos);refine .of (LD pp a1 a2 (λz=>h0 (List.length_eq_zero_iff.mp (by rw[<-a3,z];rfl))) (by omega)) λB0 B σ H0 H Q f q=>λp hp=>?_
 refine ht B0 B σ H0 _ _ (f.grow (.loose f.sub hp)) λH1 eC ws g e1 rs=>?_
 have gp:=g.big _ _ (bK (H:=H) (a:=p) (o:=HO.dK []));have hp0:H1 p=none:=g.still (f.sub.free hp) bK;have wl:ws.length=kvs.length:=by have:=qQ6 gu e1;simpa using this
 refine⟨gp,ws,rfl,by omega,?_⟩
 rw[Ae (by
  rw[qK,e1];have:(kvs.map λp=>(cx p.1:Key))=(kvs.map (·.1)).map (cx:Str->Key):=by rw[bA];rfl
  rw[this];exact List.Pairwise.map _ (λa b hab z=>hab (cx.inj z)) hn),qK]
 refine q (.ref p) (upd H1 p (.dK ws)) _ ⟨λb u eb=>?_,λb u eb=>?_,λb u eb=>?_,λb eb=>?_⟩ ?_
 ·have hb:b≠p:=bj eb hp
  rw[aS hb];exact g.big _ _ (by rw[aS hb];exact eb)
 ·have hb:b≠p:=bj eb (f.sub.free hp)
  rw[aS hb];exact g.gU _ _ eb
 ·by_cases hb:b=p
  ·subst hb;rw[bK]at eb ⊢;exact eb
  ·rw[aS hb]at eb ⊢;exact g.sub _ _ eb
 ·by_cases hb:b=p
  ·subst hb;exact .inr hp
  ·rw[aS hb]at eb
   rcases g.new b eb with z|z
   ·exact .inl z
   ·rw[aS hb]at z;exact .inr z
 ·refine .dct (kvs:=ws) bK ?_ ?_
  ·rw[bA]
   have:ws.map (λp=>zh p.1)=(ws.map (·.1)).map zh:=by rw[bA];rfl
   rw[this,e1,bA];rfl
  ·rw[bA]
   refine(rs.mono λb u eb=>?_)
   rw[aS (bj eb hp0)];exact eb
theorem JC{ap:Pos}(hr:fF k X.A)(h3:VE X c δ (uD kvs))(h1:VE X a δ (.str x))(h4:VE X e δ d)(m:M2 X c "get" ap a e pos:=by exact⟨rfl,rfl,rfl,rfl⟩):VE X (.Call (.Attribute c "get" ap) [a,e] [] pos) δ ((jP kvs x).getD d):=
 .of (Ja (P0 hr) dM dM dM m) λB0 B σ H0 H Q fr q=>h3 B0 B σ H0 H _ fr λv H1 eC g r=>by
  obtain⟨p,ws,rfl,hp,ke,rs⟩:=r.uE;refine⟨p,rfl,.inl ⟨ws,.inl (g.sub _ _ hp)⟩,?_⟩
  refine h1 B0 B σ H1 eC _ (fr.grow g) λv H2 iT g2 r1=>h4 B0 B σ H2 iT _ ((fr.grow g).grow g2) λu H3 wN g3 r2=>?_
  cases r1;have gg:=g2.trans g3;refine⟨ja ws (cx x),.inl ⟨ws,cx x,.inl (gg.big _ _ (g.sub _ _ hp)),rfl,rfl⟩,q _ H3 wN (g.trans gg) ?_⟩
  exact(xW ke (rs.mono gg.gU) x).getD r2
theorem P9(i j:Int):oW K (λxs H Q=>∃i j,xs=[.int i,.int j]/\Q (.int (if j<i then j else i)) H) [.int i,.int j] (.int (if j<i then j else i)):=λvs H0 H Q s r q=>by
 obtain⟨v,u,rfl,r1,r2⟩:=r.two;cases r1;cases r2;exact⟨i,j,rfl,q _ _ _ (.refl s) (.int _)⟩
end
section
variable{X:Cx}{a b c e e1 e2:cj}{δ:List Slot}{d d1 d2:aq}{ds Q6 Z9:List aq}{pos px py p:Pos}{x y:Str}{k:Nat}
theorem Mh(i j:Nat){DT: Pos}{kt k2}(h1:VO X a δ Q6)(h2:VO X b δ Z9)(hc:X.calm=true)(hN:X.N.Nodup)(zM:i≠j)(hi:X.N[i]?=some x:=by rfl)(hj:X.N[j]?=some y:=by rfl)(hx:X.env.scope.names.lookup x=some .local:=by rfl)(hy:X.env.scope.names.lookup y=some .local:=by rfl)
  (hw:swappedStores [.Tuple [.Name x px,.Name y py] kt pt] (.Tuple [a,b] k2 DT) X.env=pure (some [x,y]):=by rfl)(hs:swapsWithSole [.Tuple [.Name x px,.Name y py] kt pt] (.Tuple [a,b] k2 DT) pos.line X.env=pure false:=by rfl)
  (Ef:starEach [a,b] X.env=(false,eval a X.env)::starEach [b] X.env:=by rfl)(qt:starEach [b] X.env=(false,eval b X.env)::starEach [] X.env:=by rfl):
  VS X (.Assign [.Tuple [.Name x px,.Name y py] kt pt] (.Tuple [a,b] k2 DT) pos) δ (.nx ((δ.set i (.own Q6)).set j (.own Z9))):=λB0 B σ H0 H D f ok pins s I=>by
 refine Iy hc hN hi hj zM hx hy (dw dM (dw dM fM qt) Ef) hw hs pins s σ H D I ?_
 refine h1 B0 B σ H0 H _ f λp xs H1 eC g a1 a2 a3 a4=>h2 B0 B σ H1 eC _ (f.grow g) λq ys H2 iT g2 b1 b2 b3 b4=>?_
 have gg:=g.trans g2;have fs:=f.grow gg;have npq:p≠q:=λz=>by rw[z,b1]at a3;cases a3
 have f1:=fs.Bd (i:=i) (g2.big _ _ a3) (g2.still a2 a3) (f.ent.big.free a1) (a4.mono g2.gU) λj es e2 e3=>by
  obtain⟨p',xs',g1,g2,_⟩:=f.slot j _ e2;rw[e3]at g1;cases g1;rw[a1]at g2;cases g2
 refine⟨_,_,rfl,ok _ H2 iT gg.gU (f1.Bd b3 b2 ((f.grow g).ent.big.free b1) b4 λj es e2 e3=>?_)⟩
 by_cases Z_:j=i
 ·subst Z_
  have hl:j < σ.length:=by
   have:=(aJ.mp e3).1;simpa using this
  rw[a8 hl]at e3;cases e3;exact npq rfl
 ·rw[a7 (bM Z_)]at e2 e3
  obtain⟨p',xs',z1,z2,_⟩:=(f.grow g).slot j _ e2;rw[e3]at z1;cases z1;rw[b1]at z2;cases z2
end
section
variable{X:Cx}{K:ao}{B0 B H0 H eJ H' C0 C Ha Hb:Hp}{σ σ':St}{δ δ':List Slot}{a:aL}{ps:List aL}{gs:List (List aq)}
theorem uZ.rep2(G:uZ K B0 B a ps gs H0 H σ δ):∃Ha,ej H0 Ha/\dU B0 B Ha H/\Rep K Ha (.ref a) (.list (gs.map .list)):=by
 have s0:ej H0 (λq=>if q=a\/q∈ps then H q else H0 q):=λb u e=>by
  show(if b=a\/b∈ps then H b else H0 b)=some u
  split
  ·exact G.fr.sub b u e
  ·exact e
 refine⟨λq=>if q=a\/q∈ps then H q else H0 q,s0,⟨G.fr.ent.big,G.fr.ent.gU.trans s0,λb u e=>?_,λb e=>?_⟩,?_⟩
 ·have e:(if b=a\/b∈ps then H b else H0 b)=some u:=e
  split at e
  ·exact e
  ·exact G.fr.sub b u e
 ·have e:(if b=a\/b∈ps then H b else H0 b)≠none:=e
  split at e
  ·rename_i z
   rcases z with rfl|z
   ·exact .inr G.aB
   ·obtain⟨i,hi⟩:=rO.mp z
    have hl:i<gs.length:=by rw[<-G.len];exact(aJ.mp hi).1
    exact .inr (G.cell i b gs[i] hi (by simp[hl])).2.1
  ·exact G.fr.ent.new b e
 ·refine .lst (lg.of (by show(if a=a\/a∈ps then H a else H0 a)=_;rw[qQ3 (.inl rfl)];exact G.arr)) ?_
  have go:∀(l:List aL)(m:List (List aq)),l.length=m.length->(∀(i:Nat)p ds,l[i]?=some p->m[i]?=some ds->p∈ps/\∃xs,H p=some (.lst xs)/\dq K H0 xs ds)->dq K (λq=>if q=a\/q∈ps then H q else H0 q) (l.map V.ref) (m.map .list):=by
   intro l
   induction l with
   |nil=>
    intro m hm _;cases m with
    |nil=>exact .nil
    |cons _ _=>cases hm
   |cons p l ih=>
    intro m hm hc;cases m with
    |nil=>cases hm
    |cons ds m=>
     obtain⟨hp,xs,h1,h2⟩:=hc 0 p ds rfl rfl;refine .cons (.lst (lg.of (by show(if p=a\/p∈ps then H p else H0 p)=_;rw[qQ3 (.inr hp)];exact h1)) (h2.mono s0)) (ih m (by simpa using hm) λi p' G9 e1 e2=>hc (i+1) p' G9 (by simpa using e1) (by simpa using e2))
  exact go ps gs G.len λi p ds e1 e2=>by
   obtain⟨_,_,xs,h1,h2⟩:=G.cell i p ds e1 e2;exact⟨bO e1,xs,h1,h2⟩
theorem uZ.freeze(G:uZ K B0 B a ps gs H0 H σ δ)(Q_:δ[ig]?=some (.ref a)):∃Ha,ej H0 Ha/\hU K B0 B Ha H σ (δ.set ig (.val (.list (gs.map .list)))):=by
 obtain⟨Ha,sm,g,r⟩:=G.rep2;have hs:σ[ig]?=some (some (.ref a)):=G.fr.slot ig _ Q_;have f0:hU K B0 B Ha H σ δ:=by
  refine⟨g,G.fr.len,λi sl e=>?_,G.fr.apart⟩
  have q:=G.fr.slot i sl e;cases sl with
  |un=>trivial
  |ref _=>exact q
  |val d=>obtain⟨v,g1,g2⟩:=q;exact⟨v,g1,g2.mono sm⟩
  |own ds=>exact qQ7 e (oX G.no i ds)
 have f1:=f0.Cw (i:=ig) (v:=.ref a) (sl:=.val (.list (gs.map .list))) ⟨_,rfl,r⟩ rfl;have e:σ.set ig (some (.ref a))=σ:=by
  apply k6;intro i;by_cases h:i=ig
  ·subst h;rw[a8 (aJ.mp hs).1,hs]
  ·rw[a7 (bM h)]
 rw[e]at f1;exact⟨Ha,sm,f1⟩
end
section
variable{X:Cx}{B0 B H0 H eJ H' Ha Hb:Hp}{σ σ':St}{D:Ends}{st:iH}{rest body orelse:List iH}{δ δ':List Slot}{a:aL}{ps:List aL}{gs:List (List aq)}{e c tg iter e1 e2 ea:cj}{d:aq}{ds:List aq}{pos px wA:Pos}{x y:Str}
def nE{α:Type}(l:List α)(i:Nat)(y:α):List α:=l.take i++y::l.drop i
def Mi:V->List V->Hp->VK->Prop:=λx vs H Q=>∃(l:aL)(xs:List V)(j:Int)(y:V),x=.ref l/\vs=[.int j,y]/\H l=some (.lst xs)/\0<=j/\j<=xs.length/\xs.length<sizeLine/\Q .non (upd H l (.lst (nE xs j.toNat y)))
theorem ez.ins{us:List ay}{y:V}{u:ay}(r:ez xs us)(ru:RelV y u)(i:Nat):ez (nE xs i y) (nE us i u):=(r.take i).append (.cons ru (r.drop i))
theorem Ht:Sj X "list.insert" Mi:=by
 intro pins s σ H x vs v us Q I rx rv h;obtain⟨l,xs,j,y,rfl,rfl,hH,h0,hi,hz,q⟩:=h;cases rx;obtain⟨u1,u2,rfl,XE,Q8⟩:=rv.two;obtain⟨t,rfl⟩:=XE;obtain⟨z,its,n,r,hl,e⟩:=I.Pk hH;have IQ:lR j=true:=by
  have:=cL;unfold lR;simp;omega
 refine jm F.slot_list_insert ⟨_,e,rfl⟩ F.entry_list_insert (F.args_list_insert_3 _ _ _) (PySem.AutoSeq1.list_insert_list_int_val_1 l its.toArray n j t u2 (by rw[IQ];decide) (by rw[bp];omega)) ⟨e,?_⟩
 refine⟨.non,_,I.Sl (its':=nE its j.toNat u2) hH e ?_ (r.ins Q8 j.toNat) ?_,rfl,q⟩
 ·show(its.toArray.extract 0 (if j<0 then(j+((its.toArray.size:Nat):Int)).toNat else min j.toNat its.toArray.size)).push u2++its.toArray.extract (if j<0 then(j+((its.toArray.size:Nat):Int)).toNat else min j.toNat its.toArray.size)=_
  rw[qQ2 (by omega),bp,ky (by omega)]
  unfold nE;apply Array.toList_inj.mp;simp;rw[dA (by simp)]
 ·unfold nE
  rw[aV,a9,bS,b_];omega
theorem dq.ins{v:V}(r:dq K H xs ds)(rv:Rep K H v d)(i:Nat):dq K H (nE xs i v) (nE ds i d):=(r.take i).append (.cons rv (r.drop i))
theorem JD(G:uZ X.K B0 B a ps gs H0 H σ δ)(ig:Nat){j m:Nat}{p0 p4 ap:Pos}(Q_:δ[ig]?=some (.ref a))(ha:VE X ea δ (.int j))(hp:ps[j]?=some p)(hg:gs[j]?=some ds)(h1:VE X e1 (δ.set ig (.val (.list (gs.map .list)))) (.int m))(ZX:noOwn (δ.set ig (.val (.list (gs.map .list))))=true)(hm:m<=ds.length)(h2:VE X e2 δ d)(hz:ds.length<sizeLine)
  (q:∀σ' eJ H',uZ X.K B0 B a ps (gs.set j (nE ds m d)) eJ H' σ' δ->D.nx σ' H')(hig:X.N[ig]?=some x:=by rfl)
  (hv:Ft X.env.scope x:=by first|exact bB rfl|exact dm (bB rfl)|exact dm (dm rfl))(hd:(x==("__debug__":Str))=false:=by decide)(qT:(x==("__classdict__":Str))=false:=by decide)(pF:rQ ea:=by intro _ _;rfl)
  (hs:starEach [e1,e2] X.env=(false,eval e1 X.env)::starEach [e2] X.env:=by rfl)(qt:starEach [e2] X.env=(false,eval e2 X.env)::starEach [] X.env:=by rfl)(mY:attributeBase (.Subscript (.Name x p0) ea p4) "insert" X.env (eval (.Subscript (.Name x p0) ea p4) X.env)=eval (.Subscript (.Name x p0) ea p4) X.env:=by rfl)
  (tj:((backTo px (starEach [e1,e2] X.env)).all (λx=>!x.1)&&(backToKw px (keywordEach [] X.env)).all (λx=>x.1.isSome)&&decide (([e1,e2]:List cj).length+([]:List iO).length+(if([]:List iO).isEmpty then 0 else 1)<30))=true:=by rfl)
  (hline:(ap.endLine==px.line)=true:=by rfl)(jX:(backTo px (starEach [e2] X.env)).any (·.1)=false:=by rfl)(Cr:swapsWith (.Call (.Attribute (.Subscript (.Name x p0) ea p4) "insert" ap) [e1,e2] [] px) none pos.line X.env=pure false:=by rfl):
  cS X (.Expr (.Call (.Attribute (.Subscript (.Name x p0) ea p4) "insert" ap) [e1,e2] [] px) pos) D σ H:=λpins s I=>by
 refine pJ (xF iJ PySem.F.slot_list_insert PySem.F.type_list_insert Ht (NK A8 (h7 hig hv hd qT) dM pF) (dw dM (dw dM fM qt) hs) mY tj hline hs jX) Cr pins s σ H D I ?_
 refine⟨.ref a,G.fr.slot ig _ Q_,?_⟩
 refine ha H0 H σ H0 H _ G.own λv H1 eC g r=>?_
 cases r;have G1:=G.go (G.own.grow g) G.no;obtain⟨c1,c2,xs,c3,c4⟩:=G1.cell j p ds hp hg;refine .inl ⟨a,_,_,.ref p,rfl,rfl,lg.of G1.arr,cz (by rw[aT,hp];rfl),.inl ⟨rfl,_,lg.of c3⟩,?_⟩
 obtain⟨Ha,sm,ff⟩:=G1.freeze Q_;refine h1 Ha eC σ Ha eC _ (ff.re ZX (.refl ff.sub)) λv Hb H2 g2 r2=>?_
 cases r2;have G2:uZ X.K B0 B a ps gs H1 H2 σ δ:=G1.go (G1.own.grow (.far G1.fr.sub g2.big)) G1.no;refine h2 H1 H2 σ H1 H2 _ G2.own λw H3 wN g3 r3=>?_
 have G3:=G2.go (G2.own.grow g3) G2.no;obtain⟨k1,k2,ys,k3,k4⟩:=G3.cell j p ds hp hg;refine⟨p,ys,m,w,rfl,rfl,k3,by omega,by rw[k4.length];omega,by rw[k4.length];exact hz,q σ H3 _ ?_⟩
 have hjl:j<gs.length:=(aJ.mp hg).1;have hpa:a≠p:=λz=>G.na (by rw[z];exact bO hp)
 refine⟨G3.fr.touch k1 k2 (oX G.no),G.no,by rw[aS hpa];exact G3.arr,G3.a0,G.aB,G.na,G.nd,by rw[yO];exact G.len,λi p' G9 e1 e2=>?_⟩
 by_cases hi:i=j
 ·subst hi
  rw[hp]at e1;cases e1;rw[a8 hjl]at e2;cases e2;exact⟨k1,k2,_,bK,by rw[eA];exact k4.ins r3 m⟩
 ·rw[a7 (bM hi)]at e2
  obtain⟨k1,k2,ys,k3,k4⟩:=G3.cell i p' G9 e1 e2;have np:p'≠p:=λz=>by
   subst z;have l1:=(aJ.mp e1);have l2:=(aJ.mp hp);exact hi ((List.getElem_inj G.nd (h₀:=l1.1) (h₁:=l2.1)).mp (by rw[l1.2,l2.2]))
  exact⟨k1,k2,ys,by rw[aS np];exact k3,k4⟩
theorem P_(G:uZ X.K B0 B a ps gs H0 H σ δ){o:Out}(Q_:δ[ig]?=some (.ref a))(h:wB X rest (δ.set ig (.val (.list (gs.map .list)))) o)(q:∀Ha,ej H0 Ha->ri X.K B0 B Ha D o):FQ X rest D σ H:=by
 obtain⟨Ha,sm,ff⟩:=G.freeze Q_;exact h B0 B σ Ha H D ff (q Ha sm)
end
section
variable{X:Cx}{a b c:cj}{δ:List Slot}{d1 d2 d3:aq}{pos px py pz:Pos}{x y z:Str}
theorem dq.three{vs:List V}(r:dq K H vs [d1,d2,d3]):∃v w u,vs=[v,w,u]/\Rep K H v d1/\Rep K H w d2/\Rep K H u d3:=by
 cases r with|cons a t=>cases t with|cons b t=>cases t with|cons c t=>cases t;exact⟨_,_,_,rfl,a,b,c⟩
theorem Mj(i j k:Nat){DT: Pos}{kt k2}(h1:VE X a δ d1)(h2:VE X b δ d2)(h3:VE X c δ d3)(hc:X.calm=true)(hN:X.N.Nodup)(zM:i≠j)(hik:i≠k)(DE:j≠k)(hi:X.N[i]?=some x:=by rfl)(hj:X.N[j]?=some y:=by rfl)(hk:X.N[k]?=some z:=by rfl)(hx:X.env.scope.names.lookup x=some .local:=by rfl)(hy:X.env.scope.names.lookup y=some .local:=by rfl)(hz:X.env.scope.names.lookup z=some .local:=by rfl)
  (hw:swappedStores [.Tuple [.Name x px,.Name y py,.Name z pz] kt pt] (.Tuple [a,b,c] k2 DT) X.env=pure (some [x,y,z]):=by rfl)(hs:swapsWithSole [.Tuple [.Name x px,.Name y py,.Name z pz] kt pt] (.Tuple [a,b,c] k2 DT) pos.line X.env=pure false:=by rfl)
  (Ef:starEach [a,b,c] X.env=(false,eval a X.env)::starEach [b,c] X.env:=by rfl)(qt:starEach [b,c] X.env=(false,eval b X.env)::starEach [c] X.env:=by rfl)(W5:starEach [c] X.env=(false,eval c X.env)::starEach [] X.env:=by rfl):
  VS X (.Assign [.Tuple [.Name x px,.Name y py,.Name z pz] kt pt] (.Tuple [a,b,c] k2 DT) pos) δ (.nx (((δ.set i (.val d1)).set j (.val d2)).set k (.val d3))):=λB0 B σ H0 H D f ok pins s I=>by
 obtain⟨t,ha,qa⟩:=av h1 (av h2 (av h3 aX W5) qt) Ef;have h:=qa B0 B σ H0 H (λvs H1=>∃v w u,vs=[v,w,u]/\D.nx (((σ.set i (some v)).set j (some w)).set k (some u)) H1) f λvs H1 eC g rs=>by
  obtain⟨v,w,u,rfl,r1,r2,r3⟩:=rs.three;exact⟨v,w,u,rfl,ok _ H1 eC g.gU ((((f.grow g).set r1).set r2).set r3)⟩
 rw[exec_Assign_arm];refine au (nu ?_)
 rw[hs];refine au (aY ?_)
 rw[qQ2 (by decide)]
 refine au (Tuple_ (fS (ha _ pins s σ H _ I h) λus s1 ⟨vs,H1,I1,r1,q1⟩=>?_))
 obtain⟨v,w,u,e1,q1⟩:=q1;subst e1;obtain⟨u1,u2,u3,rfl,rv,qz,ru⟩:∃u1 u2 u3,us=[u1,u2,u3]/\RelV v u1/\RelV w u2/\RelV u u3:=by
  cases r1 with
  |cons p q=>
   cases q with
   |cons p' q'=>
    cases q' with
    |cons p2 q2=>
     cases q2;exact⟨_,_,_,rfl,p,p',p2⟩
 refine eQ ?_ (by show 3<=sizeLine;decide)
 have I2:Inv X pins σ H1 { s1 with heap:=s1.heap.push { cls:=.type "tuple",data:=.seq [u1,u2,u3].toArray } }:=I1.kept (t':=s1.toks) λb o e=>aA _ e
 rw[hw];refine au (aY ?_)
 show wpAny (model X.prog X.w) X.A (do rule "assign.swapped-stores";let items <-unpackItems (.ref s1.heap.objs.size) 3 none;assignInOrder [λv=>bindName X.env z v,λv=>bindName X.env y v,λv=>bindName X.env x v] items.reverse;pure B6) _ _ _
 refine au (wZ (au (unpackItems_tuple (items:=#[u1,u2,u3]) (I.ok.hd hc) (sA s1.heap _) λh' Ws=>?_)))
 have I3:=I2.kept (h':=h') (t':=s1.toks) λb o e=>Ws b o (a_ (aW e)) e
 show wpAny _ _ (assignInOrder [λv=>bindName X.env z v,λv=>bindName X.env y v,λv=>bindName X.env x v] [u3,u2,u1] >>= λ_=>pure B6) _ _ _
 refine au (jj (pG (lJ I3 hN hk (.inl hz) ru (λs2 I4=>?_) (.inr hz))))
 refine jj (pG (lJ I4 hN hj (.inl hy) qz (λs3 I5=>?_) (.inr hy)))
 refine jj (pG (lJ I5 hN hi (.inl hx) rv (λs4 I6=>yV (aY ?_)) (.inr hx)))
 have e:((σ.set k (some u)).set j (some w)).set i (some v)=((σ.set i (some v)).set j (some w)).set k (some u):=by
  rw[t_ _ _ (bM DE),t_ _ _ (bM hik),t_ _ _ (bM zM)]
 rw[e]at I6;exact⟨_,H1,I6,q1⟩
theorem wR{k:Bool}(h:VE X a δ (.bool k)):VE X (.UnaryOp .Not a pos) δ (.bool (!k)):=.of (OU dM) λB0 B σ H0 H Q f q=>h B0 B σ H0 H _ f λv H1 eC g r=>by
 cases r;exact⟨k,rfl,q _ H1 eC g (.bl _)⟩
theorem xZ{st:List iH}{o:Out}(h:∀B0 B σ H0 H D,hU X.K B0 B H0 H σ δ->ri X.K B0 B H0 D o->FQ X st D σ H):wB X st δ o:=h
end
section
variable{X:Cx}{a:cj}{δ:List Slot}{pos p:Pos}{x:Str}{ds:List aq}
theorem zo:jM X (.type "str") (λxs H Q=>∃x,xs=[.str x]/\Q (.str x) H):=by
 intro pins s σ H xs us Q I r h;obtain⟨x,rfl,q⟩:=h;obtain⟨u,rfl,t,rfl⟩:=vals1 r;exact PySem.P.str_of_str ⟨.str x,H,I,⟨t,rfl⟩,q⟩
theorem P':oW K (λxs H Q=>∃x,xs=[.str x]/\Q (.str x) H) [.str x] (.str x):=λvs H0 H Q s r k=>by
 obtain⟨v,rfl,r1⟩:=r.one;cases r1;exact⟨x,rfl,k _ _ _ (.refl s) (.str _)⟩
theorem Ml(h:VE X a δ (.str x))(hm:X.mg "str"=none)(hg:Gl X "str":=by rfl)(hs:starEach [a] X.env=(false,eval a X.env)::starEach [] X.env:=by rfl):VE X (.Call (.Name "str" p) [a] [] pos) δ (.str x):=j9 zo P' (av h aX hs) hm rfl hg (he:=hs)
theorem Mm:NQ K (λxs H Q=>∃p ys,xs=[.ref p]/\(lg K H p ys\/qp K H p ys)/\∀l,H l=none->Q (.ref l) (upd H l (.lst ys))) [.tuple ds] ds:=λvs H0 H Q s r q=>by
 obtain⟨v,rfl,r1⟩:=r.one;cases r1 with
 |tup hq rs=>
  refine⟨_,_,rfl,.inr (s.pN hq),λl hl=>?_⟩
  exact q l _ H0 _ (.loose s hl) hl (s.free hl) bK rs
end
section
variable{prog:bC}{w:cw}{A:dJ}{E:ay->aK->Prop}{s:aK}
theorem zp{l:aL}{items:Array ay}(hh:A.handled=none)(hl:s.heap.IsTuple l items)(T:Nat->c6->Prop)
  (t0:∀led h',h'.get? s.heap.objs.size=some (jt led)->(∀b o,s.heap.get? b=some o->h'.get? b=some o)->T 0 h')
  (keep:∀i h h',T i h->(∀b o,b≠s.heap.objs.size+1->h.get? b=some o->h'.get? b=some o)->T i h')
  (add:∀i v (s':aK) (Q:Bool->aK->Prop) (E:ay->aK->Prop),i<items.size->items[i]?=some v->T i s'.heap->(∀h' tk b,s'.toks<=tk->jG s.heap.objs.size s'.heap h'->T (i+1) h'->Q b { s' with heap:=h',toks:=tk })->wpAny (model prog w) A.in1.in1.in1 (setAdd s.heap.objs.size v) Q E s')
  (h:∀(h':c6)(tk:Nat),T items.size h'->(∀b o,b<s.heap.objs.size->s.heap.get? b=some o->h'.get? b=some o)->Q (.ref s.heap.objs.size) { s with heap:=h',toks:=tk }):
  wpAny (model prog w) A (call (.type "set") [.ref l]) Q E s:=by
 obtain⟨c,tl,zco⟩:=jW.mro;have Z':=jW.made;have LJ:=jW.sub;refine k_ (codeAny_of_tree ?_)
 show wpAny _ _ (callAny (.type "set") _) _ _ _;refine aY ⟨uY _ (by symm),tV F.entry_type_call ?_⟩
 rw[dJ.under_plain (weight_type_call_type "set" [.ref l] []) rfl];have h1:=jW.notType;have h2:=jW.canCreate;have hct:=F.typeCall_set_1 (.ref l)
 repeat (any_goals (first|assumption|wp_step))
 refine kf (code_set_new_1 (.ref l) (E:=E) (Q₁:=λobj s₁=>∃led:Bool,obj=.ref s.heap.objs.size/\s₁={ s with heap:=s.heap.push (jt led) }) λled=>⟨led,rfl,rfl⟩) λr s₁ hr=>?_
 cases r with
 |error e=>exact hr
 |ok fl=>
  cases fl with
  |ret obj=>
   obtain⟨led,rfl,rfl⟩:=hr;have hS:(s.heap.push (jt led)).get? s.heap.objs.size=some (jt led):=bD _ rfl;have hT:aK.TypeIs { s with heap:=s.heap.push (jt led) } (.ref s.heap.objs.size) "set":=⟨_,hS,rfl⟩
   have hli:=jW.init.lookup;have hbi:=jW.init.bind (.ref s.heap.objs.size)
   repeat (any_goals (first|assumption|wp_step))
   refine kf (nD (R:=wants (λr s₂=>r=.none/\∃h' tk,s₂={ s with heap:=h',toks:=tk }/\T items.size h'/\(∀b o,b<s.heap.objs.size->s.heap.get? b=some o->h'.get? b=some o)) E) jW.init.plain F.entry_set_init (check_set_init_1 hT ?_)) λr₂ s₂ XF=>?_
   ·obtain⟨ol,K2,Ik,nl,K3⟩:=hl
    obtain⟨zcp,Ti,zab,Qa⟩:=ol;simp only at Ik K3;subst Ik;subst K3;have XG:(s.heap.push (jt led)).get? l=some { cls:=.type "tuple",dict:=Ti,data:=.seq items nl,slots:=Qa }:=aA _ K2;have zcq:=F.sub_tuple_set;have zcr:=F.sub_tuple_frozenset;have m8:(lG "tuple"==lG "dict")=false:=by decide
    have P2:(s.heap.push (jt led)).IsTuple l items:=⟨_,XG,rfl,nl,rfl⟩;unfold oO.«set.__init__» noKeywords oO.Frozenset.updateFrom
    generalize hPI:pyIter=PI
    wp_walk
    subst hPI;refine w8 P2 ?_
    refine au (wpAny_runValue ?_)
    have hlS:l<s.heap.objs.size:=aW K2;have hh3:A.in1.in1.in1.handled=none:=by simp[hh]
    have za:(s.heap.push (jt led)).objs.size=s.heap.objs.size+1:=fA _ _;have XH:l≠(s.heap.push (jt led)).objs.size:=by rw[za];exact a_ (lb hlS)
    have U_:s.heap.objs.size∉[(s.heap.push (jt led)).objs.size,l]:=by
     rw[za];simp only[aG,bo,bP,or_false,not_or];exact⟨a_ (jK _),eT hlS⟩
    refine Jb ((Walks.tuple hh3 _ l XH items).toS) s.heap.objs.size U_ T (λi h h' t k=>keep i h h' t λb o hb e=>k b o ?_ e) (λi v s' Q E hi hv t q=>add i v s' Q E hi hv t q) (items.size-0) 0 _ (by omega) (bu _)
     ⟨⟨_,bD _ rfl,rfl,rfl⟩,(P2.push _)⟩ ?hS0 ?hR
    ·rw[za]
     intro z;rw[bo]at z;exact hb z
    case hS0=>
     exact t0 led _ (aA _ hS) λb o e=>aA _ (aA _ e)
    case hR=>
     intro s' hm SG;obtain⟨h',g',d',S',Lf⟩:=s';have eg:g'=s.gens:=hm.gens;have ed:d'=s.drawn:=hm.drawn;have eo:Lf=s.os:=hm.os;subst eg;subst ed;subst eo;show wpAny _ _ _ _ _ _;refine aY ?_
     show wpAny _ _ (ret eE) _ _ _;refine aY ⟨rfl,h',S',rfl,SG,λb o hb e=>?_⟩
     have Mp:b≠s.heap.objs.size:=a_ hb;have hb2:b≠(s.heap.push (jt led)).objs.size:=by rw[za];exact a_ (lb hb)
     exact hm.heap b o (by simp only[aG,bo,bP,or_false,not_or];exact⟨Mp,hb2⟩) (aA _ (aA _ e))
   ·cases r₂ with
    |error e=>exact XF
    |ok fl₂=>
     cases fl₂ with
     |ret r=>
      obtain⟨rfl,h',tk,rfl,SG,hk'⟩:=XF
      repeat (any_goals (first|assumption|wp_step))
      exact h _ _ SG hk'
     |_=>exact XF.elim
  |_=>exact hr.elim
end
section
variable{X:Cx}{a b c e:cj}{δ:List Slot}{d d1 d2:aq}{ds:List aq}{pos p p2 Cz:Pos}{k:Nat}
def Qb(K:ao):List V->Hp->VK->Prop:=λxs H Q=>∃(a:aL)(ss:List Str),xs=[.ref a]/\qp K H a (ss.map V.str)/\ss.length<4000/\∀l,H l=none->Q (.ref l) (upd H l (.ext (Hi l (dd [] ss).length)))
theorem x3(hc:X.calm=true):jM X (.type "set") (Qb X.K):=by
 intro pins s σ H xs us Q I r h;obtain⟨a,ss,rfl,hq,h4,q⟩:=h;obtain⟨u,rfl,rx⟩:=vals1 r;cases rx;obtain⟨its,rv,pl,hz⟩:=I.tuple hq;have hlv:=rv.length;simp only[aj]at hlv;have hsz:its.toArray.size=ss.length:=by simp only[bp];omega
 refine zp (I.ok.hd hc) (show s.heap.IsTuple _ _ from pl) (λi h=>(∀b o,s.heap.get? b=some o->h.get? b=some o)/\h.SetOf (strKind X.prog X.w) s.heap.objs.size (λk=>decide (k∈dd [] (ss.take i))) (dd [] (ss.take i)).length) (λled h' e k=>?_) (λi h h' ⟨k1,T⟩ k=>?_) (λi v s' Q' E' hi hv ⟨k1,T⟩ q'=>?_) (λh' tk ⟨k1,T⟩ _=>?_)
 ·have n0:dd [] (ss.take 0)=[]:=by rw[List.take_zero];rfl
  refine⟨k,?_⟩
  rw[n0];refine⟨_,#[],0,.fresh 0 0 led,e,⟨rfl,rfl,rfl⟩,rfl,(λe he=>by cases he),(λk=>⟨λz=>by simp at z,λ⟨e,he,_⟩=>by cases he⟩),(by show 0<scanBound;unfold scanBound;omega),rfl,rfl⟩
 ·refine⟨λb o e=>k b o ?_ (k1 b o e),?_⟩
  ·have:=aW e
   exact a_ (lb this)
  ·obtain⟨o,es,ep,t,ho,rest⟩:=T
   exact⟨o,es,ep,t,k _ _ (a_ (jK _)) ho,rest⟩
 ·rw[hsz]at hi
  have Ld:its[i]?=some v:=by simpa using hv
  obtain⟨x,t,hx,rfl⟩:=Aa rv i v Ld;have his:(strKind X.prog X.w).is x (.str x t)=true:=by show tU x (.str x t)=true;simp[tU]
  have hle:=vn (ss.take i) [];simp only[ck,qP,bS]at hle;have etk:ss.take (i+1)=ss.take i ++ [x]:=by rw[eu,hx];rfl
  unfold setAdd;refine kX (au ((strKind X.prog X.w).pyHash his ?_))
  refine wpAny_setAddHashed_of (knd:=strKind X.prog X.w) (s:={ s' with toks:=s'.toks+1 }) his rfl T (by unfold scanBound;omega) λh' sb T'=>q' h' _ _ (iY _) sb ⟨λb o e=>?_,?_⟩
  ·have hb:=aW e
   rw[sb.2 b (a_ hb)];exact k1 b o e
  ·have ed:dd [] (ss.take (i+1))=if decide (x∈dd [] (ss.take i))=true then dd [] (ss.take i)else dd [] (ss.take i) ++ [x]:=by rw[etk,z_];rfl
   rw[ed];by_cases hm:decide (x∈dd [] (ss.take i))=true
   ·rw[qQ3 hm]at T' ⊢
    refine SetOf_congr T' (λk=>?_) rfl
    by_cases hk:k=x
    ·subst hk;rw[hm];rfl
    ·simp[hk]
   ·rw[qQ2 hm]at T' ⊢
    refine SetOf_congr T' (λk=>?_) (by simp)
    rw[fH];simp
 ·rw[hsz,jJ]at T
  exact⟨.ref s.heap.objs.size,_,I.laid k1 (aD _) (SetOf.Xp T).ok,rfl,q _ (I.hok.fresh (aD _))⟩
theorem vS{ss:List Str}(h:VE X a δ (.tuple (ss.map .str)))(hl:ss.length<4000)(hc:X.calm=true)(m1:X.mg "len"=none)(m2:X.mg "set"=none)(hg:Gl X "len":=by rfl)(hg2:Gl X "set":=by rfl)
  (hs:starEach [a] X.env=(false,eval a X.env)::starEach [] X.env:=by rfl)(qt:starEach [.Call (.Name "set" p2) [a] [] Cz] X.env=(false,eval (.Call (.Name "set" p2) [a] [] Cz) X.env)::starEach [] X.env:=by rfl)(pF:(backTo Cz (starEach [] X.env)).any (·.1)=false:=by rfl)(XI:(backTo pos (starEach [] X.env)).any (·.1)=false:=by rfl):
  VE X (.Call (.Name "len" p) [.Call (.Name "set" p2) [a] [] Cz] [] pos) δ (.int (dd [] ss).length):=
 .of (qX zl hg m1 su (dw (vg (x3 hc) hg2 m2 (by rfl) (dw dM fM hs) (by decide) (by decide) hs pF) fM qt) (by decide) (by decide) qt XI) λB0 B σ H0 H Q f q=>h B0 B σ H0 H _ f λv H1 eC g r=>by
  cases r with
  |tup hq rs=>
   have e:=rs.strs;subst e;have:=vn ss [];exact⟨_,ss,rfl,g.sub.pN hq,hl,λl S_=>⟨l,_,rfl,bK,by simp at this;omega,q _ H1 _ (g.trans (.loose g.sub S_)) (.int _)⟩⟩
def x4:List Bool->Bool:=λl=>l.any id
theorem JF(hc:X.calm=true):jM X (.builtin "any") (λxs H Q=>∃p bs,xs=[.ref p]/\lg X.K H p (bs.map V.bl)/\Q (.bl (x4 bs)) H):=by
 intro pins s σ H xs us Q I r h;obtain⟨p,bs,rfl,hq,q⟩:=h;obtain⟨u,rfl,rx⟩:=vals1 r;cases rx;obtain⟨its,rv,pl,hz⟩:=I.list hq;have hl:=rv.length;simp only[aj]at hl;refine call_any_walkS (qD pl.isList ?_)
 have m8:p≠s.heap.objs.size:=a_ (aW pl.isList.choose_spec.1);have Xr:∀(i:Nat)v,its.toArray[i]?=some v->v=.bool (bs.getD i false):=λi v hv=>by
  have Ld:its[i]?=some v:=by simpa using hv
  have e:=rv.getD i;have e2:its.getD i eE=v:=by rw[aI,Ld];rfl
  have hi:i<bs.length:=by have:=(aJ.mp Ld).1;omega
  have e3:(bs.map V.bl).getD i .non=.bl (bs.getD i false):=by
   rw[aI,aT,aI,ax hi];rfl
  rw[e2,e3]at e;exact e
 refine⟨_,_,_,_,_,_,_,λi=>bs.getD i false,rfl,(Walks.list (by simp[I.ok.hd hc]) _ p m8 its.toArray).toS,⟨⟨_,bD _ rfl,rfl,rfl⟩,pl.isList.push _⟩,?_,λs' hm=>?_⟩
 ·intro i v Q' E' s' hv q'
  rw[Xr i v hv];exact eZ q'
 ·have ea:(cq its.toArray.size).any (λi=>bs.getD i false)=x4 bs:=by
   rw[bp,<-hl];unfold x4;rw[fH,wH,wH]
   constructor
   ·rintro⟨i,hi,h⟩
    have hi:=dG.mp hi;rw[aI,ax hi]at h;exact⟨_,dQ hi,h⟩
   ·rintro⟨x,hx,h⟩
    obtain⟨i,hi⟩:=rO.mp hx;refine⟨i,dG.mpr (aJ.mp hi).1,?_⟩
    rw[aI,hi];exact h
  rw[ea];obtain⟨h',g',d',S',Lf⟩:=s';have eg:g'=s.gens:=hm.gens;have ed:d'=s.drawn:=hm.drawn;have eo:Lf=s.os:=hm.os;subst eg;subst ed;subst eo;refine⟨.bl _,H,I.kept (t':=S') λb o e=>hm.heap b o ?_ (aA _ e),rfl,q⟩
  have:=aW e;simp only[bo];exact a_ this
theorem Tj{bs:List Bool}:oW K (λxs H Q=>∃p bs,xs=[.ref p]/\lg K H p (bs.map V.bl)/\Q (.bl (x4 bs)) H) [.list (bs.map .bool)] (.bool (x4 bs)):=λvs H0 H Q s r q=>by
 obtain⟨v,rfl,r1⟩:=r.one;cases r1 with
 |lst hq rs=>
  have e:=rs.Xs;subst e;exact⟨_,bs,rfl,s.seq hq,q _ _ _ (.refl s) (.bl _)⟩
theorem vt:fillsNumberSlot (.type "tuple") "mul"=pure false:=
 PySem.fillsNumberSlot_seq (id:="tuple.__mul__") (r:=some (.builtin "tuple.__rmul__")) qQ.lookup (by symm) F.slot_tuple_rmul.lookup (by symm)
theorem Bk:seqRepeat? (.type "tuple")=pure (some (.builtin "tuple.__mul__")):=by
 unfold seqRepeat?;rw[PySem.seqSlot_of (T:="tuple") (name:="__mul__") (id:="tuple.__mul__") qQ.lookup (by symm),PySem.seqSlot_of (T:="tuple") (name:="__rmul__") (id:="tuple.__rmul__") F.slot_tuple_rmul.lookup (by symm)]
 rfl
theorem x5(i:Int)(t:Tok)(l:aL)(items:Array ay)(n:Nat)(dd:Option aL)(sl:Array (Option ay)):
  Meets (oO.«int.__rmul__» ⟨[.int i t,.ref l],[]⟩) (λ_ R s=>s.heap.get? l=some { cls:=.type "tuple",dict:=dd,data:=.seq items n,slots:=sl }/\R (.ok (.ret ay.notImplemented)) s):=
 .of_wp λprog w A R s h=>by obtain⟨hp,g,d,tk,os⟩:=s;obtain⟨hl,h⟩:=h;wp_walk;exact⟨_,rfl,h⟩
theorem zq(l:aL)(items:Array ay)(n:Nat)(dd:Option aL)(sl:Array (Option ay))(t:Tok):
  Meets (oO.«tuple.__mul__» ⟨[.ref l,.int 1 t],[]⟩) (λ_ R s=>s.heap.get? l=some { cls:=.type "tuple",dict:=dd,data:=.seq items n,slots:=sl }/\R (.ok (.ret (.ref l))) s):=
 .of_wp λprog w A R s h=>by
  obtain⟨hp,g,d,tk,os⟩:=s;obtain⟨hl,h⟩:=h;have f1:=Fp;have f2:=yP;have c1:(items.isEmpty||(1:Int)==1)=true:=by simp
  wp_walk using fW hl
  exact⟨_,rfl,h⟩
theorem x6(l:aL)(its:List ay)(n:Nat)(dd:Option aL)(sl:Array (Option ay))(k:Int)(t:Tok)(hk:2<=k)(hk2:k<2^63)(m8:its≠[])(hsz:its.length*k.toNat<=sizeLine):
  Meets (oO.«tuple.__mul__» ⟨[.ref l,.int k t],[]⟩) (λ_ R s=>s.heap.get? l=some { cls:=.type "tuple",dict:=dd,data:=.seq its.toArray n,slots:=sl }/\R (.ok (.ret (.ref s.heap.objs.size))) { s with heap:=s.heap.push { cls:=lG "tuple",data:=Data.seq (aH k.toNat its).flatten.toArray } }):=
 .of_wp λprog w A R s h=>by
  obtain⟨hp,g,d,tk,os⟩:=s;obtain⟨hl,h⟩:=h;have f1:=Fp;have f2:=yP;have Tn:its.toArray.isEmpty=false:=by cases its with|nil=>exact qQ7 rfl m8|cons _ _=>rfl
  have zcA:its.toArray.size*k.toNat<=sizeLine:=by rw[bp];exact hsz
  have Tp:zB (λx1 x2=>x1++x2) #[] (aH k.toNat its.toArray)=(aH k.toNat its).flatten.toArray:=by
   have:=foldl_rep its k.toNat [];rw[qK]at this;exact this
  generalize hI:its.toArray=items at *
  have Vj:¬(decide (k < -2^63)||decide (k>=2^63))=true:=by simp;omega
  have hc1:¬(items.isEmpty||k==1)=true:=by rw[Tn];simp;omega
  have R9:¬(decide (k<=0)||items.isEmpty)=true:=by rw[Tn];simp;omega
  have hmul:(items.size:Int)*k=((items.size*k.toNat:Nat):Int):=by rw[Int.natCast_mul,Int.toNat_of_nonneg (by omega)]
  have hsl:(sizeLine:Int)<=(2^63-1)/8:=by decide
  have hc3:¬((items.size:Int)*k>(2^63-1)/8):=by rw[hmul];omega
  have hc4:¬ug ((items.size:Int)*k)=true:=by unfold ug;rw[hmul];simp only[gt_iff_lt,decide_eq_true_eq];omega
  wp_walk using fW hl
  refine k7 (qQ0 Vj) ?_
  wp_walk using fW hl
  refine k7 (qQ0 hc1) ?_
  wp_walk using fW hl
  refine k7 (qQ0 R9) ?_
  wp_walk using fW hl
  refine k7 (qQ0 hc3) ?_
  wp_walk using fW hl
  refine k7 (qQ0 hc4) ?_
  wp_walk using fW hl
  rw[Tp];refine k7 (qQ0 ?_) ?_
  ·rw[bp,len_rep]
   have:items.size=its.length:=by rw[<-hI,bp]
   rw[DJ];omega
  wp_walk
  exact⟨_,rfl,h⟩
def Tq(K:ao):R2:=λx y H Q=>∃a k xs,x=.ref a/\y=.int k/\qp K H a xs/\1<=k/\k<2^63/\xs≠[]/\xs.length*k.toNat<=sizeLine/\(k=1->Q (.ref a) H)/\(k≠1->∀p,H p=none->Q (.ref p) (upd H p (.tup (aH k.toNat xs).flatten)))
theorem Mq:rP X (binaryOp .Mult) (Tq X.K):=by
 intro pins s σ H x y v u Q I rx ry h;obtain⟨a,k,xs,rfl,rfl,ha,h1,h2,hx,hz,q1,q2⟩:=h;cases rx;obtain⟨t,rfl⟩:=ry;obtain⟨its,r1,p1,_⟩:=I.tuple ha;obtain⟨⟨cls,dd,data,sl⟩,ho,hc,n,hd⟩:=id p1;simp only at hc hd;subst hc hd;refine Fm (T:="tuple") (U:="int") (by decide) ⟨_,ho,rfl⟩ (λs'=>xg s' k t) vt F.fills_int_mul sD Bk F.slot_int_index.lookup
  (jm sD (xg s k t) F.entry_int_rmul (F.args_int_rmul_2 _ _) (x5 k t a its.toArray n dd sl) ⟨ho,rfl,⟨_,ho,rfl⟩,?_⟩)
 by_cases hk:k=1
 ·subst hk
  exact jm qQ ⟨_,ho,rfl⟩ F.entry_tuple_mul (F.args_tuple_mul_2 _ _) (zq a its.toArray n dd sl t) ⟨ho,.ref a,H,I,rfl,q1 rfl⟩
 ·refine jm qQ ⟨_,ho,rfl⟩ F.entry_tuple_mul (F.args_tuple_mul_2 _ _) (x6 a its n dd sl k t (by omega) h2 (λz=>hx (r1.wK.mp z)) (by rw[<-r1.length];exact hz)) ⟨ho,?_⟩
  refine⟨.ref s.heap.objs.size,_,I.laid (t':=s.toks) (o:=.tup (aH k.toNat xs).flatten) (λb ob q=>aA _ q) (aD _) ?_,rfl,q2 hk _ (I.hok.fresh (aD _))⟩
  exact⟨by rw[len_rep,DJ];exact hz,_,r1.rep k.toNat,sA _ _⟩
theorem F6{n:Int}(h1:VE X a δ (.tuple ds))(h2:VE X b δ (.int n))(hn:1<=n)(Ca:n<=1000)(hz:ds.length<=100)(m8:ds≠[]):VE X (.BinOp a .Mult b pos) δ (.tuple (aH n.toNat ds).flatten):=by
 refine .of (B9 Mq dM dM) λB0 B σ H0 H Q f q=>h1 B0 B σ H0 H _ f λv H1 eC g1 r1=>h2 B0 B σ H1 eC _ (f.grow g1) λu H2 iT g2 r2=>?_
 cases r2;cases r1 with
 |tup hq rs=>
  rename_i ad xs
  have gg:=g1.trans g2;have hl:=rs.length;have Xq:(1000:Int)<2^63:=by decide
  have Q9:=rs.mono g2.gU;have go:∀m,dq X.K H2 (aH m xs).flatten (aH m ds).flatten:=by
   intro m
   induction m with
   |zero=>exact .nil
   |succ m ih=>rw[dv,eM,dv,eM];exact Q9.append ih
  refine⟨_,n,_,rfl,rfl,g2.sub.pN (g2.gU.pN hq),hn,by omega,λz=>?_,?_,λe=>?_,λ_ p hp=>?_⟩
  ·rw[z]at hl
   exact m8 (mr hl.symm)
  ·rw[cL,hl]
   have:n.toNat<=1000:=by omega
   have:=eD hz this;omega
  ·refine q _ H2 iT gg ?_
   have e2:(aH n.toNat ds).flatten=ds:=by rw[e];simp
   rw[e2];exact .tup (g2.gU.pN hq) Q9
  ·exact q _ _ _ (gg.trans (.laid g2.sub hp)) (.tup (qp.of bK) ((go _).mono (dU.laid g2.sub hp).gU))
end
def vv(as:List aL)(H H0:Hp):Hp:=λq=>if q∈as then H q else H0 q
theorem Bl{H0: Hp}(h:q∈as):vv as H H0 q=H q:=qQ3 h
theorem x8{H0: Hp}(h:q∉as):vv as H H0 q=H0 q:=qQ2 h
abbrev OR:=Hp->Hp->List aL->Prop
def vT(R:OR):Prop:=∀H0 H Ha Hb as,R H0 H as->ej H0 Ha->(∀a∈as,Hb a=H a)->R Ha Hb as
structure OF(K:ao)(B0 B:Hp)(R:OR)(H0 H:Hp)(σ:St)(δ:List Slot):Prop where
 fr:hU K B0 B H0 H σ δ
 no:noOwn δ=true
 ex:∃as:List aL,(∀a∈as,H0 a=none/\B a=none/\H a≠none)/\R H0 H as
section
variable{K:ao}{B0 B H0 H eJ H' C0 C Ha Hb:Hp}{σ σ':St}{δ δ':List Slot}{R R':OR}
theorem ej.eq{H': Hp}(s:ej H H')(h:H a≠none):H' a=H a:=by
 cases e:H a with
 |none=>exact qQ7 e h
 |some o=>exact s a o e
theorem OF.go(m:vT R)(G:OF K B0 B R H0 H σ δ)(f':hU K H0 H Ha Hb σ' δ')(hn:noOwn δ'=true):OF K B0 B R Ha Hb σ' δ':=by
 obtain⟨as,h1,h2⟩:=G.ex;refine⟨f'.re hn (G.fr.ent.trans f'.ent),hn,as,λa ha=>?_,m _ _ _ _ _ h2 f'.ent.gU λa ha=>f'.ent.big.eq (h1 a ha).2.2⟩
 obtain⟨z1,z2,z3⟩:=h1 a ha;cases e:H a with
 |none=>exact qQ7 e z3
 |some o=>exact⟨f'.ent.still z1 e,z2,f'.ent.big.ne z3⟩
theorem OF.from(G:OF K B0 B R H0 H σ δ)(g:dU C0 B H0 H):OF K C0 B R H0 H σ δ:=⟨G.fr.re G.no g,G.no,G.ex⟩
theorem OF.own(G:OF K B0 B R H0 H σ δ):hU K H0 H H0 H σ δ:=G.fr.re G.no (.refl G.fr.sub)
theorem OF.forget(m:vT R)(G:OF K B0 B R H0 H σ δ)(hf:K1 δ δ')(hn:noOwn δ'=true):OF K B0 B R H0 H σ δ':=G.go m (G.own.forget hf.len hf.at) hn
theorem x9(sb:ej H0 H):ej H0 (vv as H H0):=λb u e=>by
 by_cases hb:b∈as
 ·rw[Bl hb];exact sb b u e
 ·rw[x8 hb];exact e
theorem F7(sb:ej H0 H):ej (vv as H H0) H:=λb u e=>by
 by_cases hb:b∈as
 ·rw[Bl hb]at e;exact e
 ·rw[x8 hb]at e;exact sb b u e
theorem OF.look(G:OF K B0 B R H0 H σ δ){i:Nat}(hi:δ[i]?=some (.ref p))(hR:∀Ha Hb as,ej Ha Hb->R Ha Hb as->Rep K (vv as Hb Ha) (.ref p) d):∃C0,hU K C0 H C0 H σ (δ.set i (.val d)):=by
 obtain⟨as,h1,h2⟩:=G.ex;have sm:=x9 (as:=as) G.fr.sub;have hs:σ[i]?=some (some (.ref p)):=G.fr.slot i _ hi;have f0:hU K (vv as H H0) H (vv as H H0) H σ δ:=by
  refine⟨.refl (F7 G.fr.sub),G.fr.len,λi sl e=>?_,G.fr.apart⟩
  have q:=G.fr.slot i sl e;cases sl with
  |un=>trivial
  |ref _=>exact q
  |val d=>obtain⟨v,g1,g2⟩:=q;exact⟨v,g1,g2.mono sm⟩
  |own ds=>exact qQ7 e (oX G.no i ds)
 have f1:=f0.Cw (i:=i) (v:=.ref p) (sl:=.val d) ⟨_,rfl,hR H0 H as G.fr.sub h2⟩ rfl;have e:σ.set i (some (.ref p))=σ:=by
  apply k6;intro j;by_cases h:j=i
  ·subst h;rw[a8 (aJ.mp hs).1,hs]
  ·rw[a7 (bM h)]
 rw[e]at f1;exact⟨_,f1⟩
theorem OF.rep(G:OF K B0 B R H0 H σ δ)(hR:∀Ha Hb as,ej Ha Hb->R Ha Hb as->Rep K (vv as Hb Ha) (.ref p) d):∃Ha,dU B0 B Ha H/\Rep K Ha (.ref p) d:=by
 obtain⟨as,h1,h2⟩:=G.ex;refine⟨vv as H H0,⟨G.fr.ent.big,G.fr.ent.gU.trans (x9 G.fr.sub),F7 G.fr.sub,λb e=>?_⟩,hR H0 H as G.fr.sub h2⟩
 by_cases hb:b∈as
 ·exact .inr (h1 b hb).2.1
 ·rw[x8 hb]at e;exact G.fr.ent.new b e
end
section
variable{X:Cx}{B0 B H0 H eJ H' Ha Hb:Hp}{σ σ':St}{D:Ends}{st:iH}{rest body orelse:List iH}{δ δ':List Slot}{a p:aL}{e c tg iter:cj}{d dp:aq}{ds:List aq}{pos px wA:Pos}{x y:Str}{R:OR}
theorem yb(m:vT R)(G:OF X.K B0 B R H0 H σ δ)(h:VS X st δ (.nx δ'))(hn:noOwn δ'=true)(q:∀σ' eJ H',OF X.K B0 B R eJ H' σ' δ'->D.nx σ' H'):cS X st D σ H:=
 h H0 H σ H0 H D G.own λσ' Ha Hb sm f'=>q σ' Ha Hb (G.go m f' hn)
theorem El(m:vT R)(G:OF X.K B0 B R H0 H σ δ)(i j:Nat)(hi:δ[i]?=some (.ref p))(hR:∀Ha Hb as,ej Ha Hb->R Ha Hb as->Rep X.K (vv as Hb Ha) (.ref p) dp)(h:VE X e (δ.set i (.val dp)) d)(hs:NR d=true)(hn:noOwn (δ.set j (.val d))=true)(q:∀σ' eJ H',OF X.K B0 B R eJ H' σ' (δ.set j (.val d))->D.nx σ' H')(hN:X.N.Nodup)
  (hj:X.N[j]?=some y:=by rfl)(hx:Loc X.env.scope y:=by first|exact bB rfl|exact dm rfl)(Cr:swapsWith e (some (.Name y px)) pos.line X.env=pure false:=by rfl)(hf:X.fn y=true\/X.env.scope.names.lookup y=some .local:=by first|exact .inl rfl|exact .inr rfl):
  cS X (.Assign [.Name y px] e pos) D σ H:=λpins s I=>by
 refine xt (i:=j) hN hj hx dM Cr hf pins s σ H D I ?_
 obtain⟨C0,f1⟩:=G.look hi hR;refine h C0 H σ C0 H _ f1 λv C1 H1 g1 r=>?_
 have G1:OF X.K B0 B R H0 H1 σ δ:=G.go m (G.own.grow (.far G.fr.sub g1.big)) G.no;exact q _ H0 H1 (G1.go m (G1.own.Cw (v:=v) (sl:=.val d) ⟨_,rfl,r.Xj hs⟩ rfl) hn)
theorem Tr{tgt:He}(Rs:Nat->OR)(m:∀k,vT (Rs k))(G:OF X.K B0 B (Rs 0) H0 H σ δ)(hp:AH (model X.prog X.w) X.A X.env X.xe)(hc:X.calm=true)(hi:VI X tg iter δ ds)(hg:PG X tg (LZ X.K tgt))
  (step:∀k d,ds[k]?=some d->∃δ',zk tgt d δ=some δ'/\noOwn δ'=true/\∀(D:Ends)C0 σ' eJ H',OF X.K C0 B (Rs k) eJ H' σ' δ'->(∀σ2 Ha Hb,OF X.K C0 B (Rs (k+1)) Ha Hb σ2 δ->D.nx σ2 Hb)->FQ X body D σ' H')
  (q:∀σ2 Ha Hb,OF X.K B0 B (Rs ds.length) Ha Hb σ2 δ->D.nx σ2 Hb)
  (hs:∀x,foldedSetIterable iter X.env x=pure x:=by intro _;rfl):cS X (.For tg iter body [] pos) D σ H:=λpins s I=>by
 obtain⟨wi,pi,qi⟩:=hi;refine A3 hp hc pi hg my hs pins s σ H D I ?_
 refine qi H0 H σ H0 H _ G.own λJ H1 eC g it=>?_
 have G1:=G.go (m 0) (G.own.grow g) G.no;refine⟨λi mm σ' H'=>i<=ds.length/\mm=ds.length-i/\∃Ha,OF X.K H1 B (Rs i) Ha H' σ' δ,⟨ds.length,bu _,rfl,H1,G1.from ⟨G1.fr.ent.big,ej.refl _,G1.fr.sub,λ_ z=>.inl z⟩⟩,?_⟩
 rintro i mm σ' H' ⟨hi,rfl,Ha,Ga⟩
 obtain⟨i1,i2,i3⟩:=it Ha H' Ga.fr.ent.gU Ga.fr.sub i;by_cases rS:i<ds.length
 ·have hd:ds[i]?=some ds[i]:=by simp[rS]
  obtain⟨δ',e1,e2,e3⟩:=step i _ hd;refine .inr ⟨i1 rS,λσ'' yS=>∃Hb,OF X.K H1 B (Rs (i+1)) Hb yS σ'' δ,λσ'' yS ⟨Hb,z⟩=>⟨ds.length-(i+1),by omega,rS,rfl,Hb,z⟩,λv H2 y=>?_⟩
  obtain⟨Hb,g2,rx⟩:=i3 v H2 _ hd y;refine rh (Ga.own.grow g2) rx e1 λσ3 f3=>?_
  exact e3 _ H1 σ3 Hb H2 (Ga.go (m i) f3 e2) λσ2 Hc Hd z=>⟨Hc,z⟩
 ·have e:i=ds.length:=by omega
  subst e;refine .inl ⟨i2 (aD _),q σ' Ha H' (Ga.from ⟨Ga.fr.ent.big,G1.fr.ent.gU.trans Ga.fr.ent.gU,Ga.fr.sub,λb z=>?_⟩)⟩
  rcases Ga.fr.ent.new b z with z|z
  ·exact G1.fr.ent.new b z
  ·exact .inr z
theorem Ts(G:OF X.K B0 B R H0 H σ δ)(i:Nat)(hi:δ[i]?=some (.ref p))(hR:∀Ha Hb as,ej Ha Hb->R Ha Hb as->Rep X.K (vv as Hb Ha) (.ref p) d)(q:∀v eJ H',dU B0 B eJ H'->Rep X.K eJ v d->D.rt v H')
  (hN:X.N[i]?=some x:=by rfl)(hv:Ft X.env.scope x:=by first|exact bB rfl|exact dm (bB rfl)|exact dm (dm rfl))(hd:(x==("__debug__":Str))=false:=by decide)(qT:(x==("__classdict__":Str))=false:=by decide):
  cS X (.Return (some (.Name x px)) pos) D σ H:=λpins s I=>xr (h7 hN hv hd qT) pins s σ H D I (by
 obtain⟨Ha,g,r⟩:=G.rep hR;exact⟨_,G.fr.slot i _ hi,q _ Ha H g r⟩)
def F8(K:ao)(S:Type)(PR:aL->S->OR)(ok:S->aq->S->Prop):Sp:=λvs H Q _=>∃(H0:Hp)(p:aL)(v:V)(as:List aL)(s s':S)(d:aq),vs=[.ref p,v]/\ej H0 H/\Rep K H0 v d/\(∀a∈as,H0 a=none/\H a≠none)/\PR p s H0 H as/\ok s d s'/\
 ∀(eJ H':Hp)(as':List aL),ej H0 eJ->ej eJ H'->(∀a,eJ a≠none->H0 a≠none\/H a=none)->(∀a∈as',eJ a=none/\H' a≠none/\(a∈as\/H a=none))->(∀b o,H b=some o->b∉as->H' b=some o)->PR p s' eJ H' as'->Q .non H'
theorem NZ{S:Type}{PR:aL->S->OR}{ok:S->aq->S->Prop}{k:Nat}{f:Str}{ps:List Str}{p0 p1 pc:Pos}{s s':S}(C:bE X.prog X.w X.K X.mg X.base k f ps (F8 X.K S PR ok))(hr:fF k X.A)(G:OF X.K B0 B (PR p s) H0 H σ δ)(m:vT (PR p s))(i:Nat)(hi:δ[i]?=some (.ref p))(h:VE X e δ d)(hok:ok s d s')
  (q:∀eJ H',OF X.K B0 B (PR p s') eJ H' σ δ->D.nx σ H')
  (hN:X.N[i]?=some x:=by rfl)(hv:Ft X.env.scope x:=by first|exact bB rfl|exact dm (bB rfl)|exact dm (dm rfl))(hd:(x==("__debug__":Str))=false:=by decide)(qT:(x==("__classdict__":Str))=false:=by decide)
  (hg:Gl X f:=by rfl)(qA:(f==("__debug__":Str))=false:=by decide)(he:starEach [.Name x p0,e] X.env=(false,eval (.Name x p0) X.env)::starEach [e] X.env:=by rfl)(SR:starEach [e] X.env=(false,eval e X.env)::starEach [] X.env:=by rfl)(pF:(backTo pc (starEach [e] X.env)).any (·.1)=false:=by rfl)
  (Cr:swapsWith (.Call (.Name f p1) [.Name x p0,e] [] pc) none pos.line X.env=pure false:=by rfl):
  cS X (.Expr (.Call (.Name f p1) [.Name x p0,e] [] pc) pos) D σ H:=λpins s0 I=>by
 obtain⟨fa,fd,F,hm,hk,hb⟩:=C;refine pJ (A6 F hr hg hm hk hb .nil zU (dw (h7 hN hv hd qT) (dw dM fM SR) he) qA he pF) Cr pins s0 σ H D I ?_
 refine⟨.ref p,G.fr.slot i _ hi,?_⟩
 refine h H0 H σ H0 H _ G.own λv H1 eC g r=>?_
 have G1:=G.go m (G.own.grow g) G.no;obtain⟨as,h1,h2⟩:=G1.ex;refine⟨H1,p,v,as,s,s',d,rfl,G1.fr.sub,r,λa ha=>⟨(h1 a ha).1,(h1 a ha).2.2⟩,h2,hok,λeJ H' as' a1 a2 a3 a4 a5 a6=>?_⟩
 have hB:∀b,B b≠none->b∉as:=λb hb z=>hb (h1 b z).2.1
 refine q eJ H' ⟨⟨⟨λb u e=>a5 b u (G1.fr.ent.big b u e) (hB b (by rw[e];simp)),G1.fr.ent.gU.trans a1,a2,λb z=>?_⟩,G1.fr.len,λj sl e=>?_,G1.fr.apart⟩,G.no,as',λa ha=>?_,a6⟩
 ·rcases a3 b z with z|z
  ·exact G1.fr.ent.new b z
  ·exact .inr (G1.fr.ent.big.free z)
 ·have qq:=G1.fr.slot j sl e
  cases sl with
  |un=>trivial
  |ref _=>exact qq
  |val d=>obtain⟨v,g1,g2⟩:=qq;exact⟨v,g1,g2.mono a1⟩
  |own ds=>exact qQ7 e (oX G.no j ds)
 ·obtain⟨z1,z2,z3⟩:=a4 a ha
  refine⟨z1,?_,z2⟩
  rcases z3 with z3|z3
  ·exact(h1 a z3).2.1
  ·exact G1.fr.ent.big.free z3
end
section
variable{X:Cx}{pins:List (aL×Obj)}{σ:St}{H:Hp}{s:aK}{a:aL}{kvs:List (Key×V)}{k:Key}{d:V}{u r:ay}{A:dJ}{E:ay->aK->Prop}
theorem JG(I:Inv X pins σ H s)(e:H a=some (.dK kvs))(ry:RelV (kV k) u)(rd:RelV d r)(hl:kvs.length<sizeLine)(h1:∀v w' s',ja kvs k=some v->Inv X pins σ H s'->RelV v w'->Q w' s')
  (h2:∀s',ja kvs k=none->Inv X pins σ (upd H a (.dK (putK kvs k d))) s'->Q r s'):wpAny (model X.prog X.w) A (call (.builtin "dict.setdefault") [.ref a,u,r]) Q E s:=by
 obtain⟨z,hd,vs,rel,dd⟩:=IW I.hok e;have rv:=rel.val k;refine call_meetsIn wt dd.typeIs PySem.F.entry_dict_setdefault (PySem.F.args_dict_setdefault_3 _ _ _) (kt_meets_setdefault (fq X.prog X.w) a (sH ry) hd r) ⟨vs,dd,by rw[<-rel.length];exact z,λv hv=>?_,λhn h' D_ hs=>?_⟩
 ·rw[hv]at rv
  cases ev:ja kvs k with
  |none=>rw[ev]at rv;exact rv.elim
  |some w=>rw[ev]at rv;exact h1 w v _ ev (I.tok _) rv
 ·have P4:(putK kvs k d).length<=sizeLine:=by have:=nP kvs k d;omega
  have he:∃q,h'.get? a=some q:=let⟨q,_,_,hq,_⟩:=D_;⟨q,hq⟩;rw[hn]at rv;refine h2 _ ?_ (wL I (by rw[e];exact fz) hs he (D9 P4 hd (rel.put k rd) D_))
  cases ev:ja kvs k with
  |none=>rfl
  |some w=>rw[ev]at rv;exact rv.elim
end
def Tt(td ty tx:TE):TE:=λσ H Q=>td σ H λx H1=>∃a,x=.ref a/\WY H1 a/\ty σ H1 λy H2=>tx σ H2 λz H3=>∃kvs k,H3 a=some (.dK kvs)/\y=kV k/\kvs.length<sizeLine/\
 (∀v,ja kvs k=some v->Q v H3)/\(ja kvs k=none->Q z (upd H3 a (.dK (putK kvs k z))))
section
variable{X:Cx}{o e f:cj}{apos mX:Pos}{td ty tx:TE}
theorem Mr(ho:PE X o td)(he:PE X e ty)(hf:PE X f tx)(m:M2 X o "setdefault" apos e f mX):PE X (.Call (.Attribute o "setdefault" apos) [e,f] [] mX) (Tt td ty tx):=by
 intro pins s σ H Q I h;refine yZ m.base m.few m.line zE wt PySem.F.type_dict_setdefault (fS (ho pins s σ H _ I h) λu s1 ⟨x,H1,I1,rx,a,ex,d,q1⟩=>?_)
 subst ex;obtain rfl:u=bf a:=rx;obtain⟨t1,t2,_⟩:=I_ I1 d;refine⟨t1,t2,?_⟩
 rw[m.trees];refine kY rfl (lX (fU (fS (he pins s1 σ H1 _ I1 q1) λiv s2 ⟨y,H2,I2,ry,q2⟩=>
  fU (fS (hf pins s2 σ H2 _ I2 q2) λfv s3 ⟨z,H3,I3,rz,kvs,k,ea,ey,hl,q3,q4⟩=>ji ?_))))
 subst ey;exact JG I3 ea ry rz hl (λv w' s' ev I4 qz=>⟨v,H3,I4,qz,q3 v ev⟩) λs' ev I4=>⟨z,_,I4,rz,q4 ev⟩
end
section
variable{X:Cx}{B0 B H0 H:Hp}{σ:St}{D:Ends}{st:iH}{rest body orelse:List iH}{δ δ':List Slot}{a p C dx:aL}{e c ek ev:cj}{d:aq}{pos px po ps pa pc:Pos}{x y fl:Str}{fs:List (Str×V)}{k:Nat}
theorem Tv(f:hU X.K B0 B H0 H σ δ)(h:VS X st δ (.nx δ'))(q:∀σ' Ha Hb,ej H0 Ha->hU X.K B0 B Ha Hb σ' δ'->D.nx σ' Hb):cS X st D σ H:=h B0 B σ H0 H D f q
theorem yc(f:hU X.K B0 B H0 H σ δ)(h:VT X c δ true)(q:∀Ha Hb,dU H0 H Ha Hb->FQ X body D σ Hb):cS X (.If c body orelse pos) D σ H:=λpins s I=>
 zK pO my lj pins s σ H D I (h B0 B σ H0 H _ f λH1 eC g=>Sv (q H1 eC g))
theorem m_(f:hU X.K B0 B H0 H σ δ)(h:VT X c δ false)(q:∀Ha Hb,dU H0 H Ha Hb->FQ X orelse D σ Hb):cS X (.If c body orelse pos) D σ H:=λpins s I=>
 zK pO lj my pins s σ H D I (h B0 B σ H0 H _ f λH1 eC g=>IV (q H1 eC g))
theorem JH(i:Nat){fi:aL}{fd:e9}{ps':List Str}{sp:Sp}{j:Nat}{p0 pk:Pos}(M:Mk X.K C fi)(F:eX X.prog X.w X.K X.mg X.base kF j fi fd ps' sp)(hr:fF (j+1) X.A)(hm:X.mg x=some (.ref C))(hb:Binds X.K fd ps' [])
  (q:∀p dx E,H p=none->H dx=none->dx≠p->sp [.ref p] (upd (upd H dx (.own p)) p (.ins C dx [])) (λv H2=>v=.non/\D.nx (σ.set i (some (.ref p))) H2) E)
  (hN:X.N.Nodup)(hi:X.N[i]?=some y:=by rfl)(hx:Loc X.env.scope y:=by first|exact bB rfl|exact dm rfl)(hs:swapsWith (.Call (.Name x p0) [] [] pk) (some (.Name y px)) pos.line X.env=pure false:=by rfl)(hf:X.fn y=true\/X.env.scope.names.lookup y=some .local:=by first|exact .inl rfl|exact .inr rfl)
  (hg:Gl X x:=by rfl)(qA:(x==("__debug__":Str))=false:=by decide):cS X (.Assign [.Name y px] (.Call (.Name x p0) [] [] pk) pos) D σ H:=λpins s I=>by
 refine xt (i:=i) hN hi hx (II M F hr hg hm hb .nil zU qA) hs hf pins s σ H D I ?_
 exact λp dx h1 h2 h3=>q p dx _ h1 h2 h3
theorem N0(f:hU X.K B0 B H0 H σ δ)(hr:fF k X.A)(i:Nat)(hi:δ[i]?=some (.ref p))(ins:H p=some (.ins C dx fs))(cl:Cb X.K C)(na:fK X.K C fl)(lk:fs.lookup fl=some (.ref a))(hd:H a=some (.dK kvs))(hk:VE X ek δ (.str y))(hv:VE X ev δ d)(hl:kvs.length<sizeLine)
  (q:∀v Ha Hb,dU H0 H Ha Hb->Rep X.K Ha v d->D.nx σ (upd Hb a (.dK (putK kvs (cx y) v))))
  (hN:X.N[i]?=some x:=by rfl)(Em:Ft X.env.scope x:=by first|exact bB rfl|exact dm (bB rfl)|exact dm (dm rfl))(qA:(x==("__debug__":Str))=false:=by decide)(qT:(x==("__classdict__":Str))=false:=by decide)
  (hb:attributeBase (.Name x px) fl X.env (eval (.Name x px) X.env)=eval (.Name x px) X.env:=by rfl)(hs:swapsWith ev (some (.Subscript (.Attribute (.Name x px) fl po) ek ps)) pos.line X.env=pure false:=by rfl):
  cS X (.Assign [.Subscript (.Attribute (.Name x px) fl po) ek ps] ev pos) D σ H:=λpins s I=>by
 refine FN (P0 hr) (xA (h7 hN Em qA qT) hb) dM dM hs pins s σ H D I ?_
 refine hv B0 B σ H0 H _ f λv H1 eC g1 r1=>?_
 refine⟨.ref p,f.slot i _ hi,p,C,dx,fs,.ref a,rfl,g1.big _ _ ins,cl,na,lk,?_⟩
 refine hk B0 B σ H1 eC _ (f.grow g1) λu H2 iT g2 r2=>?_
 cases r2;exact⟨a,_,rfl,Cm.k (k:=cx y) (g2.big _ _ (g1.big _ _ hd)) hl,q v H2 iT (g1.trans g2) (r1.mono g2.gU)⟩
theorem Qc(f:hU X.K B0 B H0 H σ δ)(hr:fF k X.A)(i:Nat){kvs:List (List Key×V)}{e1 e2:cj}{z1 z2:Str}{x1}(hi:δ[i]?=some (.ref p))(ins:H p=some (.ins C dx fs))(cl:Cb X.K C)(na:fK X.K C fl)(lk:fs.lookup fl=some (.ref a))(hd:H a=some (.dT kvs))(W':VE X e1 δ (.str z1))(hk2:VE X e2 δ (.str z2))(hv:VE X ev δ d)(hl:kvs.length<sizeLine)
  (q:∀v t Ha Hb,dU H0 H Ha Hb->Hb t=none->Rep X.K Ha v d->D.nx σ (upd (upd Hb t (.tup [.str z1,.str z2])) a (.dT (putK kvs (vp (z1,z2)) v))))
  (hN:X.N[i]?=some x:=by rfl)(Em:Ft X.env.scope x:=by first|exact bB rfl|exact dm (bB rfl)|exact dm (dm rfl))(qA:(x==("__debug__":Str))=false:=by decide)(qT:(x==("__classdict__":Str))=false:=by decide)
  (hb:attributeBase (.Name x px) fl X.env (eval (.Name x px) X.env)=eval (.Name x px) X.env:=by rfl)(hs:swapsWith ev (some (.Subscript (.Attribute (.Name x px) fl po) (.Tuple [e1,e2] x1 pt) ps)) pos.line X.env=pure false:=by rfl)
  (Ef:starEach [e1,e2] X.env=(false,eval e1 X.env)::starEach [e2] X.env:=by rfl)(qt:starEach [e2] X.env=(false,eval e2 X.env)::starEach [] X.env:=by rfl):
  cS X (.Assign [.Subscript (.Attribute (.Name x px) fl po) (.Tuple [e1,e2] x1 pt) ps] ev pos) D σ H:=λpins s I=>by
 refine FN (P0 hr) (xA (h7 hN Em qA qT) hb) (xC (dw dM (dw dM fM qt) Ef)) dM hs pins s σ H D I ?_
 refine hv B0 B σ H0 H _ f λv H1 eC g1 r1=>?_
 refine⟨.ref p,f.slot i _ hi,p,C,dx,fs,.ref a,rfl,g1.big _ _ ins,cl,na,lk,?_⟩
 refine W' B0 B σ H1 eC _ (f.grow g1) λu H2 iT g2 r2=>?_
 cases r2;refine hk2 B0 B σ H2 iT _ ((f.grow g1).grow g2) λu H3 wN g3 r3=>?_
 cases r3;have gg:=(g1.trans g2).trans g3;refine⟨by show 2<=sizeLine;rw[cL];decide,λt ht=>?_⟩
 have Ra:(upd wN t (.tup [.str z1,.str z2])) a=some (.dT kvs):=by rw[aS (bj (gg.big _ _ hd) ht)];exact gg.big _ _ hd
 exact⟨a,_,rfl,Cm.t (k:=vp (z1,z2)) Ra bK hl,q v t H3 wN gg ht ((r1.mono g2.gU).mono g3.gU)⟩
theorem CG(f:hU X.K B0 B H0 H σ δ)(i:Nat)(hi:δ[i]?=some (.ref p))(ins:H p=some (.ins C dx fs))(cl:Cb X.K C)(na:fK X.K C fl)(lk:fs.lookup fl=some (.ref a))(hd:H a=some (.lst xs))(hv:VE X e δ d)(hl:xs.length<sizeLine)
  (q:∀v Ha Hb,dU H0 H Ha Hb->Rep X.K Ha v d->D.nx σ (upd Hb a (.lst (xs ++ [v]))))
  (hN:X.N[i]?=some x:=by rfl)(Em:Ft X.env.scope x:=by first|exact bB rfl|exact dm (bB rfl)|exact dm (dm rfl))(qA:(x==("__debug__":Str))=false:=by decide)(qT:(x==("__classdict__":Str))=false:=by decide)
  (hb:attributeBase (.Name x px) fl X.env (eval (.Name x px) X.env)=eval (.Name x px) X.env:=by rfl)(mY:attributeBase (.Attribute (.Name x px) fl po) "append" X.env (eval (.Attribute (.Name x px) fl po) X.env)=eval (.Attribute (.Name x px) fl po) X.env:=by rfl)
  (hs:starEach [e] X.env=(false,eval e X.env)::starEach [] X.env:=by rfl)
  (tj:((backTo pc (starEach [e] X.env)).all (λx=>!x.1)&&(backToKw pc (keywordEach [] X.env)).all (λx=>x.1.isSome)&&decide (([e]:List cj).length+([]:List iO).length+(if([]:List iO).isEmpty then 0 else 1)<30))=true:=by rfl)
  (hline:(pa.endLine==pc.line)=true:=by rfl)(jX:(backTo pc (starEach [] X.env)).any (·.1)=false:=by rfl)(Cr:swapsWith (.Call (.Attribute (.Attribute (.Name x px) fl po) "append" pa) [e] [] pc) none pos.line X.env=pure false:=by rfl):
  cS X (.Expr (.Call (.Attribute (.Attribute (.Name x px) fl po) "append" pa) [e] [] pc) pos) D σ H:=λpins s I=>by
 refine pJ (xF iJ ou oy rR (xA (h7 hN Em qA qT) hb) (dw dM fM hs) mY tj hline hs jX) Cr pins s σ H D I ?_
 refine⟨.ref p,f.slot i _ hi,p,C,dx,fs,.ref a,rfl,ins,cl,na,lk,.inl ⟨rfl,_,lg.of hd⟩,?_⟩
 refine hv B0 B σ H0 H _ f λv H1 eC g1 r1=>?_
 exact⟨a,xs,v,rfl,rfl,g1.big _ _ hd,hl,q v H1 eC g1 r1⟩
theorem JK(f:hU X.K B0 B H0 H σ δ)(i:Nat){pl Rb Rc:Pos}(hi:δ[i]?=some (.ref p))(ins:H p=some (.ins C dx fs))(cl:Cb X.K C)(na:fK X.K C fl)(lk:fs.lookup fl=some (.ref a))(hd:H a=some (.dK kvs))(hk:VE X ek δ (.str y))(hv:VE X e δ d)(hl:kvs.length<sizeLine)(sv:noOwn δ=true)(XJ:H0 a=none)
  (hc:∀v,ja kvs (cx y)=some v->∃c xs,v=.ref c/\H c=some (.lst xs)/\xs.length<sizeLine)
  (q1:∀c xs v t Ha Hb,ja kvs (cx y)=some (.ref c)->H c=some (.lst xs)->H t=none->dU H0 H Ha Hb->Ha t=none->Rep X.K Ha v d->D.nx σ (upd Hb c (.lst (xs ++ [v]))))
  (q2:∀v c Ha Hb,ja kvs (cx y)=none->H c=none->ej H0 Ha->ej Ha Hb->(∀b,Ha b≠none->H0 b≠none\/H b=none)->(∀b o,H b=some o->b≠a->Hb b=some o)->Hb a=some (.dK (putK kvs (cx y) (.ref c)))->Hb c=some (.lst [])->Ha c=none->Ha a=none->Rep X.K Ha v d->D.nx σ (upd Hb c (.lst [v])))
  (hN:X.N[i]?=some x:=by rfl)(Em:Ft X.env.scope x:=by first|exact bB rfl|exact dm (bB rfl)|exact dm (dm rfl))(qA:(x==("__debug__":Str))=false:=by decide)(qT:(x==("__classdict__":Str))=false:=by decide)
  (hb:attributeBase (.Name x px) fl X.env (eval (.Name x px) X.env)=eval (.Name x px) X.env:=by rfl)(m:M2 X (.Attribute (.Name x px) fl po) "setdefault" Rb ek (.List [] pl) Rc:=by exact⟨rfl,rfl,rfl,rfl⟩)
  (mY:attributeBase (.Call (.Attribute (.Attribute (.Name x px) fl po) "setdefault" Rb) [ek,.List [] pl] [] Rc) "append" X.env (eval (.Call (.Attribute (.Attribute (.Name x px) fl po) "setdefault" Rb) [ek,.List [] pl] [] Rc) X.env)=eval (.Call (.Attribute (.Attribute (.Name x px) fl po) "setdefault" Rb) [ek,.List [] pl] [] Rc) X.env:=by rfl)
  (hs:starEach [e] X.env=(false,eval e X.env)::starEach [] X.env:=by rfl)
  (tj:((backTo pc (starEach [e] X.env)).all (λx=>!x.1)&&(backToKw pc (keywordEach [] X.env)).all (λx=>x.1.isSome)&&decide (([e]:List cj).length+([]:List iO).length+(if([]:List iO).isEmpty then 0 else 1)<30))=true:=by rfl)
  (hline:(pa.endLine==pc.line)=true:=by rfl)(jX:(backTo pc (starEach [] X.env)).any (·.1)=false:=by rfl)(Cr:swapsWith (.Call (.Attribute (.Call (.Attribute (.Attribute (.Name x px) fl po) "setdefault" Rb) [ek,.List [] pl] [] Rc) "append" pa) [e] [] pc) none pos.line X.env=pure false:=by rfl):
  cS X (.Expr (.Call (.Attribute (.Call (.Attribute (.Attribute (.Name x px) fl po) "setdefault" Rb) [ek,.List [] pl] [] Rc) "append" pa) [e] [] pc) pos) D σ H:=λpins s I=>by
 refine pJ (xF iJ ou oy rR (Mr (xA (h7 hN Em qA qT) hb) dM (A5 fM) m) (dw dM fM hs) mY tj hline hs jX) Cr pins s σ H D I ?_
 refine⟨.ref p,f.slot i _ hi,p,C,dx,fs,.ref a,rfl,ins,cl,na,lk,a,rfl,.inl ⟨kvs,.inl hd⟩,?_⟩
 refine hk B0 B σ H0 H _ f λu H1 eC g1 r1=>?_
 cases r1;refine⟨by show 0<=sizeLine;exact bu _,λt ht=>?_⟩
 have XM:a≠t:=bj (g1.big _ _ hd) ht;have gl:dU H0 H H1 (upd eC t (.lst [])):=g1.trans (.loose g1.sub ht);refine⟨kvs,cx y,by rw[aS XM];exact g1.big _ _ hd,rfl,hl,λv En=>?_,λhn=>?_⟩
 ·obtain⟨c,xs,rfl,Ik,XO⟩:=hc v En
  have hct:c≠t:=bj (g1.big _ _ Ik) ht;refine⟨.inl ⟨rfl,_,lg.of (by rw[aS hct];exact g1.big _ _ Ik)⟩,?_⟩
  refine hv B0 B σ H1 _ _ (f.grow gl) λv H2 iT g2 r2=>?_
  have gg:=gl.trans g2;refine⟨c,xs,v,rfl,rfl,gg.big _ _ Ik,XO,q1 c xs v t H2 iT En Ik (g1.big.free ht) gg ?_ r2⟩
  exact g2.still (g1.sub.free ht) bK
 ·have hca:t≠a:=bM XM
  have ga:(upd eC t (.lst [])) a=some (.dK kvs):=by rw[aS XM];exact g1.big _ _ hd
  refine⟨.inl ⟨rfl,_,lg.of (by rw[aS hca];exact bK)⟩,?_⟩
  have h1a:H1 a=none:=g1.still XJ hd;have h1t:H1 t=none:=g1.sub.free ht
  generalize hM:upd (upd eC t (.lst [])) a (.dK (putK kvs (cx y) (.ref t)))=Hm
  have m0:∀b o,H b=some o->b≠a->Hm b=some o:=λb o e hb=>by
   rw[<-hM,aS hb,aS (bj (g1.big _ _ e) ht)];exact g1.big _ _ e
  have m1:Hm a=some (.dK (putK kvs (cx y) (.ref t))):=by rw[<-hM];exact bK
  have m2:Hm t=some (.lst []):=by rw[<-hM,aS hca];exact bK
  have sm:ej H1 Hm:=λb u e=>by
   rw[<-hM,aS (bj e h1a),aS (bj e h1t)];exact g1.sub b u e
  have fm:hU X.K H1 Hm H1 Hm σ δ:=by
   have f1:=f.grow g1;refine⟨.refl sm,f1.len,λj sl e=>?_,f1.apart⟩
   have qq:=f1.slot j sl e;cases sl with
   |un=>trivial
   |ref _=>exact qq
   |val d=>exact qq
   |own ds=>exact qQ7 e (oX sv j ds)
  refine hv H1 Hm σ H1 Hm _ fm λv H2 iT g2 r2=>?_
  refine⟨t,[],v,rfl,rfl,g2.big _ _ m2,by show 0<sizeLine;rw[cL];decide,?_⟩
  refine q2 v t H2 iT hn (g1.big.free ht) (g1.gU.trans g2.gU) g2.sub (λb z=>?_) (λb o e hb=>g2.big _ _ (m0 b o e hb)) (g2.big _ _ m1) (g2.big _ _ m2) (g2.still h1t m2) (g2.still h1a m1) r2
  rcases g2.new b z with z|z
  ·exact g1.new b z
  ·refine .inr ?_
   cases e:H b with
   |none=>rfl
   |some o=>
    exfalso
    by_cases hb:b=a
    ·subst hb;rw[m1]at z;cases z
    ·rw[m0 b o e hb]at z;cases z
end
section
variable{X:Cx}{a b e:cj}{δ:List Slot}{d:aq}{ds:List aq}{pos:Pos}{k:Nat}
theorem Ms(h:VE X e δ d)(hs:swapsWith e none pos.line X.env=pure false:=by rfl):VS X (.Expr e pos) δ (.nx δ):=λB0 B σ H0 H D f ok pins s I=>
 pJ dM hs pins s σ H D I (h B0 B σ H0 H _ f λv H1 eC g r=>ok σ H1 eC g.gU (f.grow g))
end
end L2
namespace PySem
section
variable{prog:bC}{w:cw}{A:dJ}{E:ay->aK->Prop}{h:c6}{g:Array sr}{d:Drawn}{t:Nat}{os:OsState}{a:aL}{items:Array ay}{n:Nat}{sl}
end
end PySem
namespace PySem.F
end PySem.F
namespace L2
open PySem PySem.Spec PyProof.Rows
section
variable{prog:bC}{w:cw}{A:dJ}{R:sX->aK->Prop}{I:aL}{fp wr:List aL}{G:Array sr->Array sr->Prop}{n:Nat}{P:Nat->ay->Prop}{St:Nat->aK->Prop}
end
section
variable{prog:bC}{w:cw}{A:dJ}{E:ay->aK->Prop}{s:aK}
end
section
variable{X:Cx}
end
section
variable{ε:Type}{X:Cx}{sc:kU}{own N:List Str}{cap:List Nat}{cl:List (Str×aL)}{tg elt iter:cj}{ifs:List cj}{δ:List Slot}{ds:List aq}{pos:Pos}{tgt:He}{Er:Hp->V->ε->Prop}
end
section
variable{X:Cx}{a b c:cj}{δ:List Slot}{d:aq}{pos p:Pos}{k:Nat}{z1 z2:Str}
end
inductive N1:aq->Prop
 |non:N1 .none
 |bl (b:Bool):N1 (.bool b)
 |int (i:Int):N1 (.int i)
 |str (x:Str):N1 (.str x)
 |lst {ds:List aq}:(∀d∈ds,N1 d)->N1 (.list ds)
 |tup {ds:List aq}:(∀d∈ds,N1 d)->N1 (.tuple ds)
section
variable{K:ao}{H:Hp}{p:aL}{kvs:List (Key×V)}
end
section
variable{X:Cx}{B0 B H0 H:Hp}{σ:St}{D:Ends}{δ:List Slot}{ev:cj}{d:aq}{pos px ps pk:Pos}{x y:Str}{k:Nat}{jk}
theorem Qd{st:List iH}(h:wB X st δ (.rt d))(f:hU X.K B0 B H0 H σ δ)(ok:∀v eJ H',dU B0 B eJ H'->Rep X.K eJ v d->D.rt v H'):FQ X st D σ H:=h B0 B σ H0 H D f ok
end
end L2
namespace L2
open PySem
variable{fI:aL}{us:Array ay}{env:Env}{base:c6}{out:List Env}{rest:List ay}{M:Model}{oe:Obj}{K:ao}{Q:Unit->aK->Prop}
structure Af(fr ex:List aL)(e:aL)(oe:Obj)(h h':c6):Prop where
 size:h.objs.size<=h'.objs.size
 keep:∀b o,h.get? b=some o->b∉fr->b∉ex->b≠e->h'.get? b=some o
 slot:∀b o,h.get? b=some o->b∈fr->b∉ex->b≠e->∃sl,h'.get? b=some { o with slots:=sl }
 there:∀b o,h.get? b=some o->∃o',h'.get? b=some o'
 exc:∃T oT ts,h.objs.size<=T/\h'.get? e=some (oe.mapFields (·.setIfInBounds 1 (bf T)))/\T≠e/\h'.get? T=some oT/\oT.data=.fields ts/\ts[3]?=some .none
section
variable{M:Model}{A:dJ}{E:ay->aK->Prop}{s:aK}
theorem yd{L e:aL}{hd0:ay}{more:Bool}
  (fr:A.frames=some (env::out))(ff:s.heap.FunFrames base (env::out))(fL:env.frame=some L)
  (ge:s.heap.get? e=some oe)(de:oe.data=.fields us)(sz:1<us.size)
  (q:∀h',Af ((env::out).filterMap (·.frame)) [] e oe s.heap h'->Q () { s with heap:=h' }):
  wpAny M A (do let a <-frameOf env;let pl <-entryPlaceOf L more;let b <-AY hd0 a .none (rawInt L) .none pl;setField (.ref e) 1 b) (λ_ s'=>wpAny M A (setFlight (.ref e) none) Q E s') E s:=by
 have nf:e∉(env::out).filterMap (·.frame):=λhm=>by
  obtain⟨_,o,ho,XQ⟩:=ff.mem hm;rw[ge]at ho;injection ho with ho;subst ho;exact XQ us de
 refine au (wpAny_frameOf_fun fr ff fL λh1 Ef=>?_)
 refine au (wpAny_entryPlaceOf λpl pF=>?_)
 unfold AY newFields
 generalize hts:([hd0,.ref L,.none,rawInt L,.none]++(if pl.isEmpty then aH 6 eE else pl)).toArray=tb
 have tsz:3<tb.size:=by rw[<-hts];simp only[bp,aV,a9,ck];omega
 refine au (eQ ?_ (by rw[<-hts];exact pF.sizeOk5 _ _ _ _ _))
 have g1:h1.get? e=some oe:=(Ef.2.1 e nf).trans ge;have g2:=aA (h:=h1) { cls:=.type "traceback",dict:=none,data:=.fields tb } g1;refine lY g2 de sz ?_
 have Vk:h1.objs.size≠e:=eT (aW g1);have d3:=f6 de (·.setIfInBounds 1 (bf h1.objs.size))
 have g3:=fQ (kj (·.setIfInBounds 1 (bf h1.objs.size))) g2 (jo d3)
 have t3:=(dz (h1.push { cls:=.type "traceback",dict:=none,data:=.fields tb }) (kj (·.setIfInBounds 1 (bf h1.objs.size))) (bM Vk)).trans (bD h1 rfl)
 unfold setFlight;refine au (er g3 d3 (x:=.ref h1.objs.size) (by simp[sz]) ?_)
 rw[qQ3 (show(bf h1.objs.size != eE)=true from by simp)]
 refine lY t3 rfl tsz (q _ ?_)
 have kp:∀b o,b≠e->h1.get? b=some o->(((h1.push { cls:=.type "traceback",dict:=none,data:=.fields tb }).update e (kj (·.setIfInBounds 1 (bf h1.objs.size)))).update h1.objs.size
    (kj (·.setIfInBounds 3 ((none:Option aL).elim eE λf=>rawInt f)))).get? b=some o:=λb o be hb=>by
  rw[dz _ _ (eT (aW hb)),dz _ _ (bM be)];exact aA _ hb
 refine⟨?_,λb o hb hf _ be=>kp b o be ((Ef.2.1 b hf).trans hb),λb o hb _ _ be=>?_,λb o hb=>?_,h1.objs.size,_,_,?_,?_,Vk,fQ _ t3 (jo (f6 rfl _)),f6 rfl _,by simp[tsz]⟩
 ·rw[k8,k8,fA,Ef.1]
  exact iY _
 ·obtain⟨sl,hsl⟩:=Ef.2.2 b o hb
  exact⟨sl,kp b _ be hsl⟩
 ·by_cases be:b=e
  ·subst be
   exact⟨_,(dz _ _ Vk).trans g3⟩
  ·obtain⟨sl,hsl⟩:=Ef.2.2 b o hb
   exact⟨_,kp b _ be hsl⟩
 ·rw[Ef.1];exact aD _
 ·rw[dz _ _ Vk];exact g3
theorem CH{L e:aL}
  (fr:A.frames=some (env::out))(ff:s.heap.FunFrames base (env::out))(fL:env.frame=some L)
  (ge:s.heap.get? e=some oe)(de:oe.data=.fields us)(u1:us[1]?=some .none)
  (q:∀h',Af ((env::out).filterMap (·.frame)) [] e oe s.heap h'->Q () { s with heap:=h' }):wpAny M A (leaving env (.ref e)) Q E s:=by
 unfold leaving noteFrame;simp only[fL];refine au (au (er ge de u1 ?_))
 rw[qQ2 (by decide)]
 exact yd fr ff fL ge de (hC.mp u1).1 q
end
abbrev tF(C:aL)(dx:Option aL)(t:aL)(sl:Array (Option ay)):Obj:={ cls:=.ref C,dict:=dx,data:=.fields #[.ref t,.none,.none,.none,.bool false,.none],slots:=sl }
abbrev Eo(C t:aL):Obj:={ cls:=.ref C,data:=.fields #[.ref t,.none,.none,.none,.bool false,.none] }
abbrev uG(h:c6)(C:aL)(rest:List ay):c6:=(h.push { cls:=.type "tuple",data:=.seq rest.toArray }).push (Eo C h.objs.size)
section
variable{prog:bC}{w:cw}{A:dJ}{E:ay->aK->Prop}{R:sX->aK->Prop}{h:c6}{g:Array sr}{d:Drawn}{t:Nat}{os:OsState}
variable{nm q:Str}{C N:aL}{bs bm Qe:List ay}{hdct:Bool}{sn:List Str}{sub:List ay}{ab:Bool}{col:Option Bool}{dd:Option aL}{k0 k1 k2 k3 k5:Option ay}{B newId pV:String}
theorem Ep(F:oP B newId pV Qe)(cB:(bf C::bm).contains (.type B)=true)
  (gC:h.get? C=some (excClassObj nm q C N bs bm hdct sn sub ab col dd k0 k1 k2 k3 k5 newId))(hq:Q () ⟨h,g,d,t,os⟩):wpAny M A (checkBuiltinCall newId ⟨.ref C::rest,[]⟩) Q E ⟨h,g,d,t,os⟩:=by
 have star:=F.noStar;simp only[F.newRow,F.newSplit,F.newKind,checkBuiltinCall]
 repeat (first|(refine hG gC ?_;rw[cB])|refine eR gC ?_|refine wpAny_madeBy_exc gC ?_|refine wpAny_staticBase_exc gC ?_|simp only[Bool.false_eq_true,bne_self_eq_false,if_false]|wp_step)
 exact hq
theorem Tw(F:oP B newId pV Qe)(cB:(bf C::bm).contains (.type B)=true)(cA:(bf C::bm).contains (.type "AttributeError")=false)(cN:(bf C::bm).contains (.type "NameError")=false)
  (gC:h.get? C=some (excClassObj nm q C N bs bm hdct sn sub ab col dd k0 k1 k2 k3 k5 newId))(few:rest.length<=sizeLine)
  (hq:R (.ok (.ret (.ref (h.objs.size+1)))) ⟨(h.push { cls:=.type "tuple",data:=.seq rest.toArray }).push (Eo C h.objs.size),g,d,t,os⟩):
  codeAny (model prog w) A (.builtin newId ⟨.ref C::rest,[]⟩) R ⟨h,g,d,t,os⟩:=by
 have ends:=F.ends;refine codeAny_builtinAt F.entry ?_
 unfold oO.«BaseException.__new__»;refine wpAt_bind ?_
 show wpAt _ _ _ (stack >>= _) _ _ _;refine wpAt_bind (wpAt_stack λp below=>wpAt_of_wpAny ?_)
 wp_walk
 refine wpAt_of_wpAny ?_
 rw[F.owner]
 repeat (first|(with_reducible refine hG gC ?_;first|rw[cB]|rw[cN]|rw[cA])|with_reducible refine eR gC ?_|with_reducible refine wpAny_madeHere_exc F.canon gC ?_|wp_step)
 show R _ _;rw[fA];exact hq
theorem Es(F:oP B newId pV Qe)(cB:(bf C::bm).contains (.type B)=true)(cA:(bf C::bm).contains (.type "AttributeError")=false)(cN:(bf C::bm).contains (.type "NameError")=false)
  {Q:Fin->aK->Prop}(KX:K.In h)(gC:h.get? C=some (excClassObj nm q C N bs bm hdct sn sub ab col dd k0 k1 k2 k3 k5 newId))(hi:bY K (.ref C) "__init__"=some (some (.ref fI)))(cI:w_ K (.ref fI)=some (.type "function"))
  (hq:wpAny (model prog w) A (call (.ref fI) (.ref (h.objs.size+1)::rest)) (λr s'=>r=.none/\Q (.done (.ret (.ref (h.objs.size+1)))) s') E ⟨uG h C rest,g,d,t,os⟩)(few:rest.length<=sizeLine):
  wpAny (model prog w) A (oO.«type.__call__» ⟨.ref C::rest,[]⟩) Q E ⟨h,g,d,t,os⟩:=by
 repeat (first|with_reducible refine wpAny_madeBy_exc gC ?_|with_reducible refine eR gC ?_|wp_step)
 refine codeAny_call_builtin_code (uY _ F.quiet) (Ep F cB gC ?_)
 refine Tw F cB cA cN gC few ?_
 show wpAny _ _ _ _ _ _;have up:∀b o,h.get? b=some o->((h.push { cls:=.type "tuple",data:=.seq rest.toArray }).push (Eo C h.objs.size)).get? b=some o:=λb o e=>aA _ (aA _ e)
 have gC1:=up _ _ gC;have KX1:K.In ((h.push { cls:=.type "tuple",data:=.seq rest.toArray }).push (Eo C h.objs.size)):=λa o e=>up _ _ (KX a o e)
 have ge:((h.push { cls:=.type "tuple",data:=.seq rest.toArray }).push (Eo C h.objs.size)).get? (h.objs.size+1)=some (Eo C h.objs.size):=by heap_get
 have hcC:(bf C::bm).contains (.ref C)=true:=by simp
 unfold isInstance
 repeat (first|(with_reducible refine hG gC1 ?_;rw[hcC])|with_reducible refine eR ge ?_|wp_step)
 show wpAny _ _ (typeLookup (.ref C) _) _ _ _;refine(qH KX1 hi).at ?_
 refine kX (au ?_)
 unfold bindSpecial;refine au ((PySem.W.looks_typeIn KX1 cI).at ?_)
 rw[qQ3 (by decide)]
 refine aY (au (eB hq (λr s' hr=>?_) λ_ _ x=>x))
 obtain⟨rfl,hQ⟩:=hr
 wp_walk
 exact hQ
theorem Qf(F:oP B newId pV Qe)(cB:(bf C::bm).contains (.type B)=true)(cA:(bf C::bm).contains (.type "AttributeError")=false)(cN:(bf C::bm).contains (.type "NameError")=false)
  {Q:ay->aK->Prop}(KX:K.In h)(gC:h.get? C=some (excClassObj nm q C N bs bm hdct sn sub ab col dd k0 k1 k2 k3 k5 newId))(hi:bY K (.ref C) "__init__"=some (some (.ref fI)))(cI:w_ K (.ref fI)=some (.type "function"))
  (hq:wpAny (model prog w) (A.under (.builtin "type.__call__" ⟨.ref C::rest,[]⟩)) (call (.ref fI) (.ref (h.objs.size+1)::rest)) (λr s'=>r=.none/\Q (.ref (h.objs.size+1)) s') E ⟨uG h C rest,g,d,t,os⟩)(few:rest.length<=sizeLine):
  wpAny (model prog w) A (call (.ref C) rest) Q E ⟨h,g,d,t,os⟩:=by
 have f1:=tc_lookup;have f2:=tc_bind (.ref C);have hT:(⟨h,g,d,t,os⟩:aK).TypeIs (.ref C) "type":=⟨_,gC,rfl⟩;refine k_ (codeAny_of_tree ?_)
 show wpAny _ _ (callAny (.ref C) _) _ _ _
 repeat (any_goals (first|assumption|with_reducible refine eR gC ?_|wp_step))
 refine⟨rfl,?_⟩
 exact codeAny_call_builtin_at (uY _ (by symm)) entry_typeCall (wpAny_check_type_call_sub gC (Es F cB cA cN KX gC hi cI hq few))
theorem Et{s:aK}{x:Sem ay}{Q:Flow->aK->Prop}(hb:(bf C::bm).contains (.type "BaseException")=true)(hh:A.handled=none)
  (k:wpAny M A x (λv s1=>∃e dx t sl,v=.ref e/\s1.heap.get? C=some (excClassObj nm q C N bs bm hdct sn sub ab col dd k0 k1 k2 k3 k5 newId)/\s1.heap.get? e=some (tF C dx t sl)/\E (.ref e) s1) E s):
  wpAny M A (raiseStmt env (some x) none) Q E s:=by
 unfold raiseStmt;refine au (eB k (λv s1 k1=>?_) λ_ _ x=>x)
 obtain⟨e,dx,t,sl,rfl,gC,ge,hE⟩:=k1;obtain⟨hp,g,d,tk,os⟩:=s1
 repeat (first|with_reducible refine eR ge ?_|with_reducible refine eR gC ?_|(with_reducible refine hG gC ?_;rw[hb])|wp_step)
 exact wpAny_raiseNew_none hh hE
end
end L2
namespace L2
open PySem PySem.Spec PyProof.Rows
variable{C T dx e:aL}{A:dJ}{sl:Array (Option ay)}{ts us:Array ay}{o1 o2:HO}{base h:c6}{H:Hp}{pins:List (aL×Obj)}{fs:List (Str×V)}{vs:List V}{rest:List ay}{M:Model}{P:bC}{s:aK}{Q:Unit->aK->Prop}{w:cw}
section
variable{prog:bC}{w:cw}{A:dJ}{E:ay->aK->Prop}{R:sX->aK->Prop}{h:c6}{g:Array sr}{d:Drawn}{t:Nat}{os:OsState}
variable{nm q:Str}{C N e t0:aL}{bs bm Qe:List ay}{hdct:Bool}{sn:List Str}{sub:List ay}{ab:Bool}{col:Option Bool}{dd dx:Option aL}{k0 k1 k2 k3 k5:Option ay}{B newId pV:String}{sl:Array (Option ay)}
theorem CJ(F:oP B newId pV Qe)(cB:(bf C::bm).contains (.type B)=true)
  (gC:h.get? C=some (excClassObj nm q C N bs bm hdct sn sub ab col dd k0 k1 k2 k3 k5 newId))(ge:h.get? e=some (tF C dx t0 sl))(hq:Q () ⟨h,g,d,t,os⟩):
  wpAny M A (checkBuiltinCall pV ⟨.ref e::rest,[]⟩) Q E ⟨h,g,d,t,os⟩:=by
 have short:=F.noStar;simp only[F.initRow,F.initSplit,F.initKind,checkBuiltinCall]
 repeat (first|with_reducible refine eR ge ?_|(with_reducible refine hG gC ?_;rw[cB])|with_reducible refine eR gC ?_|wp_step)
 refine qN ?_
 rw[show ∀(a b:String)(n:Nat),Bind.check ⟨.positional,"*",B,.self,[⟨"args",.varPos,false⟩]⟩ a b n (Fq (λx=>x.fst) ({ pos:=bf e::rest }:Args).kw)=pure () from
  λa b n=>PySem.check_star_args _ _ _ _ _ _]
 exact aY hq
theorem Qg(F:oP B newId pV Qe)(cB:(bf C::bm).contains (.type B)=true){Q:ay->aK->Prop}
  (gC:h.get? C=some (excClassObj nm q C N bs bm hdct sn sub ab col dd k0 k1 k2 k3 k5 newId))(ge:h.get? e=some (tF C dx t0 sl))(few:rest.length<=sizeLine)
  (hq:∀h' t1,h'.get? e=some (tF C dx t1 sl)->(∀b o,b≠e->h.get? b=some o->h'.get? b=some o)->Q .none ⟨h',g,d,t,os⟩):
  wpAny (model prog w) A (call (.builtin pV) (.ref e::rest)) Q E ⟨h,g,d,t,os⟩:=by
 refine k_ (nD F.init.plain F.initEntry (CJ F cB gC ge ?_))
 unfold oO.«BaseException.__init__»
 dsimp only
 rw[qQ2 (by simp)]
 unfold newTuple oO.BaseException.bexcPut;have ge1:=aA (h:=h) { cls:=.type "tuple",data:=.seq rest.toArray } ge;refine au (eQ (au (au (er ge1 rfl (x:=.ref t0) rfl (au (lY ge1 rfl (show 0<6 by decide) ?_))))) (by show rest.toArray.size<=sizeLine;rw[bp];exact few))
 refine B3 (aY (hq _ h.objs.size ?_ λb o be hb=>?_))
 ·rw[fQ _ ge1 rfl]
  rfl
 ·rw[dz _ _ (bM be)]
  exact aA _ hb
end
section
variable{prog:bC}{w:cw}{A:dJ}{E:ay->aK->Prop}{s:aK}{K:ao}{C e t0 dx:aL}{sl:Array (Option ay)}{name:Str}{v:ay}{mA:Str->Option ay}
def rm:List ay->List ay
 | .ref _::r=>rm r
 |l=>l
def Ag:List ay:=[.type "ValueError",.type "Exception",.type "BaseException",.type "object"]
theorem Ah(self:ay):∀{l:List ay},rm l=Ag->refuseLoop self "__setattr__" l=pure ()
 | [],h=>by cases h
 | .ref c::r,h=>by rw[refuseLoop_ref];exact Ah self h
 | .type n::r,h=>by rw[show lG n::r=Ag from h];exact PySem.F.store_ValueError.passes self
 | .none::r,h=>by cases h
 | .bool _::r,h=>by cases h
 | .int _ _::r,h=>by cases h
 | .str _ _::r,h=>by cases h
 | .builtin _::r,h=>by cases h
def Bm(K:ao)(C:aL):Prop:=∃cd,PySem.W.clsIn K C=some cd/\rm cd.mro=Ag
theorem CK:∀{l:List ay},rm l=Ag->l.contains (.type "object")=true
 | [],h=>by cases h
 | .ref c::r,h=>by
  rw[List.contains_cons,CK (l:=r) h,vK]
 | .type n::r,h=>by rw[show lG n::r=Ag from h];rfl
 | .none::r,h=>by cases h
 | .bool _::r,h=>by cases h
 | .int _ _::r,h=>by cases h
 | .str _ _::r,h=>by cases h
 | .builtin _::r,h=>by cases h
theorem Ai{R:sX->aK->Prop}{x:aL}{ox:Obj}{od:Option Obj}{tk:Tok}{r:Option ay}(X:K.In s.heap)(I:mP s.heap x ox C od)(hp:Bm K C)(ht:jR K C name=some r)
  (h:∀b:Bool,wpAny (model prog w) A.in1 (match r with
   |some a=>oO.ObjectAttr.setByDescriptor a (.ref x) v
   |none=>oO.ObjectAttr.storeInOwnDict (.ref x) (.ref C) (.str name tk) name v b) (λfin s'=>match fin with
    | .done f=>R (.ok f) s'
    | .again c'=>c'.quiet=true/\codeAny (model prog w) A c' R s') (λe s'=>R (.error e) s') s) :
  codeAny (model prog w) A (.call (.builtin "object.__setattr__") ⟨[.ref x,.str name tk,v],[]⟩) R s:=by
 have SF:=PySem.F.store_object;obtain⟨cd,hc,ho⟩:=hp;have ne:cd.mro.isEmpty=false:=by
  cases q:cd.mro with
  |nil=>rw[q]at ho;cases ho
  |cons _ _=>rfl
 have sub:y6 (model prog w) s.heap (isInstance (.ref x) (.type "object")) true:=oA (pD I) (PySem.W.looks_mroIn X (by
  unfold sC;rw[hc]
  show(if cd.mro.isEmpty=true then none else some (cd.mro.contains (lG "object")))=some true
  rw[ne,CK ho];rfl))
 have pl:=SF.slot.plain;have en:=SF.entry;refine nD pl en ?_
 have ar:=SF.args (.ref x) (.str name tk) v;have kd:=SF.kind;have spl:=SF.split;apply PySem.W.check_slot (i:="object.__setattr__") (owner:="object") (n:="__setattr__") (self:=.ref x) (rest:=[.str name tk,v]) (kw:=[]) kd spl sub ar;obtain⟨attr,ha,hr⟩:=Option.bind_eq_some_iff.mp ht;have hm:y6 (model prog w) s.heap (mroOf (.ref C)) cd.mro:=oA (mq X hc) qR;have L3:y6 (model prog w) s.heap (oO.ObjectAttr.storeTaker? attr) r:=by
  cases attr with
  |none=>cases hr;exact qR
  |some a=>
   obtain⟨b,hb,rfl⟩:=BX.mp hr;refine oA (PySem.W.looks_takesIn X hb) ?_
   cases b<;>exact qR
 rw[PySem.W.osa_eq,refuse_eq];refine au (au (fw (pD I) (au (fw hm ?_))))
 rw[Ah _ ho];exact aY (au (fw (pD I) (au (fw (qH X ha) (au (fw L3 (h attr.isSome)))))))
theorem Eu(X:K.In s.heap)(ge:s.heap.get? e=some (tF C none t0 sl))(hs:bY K (.ref C) "__setattr__"=some (some (.builtin "object.__setattr__")))(hp:Bm K C)(ht:jR K C name=some none)(hh:gq K C=true)
  (h:∀h',h'.get? e=some (tF C (some s.heap.objs.size) t0 sl)->h'.Ns1 s.heap.objs.size (λy=>if y=name then some v else none)->(∀b o,b≠e->s.heap.get? b=some o->h'.get? b=some o)->Q () { s with heap:=h',toks:=s.toks+2 }):
  wpAny (model prog w) A (setAttr (.ref e) name v) Q E s:=by
 have J:mP s.heap e (tF C none t0 sl) C none:=⟨ge,rfl,rfl,trivial⟩;refine ub X J hs (Ai (s:={ s with toks:=s.toks+1 }) (r:=none) X J hp ht λb=>?_)
 obtain⟨cd,hc,K7⟩:=u0 hh;refine au (aY (au (au (u5 ge (au (fw (s:={ s with toks:=s.toks+1 }) (mq X hc) ?_))))))
 rw[K7];have m8:s.heap.objs.size≠e:=eT (aW ge);have ge1:(s.heap.push { cls:=.type "dict",data:=.dict #[] }).get? e=some (tF C none t0 sl):=aA _ ge;have gd1:(s.heap.push { cls:=.type "dict",data:=.dict #[] }).get? s.heap.objs.size=some { cls:=.type "dict",data:=.dict #[] }:=bD _ rfl;refine au (wpAny_alloc (au (wpAny_update ge1 ?_)))
 have ge2:((s.heap.push { cls:=.type "dict",data:=.dict #[] }).update e λo=>{ o with dict:=some s.heap.objs.size }).get? e=some (tF C (some s.heap.objs.size) t0 sl):=fQ _ ge1 rfl
 have gd2:((s.heap.push { cls:=.type "dict",data:=.dict #[] }).update e λo=>{ o with dict:=some s.heap.objs.size }).get? s.heap.objs.size=some { cls:=.type "dict",data:=.dict #[] }:=(dz _ _ (bM m8)).trans gd1
 refine aY ?_
 refine au (aY (au ?_))
 refine wpAny_nsSet1 (DI ⟨_,#[],_,gd2,rfl,(λz hz=>qQ7 hz (by simp)),λ_=>rfl⟩) λh' Ca qt=>?_
 obtain⟨oD,ZE,ZF,R1,R3,GP⟩:=Ca.count (mE name v (ns:=[]) λy hy=>qQ7 rfl hy)
 refine au (AI R1 (by rw[R3];exact AJ (bZ GP (xh (bu _)))) ?_)
 refine aY (h _ ((qt.2 _ (bM m8)).trans ge2) Ca λb o be hb=>?_)
 rw[qt.2 b (a_ (aW hb)),dz _ _ (bM be)];exact aA _ hb
theorem Hu{ns:List Str}(X:K.In s.heap)(ge:s.heap.get? e=some (tF C (some dx) t0 sl))(gd:s.heap.Ns1 dx mA)(m8:dx≠e)(hs:bY K (.ref C) "__setattr__"=some (some (.builtin "object.__setattr__")))(hp:Bm K C)(ht:jR K C name=some none)(hh:gq K C=true)
  (hw:kW mA ns)(hsz:ns.length<=100)
  (h:∀h',h'.get? e=some (tF C (some dx) t0 sl)->h'.Ns1 dx (λy=>if y=name then some v else mA y)->(∀b o,b≠dx->s.heap.get? b=some o->h'.get? b=some o)->Q () { s with heap:=h',toks:=s.toks+2 }):
  wpAny (model prog w) A (setAttr (.ref e) name v) Q E s:=by
 obtain⟨od,XR,_⟩:=vd gd;have J:mP s.heap e (tF C (some dx) t0 sl) C (some od):=⟨ge,rfl,rfl,XR⟩;refine ub X J hs (Ai (s:={ s with toks:=s.toks+1 }) (r:=none) X J hp ht λb=>?_)
 obtain⟨cd,hc,K7⟩:=u0 hh;refine au (aY (au (au (u5 ge (au (fw (s:={ s with toks:=s.toks+1 }) (mq X hc) ?_))))))
 rw[K7];refine aY (a:=some dx) (au (aY (au ?_)))
 refine wpAny_nsSet1 (s:={ s with toks:=s.toks+1 }) gd λh' Ca qt=>?_
 obtain⟨oD,ZE,ZF,R1,R3,GP⟩:=Ca.count (mE name v hw);refine au (AI R1 (by rw[R3];exact AJ (bZ GP (by rw[a9,cL];omega))) ?_)
 exact aY (h _ ((qt.2 _ (bM m8)).trans ge) Ca λb o be hb=>(qt.2 b be).trans hb)
end
def lu(C e:aL)(dx:Option aL):HO:=.ext λh=>∃t sl,h.get? e=some (tF C dx t sl)
def yT(dx:aL)(fs:List (Str×V)):HO:=.ext λh=>∃mA,h.Ns1 dx mA/\(∀f,mW (fs.lookup f) (mA f))/\kW mA (fs.map (·.1))
theorem lu.ok{t: aL}{dx:Option aL}(g:h.get? e=some (tF C dx t sl)):gS P w H h e (lu C e dx):=
 ⟨⟨t,sl,g⟩,⟨_,g⟩,λh1 h2 ⟨t,sl,q⟩ k=>⟨t,sl,k _ q⟩⟩
theorem yT.ok{mA:Str->Option ay}(n:h.Ns1 dx mA)(r:∀f,mW (fs.lookup f) (mA f))(wi:kW mA (fs.map (·.1))):gS P w H h dx (yT dx fs):=by
 refine⟨⟨mA,n,r,wi⟩,?_,λh1 h2 ⟨mA,n,r,wi⟩ k=>⟨mA,n.at λo q=>k o q,r,wi⟩⟩
 obtain⟨o,_,_,e,_⟩:=n;exact⟨o,e⟩
theorem lu.at{dx:Option aL}(k:qF P w H h)(g:H e=some (lu C e dx)):∃t sl,h.get? e=some (tF C dx t sl):=(k e _ g).1
theorem yT.at(k:qF P w H h)(g:H dx=some (yT dx fs)):∃mA,h.Ns1 dx mA/\(∀f,mW (fs.lookup f) (mA f))/\kW mA (fs.map (·.1)):=(k dx _ g).1
structure Ew(K:ao)(C:aL):Prop where
 ob:∃nm q N bs bm hdct sn sub ab col dd k0 k1 k2 k3 k5,K.lookup C=some (excClassObj nm q C N bs bm hdct sn sub ab col dd k0 k1 k2 k3 k5 "ValueError.__new__")/\(bf C::bm).contains (.type "ValueError")=true/\(bf C::bm).contains (.type "AttributeError")=false/\(bf C::bm).contains (.type "NameError")=false/\(bf C::bm).contains (.type "BaseException")=true
 sa:bY K (.ref C) "__setattr__"=some (some (.builtin "object.__setattr__"))
 po:Bm K C
 hd:gq K C=true
 kp:eO K (.ref C)=true
section
variable{X:Cx}{pins:List (aL×Obj)}{σ:St}{H:Hp}{s:aK}{C e dx:aL}{f:Str}{y:V}{u:ay}{fs:List (Str×V)}{A:dJ}{E:ay->aK->Prop}
theorem Ey(I:Inv X pins σ H s)(ge:H e=some (lu C e none))(c:Ew X.K C)(n:fK X.K C f)(ry:RelV y u)
  (q:∀dx s',H dx=none->dx≠e->Inv X pins σ (upd (upd H dx (yT dx [(f,y)])) e (lu C e (some dx))) s'->Q () s'):wpAny (model X.prog X.w) A (setAttr (.ref e) f u) Q E s:=by
 obtain⟨t,sl,g⟩:=lu.at I.hok ge;refine Eu I.sF g c.sa c.po n.taker c.hd λh' g1 n1 k1=>?_
 obtain⟨od,es,ep,e1,rest⟩:=id n1;have m8:s.heap.objs.size≠e:=eT (aW g);have XQ:od.isFreed=false:=(c6.get?_some_iff.mp e1).2
 have gm:(s.heap.push od).get? s.heap.objs.size=some od:=bD _ XQ;have I1:=I.laid (a:=s.heap.objs.size) (o:=yT s.heap.objs.size [(f,y)]) (h':=s.heap.push od) (t':=s.toks) (λb u q=>aA _ q) (aD _)
  (yT.ok (mA:=λz=>if z=f then some u else none) ⟨od,es,ep,gm,rest⟩ (λz=>by
   by_cases hz:z=f
   ·subst hz
    show mW (([(z,y)]:List (Str×V)).lookup z) (if z=z then some u else none)
    rw[qQ3 rfl,dP,beq_self_eq_true];exact ry
   ·show mW (([(f,y)]:List (Str×V)).lookup z) (if z=f then some u else none)
    rw[qQ2 hz,dP,beq_false_of_ne hz];exact fz) (mE f u (ns:=[]) λz hz=>qQ7 rfl hz))
 refine q s.heap.objs.size _ (I.hok.fresh (aD _)) m8 ?_
 refine I1.write (x:=e) (e:=e) (h':=h') (t':=s.toks+2) (by rw[aS (bM m8),ge];exact fz) (.inl rfl) (λb o hb gb=>?_) ⟨_,g1⟩ (lu.ok g1)
 by_cases hbd:b=s.heap.objs.size
 ·subst hbd
  have Vl:(s.heap.push od).get? s.heap.objs.size=some o:=gb;rw[gm]at Vl;cases Vl;exact e1
 ·have Vl:(s.heap.push od).get? b=some o:=gb
  rcases c6.get?_push_cases Vl with⟨z,_⟩|z
  ·exact qQ7 z hbd
  ·exact k1 b o hb z
theorem Hv(I:Inv X pins σ H s)(ge:H e=some (lu C e (some dx)))(gd:H dx=some (yT dx fs))(m8:dx≠e)(c:Ew X.K C)(n:fK X.K C f)(hl:fs.length<50)(ry:RelV y u)
  (q:∀s',Inv X pins σ (upd H dx (yT dx (kr f y fs))) s'->Q () s'):wpAny (model X.prog X.w) A (setAttr (.ref e) f u) Q E s:=by
 obtain⟨t,sl,g⟩:=lu.at I.hok ge;obtain⟨mA,n1,r,wi⟩:=yT.at I.hok gd;refine Hu I.sF g n1 m8 c.sa c.po n.taker c.hd wi (by rw[aj];omega) λh' g1 n2 k1=>q _ ?_
 refine I.write (x:=dx) (e:=dx) (by rw[gd];exact fz) (.inl rfl) (λb o hb gb=>k1 b o hb gb) ?_ (yT.ok n2 (λz=>?_) λz hz=>?_)
 ·obtain⟨o,_,_,e',_⟩:=n2;exact⟨o,e'⟩
 ·show mW ((kr f y fs).lookup z) (if z=f then some u else mA z)
  rw[qW];by_cases hz:z=f
  ·rw[qQ3 hz,qQ3 hz];exact ry
  ·rw[qQ2 hz,qQ2 hz];exact r z
 ·by_cases hzf:z=f
  ·rw[hzf];exact(oQ f y fs).1
  ·refine(oQ f y fs).2 z (wi z λw=>hz ?_)
   show(if z=f then some u else mA z)=none
   rw[qQ2 hzf];exact w
end
section
variable{X:Cx}{o value a1 a2:cj}{f x y:Str}{pos pos' p p2 ap p3 p4:Pos}{j4:Nat}{ta tv:TE}{C M dx:aL}{i:Nat}
def Qh(K:ao)(ta tv:TE)(f:Str):TS:=λD σ H=>tv σ H λv H1=>ta σ H1 λx H2=>∃e C,x=.ref e/\H2 e=some (lu C e none)/\Ew K C/\fK K C f/\
 ∀dx,H2 dx=none->dx≠e->D.nx σ (upd (upd H2 dx (yT dx [(f,v)])) e (lu C e (some dx)))
def Qi(K:ao)(ta tv:TE)(f:Str):TS:=λD σ H=>tv σ H λv H1=>ta σ H1 λx H2=>∃e C dx fs,x=.ref e/\H2 e=some (lu C e (some dx))/\H2 dx=some (yT dx fs)/\dx≠e/\Ew K C/\fK K C f/\fs.length<50/\
 D.nx σ (upd H2 dx (yT dx (kr f v fs)))
theorem JL(ha:PE X o ta)(hv:PE X value tv)(hs:swapsWith value (some (.Attribute o f pos')) pos.line X.env=pure false):PS X (.Assign [.Attribute o f pos'] value pos) (Qh X.K ta tv f):=by
 intro pins s σ H D I h;refine mF (fS (hv pins s σ H _ I h) λu s1 ⟨v,H1,I1,rv,q⟩=>fS (ha pins s1 σ H1 _ I1 q) λov s2 ⟨x,H2,I2,rx,e,C,ex,ge,c,n,q2⟩=>?_) hs
 subst ex;obtain rfl:ov=bf e:=rx;exact Ey I2 ge c n rv λdx s3 h1 h2 I3=>⟨σ,_,I3,q2 dx h1 h2⟩
theorem JM(ha:PE X o ta)(hv:PE X value tv)(hs:swapsWith value (some (.Attribute o f pos')) pos.line X.env=pure false):PS X (.Assign [.Attribute o f pos'] value pos) (Qi X.K ta tv f):=by
 intro pins s σ H D I h;refine mF (fS (hv pins s σ H _ I h) λu s1 ⟨v,H1,I1,rv,q⟩=>fS (ha pins s1 σ H1 _ I1 q) λov s2 ⟨x,H2,I2,rx,e,C,dx,fs,ex,ge,gd,m8,c,n,hl,q2⟩=>?_) hs
 subst ex;obtain rfl:ov=bf e:=rx;exact Hv I2 ge gd m8 c n hl rv λs3 I3=>⟨σ,_,I3,q2⟩
def Tx(x:Str)(ta:TE):TE:=λσ H Q=>ta σ H λv H1=>∃y,v=.str y/\y.length<=sizeLine/\(ei++x++y).length<=sizeLine/\Q (.str (ei++x++y)) H1
theorem Mt(he:PE X a1 ta)(hx:(ei++x).length<=sizeLine):PE X (.JoinedStr [.Constant (.str x) j4 p3,.FormattedValue a1 (-1) none p4] p) (Tx x ta):=by
 intro pins s σ H Q I h;refine JoinedStr_many (joinParts_cons (nA ⟨hx,joinParts_cons (FormattedValue_plain (fS (he pins _ σ H _ (I.tok _) h) λv s1 ⟨v1,H1,I1,rv,y,ey,hy,Vm,q⟩=>?_))⟩))
 subst ey;obtain⟨tk,rfl⟩:=rv;refine formatField_str (λt' tk=>⟨Vm,joinParts_nil ⟨.str _,H1,(I1.tok _).tok _,⟨_,rfl⟩,q⟩ Vm⟩) hy
def XS(K:ao)(t:TA):TE:=λσ H Q=>t σ H λvs H1=>∃e C dx v2,vs=[.ref e,v2]/\H1 e=some (lu C e dx)/\Ew K C/\Q .non H1
theorem Qj{pl:Sem Bool}{t:TA}(hg:Gl X x)(hm:X.mg x=some (.ref M))(hr:wu X.K M (.type "type")=true)(hf:wx X.K (.ref M) (.type "type") "__init__"=some (.val (.builtin "ValueError.__init__")))
  (za:kC X.K (.ref M) "__getattribute__"=some (some (.builtin "type.__getattribute__")))(ha:PA X [a1,a2] t)(qA:(x==("__debug__":Str))=false:=by decide)
  (he:starEach [a1,a2] X.env=(false,eval a1 X.env)::starEach [a2] X.env:=by rfl)(pF:(backTo pos (starEach [a2] X.env)).any (·.1)=false:=by rfl)
  (ht:eval (.Call (.Attribute (.Name x p) "__init__" ap) [a1,a2] [] pos) X.env=(do
   let ov <-eval (.Name x p) X.env
   standAt ap.atName
   let(f,first) <-holding [ov] (getMethod ov "__init__" pl)
   callWith pos f first (backTo pos (starEach [a1,a2] X.env)) (backToKw pos (keywordEach [] X.env))):=by rfl):PE X (.Call (.Attribute (.Name x p) "__init__" ap) [a1,a2] [] pos) (XS X.K t):=by
 intro pins s σ H Q I h;refine PySem.W.methodCall_KW (pl:=pl) (nJ I hg hm ?_ qA) ht
 refine PySem.W.method_cls I.sF za (PySem.W.cls_value I.sF hr hf rfl ?_)
 refine callWith_builtin1 (fS (ha pos pins _ σ H _ (I.tok _) h) λus s1 ⟨vs,H1,I1,r1,e,C,dx,v2,ev,ge,c,q⟩=>?_) he pF
 subst ev;obtain⟨u1,u2,rfl,XE,Q8⟩:=vals2 r1;obtain rfl:u1=bf e:=XE;obtain⟨t0,sl,g⟩:=lu.at I1.hok ge;obtain⟨nm,q0,N,bs,bm,hdct,sn,sub,ab,col,dd,k0,k1,k2,k3,k5,lk,cB,_⟩:=c.ob;obtain⟨hh,gg,d,tk,os⟩:=s1;refine Qg xj cB (I1.sF _ _ lk) g (by show 1<=sizeLine;rw[cL];decide) λh' t1 g1 kk=>?_
 have hu:upd H1 e (lu C e dx)=H1:=by
  funext b
  by_cases hb:b=e
  ·subst hb;rw[bK,ge]
  ·rw[aS hb]
 have I2:=I1.write (x:=e) (e:=e) (h':=h') (t':=tk) (by rw[ge];exact fz) (.inl rfl) (λb o hb gb=>kk b o hb gb) ⟨_,g1⟩ (lu.ok (dx:=dx) g1)
 rw[hu]at I2;exact⟨.non,H1,I2,rfl,q⟩
end
section
variable{X:Cx}{CX:GQ}{k:Nat}{f C:aL}{fd:e9}{ps:List Str}{sp:Sp}{E:XK}
structure Vn(K:ao)(C f:aL):Prop extends Ew K C where
 init:bY K (.ref C) "__init__"=some (some (.ref f))
 fn:uc K (.ref f)=true
theorem Hw{σ:St}{Q:VK}{us:List ay}(M:Vn X.K C f)(F:eX X.prog X.w X.K X.mg X.base CX k f fd ps sp)(hr:fF (k+1) X.A)(hb:Binds X.K fd ps [])
  (hx:vf CX X E)(I:Inv X pins σ H s)(r:ez vs us)(few:us.length<=sizeLine)
  (h:∀e,H e=none->s.heap.objs.size<=e->sp (.ref e::vs) (upd H e (lu C e none)) (λv H2=>v=.non/\Q (.ref e) H2) E):
  wpAny (model X.prog X.w) X.A (call (.ref C) us) (EP X pins σ Q) X.xe s:=by
 obtain⟨nm,q0,N,bs,bm,hdct,sn,sub,ab,col,dd,k0,k1,k2,k3,k5,lk,cB,cA,cN,_⟩:=M.ob;obtain⟨hh,gg,d,tk,os⟩:=s;have gC:=I.sF _ _ lk;refine Qf xj cB cA cN I.sF gC M.init (beq_iff_eq.mp M.fn) ?_ few
 have up:∀b o,hh.get? b=some o->(uG hh C us).get? b=some o:=λb o e=>aA _ (aA _ e)
 have ge:(uG hh C us).get? (hh.objs.size+1)=some (Eo C hh.objs.size):=by heap_get
 have I2:=I.laid (a:=hh.objs.size+1) (o:=lu C (hh.objs.size+1) none) (h':=uG hh C us) (t':=tk) up (iY _) (lu.ok (t:=hh.objs.size) (sl:=#[]) ge);have hq:=h (hh.objs.size+1) (I.hok.fresh (iY _)) (iY _);have r2:ez (V.ref (hh.objs.size+1)::vs) (bf (hh.objs.size+1)::us):=.cons rfl r;have hl:(bf (hh.objs.size+1)::us ++ []).length=ps.length:=by
  rw[dC];have e:=r2.length;rw[F.len _ _ _ _ hq]at e;exact e.symm
 refine k_ (kf (F.run _ X.stack _ _ ⟨bf (hh.objs.size+1)::us,[]⟩ (bf (hh.objs.size+1)::us) _ _ E (hr.make C us []) (I2.env0.make C us []) ?_ r2 hq) λr s' Cd=>?_)
 ·have:=hb _ (bf (hh.objs.size+1)::us) I2.sF hl
  rw[dC]at this;exact this
 cases r with
 |error e=>exact hx pins σ _ _ e s' I2 Cd
 |ok fl=>
  cases fl with
  |ret u=>
   obtain⟨v,H',I3,rv,ev,q3⟩:=I2.after Cd;subst ev;exact⟨rv,⟨V.ref (hh.objs.size+1),H',I3,rfl,q3⟩⟩
  |next=>exact eP Cd
  |brk=>exact eP Cd
  |cont=>exact eP Cd
end
def o8(C e dx T:aL):HO:=.ext λh=>∃us sl,h.get? e=some { cls:=.ref C,dict:=some dx,data:=.fields us,slots:=sl }/\us[1]?=some (.ref T)
def Aj(T:aL):HO:=.ext λh=>∃oT ts,h.get? T=some oT/\oT.data=.fields ts/\ts[3]?=some .none
theorem o8.ok(g:h.get? e=some { cls:=.ref C,dict:=some dx,data:=.fields us,slots:=sl })(u:us[1]?=some (.ref T)):gS P w H h e (o8 C e dx T):=
 ⟨⟨us,sl,g,u⟩,⟨_,g⟩,λh1 h2 ⟨us,sl,q,u⟩ k=>⟨us,sl,k _ q,u⟩⟩
theorem Aj.ok{oT:Obj}(g:h.get? T=some oT)(d:oT.data=.fields ts)(u:ts[3]?=some .none):gS P w H h T (Aj T):=
 ⟨⟨oT,ts,g,d,u⟩,⟨_,g⟩,λh1 h2 ⟨oT,ts,q,d,u⟩ k=>⟨oT,ts,k _ q,d,u⟩⟩
def HL(H:Hp)(ex:List aL)(e T:aL)(o1 o2:HO):Hp:=λb=>if b=e then some o1 else if b=T then some o2 else if b∈ex then none else H b
section
variable{H:Hp}{ex:List aL}{e T b:aL}{o1 o2:HO}
theorem Mu:HL H ex e T o1 o2 e=some o1:=qQ3 rfl
theorem Mv(h:T≠e):HL H ex e T o1 o2 T=some o2:=by unfold HL;rw[qQ2 h,qQ3 rfl]
theorem rn(h1:b≠e)(h2:b≠T)(h3:b∉ex):HL H ex e T o1 o2 b=H b:=by unfold HL;rw[qQ2 h1,qQ2 h2,qQ2 h3]
theorem Tz(h1:b≠e)(h2:b≠T)(h3:b∈ex):HL H ex e T o1 o2 b=none:=by unfold HL;rw[qQ2 h1,qQ2 h2,qQ3 h3]
end
def uH(o:Option HO):Prop:=∃φ,o=some (.ext φ)
section
variable{P:bC}{w:cw}{fs ex:List aL}{H0 H:Hp}{h0 h h':c6}{L e T:aL}{oe:Obj}{o1 o2:HO}
theorem JN(u:Un fs [] H0 H h0 h)(l:Af (L::fs) ex e oe h h')(hL:h0.objs.size<=L)(he:h0.objs.size<=e)(hx:∀x∈ex,h0.objs.size<=x)(ie:uH (H e))(ix:∀x∈ex,uH (H x))(hT:h.get? T=none)(nT:H T=none):
  Un fs [] H0 (HL H ex e T o1 o2) h0 h':=by
 have nL:∀b o,h0.get? b=some o->b≠L:=λb o q z=>by subst z;exact qQ7 (aW q) (Nat.not_lt.mpr hL)
 have ne:∀b o,h0.get? b=some o->b≠e:=λb o q z=>by subst z;exact qQ7 (aW q) (Nat.not_lt.mpr he)
 have nx:∀b o,h0.get? b=some o->b∉ex:=λb o q z=>qQ7 (aW q) (Nat.not_lt.mpr (hx b z))
 have JQ:∀b (o:HO),H b=some o->(∀φ,o≠.ext φ)->b≠e/\b≠T/\b∉ex:=λb o q z=>by
  refine⟨λq2=>?_,λq2=>?_,λq2=>?_⟩
  ·obtain⟨φ,r⟩:=ie;rw[q2,r]at q;cases q;exact z φ rfl
  ·rw[q2,nT]at q;cases q
  ·obtain⟨φ,r⟩:=ix b q2;rw[r]at q;cases q;exact z φ rfl
 refine⟨λb o q n hf hb=>?_,λb o q n hf hb=>?_,λb o q n hb=>?_,λb o q hb=>?_,λb xs q=>?_,λb o u' q=>?_,λb ps q=>?_⟩
 ·refine l.keep b o (u.keep b o q n hf hb) ?_ (nx b o q) (ne b o q)
  intro z;rcases aG.mp z with z|z
  ·exact nL b o q z
  ·exact hf z
 ·obtain⟨sl,q1⟩:=u.slot b o q n hf hb
  obtain⟨QZ,q2⟩:=l.slot b _ q1 (aU _ hf) (nx b o q) (ne b o q);exact⟨QZ,q2⟩
 ·have z:=u.free b o q n hb
  obtain⟨o',q1⟩:=u.there b o q hb;rw[rn (ne b o q) (λz=>by subst z;rw[hT]at q1;cases q1) (nx b o q)]
  exact z
 ·obtain⟨o',q1⟩:=u.there b o q hb
  by_cases hf:b∈L::fs
  ·obtain⟨sl,q2⟩:=l.slot b o' q1 hf (nx b o q) (ne b o q)
   exact⟨_,q2⟩
  ·exact⟨_,l.keep b o' q1 hf (nx b o q) (ne b o q)⟩
 ·have z:=u.tups b xs q
  obtain⟨a1,a2,a3⟩:=JQ b _ z (by intro φ z;cases z)
  rw[rn a1 a2 a3];exact z
 ·have z:=u.va b o u' q
  obtain⟨a1,a2,a3⟩:=JQ b _ z (by intro φ z;cases z)
  rw[rn a1 a2 a3];exact z
 ·obtain⟨more,z⟩:=u.wy b ps q
  obtain⟨a1,a2,a3⟩:=JQ b _ z (by intro φ z;cases z)
  exact⟨more,by rw[rn a1 a2 a3];exact z⟩
theorem Ak(k:qF P w H h)(l:Af (L::fs) ex e oe h h')(nf:∀b∈L::fs,H b=none)(ie:uH (H e))(ix:∀x∈ex,uH (H x))(hT:h.get? T=none)(nT:H T=none)
  (n1:gS P w (HL H ex e T o1 o2) h' e o1)(n2:gS P w (HL H ex e T o1 o2) h' T o2):qF P w (HL H ex e T o1 o2) h':=by
 intro b o q;by_cases hb:b=e
 ·subst hb;rw[Mu]at q;cases q;exact n1
 by_cases Rf:b=T
 ·subst Rf;rw[Mv hb]at q;cases q;exact n2
 by_cases Il:b∈ex
 ·rw[Tz hb Rf Il]at q;cases q
 rw[rn hb Rf Il]at q;have JQ:∀c (o:HO),H c=some o->(∀φ,o≠.ext φ)->c≠e/\c≠T/\c∉ex:=λc o q z=>by
  refine⟨λq2=>?_,λq2=>?_,λq2=>?_⟩
  ·obtain⟨φ,r⟩:=ie;rw[q2,r]at q;cases q;exact z φ rfl
  ·rw[q2,nT]at q;cases q
  ·obtain⟨φ,r⟩:=ix c q2;rw[r]at q;cases q;exact z φ rfl
 refine(k b o q).stay (λc u hc r=>?_) (λc r=>?_) λc xs r=>?_
 ·rcases hc with rfl|hc
  ·exact l.keep c u r (λz=>by rw[nf c z]at q;cases q) Il hb
  ·obtain⟨a1,a2,a3⟩:=JQ c _ hc (by intro φ z;cases z)
   exact l.keep c u r (λz=>by rw[nf c z]at hc;cases hc) a3 a1
 ·obtain⟨a1,a2,a3⟩:=JQ c _ r (by intro φ z;cases z)
  rw[rn a1 a2 a3];exact r
 ·obtain⟨a1,a2,a3⟩:=JQ c _ r (by intro φ z;cases z)
  rw[rn a1 a2 a3];exact r
theorem pW:∀{l:List Env},(∀b∈l.filterMap (·.frame),∀o,h.get? b=some o->∃o',h'.get? b=some o'/\o'.data=o.data)->h.FunFrames base l->h'.FunFrames base l
 | [],_,_=>trivial
 |env::rest,k,⟨hk,⟨L,o,hf,hn,ho,hd⟩,hr⟩=>by
  obtain⟨o',Fu,K7⟩:=k L (by rw[gQ,hf];exact aP) o ho
  exact⟨hk,⟨L,o',hf,hn,Fu,λvs=>K7▸hd vs⟩,pW (λb hb=>k b (by rw[gQ,hf];exact aU _ hb)) hr⟩
end
def Vo(P:bC)(w:cw):GQ:=λouter H s E e s'=>∃ea C dx T H',e=.ref ea/\s'.os=s.os/\qC s'.gens/\Un (B4 outer) [] H H' s.heap s'.heap/\qF P w H' s'.heap/\
 H' ea=some (o8 C ea dx T)/\H' T=some (Aj T)/\T≠ea/\s.heap.objs.size<=ea/\s.heap.objs.size<=T/\E (.ref ea) (some T) H'
section
variable{P:bC}{w:cw}{K:ao}{mg:Str->Option ay}{base:c6}{N:List Str}{qual:Str}{scope:kU}{f:aL}{cd:ay}{A:dJ}{outer:List Env}{s0:aK}{H0:Hp}{E:XK}
variable{pins:List (aL×Obj)}{σ:St}{H:Hp}{s:aK}
abbrev Vp(P:bC)(w:cw)(K:ao)(mg:Str->Option ay)(base:c6)(N:List Str)(qual:Str)(scope:kU)(f:aL)(cd:ay)(A:dJ)(outer:List Env)(s0:aK)(H0:Hp)(E:XK):Cx:=y_ (Vo P w) P w K mg base N qual scope f cd A outer s0 H0 E
theorem ye(I:Inv (Vp P w K mg base N qual scope f cd A outer s0 H0 E) pins σ H s):
  s.heap.FunFrames base (envOfC qual scope s0.heap.objs.size f cd::outer)/\s0.heap.objs.size<=s.heap.objs.size/\(∀b∈s0.heap.objs.size::B4 outer,H b=none)/\(envOfC qual scope s0.heap.objs.size f cd::outer).filterMap (·.frame)=s0.heap.objs.size::B4 outer:=by
 obtain⟨m,D7,_⟩:=I.loc;have hb:base.get? s0.heap.objs.size=none:=by
  cases q:base.get? s0.heap.objs.size with
  |none=>rfl
  |some o=>exact qQ7 (aW (I.ok.bs _ o q).1) (iI _)
 have TB:∀b∈B4 outer,H0 b=none/\∃o,s0.heap.get? b=some o:=λb hb=>by
  obtain⟨_,o,ho,_⟩:=(show s0.heap.FunFrames base outer from I.ok.qy).mem hb
  exact⟨I.ok.Iq b hb,o,ho⟩
 refine⟨?_,?_,?_,rfl⟩
 ·refine xm (L:=s0.heap.objs.size) (m:=m) (by rw[show(envOfC qual scope s0.heap.objs.size f cd).scope.kind=.function from I.ok.kind];decide) rfl D7 hb (pW (λb hb o ho=>?_) (show s0.heap.FunFrames base outer from I.ok.qy))
  obtain⟨sl,q⟩:=I.base.any ho (TB b hb).1 (by intro z;exact qQ7 (show b∈([]:List aL)from z) (by simp))
  exact⟨_,q,rfl⟩
 ·obtain⟨o,_,_,ho,_⟩:=D7
  exact nz (aW ho)
 ·intro b hb
  rcases aG.mp hb with rfl|hb
  ·exact I.free
  ·obtain⟨h1,o,ho⟩:=TB b hb
   exact I.base.free b o ho h1 (by intro z;exact qQ7 (show b∈([]:List aL)from z) (by simp))
theorem JR(I:Inv (Vp P w K mg base N qual scope f cd A outer s0 H0 E) pins σ H s)(ge:H e=some (lu C e (some dx)))(he:s0.heap.objs.size<=e)(hE:∀T,H T=none->T≠e->E (.ref e) (some T) (HL H [] e T (o8 C e dx T) (Aj T))):
  (Vp P w K mg base N qual scope f cd A outer s0 H0 E).xe (.ref e) s:=by
 obtain⟨ff,sz,nf,Vq⟩:=ye I;obtain⟨t,sl,g⟩:=lu.at I.hok ge;show wpAny (model P w) _ (leaving _ _) _ _ s;refine CH (base:=base) (L:=s0.heap.objs.size) I.ok.frames ff rfl g rfl rfl λh' l=>?_
 rw[Vq]at l;obtain⟨T,oT,ts,hT,g1,m8,g2,d2,t3⟩:=l.exc;have nT:H T=none:=I.hok.fresh hT;have gT:=sy hT;have ie:uH (H e):=⟨_,ge⟩;have gm:h'.get? e=some { cls:=.ref C,dict:=some dx,data:=.fields #[.ref t,.ref T,.none,.none,.bool false,.none],slots:=sl }:=g1;refine⟨e,C,dx,T,HL H [] e T (o8 C e dx T) (Aj T),rfl,I.os,I.bare,JN I.base l (aD _) he (λx hx=>(nomatch hx)) ie (λx hx=>(nomatch hx)) gT nT,Ak I.hok l nf ie (λx hx=>(nomatch hx)) gT nT (o8.ok gm rfl) (Aj.ok g2 d2 t3),Mu,Mv m8,m8,he,bZ sz hT,hE T nT m8⟩
end
def Bn(C:aL):Sp:=λvs H Q _=>∃e v1 x2,vs=[.ref e,v1,.str x2]/\x2.length<=1000/\H e=some (lu C e none)/\
 ∀dx,H dx=none->dx≠e->Q .non (upd (upd (upd H dx (yT dx [("place",v1)])) e (lu C e (some dx))) dx (yT dx (kr "word" (.str x2) [("place",v1)])))
abbrev uI(p:Int)(wd:Str):List (Str×V):=kr "word" (.str wd) [("place",.int p)]
def F9(C:aL)(p:Int)(wd:Str)(B0 B:Hp)(e dx:aL)(H:Hp):Prop:=∃H1,dU B0 B H1 H/\H1 e=none/\B e=none/\H1 dx=none/\B dx=none/\dx≠e/\H dx=some (yT dx (uI p wd))
section
variable{X:Cx}{B0 B H0 H:Hp}{σ:St}{D:Ends}{δ:List Slot}{a1 a2 tg iter:cj}{p:Int}{wd x y:Str}{np mX pos:Pos}{k:Nat}{fI C:aL}{fd:e9}{body:List iH}{ds:List aq}
theorem Mw(f:hU X.K B0 B H0 H σ δ)(M:Vn X.K C fI)(F:eX X.prog X.w X.K X.mg X.base kF k fI fd ["self","place","word"] (Bn C))(hr:fF (k+1) X.A)(hb:Binds X.K fd ["self","place","word"] [])(hg:Gl X x)(hm:X.mg x=some (.ref C))
  (h1:VE X a1 δ (.int p))(h2:VE X a2 δ (.str wd))(hl:wd.length<=1000)
  (hW:∀pins σ H2 s e dx,Inv X pins σ H2 s->H2 e=some (lu C e (some dx))->X.s₀.heap.objs.size<=e->F9 C p wd B0 B e dx H2->X.xe (.ref e) s)
  (hs0:∀pins σ H s,Inv X pins σ H s->X.s₀.heap.objs.size<=s.heap.objs.size)(hh:X.A.handled=none)
  (qA:(x==("__debug__":Str))=false:=by decide)(he:starEach [a1,a2] X.env=(false,eval a1 X.env)::starEach [a2] X.env:=by rfl)(SR:starEach [a2] X.env=(false,eval a2 X.env)::starEach [] X.env:=by rfl)(pF:(backTo mX (starEach [a2] X.env)).any (·.1)=false:=by rfl):
  cS X (.Raise (some (.Call (.Name x np) [a1,a2] [] mX)) none pos) D σ H:=λpins s I=>by
 obtain⟨nm,q0,N,bs,bm,hdct,sn,sub,ab,col,dd,k0,k1,k2,k3,k5,lk,_,_,_,cE⟩:=M.ob;show wpAny (model X.prog X.w) X.A (do standAt pos;raiseStmt X.env (some (do let v <-eval (.Call (.Name x np) [a1,a2] [] mX) X.env;standAt pos;pure v)) none) _ _ s
 refine au (nu (Et (C:=C) (nm:=nm) (q:=q0) (N:=N) (bs:=bs) (bm:=bm) (hdct:=hdct) (sn:=sn) (sub:=sub) (ab:=ab) (col:=col) (dd:=dd) (k0:=k0) (k1:=k1) (k2:=k2) (k3:=k3) (k5:=k5) (newId:="ValueError.__new__") cE hh (au (eB ?_ (λv s1 q=>au (nu (aY q))) λ_ _ z=>z))))
 refine iz (nJ I hg hm ?_ qA)
 have ha:=dw (X:=X) (e:=a1) (es:=[a2]) (dM (X:=X) (e:=a1)) (dw (dM (X:=X) (e:=a2)) fM SR) he;refine mQ (h₀:=X.base) I.ok.mod.Nq M.kp (fS (ha mX pins s σ H (λvs Hh=>∃Ha,dU B0 B Ha Hh/\vs=[.int p,.str wd]) I ?_) λus s1 ⟨vs,Hh,I1,r,Ha,g,ev⟩=>⟨I1.sF,?_⟩) he pF
 ·refine h1 B0 B σ H0 H _ f λv H1 eC g1 r1=>?_
  cases r1;refine h2 B0 B σ H1 eC _ (f.grow g1) λu H2 iT g2 r2=>?_
  cases r2;exact⟨H2,(f.ent.trans g1).trans g2,rfl⟩
 ·subst ev
  have few:us.length<=sizeLine:=by rw[<-r.length,cL];show 2<=16777216;decide
  refine fS (Hw (CX:=kF) (E:=E0) (Q:=λv H2=>∃e dx,v=.ref e/\H2 e=some (lu C e (some dx))/\s1.heap.objs.size<=e/\F9 C p wd B0 B e dx H2) M F hr hb zU I1 r few λe ne se=>?_) λu s2 ⟨v,H2,I2,rv,e,dx,ev,ge,se,wi⟩=>?_
  ·refine⟨e,.int p,wd,rfl,hl,bK,λdx nd m8=>⟨rfl,e,dx,rfl,?_,se,Ha,⟨λb o q=>?_,g.gU,λb o q=>?_,g.new⟩,g.sub.free ne,g.big.free ne,?_,?_,m8,bK⟩⟩
   ·rw[aS (bM m8),bK]
   ·have Mp:=g.big _ _ q
    have XT:Hh dx=none:=by rw[aS m8]at nd;exact nd
    have b1:=bj Mp ne;have b2:=bj Mp XT;rw[aS b2,aS b1,aS b2,aS b1];exact Mp
   ·have Mp:=g.sub _ _ q
    have XT:Hh dx=none:=by rw[aS m8]at nd;exact nd
    have b1:=bj Mp ne;have b2:=bj Mp XT;rw[aS b2,aS b1,aS b2,aS b1];exact Mp
   ·rw[aS m8]at nd;exact g.sub.free nd
   ·rw[aS m8]at nd;exact g.big.free nd
  ·subst ev
   obtain rfl:u=bf e:=rv;obtain⟨t,sl,gg⟩:=lu.at I2.hok ge;exact⟨e,some dx,t,sl,rfl,I2.sF _ _ lk,gg,hW pins σ H2 s2 e dx I2 ge (bZ (hs0 pins σ Hh s1 I1) se) wi⟩
end
section
variable{M:Model}{A:dJ}{E:ay->aK->Prop}{s:aK}
theorem Hz{env:Env}{out:List Env}{L: aL}{oe oT:Obj}
  (fr:A.frames=some (env::out))(ff:s.heap.FunFrames base (env::out))(fL:env.frame=some L)
  (ge:s.heap.get? e=some oe)(de:oe.data=.fields us)(u1:us[1]?=some (.ref T))(ne:T≠e)(gT:s.heap.get? T=some oT)(dT:oT.data=.fields ts)(t3:ts[3]?=some .none)
  (q:∀h',Af ((env::out).filterMap (·.frame)) [T] e oe s.heap h'->Q () { s with heap:=h' }):wpAny M A (noteFrame (.ref e) env) (λ_ s2=>wpAny M A (setFlight (.ref e) none) Q E s2) E s:=by
 unfold noteFrame;simp only[fL];refine au (er ge de u1 ?_)
 rw[qQ3 (show(bf T != eE)=true from by simp)]
 refine au (er gT dT t3 ?_)
 rw[qQ2 (show ¬((eE==rawInt L)=true)from by simp[rawInt])]
 refine au (lY gT dT (hC.mp t3).1 ?_)
 have ot:∀b,b≠T->(s.heap.update T (kj (·.setIfInBounds 3 eE))).get? b=s.heap.get? b:=λb hb=>dz _ _ (bM hb)
 have noT:∀b o,s.heap.get? b=some o->(∀vs,o.data≠.fields vs)->b≠T:=λb o hb hn z=>by
  rw[z,gT]at hb;injection hb with hb;subst hb;exact hn ts dT
 refine yd fr (ff.of_keeps λb o hb hn=>⟨o,(ot b (noT b o hb hn)).trans hb,rfl⟩) fL ((ot e (bM ne)).trans ge) de (hC.mp u1).1 λh' l=>q h' ⟨?_,λb o hb hf hx be=>?_,λb o hb hf hx be=>?_,λb o hb=>?_,?_⟩
 ·have:=l.size
  rw[k8]at this;exact this
 ·exact l.keep b o ((ot b (by simpa using hx)).trans hb) hf (by simp) be
 ·exact l.slot b o ((ot b (by simpa using hx)).trans hb) hf (by simp) be
 ·by_cases Rf:b=T
  ·subst Rf
   exact l.there b _ (fQ _ gT (jo (f6 dT _)))
  ·exact l.there b o ((ot b Rf).trans hb)
 ·obtain⟨T',oT',ts',h1,h2⟩:=l.exc
  rw[k8]at h1;exact⟨T',oT',ts',h1,h2⟩
end
section
variable{X:Cx}{pins:List (aL×Obj)}{σ:St}{H:Hp}{s:aK}{C M e dx T:aL}{E:ay->aK->Prop}
structure Mx(K:ao)(C M:aL):Prop where
 ob:∃nm q N bs bm hdct sn sub ab col dd k0 k1 k2 k3 k5 Vr q' N' Vs Rg Gb Vt My Vu Mz D_ Vv Vw Vx Vy Vz,K.lookup C=some (excClassObj nm q C N bs bm hdct sn sub ab col dd k0 k1 k2 k3 k5 "ValueError.__new__")/\K.lookup M=some (excClassObj Vr q' M N' Vs Rg Gb Vt My Vu Mz D_ Vv Vw Vx Vy Vz "ValueError.__new__")/\
  (bf C::bm).contains (.ref M)=true/\(bf M::Rg).contains (.type "BaseException")=true
theorem CL{Q:Bool->aK->Prop}(KX:X.K.In s.heap)(c:Mx X.K C M)(ge:s.heap.get? e=some { cls:=.ref C,dict:=some dx,data:=.fields us,slots:=sl })(hq:Q true s):
  wpAny (model X.prog X.w) A (excMatches (.ref e) (.ref M)) Q E s:=by
 obtain⟨nm,q,N,bs,bm,hdct,sn,sub,ab,col,dd,k0,k1,k2,k3,k5,Vr,q',N',Vs,Rg,Gb,Vt,My,Vu,Mz,D_,Vv,Vw,Vx,Vy,Vz,lC,lM,cM,cB⟩:=c.ob;obtain⟨hh,g,d,tk,os⟩:=s;have gC:=KX _ _ lC;have gM:=KX _ _ lM;have f:=tc_notTuple;unfold excMatches
 repeat (first|with_reducible refine eR ge ?_|with_reducible refine eR gM ?_|(with_reducible refine hG gM ?_;rw[cB])|(with_reducible refine hG gC ?_;rw[cM])|wp_step)
 exact hq
theorem HB{M:Model}{i:Nat}{x:Str}{pos:Pos}(I:Inv X pins σ H s)(hN:X.N.Nodup)(hi:X.N[i]?=some x)(hk:X.env.scope.names.lookup x=some .local)(h:∀s',Inv X pins (σ.set i none) H s'->Q () s'):
  wpAny M A (do bindName X.env x .none;unbindBehindTheSuite X.env x pos) Q E s:=by
 obtain⟨m,hn,hl⟩:=id I.loc;have OI:(X.env.scope.kind == .class||(X.env.scope.kind == .module&&X.env.locals != X.env.globals))=false:=by rw[I.ok.kind];rfl
 have hiσ:i < σ.length:=by rw[I.len];exact(aJ.mp hi).1
 have Ir:=I.Ir;refine wpAny_nameGoes_keeps hk hn OI λh' v Wf hs=>h _ ?_
 obtain⟨oL,_,_,Zx,_⟩:=id hn;refine⟨I.ok,I.os,I.bare,⟨λb o e n hb hx=>?_,λb o e n hb hx=>?_,I.base.free,λb o e hx=>?_,I.base.tups,I.base.va,I.base.wy⟩,⟨_,Wf,λj y v' e1 e2 e3=>?_⟩,λy c e=>?_,I.free,I.nI,λp hp=>?_,λb ob e=>?_,by simpa using I.len⟩
 ·exact(hs.2 b (a_ (bF (aW e) I.ok.above))).trans (I.base.keep b o e n hb hx)
 ·obtain⟨sl,e1⟩:=I.base.slot b o e n hb hx
  exact⟨sl,(hs.2 b (a_ (bF (aW e) I.ok.above))).trans e1⟩
 ·obtain⟨o',e1⟩:=I.base.there b o e hx
  exact⟨o',(hs.2 b (a_ (bF (aW e) I.ok.above))).trans e1⟩
 ·by_cases hj:j=i
  ·subst hj
   rw[a8 hiσ]at e2;cases e2
  ·rw[a7 (bM hj)]at e2
   obtain⟨u',r',q⟩:=hl j y v' e1 e2 e3;refine⟨u',r',?_⟩
   rcases q with⟨k,e⟩|⟨k,c,e,z⟩
   ·refine .inl ⟨k,?_⟩
    have:y≠x:=λe=>hj (xo hN e1 (e▸hi))
    simp[this,e]
   ·exact .inr ⟨k,c,e,z.sameBut hs (Ir y c e)⟩
 ·obtain⟨w',z⟩:=I.cell y c e
  exact⟨w',z.sameBut hs (Ir y c e)⟩
 ·obtain⟨e,n,ne,nf,d⟩:=I.pin p hp
  exact⟨(hs.2 p.1 ne).trans e,n,ne,nf,d⟩
 ·refine(I.hok b ob e).stay (λc w' hc q=>(hs.2 c ?_).trans q) (λ_ q=>q) λ_ _ q=>q
  rintro rfl
  rcases hc with rfl|hc
  ·rw[I.free]at e;cases e
  ·rw[I.free]at hc;cases hc
abbrev Cx.held(X:Cx)(e:aL):Cx:={ X with A:=X.A.mark (some (.ref e)),calm:=false,xe:=λ_ _=>False }
theorem Inv.held(I:Inv X pins σ H s)(e:aL):Inv (X.held e) pins σ H s:=
 ⟨⟨I.ok.mod,I.ok.kind,I.ok.glob,I.ok.blt,I.ok.above,I.ok.inj,I.ok.has,I.ok.cab,(λz=>nomatch z),I.ok.frames,I.ok.stk,I.ok.UY,I.ok.bs,I.ok.KR,I.ok.DP,I.ok.GF,I.ok.qy,I.ok.Iq⟩,I.os,I.bare,I.base,I.loc,I.cell,I.free,I.nI,I.pin,I.hok,I.len⟩
theorem Inv.Qk(I:Inv (X.held e) pins σ H s)(hc:X.calm=true->X.A.handled=none):Inv X pins σ H s:=
 ⟨⟨I.ok.mod,I.ok.kind,I.ok.glob,I.ok.blt,I.ok.above,I.ok.inj,I.ok.has,I.ok.cab,hc,I.ok.frames,I.ok.stk,I.ok.UY,I.ok.bs,I.ok.KR,I.ok.DP,I.ok.GF,I.ok.qy,I.ok.Iq⟩,I.os,I.bare,I.base,I.loc,I.cell,I.free,I.nI,I.pin,I.hok,I.len⟩
end
def Ql(C:aL)(p:Int)(wd:Str)(B0 B:Hp)(e T dx:aL)(H:Hp):Prop:=H e=some (o8 C e dx T)/\H T=some (Aj T)/\T≠e/\H dx=some (yT dx (uI p wd))/\dx≠e/\dx≠T/\B e=none/\B T=none/\B dx=none/\
 ∃H1,dU B0 B H1 H/\H1 e=none/\H1 T=none/\H1 dx=none
def XU(K:ao)(C:aL)(R:List aq->Int->Str->Prop):Sp:=λvs H _ E=>∃H0 ds p wd,ej H0 H/\dq K H0 vs ds/\R ds p wd/\∀e T dx H',Ql C p wd H0 H e T dx H'->E (.ref e) (some T) H'
theorem MA{A B Hx H':Hp}{T': aL}(g:dU A B Hx H')(be:B e=none)(bT:B T=none)(xe:Hx e=none)(xT:Hx T=none)(nT:H' T'=none):dU A B Hx (HL H' [T] e T' o1 o2):=by
 refine⟨λb o q=>?_,g.gU,λb o q=>?_,g.new⟩
 ·have z:=g.big _ _ q
  rw[rn (bj q be) (bj z nT) (by rw[bo];exact bj q bT)];exact z
 ·have z:=g.sub _ _ q
  rw[rn (bj q xe) (bj z nT) (by rw[bo];exact bj q xT)];exact z
theorem JT{A B Hx H':Hp}{T': aL}(g:dU A B Hx H')(be:B e=none)(xe:Hx e=none)(nT:H' T'=none):dU A B Hx (HL H' [] e T' o1 o2):=by
 refine⟨λb o q=>?_,g.gU,λb o q=>?_,g.new⟩
 ·have z:=g.big _ _ q
  rw[rn (bj q be) (bj z nT) (by simp)];exact z
 ·have z:=g.sub _ _ q
  rw[rn (bj q xe) (bj z nT) (by simp)];exact z
theorem F9.fly{p:Int}{wd:Str}{B0 B: Hp}(w:F9 C p wd B0 B e dx H)(nT:H T=none)(ne:T≠e):Ql C p wd B0 B e T dx (HL H [] e T (o8 C e dx T) (Aj T)):=by
 obtain⟨H1,g,a1,a2,a3,a4,a5,a6⟩:=w;have VB:dx≠T:=bj a6 nT;exact⟨Mu,Mv ne,ne,by rw[rn a5 VB (by simp)];exact a6,a5,VB,a2,g.big.free nT,a4,H1,JT g a2 a1 nT,a1,g.sub.free nT,a3⟩
section
variable{X:Cx}{B0 B H0 H:Hp}{σ:St}{D:Ends}{δ:List Slot}{pins:List (aL×Obj)}{s:aK}
theorem CM(I:Inv X pins σ H s)(Fy:X.stack=X.env::X.outer)(TF:X.env.frame=some X.env.locals)(hex:X.ex=[]):
  s.heap.FunFrames X.base (X.env::X.outer)/\(∀b∈X.env.locals::X.fs,H b=none)/\(X.env::X.outer).filterMap (·.frame)=X.env.locals::X.fs:=by
 obtain⟨m,D7,_⟩:=I.loc;have nex:∀b:aL,b∉X.ex:=λb z=>by rw[hex]at z;cases z
 have hb:X.base.get? X.env.locals=none:=by
  cases q:X.base.get? X.env.locals with
  |none=>rfl
  |some o=>exact qQ7 (bF (aW (I.ok.bs _ o q).1) I.ok.above) (iI _)
 have TB:∀b∈X.fs,X.H₀ b=none/\∃o,X.s₀.heap.get? b=some o:=λb hb=>by
  obtain⟨_,o,ho,_⟩:=I.ok.qy.mem hb;exact⟨I.ok.Iq b hb,o,ho⟩
 refine⟨?_,?_,by rw[gQ,TF];rfl⟩
 ·refine xm (L:=X.env.locals) (m:=m) (by rw[I.ok.kind];decide) TF D7 hb (pW (λb hb o ho=>?_) I.ok.qy)
  obtain⟨sl,q⟩:=I.base.any ho (TB b hb).1 (nex b);exact⟨_,q,rfl⟩
 ·intro b hb
  rcases aG.mp hb with rfl|hb
  ·exact I.free
  ·obtain⟨h1,o,ho⟩:=TB b hb
   exact I.base.free b o ho h1 (nex b)
theorem MB{P:bC}{w:cw}{fr ex:List aL}{h': c6}{oe:Obj}(l:Af fr ex e oe h h')(ie:uH (H e))(ix:∀x∈ex,uH (H x))(hT:h.get? T=none)(nT:H T=none):Un fr [] H (HL H ex e T o1 o2) h h':=by
 have ne:∀b,H b=none->b≠e/\b∉ex:=λb n=>by
  refine⟨λz=>?_,λz=>?_⟩
  ·obtain⟨φ,r⟩:=ie;rw[<-z,n]at r;cases r
  ·obtain⟨φ,r⟩:=ix b z;rw[n]at r;cases r
 have JQ:∀b (o:HO),H b=some o->(∀φ,o≠.ext φ)->b≠e/\b≠T/\b∉ex:=λb o q z=>by
  refine⟨λq2=>?_,λq2=>?_,λq2=>?_⟩
  ·obtain⟨φ,r⟩:=ie;rw[q2,r]at q;cases q;exact z φ rfl
  ·rw[q2,nT]at q;cases q
  ·obtain⟨φ,r⟩:=ix b q2;rw[r]at q;cases q;exact z φ rfl
 refine⟨λb o q n hf hb=>?_,λb o q n hf hb=>?_,λb o q n hb=>?_,λb o q hb=>?_,λb xs q=>?_,λb o u' q=>?_,λb ps q=>?_⟩
 ·exact l.keep b o q hf (ne b n).2 (ne b n).1
 ·exact l.slot b o q hf (ne b n).2 (ne b n).1
 ·rw[rn (ne b n).1 (λz=>by subst z;rw[hT]at q;cases q) (ne b n).2];exact n
 ·exact l.there b o q
 ·obtain⟨a1,a2,a3⟩:=JQ b _ q (by intro φ z;cases z)
  rw[rn a1 a2 a3];exact q
 ·obtain⟨a1,a2,a3⟩:=JQ b _ q (by intro φ z;cases z)
  rw[rn a1 a2 a3];exact q
 ·obtain⟨a1,a2,a3⟩:=JQ b _ q (by intro φ z;cases z)
  exact⟨#[],by rw[rn a1 a2 a3,Array.append_empty];exact q⟩
theorem hU.unset(f:hU X.K B0 B H0 H σ δ){i:Nat}:hU X.K B0 B H0 H (σ.set i none) (δ.set i .un):=by
 refine⟨f.ent,by simp[f.len],λj sl e=>?_,λj k ds es p DE e1 e2 e3=>?_⟩
 ·by_cases hj:j=i
  ·subst hj
   rw[a8 (by simpa using(aJ.mp e).1)]at e
   cases e
   trivial
  ·rw[a7 (bM hj)]at e ⊢
   exact f.slot j sl e
 ·by_cases hj:j=i
  ·subst hj
   rw[a8 (by simpa using(aJ.mp e1).1)]at e1
   cases e1
  by_cases hk:k=i
  ·subst hk
   rw[a8 (by simpa using(aJ.mp e2).1)]at e2
   cases e2
  rw[a7 (bM hj)]at e1 e3;rw[a7 (bM hk)]at e2 ⊢;exact f.apart j k ds es p DE e1 e2 e3
end
section
variable{X:Cx}{CX:GQ}{k:Nat}{f:aL}{fd:e9}{ps:List Str}{sp:Sp}{E:XK}{Ex:ay->aK->Prop}
theorem MC{σ:St}{Q:VK}{us:List ay}(F:eX X.prog X.w X.K X.mg X.base CX k f fd ps sp)(hr:fF k X.A)(hb:Binds X.K fd ps [])(hx:∀e s',CX X.stack H s E e s'->Ex e s')
  (I:Inv X pins σ H s)(r:ez vs us)(h:sp vs H Q E):wpAny (model X.prog X.w) X.A (call (.ref f) us) (EP X pins σ Q) Ex s:=by
 have hl:(us ++ []).length=ps.length:=by rw[dC,<-r.length];exact F.len _ _ _ _ h
 have U8:=hb s us I.sF hl;rw[dC]at U8;refine k_ (kf (F.run X.A X.stack s H ⟨us,[]⟩ us vs Q E hr I.env0 U8 r h) λr s' hq=>?_)
 cases r with
 |error e=>exact hx e s' hq
 |ok fl=>
  cases fl with
  |ret u=>exact I.after hq
  |next=>exact eP hq
  |brk=>exact eP hq
  |cont=>exact eP hq
end
section
variable{X:Cx}{B0 B H0 H:Hp}{σ:St}{D:Ends}{δ:List Slot}{C M fa:aL}{fd:e9}{ps:List Str}{ds:List aq}{R:List aq->Int->Str->Prop}{k jn jc:Nat}{p:Int}{wd y g xM n xc:Str}{a:cj}{as:List cj}{p1 p2 p3 p4 p5 p6 p7 p8 hp pos:Pos}
end
end L2
namespace L2
open PySem PySem.Spec PyProof.Rows PySem.W
variable{expr:Bool}{odd:Obj}{tk:Tok}{Q:ay->aK->Prop}
structure HC(K:ao)(C:aL):Prop where
 ga:findIn K (.ref C) "__getattribute__"=some (some (.builtin "BaseException.__getattribute__"))
 gh:findIn K (.ref C) "__getattr__"=some none
 mb:mroIn K C (.type "BaseException")=some true
 hd:hasDictIn K C=true
 cl:findIn K (.ref C) "__class__"=some (some (.builtin "object.__class__"))
 cg:specialIn K (.builtin "object.__class__") "__get__"=some (some (.builtin "getset_descriptor.__get__"))
 ct:takesIn K (.builtin "object.__class__")=some true
 mo:mroIn K C (.type "object")=some true
section
variable{prog:bC}{w:cw}{A:dJ}{E:ay->aK->Prop}{s:aK}{K:ao}{x C:aL}{ox:Obj}{od:Option Obj}{name:Str}
theorem JV{R:sX->aK->Prop}(KX:K.In s.heap)(I:InstAt s.heap x ox C od)(hm:mroIn K C (.type "BaseException")=some true)
  (h:wpAny (model prog w) A.in1 (oO.«object.__getattribute__» ⟨[.ref x,.str name tk],[]⟩) (λfin s'=>match fin with | .done f=>R (.ok f) s' | .again c'=>c'.quiet=true/\codeAny (model prog w) A c' R s') (λe s'=>R (.error e) s') s):
  codeAny (model prog w) A (.call (.builtin "BaseException.__getattribute__") ⟨[.ref x,.str name tk],[]⟩) R s:=
 nD zF.ga.plain PySem.F.entry_bexc_ga (@check_slot (model prog w) _ _ s "BaseException.__getattribute__" "BaseException" "__getattribute__" (.ref x) [.str name tk] [] _ (by symm) (by symm) (I.type.andThen (looks_mroIn KX hm)) (PySem.F.args_bexc_ga _ _) h)
theorem Al{fill: Bool}(KX:K.In s.heap)(I:InstAt s.heap x ox C od)(c:HC K C)
  (h:wpAny (model prog w) A.in1 (oO.«object.__getattribute__» ⟨[.ref x,.str name tk],[]⟩) (λfin s'=>match fin with | .done (.ret v)=>wpAny (model prog w) A (handedOut v) Q E s'|_=>False) (λ_ _=>False) s):
  wpAny (model prog w) A (getAttrBy (.ref x) (.str name tk) fill expr) Q E s:=by
 have L0:=I.type (M:=model prog w);have L1:=looks_findIn (M:=model prog w) KX c.ga;have L2:Looks (model prog w) s.heap (hookBefore (.ref C)) none:=looks_hook KX (by rw[qQ3 (show onTheHeap (.ref C)=true from rfl)];exact c.gh)
 refine kX (au (L0 _ _ _ _ (λ_ _ e=>e) (au (L1 _ _ _ _ (λ_ _ e=>e) ?_))))
 dsimp only
 rw[show(onTheHeap (bf C)&&lU "BaseException.__getattribute__"==lU "object.__getattribute__")=false from by rw[show(lU "BaseException.__getattribute__"==lU "object.__getattribute__")=false from by symm,zG],qQ2 (by decide)]
 refine au (L2 _ _ _ _ (λ_ _ e=>e) (au (wG (kX ?_))))
 unfold callGetattribute;rw[show(expr&&onTheHeap (lU "BaseException.__getattribute__"))=false from zG _,qQ2 (by decide)]
 unfold boundAndCalled;rw[zF.ga.bind];refine au (aY ?_)
 show wpAny _ _ (call (.builtin "BaseException.__getattribute__") [.ref x,.str name tk]) _ _ _;refine k_ (JV KX I c.mb (eB h (λfin s' z=>?_) λ_ _ z=>z.elim))
 rcases fin with(_|_|_|_)|_<;>first|exact z|exact z.elim
theorem Ez{v:ay}(KX:K.In s.heap)(I:InstAt s.heap x ox C od)(c:HC K C)(hf:findObj K C od name=some (.value v))(hh:handedIn v=true)(h:Q v { s with toks:=s.toks+1 }):
  wpAny (model prog w) A (getAttr (.ref x) name expr) Q E s:=by
 refine au (wpAny_mkText (Al (s:={ s with toks:=s.toks+1 }) KX I c ?_))
 obtain⟨hh',g,d,t,os⟩:=s;have L0:=I.type (M:=model prog w);have L1:=looks_find (M:=model prog w) KX I hf;refine au (aY (au (aY (au (L0.at (au (L1.at ?_)))))))
 refine aY ?_
 show wpAny _ _ (handedOut v) _ _ _;rw[handedOut_of hh];exact aY h
theorem EA{Q:Option ay->aK->Prop}(KX:K.In s.heap)(I:InstAt s.heap x ox C (some odd))(c:HC K C)(h:Q (some (.ref C)) { s with toks:=s.toks+1 }):wpAny (model prog w) A (getAttr? (.ref x) "__class__") Q E s:=by
 have hf:findObj K C (some odd) "__class__"=some (.bind (.builtin "getset_descriptor.__get__") (.builtin "object.__class__")):=findObj_data (by obtain⟨cd,hc,_⟩:=any_some c.hd;rw[hc];rfl) c.cl c.cg c.ct
 unfold getAttr? getAttrBy?;refine au (wpAny_mkText (au (wG (Al (s:={ s with toks:=s.toks+1 }) KX I c ?_))))
 obtain⟨hh',g,d,t,os⟩:=s;have L0:=I.type (M:=model prog w);have L1:=looks_find (M:=model prog w) KX I hf;refine au (aY (au (aY (au (L0.at (au (L1.at ?_)))))))
 show wpAny _ _ (holding [lU "object.__class__"] (call (.builtin "getset_descriptor.__get__") [.builtin "object.__class__",.ref x,.ref C]) >>= ret) _ _ _;refine au (kX (k_ (class_get (ox:=ox) (od:=some odd) KX I c.mo (aY ?_))))
 show wpAny _ _ (handedOut (.ref C)) _ _ _;exact handed_on rfl (aY h)
theorem EB(c:HC K C):KitX K (.ref x) (.ref C) (λh=>InstAt h x ox C (some odd)) where
 ty:=λ_ _ _ I=>I.type
 it:=λ_ _ X _=>by
  obtain⟨cdD,GP,_⟩:=any_some c.hd;unfold clsIn at GP
  split at GP
  ·rename_i c' d' cd' OG ho
   intro A' Q' E' s' k q;unfold isType loadHead;exact au (u5 (k _ _ (X _ _ ho)) (aY q))
  ·cases GP
 ne:=λh tp dd its n sl X htp=>by
  obtain⟨cdD,GP,_⟩:=any_some c.hd;refine vL.mpr λq=>?_
  have e:C=tp:=bf.inj (beq_iff_eq.mp q);subst e;unfold clsIn at GP
  split at GP
  ·rename_i c' d' cd' OG ho
   have z:=(X _ _ ho).symm.trans htp;cases z
  ·cases GP
 ca:=λX I k=>EA X I c k
end
end L2
namespace L2
open PySem PySem.Spec PyProof.Rows
structure oC(K:ao)(H:Hp)(e C:aL)(p:Int)(wd:Str):Prop where
 ex:∃dx T,H e=some (o8 C e dx T)/\H dx=some (yT dx (uI p wd))/\dx≠e
 gt:HC K C
 np:fK K C "place"
 nw:fK K C "word"
section
variable{X:Cx}{pins:List (aL×Obj)}{σ:St}{H H':Hp}{s:aK}{e C:aL}{p:Int}{wd f x:Str}
theorem oC.mono{K:ao}(c:oC K H e C p wd)(s:ej H H'):oC K H' e C p wd:=by
 obtain⟨dx,T,a,b,d⟩:=c.ex;exact⟨⟨dx,T,s _ _ a,s _ _ b,d⟩,c.gt,c.np,c.nw⟩
theorem oC.inst(c:oC X.K H e C p wd)(I:Inv X pins σ H s):∃(ox od:Obj)(mA:Str->Option ay),mP s.heap e ox C (some od)/\(∀f,mW ((uI p wd).lookup f) (mA f))/\∀name,qG name od=some (mA name):=by
 obtain⟨dx,T,ge,gd,m8⟩:=c.ex;obtain⟨us,sl,g,_⟩:=(I.hok e _ ge).1;obtain⟨mA,n1,r,_⟩:=yT.at I.hok gd;obtain⟨od,XR,hl⟩:=vd n1;exact⟨_,od,mA,⟨g,rfl,rfl,XR⟩,r,hl⟩
theorem MD:jM X (.builtin "isinstance") (λxs H Q=>∃e C p wd M b,xs=[.ref e,.ref M]/\oC X.K H e C p wd/\du X.K (.ref C) (.ref M)=some b/\Q (.bl b) H):=by
 intro pins s σ H xs us Q I r h;obtain⟨e,C,p,wd,M,b,rfl,c,hk,q⟩:=h;obtain⟨u1,u2,rfl,r1,r2⟩:=vals2 r;cases r1;cases r2;obtain⟨ox,od,mA,J,_,_⟩:=c.inst I;exact PySem.W.kia_one (EB (ox:=ox) (odd:=od) c.gt) I.sF J hk (λz=>nomatch z) λtk=>⟨.bl b,H,I.tok tk,rfl,q⟩
theorem Qm:jM X (.builtin "isinstance") (λxs H Q=>∃e C p wd tn b,xs=[.ref e,.ty tn]/\oC X.K H e C p wd/\du X.K (.ref C) (.type tn)=some b/\Q (.bl b) H):=by
 intro pins s σ H xs us Q I r h;obtain⟨e,C,p,wd,tn,b,rfl,c,hk,q⟩:=h;obtain⟨u1,u2,rfl,r1,r2⟩:=vals2 r;cases r1;cases r2;obtain⟨ox,od,mA,J,_,_⟩:=c.inst I;exact PySem.W.kia_one (EB (ox:=ox) (odd:=od) c.gt) I.sF J hk (λz=>nomatch z) λtk=>⟨.bl b,H,I.tok tk,rfl,q⟩
theorem MF:jM X (.builtin "isinstance") (λxs H Q=>∃e C p wd t M1 M2 M3 b,xs=[.ref e,.ref t]/\oC X.K H e C p wd/\H t=some (.tup [.ref M1,.ref M2,.ref M3])/\xn X.K (.ref C) [.ref M1,.ref M2,.ref M3]=some b/\Q (.bl b) H):=by
 intro pins s σ H xs us Q I r h;obtain⟨e,C,p,wd,t,M1,M2,M3,b,rfl,c,ht,hk,q⟩:=h;obtain⟨u1,u2,rfl,r1,r2⟩:=vals2 r;cases r1;cases r2;obtain⟨ox,od,mA,J,_,_⟩:=c.inst I;obtain⟨_,its,rv,ob,g,hc,n,hd⟩:=I.hok t _ ht;obtain⟨oc,odd,odt,FG⟩:=ob;simp only at hc hd;subst hc;subst hd;obtain rfl:its=[.ref M1,.ref M2,.ref M3]:=by
  cases rv with|cons a rv=>cases rv with|cons b rv=>cases rv with|cons d rv=>cases rv;cases a;cases b;cases d;rfl
 exact PySem.W.kia_tup (EB (ox:=ox) (odd:=od) c.gt) I.sF J g hk (λz=>nomatch z) λtk=>⟨.bl b,H,I.tok tk,rfl,q⟩
def TH(K:ao)(i:Nat)(f:Str):TE:=λσ H Q=>∃e C p wd v,σ[i]?=some (some (.ref e))/\oC K H e C p wd/\fK K C f/\(uI p wd).lookup f=some v/\Q v H
theorem Gc{i:Nat}{px pos:Pos}(hN:X.N[i]?=some x)(hv:Ft X.env.scope x)(hb:attributeBase (.Name x px) f X.env (eval (.Name x px) X.env)=eval (.Name x px) X.env)(hd:(x==("__debug__":Str))=false:=by decide)(qT:(x==("__classdict__":Str))=false:=by decide):
  PE X (.Attribute (.Name x px) f pos) (TH X.K i f):=by
 intro pins s σ H Q I h;obtain⟨e,C,p,wd,v,hs,c,na,hl,q⟩:=h;refine FE hb (fS (h7 (i:=i) hN hv hd qT pins s σ H (λy H1=>y=.ref e/\H1=H) I ⟨.ref e,hs,rfl,rfl⟩) λu s1 ⟨y,H1,I1,ry,ey,eH⟩=>?_)
 subst ey;subst eH;obtain rfl:u=bf e:=ry;obtain⟨ox,od,mA,J,r,Xc⟩:=c.inst I1;obtain⟨u,hu,ru⟩:=mW.some_of (v:=v) (o:=mA f) (by rw[<-hl];exact r f)
 exact Ez I1.sF J c.gt (Dy c.gt.hd na rfl (by rw[Xc,hu])) (zO ru) ⟨v,H1,I1.tok _,ru,q⟩
end
section
variable{X:Cx}{δ:List Slot}{pos px:Pos}{a b e:cj}{x:Str}{d:aq}{ds:List aq}{k:Int}{j:Nat}
def Am(P:bC)(w:cw)(K:ao)(mg:Str->Option ay)(base:c6)(k:Nat)(x:Str)(ps:List Str)(C:aL)(R:List aq->Int->Str->Prop):Prop:=
 ∃f fd,eX P w K mg base (Vo P w) k f fd ps (XU K C R)/\mg x=some (.ref f)/\eO K (.ref f)=true/\Binds K fd ps []
end
section
variable{X:Cx}{sc:kU}{own N:List Str}{cap:List Nat}{cl:List (Str×aL)}{tg elt iter:cj}{ifs:List cj}{δ:List Slot}{ds rs:List aq}{pos px wA:Pos}{tgt:He}{x:Str}
end
section
variable{X:Cx}{δ:List Slot}{pos px p:Pos}{a e:cj}{x:Str}{d:aq}
end
section
variable{X:Cx}{δ:List Slot}{pos:Pos}{a b c e:cj}
end
section
variable{P:bC}{w:cw}{K:ao}{mg:Str->Option ay}{base:c6}{N:List Str}{qual:Str}{scope:kU}{f0:aL}{cd:ay}{A:dJ}{outer:List Env}{s0:aK}{H00:Hp}{E:XK}{B0 B H0 H:Hp}{σ:St}{D:Ends}{δ:List Slot}{C fa:aL}{fd:e9}{ps:List Str}{ds:List aq}{R:List aq->Int->Str->Prop}{k:Nat}{p:Int}{wd g:Str}{a:cj}{as:List cj}{p1 p2 pos:Pos}
end
section
variable{K:ao}{B0 B H0 H:Hp}{σ:St}{δ:List Slot}{R:OR}{d:aq}{p:aL}
end
section
variable{X:Cx}{B0 B H0 H:Hp}{σ:St}{D:Ends}{δ:List Slot}{a:aL}{ek ev:cj}{d:aq}{pos px pd ps:Pos}{x y:Str}{kv:List (Str×aq)}{k:Nat}
end
section
variable{X:Cx}{a b:cj}{δ:List Slot}{pos Cz p p2:Pos}
end
end L2
namespace PySem
open Sem (wp)
section
variable{prog:bC}{w:cw}{A:dJ}{E:ay->aK->Prop}{s:aK}{r:aL}{a b c:Int}{t u v:Tok}{n:Nat}
end
section
variable{prog:bC}{w:cw}{A:dJ}{E:ay->aK->Prop}{s:aK}{r:aL}{a b c:Int}{t u v:Tok}{n:Nat}
end
end PySem
namespace L2
open PySem PySem.Spec PyProof.Rows
variable{M:Model}{Γ:PySem.Ctx}{K:ao}{s:aK}
section
variable{X:Cx}{a b:cj}{δ:List Slot}{pos Cz p p2:Pos}
end
section
variable{X:Cx}{B0 B H0 H:Hp}{σ:St}{D:Ends}{body:List iH}{tg iter:cj}{ds:List aq}{pos:Pos}
end
section
variable{X:Cx}{B0 B H0 H:Hp}{σ:St}{D:Ends}{δ:List Slot}{C M fa:aL}{fd:e9}{ps:List Str}{ds:List aq}{R:List aq->Int->Str->Prop}{k jn jc:Nat}{p:Int}{wd y g xM n xc:Str}{a:cj}{as:List cj}{p1 p2 p3 p4 p5 p6 p7 p8 hp pos:Pos}
theorem MG(fr:hU X.K B0 B H0 H σ δ)(hx:∀e s,X.xe e s->False)(Fy:X.stack=X.env::X.outer)(TF:X.env.frame=some X.env.locals)(hex:X.ex=[])(hcm:X.calm=true->X.A.handled=none)
  (F:eX X.prog X.w X.K X.mg X.base (Vo X.prog X.w) k fa fd ps (XU X.K C R))(hr:fF k X.A)(hb:Binds X.K fd ps [])(hg:Gl X g)(hm:X.mg g=some (.ref fa))(hk:eO X.K (.ref fa)=true)(ha:VA X (a::as) δ ds)(hR:R ds p wd)
  (hgM:Gl X xM)(hmM:X.mg xM=some (.ref M))(sub:Mx X.K C M)(hN:X.N.Nodup)(VC:X.N[jn]?=some n)(Qn:X.env.scope.names.lookup n=some .local)(hjc:X.N[jc]?=some xc)(hkc:Loc X.env.scope xc)(hfc:X.fn xc=true\/X.env.scope.names.lookup xc=some .local)(m8:jc≠jn)
  (q:∀e dx T σ' Ha Hb,hU X.K B0 B Ha Hb σ' (((δ.set jn .un).set jc (.ref e)).set jn .un)->Hb e=some (o8 C e dx T)->Hb dx=some (yT dx (uI p wd))->Ha e=none->Ha dx=none->B e=none->B dx=none->dx≠e->D.nx σ' Hb)
  (qA:(g==("__debug__":Str))=false:=by decide)(hdM:(xM==("__debug__":Str))=false:=by decide)(XW:(n==("__debug__":Str))=false:=by decide)(XX:(n==("__classdict__":Str))=false:=by decide)
  (hs:swapsWith (.Call (.Name g p1) (a::as) [] p2) none p4.line X.env=pure false:=by rfl)(qt:swapsWith (.Name n p6) (some (.Name xc p7)) p8.line X.env=pure false:=by rfl)
  (he:starEach (a::as) X.env=(false,eval a X.env)::starEach as X.env:=by rfl)(pF:(backTo p2 (starEach as X.env)).any (·.1)=false:=by rfl):
  cS X (.Try [.Expr (.Call (.Name g p1) (a::as) [] p2) p4] [.ExceptHandler (some (.Name xM p5)) (some n) [.Assign [.Name xc p7] (.Name n p6) p8] hp] [] [] pos) D σ H:=λpins s I=>by
 obtain⟨t,pa,VD⟩:=ha;refine wpAny_Try_except (AG (wpAny_Expr_any (eB (Q:=λ_ _=>False) ?_ (λ_ _ z=>z.elim) λ_ _ z=>z) I.quiet hs))
 refine iz (nJ I hg hm ?_ qA)
 refine mQ (h₀:=X.base) I.ok.mod.Nq hk (eB (pa p2 pins s σ H (λvs Hh=>∃Ha,dU H0 H Ha Hh/\dq X.K Ha vs ds) I ?_) (λus s1 ⟨vs,Hh,I1,r,Ha,g1,rs⟩=>⟨I1.sF,?_⟩) λe s z=>(hx e s z).elim) he pF
 ·exact VD B0 B σ H0 H _ fr λvs H1 eC g1 rs=>⟨H1,g1,rs⟩
 refine fS (MC (Q:=λ_ _=>False) (E:=λv To H'=>∃e T dx,v=.ref e/\To=some T/\Ql C p wd Ha Hh e T dx H') F hr hb (λe s' hq=>?_) I1 r ⟨Ha,ds,p,wd,g1.sub,rs,hR,λe T dx H' x=>⟨e,T,dx,rfl,rfl,x⟩⟩) λu s2 ⟨v,H2,_,_,z⟩=>z.elim
 obtain⟨ea,C',dx',T',H',rfl,os,bare,un,hok,ge',gT',ne',se,sT,e1,T0,dx,z1,z2,x⟩:=hq;cases z1;cases z2;obtain⟨hh,gg,d,tk,Lf⟩:=s';obtain rfl:Lf=s1.os:=os;have I2:Inv X pins σ H' ⟨hh,gg,d,tk,s1.os⟩:=I1.call (h':=hh) (g':=gg) (d':=d) (t':=tk) (ch:=[]) un hok bare (λb z=>qQ7 z (by simp))
 obtain⟨ff,nf,Vq⟩:=CM I2 Fy TF hex;obtain⟨ge,gT,ne,gd,hde,VB,b1,b2,b3,H1x,gx,c1,c2,c3⟩:=x;obtain⟨us0,sl,g0,u1⟩:=(I2.hok ea _ ge).1;obtain⟨oT,ts,gt,dt,t3⟩:=(I2.hok T' _ gT).1;refine Hz (base:=X.base) (L:=X.env.locals) (out:=X.outer) (by rw[I.ok.frames,Fy]) ff TF g0 rfl u1 ne gt dt t3 λh' l=>?_
 rw[Vq]at l;obtain⟨T,oT2,ts2,hT,g1',XY,g2,d2,t32⟩:=l.exc;have nT:H' T=none:=I2.hok.fresh hT;have gTn:=sy hT;have ie:uH (H' ea):=⟨_,ge⟩;have ix:∀x∈[T'],uH (H' x):=λx hx=>by rw[bo.mp hx];exact⟨_,gT⟩
 have gm:h'.get? ea=some { cls:=.ref C,dict:=some dx,data:=.fields (us0.setIfInBounds 1 (.ref T)),slots:=sl }:=g1';have hsz:1<us0.size:=(hC.mp u1).1;have TJ:3<ts2.size:=(hC.mp t32).1;have XZ:qF X.prog X.w (HL H' [T'] ea T (o8 C ea dx T) (Aj T)) h':=Ak I2.hok l nf ie ix gTn nT (o8.ok gm (by simp[hsz])) (Aj.ok g2 d2 t32)
 have un3:Un (B4 X.stack) [] H' (HL H' [T'] ea T (o8 C ea dx T) (Aj T)) hh h':=by
  have e0:B4 X.stack=X.env.locals::X.fs:=by rw[Fy];exact Vq
  rw[e0];exact MB (P:=X.prog) (w:=X.w) l ie ix gTn nT
 have I3:Inv X pins σ (HL H' [T'] ea T (o8 C ea dx T) (Aj T)) ⟨h',gg,d,tk,s1.os⟩:=Inv.call (s:=⟨hh,gg,d,tk,s1.os⟩) (H:=H') (h':=h') (g':=gg) (d':=d) (t':=tk) (ch:=[]) I2 un3 XZ bare (λb z=>qQ7 z (by simp))
 have gx':=MA (T':=T) (o1:=o8 C ea dx T) (o2:=Aj T) gx b1 b2 c1 c2 nT;have gdx:HL H' [T'] ea T (o8 C ea dx T) (Aj T) dx=some (yT dx (uI p wd)):=by rw[rn hde (bj gd nT) (by rw[bo];exact VB)];exact gd
 have geF:HL H' [T'] ea T (o8 C ea dx T) (Aj T) ea=some (o8 C ea dx T):=Mu;have gTF:HL H' [T'] ea T (o8 C ea dx T) (Aj T) T=some (Aj T):=Mv XY
 generalize HL H' [T'] ea T (o8 C ea dx T) (Aj T)=Hc at *
 show wpAny (model X.prog X.w) X.A (handleBy (.ref ea) X.env _) _ _ _;refine wpAny_handleBy_cons (codeAny_handlers_test (nJ (X:=X.held ea) (I3.held ea) hgM hmM ?_ hdM)) (by intro q;cases q)
 refine CL (X:=X) I3.sF sub gm ?_
 show codeAny _ _ (.handlers (.ref ea) [.ExceptHandler none (some n) _ _] X.env) _ _;refine codeAny_handlers_suite_as ?_
 have gt4:=fQ (kj (·.setIfInBounds 3 eE)) g2 (jo (f6 d2 _))
 refine wpAny_setFlight_none gm rfl (by simp[hsz]) g2 d2 TJ ?_
 have hu:upd Hc T (Aj T)=Hc:=by
  funext b
  by_cases hb:b=T
  ·subst hb;rw[bK,gTF]
  ·rw[aS hb]
 have I4:=I3.write (x:=T) (e:=T) (h':=h'.update T (kj (·.setIfInBounds 3 eE))) (t':=tk) (by rw[gTF];exact fz) (.inl rfl) (λb o hb gb=>(dz _ _ (bM hb)).trans gb) ⟨_,gt4⟩ (Aj.ok gt4 (f6 d2 _) (by simp[TJ]))
 rw[hu]at I4;refine lJ I4 hN VC (.inl Qn) (v:=.ref ea) rfl (λs5 I5=>?_) (.inr Qn)
 have suite:=wJ (xt (X:=X.held ea) (i:=jc) (pos:=p8) (pos':=p7) hN hjc hkc (h7 (X:=X.held ea) (i:=jn) (pos:=p6) VC (.inl Qn) XW XX) qt hfc);have Xb:jn < σ.length:=by rw[fr.len];have:=fr.len;rw[<-fr.len,I.len];exact(aJ.mp VC).1
 refine eB (suite pins s5 (σ.set jn (some (.ref ea))) Hc { nx:=λσ' H2=>σ'=(σ.set jn (some (.ref ea))).set jc (some (.ref ea))/\H2=Hc,rt:=λ_ _=>False } (I5.held ea) ⟨.ref ea,a8 Xb,rfl,rfl⟩) (λf s6 h6=>?_) λ_ _ z=>z.elim
 cases f with
 |next=>
  obtain⟨σ6,H6,I6,rfl,rfl⟩:=h6;refine HB (I6.Qk hcm) hN VC Qn λs7 I7=>⟨_,_,I7,?_⟩
  have fr2:=((fr.grow g1).grow gx');have U2:=(((fr2.Cw (i:=jn) (v:=.ref ea) (sl:=.un) trivial rfl).Cw (i:=jc) (v:=.ref ea) (sl:=.ref ea) rfl rfl).unset (i:=jn));exact q ea dx T _ H1x _ U2 geF gdx c1 c3 ((fr.grow g1).ent.big.free b1) ((fr.grow g1).ent.big.free b3) hde
 |ret v=>obtain⟨_,_,_,_,_,z⟩:=h6;exact z.elim
 |brk=>obtain⟨_,_,_,z⟩:=h6;exact z.elim
 |cont=>obtain⟨_,_,_,z⟩:=h6;exact z.elim
end
section
variable{X:Cx}{B0 B H0 H:Hp}{σ:St}{D:Ends}{δ:List Slot}{body:List iH}{tg iter:cj}{ds:List aq}{pos:Pos}
theorem Qo{tgt:He}(Rs:Nat->OR)(m:∀k,vT (Rs k))(G:OF X.K B0 B (Rs 0) H0 H σ δ)(hp:AH (model X.prog X.w) X.A X.env X.xe)(hc:X.calm=true)(hi:VI X tg iter δ ds)(hg:PG X tg (LZ X.K tgt))(M:Nat)(hM:M<ds.length)
  (step:∀k d,k<M->ds[k]?=some d->∃δ',zk tgt d δ=some δ'/\noOwn δ'=true/\∀(D:Ends)C0 σ' eJ H',OF X.K C0 B (Rs k) eJ H' σ' δ'->(∀σ2 Ha Hb,OF X.K C0 B (Rs (k+1)) Ha Hb σ2 δ->D.nx σ2 Hb)->FQ X body D σ' H')
  (last:∀d,ds[M]?=some d->∃δ',zk tgt d δ=some δ'/\noOwn δ'=true/\∀(D':Ends)σ' Ha Hb,OF X.K B0 B (Rs M) Ha Hb σ' δ'->FQ X body D' σ' Hb)
  (hs:∀x,foldedSetIterable iter X.env x=pure x:=by intro _;rfl):cS X (.For tg iter body [] pos) D σ H:=λpins s I=>by
 obtain⟨wi,pi,qi⟩:=hi;refine A3 hp hc pi hg my hs pins s σ H D I ?_
 refine qi H0 H σ H0 H _ G.own λJ H1 eC g it=>?_
 have G1:=G.go (m 0) (G.own.grow g) G.no;refine⟨λi mm σ' H'=>i<=M/\mm=M+1-i/\∃Ha,OF X.K H1 B (Rs i) Ha H' σ' δ,⟨M+1,bu _,rfl,H1,G1.from ⟨G1.fr.ent.big,ej.refl _,G1.fr.sub,λ_ z=>.inl z⟩⟩,?_⟩
 rintro i mm σ' H' ⟨hi,rfl,Ha,Ga⟩
 obtain⟨i1,i2,i3⟩:=it Ha H' Ga.fr.ent.gU Ga.fr.sub i;have hl:i<ds.length:=by omega
 have hd:ds[i]?=some ds[i]:=by simp[hl]
 by_cases rS:i<M
 ·obtain⟨δ',e1,e2,e3⟩:=step i _ rS hd
  refine .inr ⟨i1 hl,λσ'' yS=>∃Hb,OF X.K H1 B (Rs (i+1)) Hb yS σ'' δ,λσ'' yS ⟨Hb,z⟩=>⟨M+1-(i+1),by omega,rS,rfl,Hb,z⟩,λv H2 y=>?_⟩
  obtain⟨Hb,g2,rx⟩:=i3 v H2 _ hd y;refine rh (Ga.own.grow g2) rx e1 λσ3 f3=>?_
  exact e3 _ H1 σ3 Hb H2 (Ga.go (m i) f3 e2) λσ2 Hc Hd z=>⟨Hc,z⟩
 ·have e:i=M:=by omega
  subst e;obtain⟨δ',e1,e2,e3⟩:=last _ hd;refine .inr ⟨i1 hl,λ_ _=>False,λ_ _ z=>z.elim,λv H2 y=>?_⟩
  obtain⟨Hb,g2,rx⟩:=i3 v H2 _ hd y;refine rh (Ga.own.grow g2) rx e1 λσ3 f3=>?_
  have G3:=Ga.go (m i) f3 e2;refine e3 _ σ3 Hb H2 (G3.from ⟨G3.fr.ent.big,G1.fr.ent.gU.trans G3.fr.ent.gU,G3.fr.sub,λb z=>?_⟩)
  rcases G3.fr.ent.new b z with z|z
  ·exact G1.fr.ent.new b z
  ·exact .inr z
end
theorem vw{p:Pos}{t:Sem PySem.Fin}{fs:List Frame}{s': aK}{e:End}(h:Runs M Γ p t fs s e s'):s.toks<=s'.toks:=by
 induction h<;>(try simp only[aK.setGen]at *)<;>omega
theorem EC{p:Pos}{g:Nat}{r:Resume}{s': aK}{res:GenResult}(h:Wakes M Γ p g r s res s'):s.toks<=s'.toks:=by
 unfold Wakes at h
 split at h
 ·exact h.elim
 ·split at h
  ·obtain⟨e1,s1,h1,_,_,rfl⟩:=h
   have:=vw h1;exact this
  ·rw[h.2];exact aD _
  ·rw[h.2];exact aD _
 ·obtain⟨e1,s1,h1,_,_,rfl⟩:=h
  have:=vw h1;exact this
 ·rw[h.2];exact aD _
 ·rw[h.2];exact aD _
theorem wp_toks{α:Type}(M:Model)(Γ:PySem.Ctx)(n:Nat)(t:Sem α):∀(Q:α->Pos->aK->Prop)(E:ay->Pos->aK->Prop)(p:Pos)(s:aK),n<=s.toks->Sem.wp M Γ t Q E p s->Sem.wp M Γ t (λa p' s'=>Q a p' s'/\n<=s'.toks) E p s:=by
 induction t with
 |pure a=>intro Q E p s hn h;exact⟨h,hn⟩
 |raise e=>intro Q E p s hn h;exact h
 |load a part k ih=>intro Q E p s hn ⟨o,h1,h2⟩;exact⟨o,h1,ih o Q E p s hn h2⟩
 |update a part f k ih=>intro Q E p s hn ⟨h1,h2⟩;exact⟨h1,ih () Q E p _ hn h2⟩
 |fresh k ih=>intro Q E p s hn h;exact ih _ Q E p _ (Nat.le_succ_of_le hn) h
 |choose src m k ih=>intro Q E p s hn ⟨h1,h2⟩;exact⟨h1,ih _ Q E p _ hn h2⟩
 |genState g k ih=>intro Q E p s hn ⟨st,h1,h2⟩;exact⟨st,h1,ih _ Q E p s hn h2⟩
 |call c h g l k ih=>intro Q E p s hn ⟨r,s1,h1,h2⟩;exact⟨r,s1,h1,ih r Q E p s1 (bZ hn (vw h1)) h2⟩
 |resume g r l k ih=>intro Q E p s hn ⟨res,s1,h1,h2⟩;exact⟨res,s1,h1,ih _ Q E p s1 (bZ hn (EC h1)) h2⟩
 |unsupported _=>intro Q E p s hn h;exact h.elim
 |finish _=>intro Q E p s hn h;exact h.elim
 |register _ _ _=>intro Q E p s hn h;exact h.elim
 |yield _ _ _ _ _=>intro Q E p s hn h;exact h.elim
 |fork _ _ _=>intro Q E p s hn h;exact h.elim
 |await _ _ _ _ _ _=>intro Q E p s hn h;exact h.elim
 |rule _ k ih=>intro Q E p s hn h;exact ih _ Q E p _ hn h
 | «at» _ k ih=>intro Q E p s hn h;exact ih _ Q E _ _ hn h
 |loadIfAlive _ k ih=>intro Q E p s hn h;exact ih _ Q E p _ hn h
 |point _ k ih=>intro Q E p s hn h;exact ih _ Q E p _ hn h
 |alloc _ k ih=>intro Q E p s hn h;exact ih _ Q E p _ hn h
 |ask k ih=>intro Q E p s hn h;exact ih _ Q E p _ hn h
 |os _ _ k ih=>intro Q E p s hn h;exact ih _ Q E p _ hn h
 |handled _ k ih=>intro Q E p s hn h;exact ih _ Q E p _ hn h
 |newGen _ k ih=>intro Q E p s hn h;exact ih _ Q E p _ hn h
 |stack k ih=>intro Q E p s hn h;exact ih _ Q E p _ hn h
 |thread k ih=>intro Q E p s hn h;exact ih _ Q E p _ hn h
theorem wpAny_toks{α:Type}{A:dJ}{t:Sem α}{Q:α->aK->Prop}{E:ay->aK->Prop}(h:wpAny M A t Q E s):wpAny M A t (λa s'=>Q a s'/\s.toks<=s'.toks) E s:=λΓ p hΓ=>wp_toks M Γ s.toks t _ _ p s (aD _) (h Γ p hΓ)
def VF(X:Cx)(e:cj)(δ:List Slot)(d:aq):Prop:=∀B0 B σ H0 H Q,hU X.K B0 B H0 H σ δ->(∀v eJ H',dU H0 H eJ H'->Rep X.K eJ v d->Q v H')->
 ∀pins s,Inv X pins σ H s->wpAny (model X.prog X.w) X.A (eval e X.env) (λu s'=>EP X pins σ Q u s'/\0<s'.toks) X.xe s
structure NB(K:ao):Prop where
 ok:PySem.W.nsOkIn K cStatics=true
 no:iq K cStatics sharingNotToldKey=some none
theorem TK{c:ay}{d:Option aL}{n:Nat}{sl:Array (Option ay)}(l:K.lookup cStatics=some ⟨c,d,.dict #[] n,sl⟩):NB K:=
 ⟨by unfold PySem.W.nsOkIn;rw[l];simp,by unfold iq;rw[l];simp⟩
theorem NB.at{h:c6}(n:NB K)(X:K.In h):NoneBooked h:=⟨h.nsMap cStatics,.of_isNs (PySem.W.isNs_of_in X n.ok),PySem.W.nsMap_none_of_in X n.ok n.no⟩
section
variable{X:Cx}{a b e:cj}{δ:List Slot}{d d1:aq}{pos pc p ap p1 p2 p3:Pos}{x y f:Str}{k:Nat}{ps:List Str}{j j1 j2}
theorem MH{i n:Int}(h1:VE X a δ (.int i))(h:OZ i n):VF X (.BinOp a .FloorDiv (.Constant (.int n) j pc) pos) δ (.int (i/n)):=λB0 B σ H0 H Q fr q pins s I=>
 wpAny_BinOp (fS (h1 B0 B σ H0 H (λv H'=>v=.int i/\∃Ha,dU H0 H Ha H') fr (λv Ha Hb g r=>by cases r;exact⟨rfl,Ha,g⟩) pins s I) λv s1 ⟨x,H1,I1,rx,ex,Ha,g⟩=>by
  subst ex;refine wpAny_Constant_int (eB (wpAny_toks (FC pins { s1 with toks:=s1.toks+1 } σ H1 (.int i) (.int n) v _ Q (I1.tok _) rx ⟨_,rfl⟩ ⟨i,n,rfl,rfl,h,q _ Ha H1 g (.int _)⟩)) (λu s3 ⟨z,hle⟩=>⟨z,?_⟩) λ_ _ z=>z)
  have hle:s1.toks+1<=s3.toks:=hle;omega)
theorem JW{R:List aq->aq->Prop}(C:bE X.prog X.w X.K X.mg X.base k f ps (hV X.K R))(hr:fF k X.A)(ha:VF X e δ d1)(hp:R [d1] d)(hg:Gl X f:=by rfl)(qA:(f==("__debug__":Str))=false:=by decide)
  (he:starEach [e] X.env=(false,eval e X.env)::starEach [] X.env:=by rfl)(pF:(backTo pos (starEach [] X.env)).any (·.1)=false:=by rfl):VF X (.Call (.Name f p) [e] [] pos) δ d:=by
 obtain⟨fa,fd,F,hm,hk,hb⟩:=C;intro B0 B σ H0 H Q fr q pins s I;refine iz (nJ I hg hm ?_ qA)
 refine mQ (h₀:=X.base) I.ok.mod.Nq hk (Q:=_) ?_ he pF
 rw[he];show wpAny _ _ (spliced ((false,eval e X.env)::backTo pos (starEach [] X.env))) _ _ s;refine fU (fS (ha B0 B σ H0 H (λv Hh=>∃Ha,dU H0 H Ha Hh/\Rep X.K Ha v d1) fr (λv Ha Hb g r=>⟨Ha,g,r⟩) pins s I) λu s1 ⟨⟨v,H1,I1,rx,Ha,g,r⟩,hp1⟩=>?_)
 refine ji ⟨I1.sF,?_⟩
 refine eB (wpAny_toks (IE (Q:=Q) (E:=E0) F hr hb .nil zU I1 (.cons rx .nil) ?_)) (λu s3 ⟨z,hle⟩=>⟨z,bF hp1 hle⟩) λ_ _ z=>z
 exact⟨Ha,[d1],d,g.sub,.cons r .nil,hp,λv H2 iT g2 r2=>q v H2 iT (g.trans g2) r2⟩
theorem JX(z:Str):gi z 1=z:=by
 show z++ei=z;cases z with|mk c=>show(⟨c ++ #[]⟩:Str)=⟨c⟩;simp
theorem MJ{o:cj}{m:Int}(nb:NB X.K)(h1:VF X o δ (.str x))(h2:VE X e δ (.int m))(hm:1<=m)(hm2:m<=100)(hy:y.length=1)(hx:x.length<=1000)
  (M:M2 X o "replace" ap (.Constant (.str y) j1 p1) (.BinOp (.Constant (.str y) j2 p2) .Mult e p3) pos:=by exact⟨rfl,rfl,rfl,rfl⟩):
  VE X (.Call (.Attribute o "replace" ap) [.Constant (.str y) j1 p1,.BinOp (.Constant (.str y) j2 p2) .Mult e p3] [] pos) δ (.str (sY x y (gi y m.toNat))):=λB0 B σ H0 H Q fr q pins s I=>by
 have hlen:(gi y m.toNat).length<=100:=by
  have:∀k,(gi y k).length=k:=by
   intro k
   induction k with
   |zero=>rfl
   |succ k ih=>show(y++gi y k).length=k+1;rw[b0,ih,hy];omega
  rw[this];omega
 have X1:x.length+(x.length+1)*(gi y m.toNat).length<=16777216:=by
  have:(x.length+1)*(gi y m.toNat).length<=1001*100:=eD (by omega) hlen
  omega
 refine yZ M.base M.few M.line pI PySem.F.slot_str_replace PySem.F.type_str_replace (fS (h1 B0 B σ H0 H (λv Hh=>v=.str x/\∃Ha,dU H0 H Ha Hh) fr (λv Ha Hb g r=>by cases r;exact⟨rfl,Ha,g⟩) pins s I) λu s1 ⟨⟨v,H1,I1,rx,ev,Ha,g⟩,hp1⟩=>?_)
 subst ev;obtain⟨t,rfl⟩:=rx;refine⟨pH _ _ _,(λ_ z=>by cases z),?_⟩
 rw[M.trees];refine kY rfl (lX (fU (nA (fU (wpAny_BinOp (nA ?_))))))
 refine fS (wpAny_toks (h2 B0 B σ Ha H1 (λv Hh=>v=.int m/\∃Hc,dU Ha H1 Hc Hh) (fr.grow g) (λv Hc Hb g r=>by cases r;exact⟨rfl,Hc,g⟩) pins { s1 with toks:=s1.toks+1+1 } (I1.tok _))) λu3 s3 ⟨⟨v3,H3,I3,r3,ev,Hc,g3⟩,hle⟩=>?_
 subst ev;obtain⟨t3,rfl⟩:=r3;have hle:s1.toks+1+1<=s3.toks:=hle;have Xq:(1000:Int)<2^63:=by decide
 have e63:(2:Int)^63=9223372036854775808:=by decide
 have fin:∀(v:Tok)(k:Nat),v≠0->s1.toks≠v->wpAny (model X.prog X.w) X.A (call (.builtin "str.replace") [.str x t,.str y s1.toks,.str (gi y m.toNat) v]) (EP X pins σ Q) X.xe { s3 with toks:=k }:=λv k hv huv=>
  SC.replaceA (by show s1.toks≠0;omega) hv huv X1 (λt' k'=>⟨.str _,H3,I3.tok _,⟨t',rfl⟩,q _ Hc H3 (g.trans g3) (.str _)⟩) (nb.at I3.sF)
 refine PySem.P.mul_str (by rw[qQ0 (by omega),qQ0 (by omega)];rfl) (λha _=>?_) (λ_ _=>?_) ?_
 ·have:((2:Int)^63-1)/m>=1000:=by
   rw[ge_iff_le,DK (by omega)]
   omega
  omega
 ·unfold PySem.Builtin.Str.tooLong
  rw[qQ0];rw[cL,hy];omega
 ·rw[qQ2 (by omega)]
  by_cases hc:(m==1||y.length==0)=true
  ·rw[qQ3 hc]
   have VG:m=1:=by rw[hy]at hc;simpa using hc
   subst VG;refine ji ?_
   have:=fin (s1.toks+1) s3.toks (by show s1.toks+1≠0;omega) (by show s1.toks≠s1.toks+1;omega)
   rw[show(1:Int).toNat=1 from rfl,JX]at this
   exact this
  ·rw[qQ2 hc]
   have e:(⟨(aH m.toNat y.cps).foldl (· ++ ·) #[]⟩:Str)=gi y m.toNat:=by rw[Bg];simp
   rw[e];refine⟨bZ hlen (by rw[cL];decide),ji ?_⟩
   exact fin s3.toks (s3.toks+1) (by show s3.toks≠0;omega) (by show s1.toks≠s3.toks;omega)
end
end L2
namespace Mg
open L2 PySem PyProof.Rows
def top(i:Nat):iH:=PySem.Challenge.pw_mergeline_k03_rows_of_no_form.main.body.getD i (.Pass ⟨0,0,0,0⟩)
theorem small{n:Nat}(h:n<=1000000):n<=sizeLine:=bZ h (by rw[cL];decide)
theorem jF{n:Nat}(h:n<=1000000):n<sizeLine:=Nat.lt_of_le_of_lt h (by rw[cL];decide)
def ng(x:Str):Prop:=cP (.str x)=true
theorem bJ(a b:Str):dE (.str a) (.str b)=decide (a=b):=by
 rw[dE,fH];simp
theorem nZ(a b:Int):dE (.int a) (.int b)=decide (a=b):=by
 rw[dE,fH];simp
end Mg
namespace L2
open PySem PySem.Spec PyProof.Rows
section
variable{X:Cx}{a b c e:cj}{δ:List Slot}{d d1 d2 d3:aq}{pos:Pos}{k:Nat}
theorem yf{op op':DH}{r r':R2}{k1 k2:Bool}(ho:rP X (compareOp op) r)(Fu:rP X (compareOp op') r')(od1:zX X.K r d1 d2 (.bool k1))(od2:zX X.K r' d2 d3 (.bool k2))(h1:VE X a δ d1)(h2:VE X b δ d2)(h3:k1=true->VE X c δ d3)
  (hm:lastMarks [op,op'] [b,c]=false:=by with_unfolding_all rfl):VE X (.Compare a [op,op'] [b,c] pos) δ (.bool (k1&&k2)):=by
 cases k1 with
 |true=>
  refine .of (B_ ho Fu dM dM dM hm) λB0 B σ H0 H Q f q=>h1 B0 B σ H0 H _ f λv H1 eC g1 r1=>h2 B0 B σ H1 eC _ (f.grow g1) λu H2 iT g2 r2=>od1 v u H2 iT _ g2.sub (r1.mono g2.gU) r2 λz H3 wN g3 r3=>?_
  cases r3;refine⟨true,rfl,?_⟩
  rw[qQ3 rfl];exact h3 rfl B0 B σ H3 wN _ (((f.grow g1).grow g2).grow g3) λx H4 Xu g4 r4=>od2 u x H4 Xu _ g4.sub ((r2.mono g3.gU).mono g4.gU) r4 λy H5 H5' g5 r5=>q y H5 H5' ((((g1.trans g2).trans g3).trans g4).trans g5) r5
 |false=>
  refine .of (B_ ho Fu dM dM xU hm) λB0 B σ H0 H Q f q=>h1 B0 B σ H0 H _ f λv H1 eC g1 r1=>h2 B0 B σ H1 eC _ (f.grow g1) λu H2 iT g2 r2=>od1 v u H2 iT _ g2.sub (r1.mono g2.gU) r2 λz H3 wN g3 r3=>?_
  cases r3;refine⟨false,rfl,?_⟩
  rw[qQ2 cF];exact q _ H3 wN ((g1.trans g2).trans g3) (.bl false)
theorem JY{x:Str}{s:Str}{t:Tok}(hm:X.mg x=some (.str s t))(hg:Gl X x:=by rfl)(hd:(x==("__debug__":Str))=false:=by decide):VE X (.Name x pos) δ (.str s):=.of (nM hg hm (v:=.str s) ⟨t,rfl⟩ hd) λ_ _ _ _ _ _ f k=>k _ _ _ (.refl f.sub) (.str s)
theorem CN{x:Str}{i:Int}{t:Tok}(hm:X.mg x=some (.int i t))(hg:Gl X x:=by rfl)(hd:(x==("__debug__":Str))=false:=by decide):VE X (.Name x pos) δ (.int i):=.of (nM hg hm (v:=.int i) ⟨t,rfl⟩ hd) λ_ _ _ _ _ _ f k=>k _ _ _ (.refl f.sub) (.int i)
end
end L2
namespace Mg
open L2 PySem PyProof.Rows
seal L2.VE L2.VS L2.wB L2.VT L2.VO L2.L4
variable{fd:e9}{kinds:List (Str×Option Int)}{ds:List aq}{c i:Nat}{d:aq}{x:Str}
structure Nw(mg:Str->Option ay):Prop where
 len:mg "len"=none
 all:mg "all"=none
 L6:mg "enumerate"=none
 let_:∃t,mg "LETTERS"=some (.str "abcdefghijklmnopqrstuvwxyz" t)
 fig:∃t,mg "FIGURES"=some (.str "0123456789" t)
 lna:∃t,mg "LONGEST_NAME"=some (.int 8 t)
 lnu:∃t,mg "LONGEST_NUMBER"=some (.int 6 t)
def one(c:Nat):Str:=⟨#[c]⟩
def oE(signs:Str)(longest:Int)(w:Str):Bool:=(decide (1<=(w.length:Int))&&decide ((w.length:Int)<=longest))&&w.cps.toList.all λc=>Bj (one c) signs
def N2(signs:Str):aq->Option aq
 | .str x=>some (.bool (Bj x signs))
 |_=>none
theorem HD(signs w:Str):(pT w).filterMap (N2 signs)=(w.cps.toList.map λc=>Bj (one c) signs).map .bool:=by
 unfold pT;rw[cQ,bA];exact filterMap_some λc _=>rfl
def isName(w:Str):Bool:=oE "abcdefghijklmnopqrstuvwxyz" 8 w
def isNumber(w:Str):Bool:=oE "0123456789" 6 w&&(decide (w="0") || !decide ((w.cps.toList.head?.map one).getD ei="0"))
def wordsOf(row:Str):List Str:=(bL row " ").filter λw=>decide (w≠"")
def rowsOf(text:Str):List (Nat×List Str):=(bL text "\n").zipIdx.filterMap λp=>if(wordsOf p.1).isEmpty then none else some (p.2,wordsOf p.1)
theorem lD(x:Str):ng x↔∀c∈x.cps.toList,c<0x110000:=by
 show(x.cps.all λc=>decide (c<0x110000))=true↔_
 rw[<-Array.all_toList,ef];exact⟨λh c hc=>qQ4 (h c hc),λh c hc=>qQ1 (h c hc)⟩
theorem Qp(h:ng x)(hc:c∈x.cps.toList):ng (one c):=by
 rw[lD]at h ⊢;intro z hz;have:z=c:=by simpa[one]using hz
 rw[this];exact h c hc
def rq(x:Str):Prop:=x.length<=100000/\ng x
section
variable{P:bC}{w:cw}{K:ao}{mg:Str->Option ay}{base:c6}{f:aL}{k:Nat}
abbrev TL:List Str:=["signs","longest","word"]
theorem TN:c9 TL TL (b9 (top 13)):=⟨rfl,rfl,rfl,by symm,rfl,by symm,by symm⟩
def X2(ds:List aq)(d:aq):Prop:=∃(signs:Str)(longest:Int)(x:Str),ds=[.str signs,.int longest,.str x]/\x.length<=100000/\d=.bool (oE signs longest x)
theorem X3(F:lq K "is_made_of" "is_made_of" (top 13) f fd)(n:Nw mg):eX P w K mg base kF 1 f fd TL (hV K X2):=
 jz F TN (λ_ _ h=>by obtain⟨_,_,_,rfl,_⟩:=h;rfl) λ_ _ h=>by
  obtain⟨signs,longest,x,rfl,hx,rfl⟩:=h;intro h8 A outer s H E hr;have nc:(["sign","signs"]:List Str).Nodup:=by symm
  have hl:(pT x).length<=100000:=by unfold pT;rw[aj,cR];exact hx
  refine bq (cn (VE.to (m9 (yf zN zN (zj 1 x.length) (zj x.length longest) aF (F2 (ai 2 rfl) (small (by omega)) n.len) (λ_=>ai 1 rfl)) (λ_=>j0 (iV (oY rfl) Ab (av (VO.ve (VO.to (gw (own:=["sign"]) (cap:=[0]) (N:=["sign","signs"]) (tgt:=.one 0) (F:=N2 signs) (ds:=pT x) rfl ⟨rfl,by symm,by symm,rfl,rfl,?_⟩ (PN (ai 2 rfl)) (λf s3 H3=>cp (i:=0) nc rfl (bB rfl)) rfl
   (small (by omega)) (λd hd=>?_)) (HD signs x))) aX) n.all rfl))) ?_))
  ·intro j hj
   rcases aG.mp hj with rfl|hj
   ·exact⟨(by show(0:Nat)<3;decide),bB rfl,rfl⟩
   ·cases hj
  ·obtain⟨c,_,rfl⟩:=aN.mp hd
   exact⟨_,rfl,λf s3 H3=>gv,λr kT f s3 H3=>by cases kT;exact PV (ai 0 rfl) (ai 1 rfl)⟩
  ·unfold oE nW
   rw[vM];rfl
theorem TQ:c9 ["word"] ["word"] (b9 (top 14)):=⟨rfl,rfl,rfl,by symm,rfl,by symm,by symm⟩
theorem TR:c9 ["word"] ["word"] (b9 (top 15)):=⟨rfl,rfl,rfl,by symm,rfl,by symm,by symm⟩
def Rh(ds:List aq)(d:aq):Prop:=∃x:Str,ds=[.str x]/\x.length<=100000/\d=.bool (isName x)
def VH(ds:List aq)(d:aq):Prop:=∃x:Str,ds=[.str x]/\rq x/\d=.bool (isNumber x)
theorem X4(F:lq K "is_name" "is_name" (top 14) f fd)(n:Nw mg)(C:bE P w K mg base 1 "is_made_of" TL (hV K X2)):eX P w K mg base kF 2 f fd ["word"] (hV K Rh):=
 jz F TQ (λ_ _ h=>by obtain⟨_,rfl,_⟩:=h;rfl) λ_ _ h=>by
  obtain⟨x,rfl,hx,rfl⟩:=h;intro h8 A outer s H E hr;obtain⟨t1,m1⟩:=n.let_;obtain⟨t2,m2⟩:=n.lna;exact bq (cn (bN C hr (av (JY m1) (av (CN m2) (av (ai 0 rfl) aX))) ⟨_,8,x,rfl,hx,rfl⟩))
theorem X5(F:lq K "is_number" "is_number" (top 15) f fd)(n:Nw mg)(C:bE P w K mg base 1 "is_made_of" TL (hV K X2)):eX P w K mg base kF 2 f fd ["word"] (hV K VH):=
 jz F TR (λ_ _ h=>by obtain⟨_,rfl,_⟩:=h;rfl) λ_ _ h=>by
  obtain⟨x,rfl,⟨hx,okx⟩,rfl⟩:=h;intro h8 A outer s H E hr;obtain⟨t1,m1⟩:=n.fig;obtain⟨t2,m2⟩:=n.lnu;have o0:Lay 20 (.str "0"):=bH (by symm)
  cases em:oE "0123456789" 6 x with
  |false=>
   refine bq (cn (VE.to (m9 (k1:=false) (k2:=false) (VE.to (bN C hr (av (JY m1) (av (CN m2) (av (ai 0 rfl) aX))) ⟨_,6,x,rfl,hx,rfl⟩) (by rw[em])) (λz=>by cases z)) ?_))
   unfold isNumber;rw[em];rfl
  |true=>
   obtain⟨c,hc⟩:∃c,x.cps.toList.head?=some c:=by
    cases e:x.cps.toList with
    |cons c l=>exact⟨c,rfl⟩
    |nil=>
     exfalso
     have:x.length=0:=by
      have:=qQ6 gu e;rw[cR]at this;exact this
     unfold oE at em;rw[this]at em;cases em
   have h0:sG x.cps.toList 0=some c:=by
    cases e:x.cps.toList with
    |nil=>rw[e]at hc;cases hc
    |cons a l=>rw[e]at hc;cases hc;exact cz (j:=0) rfl
   have okc:ng (one c):=by
    have hm:c∈x.cps.toList:=by
     cases e:x.cps.toList with
     |nil=>rw[e]at hc;cases hc
     |cons a l=>rw[e]at hc;cases hc;exact aP
    exact Qp okx hm
   refine bq (cn (VE.to (m9 (k1:=true) (VE.to (bN C hr (av (JY m1) (av (CN m2) (av (ai 0 rfl) aX))) ⟨_,6,x,rfl,hx,rfl⟩) (by rw[em])) (λ_=>j0 (uB (sJ hr (bH okx) o0 (ai 0 rfl) aO) (λ_=>j0 (Jo hr (bH okc) o0 (Bi (ai 0 rfl) aF (small (by omega)) h0) aO))))) ?_))
   unfold isNumber;rw[em,bJ,bJ,hc];rfl
end
theorem CP{y p:Str}:∀{zs:List Str},p∈zs->c∈p.cps.toList->c∈(cK y zs).cps.toList
 | [],h,_=>by cases h
 | [x],h,hc=>by
  rw[bo]at h;subst h;exact hc
 |x::x2::zs,h,hc=>by
  show c∈(x++y++cK y (x2::zs)).cps.toList;have e:(x++y++cK y (x2::zs)).cps.toList=(x.cps.toList++y.cps.toList)++(cK y (x2::zs)).cps.toList:=by
   show(x.cps++y.cps++(cK y (x2::zs)).cps).toList=_
   simp
  rw[e];rcases aG.mp h with rfl|h
  ·exact fe _ (fe _ hc)
  ·exact cJ _ (CP h hc)
theorem CQ{y p: Str}(h:rq x)(hp:p∈bL x y):rq p:=by
 refine⟨bZ (part_short hp) h.1,(lD p).mpr λc hc=>(lD x).mp h.2 c ?_⟩
 have:=CP (y:=y) hp hc;rw[mU]at this;exact this
def Gd:aq->Option aq
 | .str w=>if decide (w≠"")=true then some (.str w)else none
 |_=>none
theorem HF(l:List Str):(l.map aQ).filterMap Gd=(l.filter λw:Str=>decide (w≠"")).map aQ:=by
 induction l with
 |nil=>rfl
 |cons w l ih=>
  rw[aR,lV];by_cases h:decide (w≠"")=true
  ·rw[qQ3 h,dB (f:=Gd) (b:=.str w) (by show(if _ then _ else _)=_;rw[qQ3 h]),ih];rfl
  ·rw[qQ2 h,gk (f:=Gd) (by show(if _ then _ else _)=_;rw[qQ2 h]),ih]
def sN(p:Nat×List Str):aq:=.tuple [.int p.1,.list (p.2.map .str)]
def pX(text:Str)(i:Nat):List (Nat×List Str):=((bL text "\n").zipIdx.take i).filterMap λp=>if(wordsOf p.1).isEmpty then none else some (p.2,wordsOf p.1)
theorem vU{text row:Str}(h:(bL text "\n")[i]?=some row):pX text (i+1)=pX text i++(if(wordsOf row).isEmpty then []else [(i,wordsOf row)]):=by
 unfold pX;rw[eu,jB,h];simp only[mw,tW,lI,qP]
 congr 1
 cases e:(wordsOf row).isEmpty
 ·rw[dB (b:=(i,wordsOf row)) (by simp only[e];rfl)];rfl
 ·rw[gk (by simp only[e];rfl)];rfl
theorem ED(text:Str):pX text (bL text "\n").length=rowsOf text:=by
 unfold pX rowsOf;rw[dA (by simp)]
theorem EE(text:Str)(i:Nat):(pX text i).length<=i:=by
 unfold pX;exact bZ (pE _ _) (by rw[bS];omega)
theorem vV{y: Str}(h:x.length<=100000):(bL x y).length<=100002:=by
 have e1:=BZ x y 0 x.length (x.length+1);unfold bL
 split
 ·show 1<=100002;omega
 ·split
  ·show 1<=100002;omega
  ·rw[wo];omega
section
variable{P:bC}{w:cw}{K:ao}{mg:Str->Option ay}{base:c6}{f:aL}{k:Nat}
theorem TV:c9 ["row"] ["row"] (b9 (top 16)):=⟨rfl,rfl,rfl,by symm,rfl,by symm,by symm⟩
def Rwo(ds es:List aq):Prop:=∃x:Str,ds=[.str x]/\rq x/\es=(wordsOf x).map .str
theorem X6(F:lq K "words_of" "words_of" (top 16) f fd):eX P w K mg base kF 1 f fd ["row"] (FW K Rwo):=
 Jm F TV (λ_ _ h=>by obtain⟨_,rfl,_⟩:=h;rfl) λ_ _ h=>by
  obtain⟨x,rfl,ok,rfl⟩:=h;intro h8 A outer s H E hr;have nc:(["word"]:List Str).Nodup:=by symm
  have hx:=ok.1;refine bq (wO (VO.to (gw (own:=["word"]) (cap:=[]) (N:=["word"]) (cl:=[]) (tgt:=.one 0) (F:=Gd) (ds:=(bL x " ").map aQ) rfl ⟨rfl,by symm,by symm,rfl,rfl,by simp⟩ (je (VO.ve (oZ (ai 0 rfl) aO rfl (small (by omega))))) (λf s3 H3=>cp (i:=0) nc rfl (bB rfl)) rfl
   (small (by rw[aj];have:=vV (y:=" ") hx;omega)) (λd hd=>?_)) (HF _)))
  obtain⟨p,hp,rfl⟩:=aN.mp hd;have Im:=CQ ok hp;refine⟨_,rfl,λf s3 H3=>?_,λr kT f s3 H3=>?_⟩
  ·refine Bf (VT.to (mZ (k:=0) hr (bH Im.2) (bH (x:="") (by symm)) (ai 0 rfl) aO) ?_)
   rw[bJ]
   show(!decide (p=""))=(if decide (p≠"")=true then some (aQ p)else none).isSome
   by_cases h:p=""
   ·subst h;rfl
   ·rw[qQ3 (by simpa using h),qQ0 h];rfl
  ·have Qq:(if decide (p≠"")=true then some (aQ p)else none)=some r:=kT
   split at Qq
   ·cases Qq;exact ai 0 rfl
   ·cases Qq
abbrev Nro:List Str:=["text","rows","number","row","words"]
theorem N3:c9 Nro ["text"] (b9 (top 17)):=⟨rfl,rfl,rfl,by symm,rfl,by symm,by symm⟩
def X7(ds es:List aq):Prop:=∃x:Str,ds=[.str x]/\rq x/\es=(rowsOf x).map sN
theorem X8(F:lq K "rows_of" "rows_of" (top 17) f fd)(n:Nw mg)(C:bE P w K mg base 1 "words_of" ["row"] (FW K Rwo)):eX P w K mg base kF 2 f fd ["text"] (FW K X7):=
 Jm F N3 (λ_ _ h=>by obtain⟨_,rfl,_⟩:=h;rfl) λ_ _ h=>by
  obtain⟨x,rfl,ok,rfl⟩:=h;intro h8 A outer s H E hr;have nd:Nro.Nodup:=N3.nd;have hx:=ok.1;have hc:=vV (y:="\n") hx;refine aE (nU 1 (gG aX) nd) ?_
  refine aE (pS (tgt:=.tup [2,3]) (o:=.nx [.val (.str x),.own ((pX x (bL x "\n").length).map sN),.un,.un,.un]) eV rfl (nR (ds:=(bL x "\n").map aQ) (VO.ve (oZ (ai 0 rfl) aO rfl (small (by omega)))) n.L6)
   (iS rfl (cD (cp (i:=2) nd rfl (bB rfl)) (cD (cp (i:=3) nd rfl (bB rfl)) gN))) (λi=>[.val (.str x),.own ((pX x i).map sN),.un,.un,.un]) (bL x "\n").length rfl (by rw[dN];simp) (λi d hi hd=>?_) (.inl ⟨by rw[dN];simp,rfl⟩)) ?_
  ·obtain⟨y,hy,rfl⟩:=jy hd
   obtain⟨row,vy⟩:∃row,(bL x "\n")[i]?=some row:=⟨(bL x "\n")[i],by simp[hi]⟩
   rw[aT,vy]at hy;cases hy;have N4:=CQ ok (bO vy);have hle:=EE x i;refine⟨_,rfl,?_⟩
   refine aE (bV 4 (VO.ve (nV C hr (av (ai 3 rfl) aX) ⟨row,rfl,N4,rfl⟩)) nd) ?_
   cases ew:(wordsOf row).isEmpty with
   |true=>
    refine kH (bq (cv (VT.to (pQ (ai 4 rfl) rfl) (by cases e:wordsOf row with|nil=>rfl|cons _ _=>rw[e]at ew;cases ew)) bQ)) ⟨.inr rfl,.inr ?_,.inl rfl,.inl rfl,.inl rfl,trivial⟩
    rw[vU vy,ew,qQ3 rfl,dC]
   |false=>
    refine kH (bq (dH (VT.to (pQ (ai 4 rfl) rfl) (by cases e:wordsOf row with|nil=>rw[e]at ew;cases ew|cons _ _=>rfl)) (bq (j_ 1 rfl (d:=sN (i,wordsOf row)) (gf (av (ai 2 rfl) (av (ai 4 rfl) aX))) (jF (by rw[aj];omega)))))) ⟨.inr rfl,.inr ?_,.inl rfl,.inl rfl,.inl rfl,trivial⟩
    rw[vU vy,ew,qQ2 cF,bh];rfl
  ·rw[ED]
   exact bq (FV 1 rfl)
end
def n_(ns:List Int):aq:=.list (ns.map .int)
def cV(c k:Int):Int:=((c%2147483629+k*k*7919+11)*48271%2147483647)*((c%2147483629+k*k*7919+11)*48271%2147483647)%1999999973
theorem wU(c k:Int):0<=cV c k:=bw _ (by decide)
theorem Ge(c k:Int):cV c k<1999999973:=bG _ (by decide)
abbrev ABC:Str:="abcdefghijklmnopqrstuvwxyz"
theorem CT:(ABC:Str).cps.toList=(cq 26).map (97 + ·):=by symm
def CV(i:Int):Str:=one (97+i.toNat)
theorem EF{i:Int}(h0:0<=i)(h1:i<26):sG (ABC:Str).cps.toList i=some (97+i.toNat):=by
 obtain⟨n,rfl⟩:=kQ h0;refine cz (j:=n) ?_
 have hn:n<26:=by omega
 rw[CT,aT,mS hn];rfl
def dW(x:Str):Prop:=1<=x.cps.toList.length/\x.cps.toList.length<=8/\∀c∈x.cps.toList,97<=c/\c<123
theorem MK(h:97<=c/\c<123):c∈(ABC:Str).cps.toList:=by
 rw[CT];exact aN.mpr ⟨c-97,dG.mpr (by omega),by omega⟩
theorem dW.is(h:dW x):isName x=true:=by
 obtain⟨h1,h2,h3⟩:=h;rw[cR]at h1 h2;have e:x.length=x.cps.size:=rfl;unfold isName oE;rw[qQ1 (by omega),qQ1 (by omega),j8,j8,ef]
 intro c hc;show Bj (one c) ABC=true;have:Bj (one c) ABC=decide (c∈(ABC:Str).cps.toList):=uh ..;rw[this];exact qQ1 (MK (h3 c hc))
theorem dW.ok(h:dW x):rq x:=by
 obtain⟨h1,h2,h3⟩:=h;rw[cR]at h1 h2;refine⟨by show x.cps.size<=_;omega,(lD x).mpr λc hc=>?_⟩
 have:=h3 c hc;omega
theorem CW(x:Str):∀n,(gi x n).cps.toList=(aH n x.cps.toList).flatten
 |0=>rfl
 |n+1=>by
  have e:(gi x (n+1)).cps.toList=x.cps.toList++(gi x n).cps.toList:=by
   show(x.cps++(gi x n).cps).toList=_
   simp
  rw[e,CW x n];rfl
theorem Bo(c n:Nat):(gi (one c) n).cps.toList=aH n c:=by
 rw[CW]
 induction n with
 |zero=>rfl
 |succ n ih=>
  rw[dv,eM,ih];rfl
def nameA(m:Int)(many k:Nat):Str:=gi (CV (m/3%26)) (many-k)
def stemOf(m:Int):Str:=gi (CV (m/4992%26)) (1+m/78%8).toNat
def sO(m:Int)(k:Nat):Str:=lZ (stemOf m) none (some (m/624%(1+m/78%8)))++CV ((m/3+5*k)%26)++lZ (stemOf m) (some (m/624%(1+m/78%8)+1)) none
def namesOf(cell:Int)(many:Nat):List Str:=if cV cell 3%3=0/\many<9 then(cq many).map (nameA (cV cell 3) many) else(cq many).map (sO (cV cell 3))
theorem gY(cell:Int)(many:Nat):(namesOf cell many).length=many:=by unfold namesOf;split<;>simp
theorem vz(m:Int):(stemOf m).cps.toList=aH (1+m/78%8).toNat (97+(m/4992%26).toNat):=Bo _ _
theorem JZ(m:Int){many k:Nat}(h:k<many)(h9:many<9):dW (nameA m many k):=by
 have e:(nameA m many k).cps.toList=aH (many-k) (97+(m/3%26).toNat):=Bo _ _;refine⟨by rw[e,cu];omega,by rw[e,cu];omega,λc hc=>?_⟩
 rw[e]at hc;have:=(fY.mp hc).2;omega
theorem J0(m:Int)(k:Nat):dW (sO m k):=by
 have hs:=vz m;have hl:(stemOf m).cps.toList.length=(1+m/78%8).toNat:=by rw[hs,cu]
 have b1:0<=m/78%8:=bw _ (by decide)
 have b2:m/78%8<8:=bG _ (by decide)
 have p1:0<=m/624%(1+m/78%8):=bw _ (by omega)
 have p2:m/624%(1+m/78%8)<1+m/78%8:=bG _ (by omega)
 have e1:lZ (stemOf m) none (some (m/624%(1+m/78%8)))=_:=B7 (x:=stemOf m) ⟨p1,by rw[hl];omega⟩
 have e2:lZ (stemOf m) (some (m/624%(1+m/78%8)+1)) none=_:=AZ (x:=stemOf m) ⟨by omega,by rw[hl];omega⟩
 have e:(sO m k).cps.toList=(stemOf m).cps.toList.take (m/624%(1+m/78%8)).toNat ++ [97+((m/3+5*k)%26).toNat]++(stemOf m).cps.toList.drop (m/624%(1+m/78%8)+1).toNat:=by
  unfold sO;rw[e1,e2]
  show((_++_++_:Array Nat)).toList=_
  simp only[Fs,kZ,Int.sub_zero,CV,one];rw[dA (l:=List.drop _ _) (by rw[b_];omega)]
 have l1:(sO m k).cps.toList.length=(1+m/78%8).toNat:=by
  rw[e,aV,aV,bS,b_,hl];simp only[lH];omega
 refine⟨by rw[l1];omega,by rw[l1];omega,λc hc=>?_⟩
 rw[e,hs]at hc;have q1:0<=(m/3+5*k)%26:=bw _ (by decide)
 have q2:(m/3+5*k)%26<26:=bG _ (by decide)
 have r1:0<=m/4992%26:=bw _ (by decide)
 have r2:m/4992%26<26:=bG _ (by decide)
 rcases bX.mp hc with hc|hc
 ·rcases bX.mp hc with hc|hc
  ·have:=(fY.mp (cG hc)).2
   omega
  ·have:=bo.mp hc
   omega
 ·have:=(fY.mp (cW hc)).2
  omega
theorem j3{cell:Int}{many:Nat}(h:x∈namesOf cell many):dW x:=by
 unfold namesOf at h
 split at h
 ·rename_i hh
  obtain⟨k,hk,rfl⟩:=aN.mp h;exact JZ _ (dG.mp hk) hh.2
 ·obtain⟨k,hk,rfl⟩:=aN.mp h
  exact J0 _ _
abbrev Ng(mg:Str->Option ay):Prop:=Nm mg
section
variable{P:bC}{w:cw}{K:ao}{mg:Str->Option ay}{base:c6}{f:aL}{k:Nat}
def J1(ds:List aq)(d:aq):Prop:=∃(ns:List Int)(k:Nat),ds=[n_ ns,.int k]/\d=.int (ns.getD k 0)
theorem ML:c9 ["_law_script","_law_k"] ["_law_script","_law_k"] (b9 (top 40)):=⟨rfl,rfl,rfl,by symm,rfl,by symm,by symm⟩
theorem Qr(m1:mg "len"=none)(h:J1 ds d):z8 P w K mg base ["_law_script","_law_k"] "_law_cell_at" (top 40) f k ds (.rt d):=by
 obtain⟨ns,n,rfl,rfl⟩:=h;intro h8 A outer s H E hr;by_cases hn:n<ns.length
 ·refine df (dH (VT.to (zY (ai 1 rfl) (jE (ai 0 rfl) m1)) (by simp only[aj];exact qQ1 (by omega))) (bq (cn (f7 (ai 0 rfl) (ai 1 rfl) (cz ?_))))) rfl
  rw[aT,aI,ax hn];rfl
 ·refine aE (cv (VT.to (zY (ai 1 rfl) (jE (ai 0 rfl) m1)) (by simp only[aj];exact qQ0 (by omega))) bQ) ?_
  have e:ns.getD n 0=0:=by rw[aI,hX (by omega)];rfl
  rw[e];exact bq (cn aF)
theorem Qs(F:lq K "_law_cell_at" "_law_cell_at" (top 40) f fd)(m1:mg "len"=none):eX P w K mg base kF 1 f fd ["_law_script","_law_k"] (hV K J1):=jz F ML (λ_ _ h=>by obtain⟨_,_,rfl,_⟩:=h;rfl) λ_ _ h=>Qr m1 h
def HG(ds:List aq)(d:aq):Prop:=∃(c k:Int),ds=[.int c,.int k]/\0<=k/\k<=1000/\d=.int (cV c k)
abbrev Qt:List Str:=["_law_cell","_law_k","_law_m"]
theorem J2:c9 Qt ["_law_cell","_law_k"] (b9 (top 41)):=⟨rfl,rfl,rfl,by symm,rfl,by symm,by symm⟩
theorem TX(h:HG ds d):z8 P w K mg base Qt "_law_mix" (top 41) f k ds (.rt d):=by
 obtain⟨c,n,rfl,h0,h1,rfl⟩:=h;intro h8 A outer s H E hr;have nd:Qt.Nodup:=J2.nd;have q1:0<=(c%2147483629+n*n*7919+11)*48271%2147483647:=bw _ (by decide)
 have q2:(c%2147483629+n*n*7919+11)*48271%2147483647<2147483647:=bG _ (by decide)
 refine aE (bV 2 (cZ (tD (eL (eL (cZ (ai 0 rfl) aF (by decide)) (tD (tD (ai 1 rfl) (ai 1 rfl) (.inl ⟨by omega,by omega⟩)) aF (.inr ⟨by decide,by decide⟩))) aF) aF (.inr ⟨by decide,by decide⟩)) aF (by decide)) nd) ?_
 exact bq (cn (cZ (tD (ai 2 rfl) (ai 2 rfl) (.inl ⟨by omega,by omega⟩)) aF (by decide)))
theorem TY(F:lq K "_law_mix" "_law_mix" (top 41) f fd):eX P w K mg base kF 1 f fd ["_law_cell","_law_k"] (hV K HG):=jz F J2 (λ_ _ h=>by obtain⟨_,_,rfl,_⟩:=h;rfl) λ_ _ h=>TX h
abbrev Nnm:List Str:=["_law_cell","_law_many","_law_letters","_law_m","_law_size","_law_place","_law_stem"]
theorem N5:c9 Nnm ["_law_cell","_law_many"] (b9 (top 42)):=⟨rfl,rfl,rfl,by symm,rfl,by symm,by symm⟩
def X9(ds es:List aq):Prop:=∃(c:Int)(many:Nat),ds=[.int c,.int many]/\many<=60/\es=(namesOf c many).map .str
def FA(m:Int)(many:Nat):aq->Option aq
 | .int k=>some (.str (nameA m many k.toNat))
 |_=>none
def FB(m:Int):aq->Option aq
 | .int k=>some (.str (sO m k.toNat))
 |_=>none
theorem Qu(m:Int)(many:Nat):(jZ many).filterMap (FA m many)=((cq many).map (nameA m many)).map .str:=by
 unfold jZ;rw[cQ,bA];exact filterMap_some λk _=>by show some _=some _;rw[eA];rfl
theorem Qv(m:Int)(many:Nat):(jZ many).filterMap (FB m)=((cq many).map (sO m)).map .str:=by
 unfold jZ;rw[cQ,bA];exact filterMap_some λk _=>by show some _=some _;rw[eA];rfl
theorem vA:(ABC:Str).length<=sizeLine:=small (by symm)
theorem X_(F:lq K "_law_names" "_law_names" (top 42) f fd)(n:Ng mg)(C:bE P w K mg base 1 "_law_mix" ["_law_cell","_law_k"] (hV K HG)):eX P w K mg base kF 2 f fd ["_law_cell","_law_many"] (FW K X9):=
 Jm F N5 (λ_ _ h=>by obtain⟨_,_,rfl,_⟩:=h;rfl) λ_ _ h=>by
  obtain⟨c,many,rfl,hm,rfl⟩:=h;intro h8 A outer s H E hr;have nd:Nnm.Nodup:=N5.nd;have nk:(["_law_k","_law_many","_law_letters","_law_m"]:List Str).Nodup:=by symm
  have lo:=wU c 3;refine aE (bV 2 aO nd) ?_
  refine aE (bV 3 (d:=.int (cV c 3)) (bN C hr (av (ai 0 rfl) (av aF aX)) ⟨c,3,rfl,by decide,by decide,rfl⟩) nd) ?_
  by_cases hh:cV c 3%3=0/\many<9
  ·have e:namesOf c many=(cq many).map (nameA (cV c 3) many):=by unfold namesOf;rw[qQ3 hh]
   rw[e];refine df (dH (VT.to (pP (bU (k:=1) (hr.mono (by omega)) (dg 20 _) (dg 20 _) (cZ (ai 3 rfl) aF (by decide)) aF) (λ_=>zY (ai 1 rfl) aF)) ?_) (bq (wO (VO.to (gw (own:=["_law_k"]) (cap:=[1,2,3]) (N:=["_law_k","_law_many","_law_letters","_law_m"]) (tgt:=.one 0) (F:=FA (cV c 3) many) (ds:=jZ many) rfl ⟨rfl,by symm,by symm,rfl,rfl,?_⟩ (xR (n:=(many:Int)) (ai 1 rfl) n.rng (by omega) (by omega)) (λf s3 H3=>cp (i:=0) nk rfl (bB rfl)) rfl
    (small (by rw[oB];omega)) (λd hd=>?_)) (Qu _ _))))) rfl
   ·rw[nZ,qQ1 hh.1,qQ1 (by omega)];rfl
   ·intro j hj
    rcases aG.mp hj with rfl|hj
    ·exact⟨(by show(1:Nat)<7;decide),bB rfl,rfl⟩
    ·rcases aG.mp hj with rfl|hj
     ·exact⟨(by show(2:Nat)<7;decide),bB rfl,rfl⟩
     ·rcases aG.mp hj with rfl|hj
      ·exact⟨(by show(3:Nat)<7;decide),bB rfl,rfl⟩
      ·cases hj
   ·obtain⟨i,hi,rfl⟩:=aN.mp hd
    have hi:=dG.mp hi;refine⟨_,rfl,λf s3 H3=>gv,λr kT f s3 H3=>?_⟩
    cases kT;refine VE.to (Bh (Bi (ai 2 rfl) (cZ (gO (ai 3 rfl) aF ⟨by decide,by decide⟩) aF (by decide)) vA (EF (bw _ (by decide)) (bG _ (by decide)))) (PD (ai 1 rfl) (ai 0 rfl)) (by omega) (by omega) (by show 1<=1000;decide)) ?_
    unfold nameA;have e:((many:Int)-(i:Int)).toNat=many-((i:Nat):Int).toNat:=by omega
    rw[e];rfl
  ·have e:namesOf c many=(cq many).map (sO (cV c 3)):=by unfold namesOf;rw[qQ2 hh]
   rw[e];have nk2:(["_law_k","_law_letters","_law_m","_law_place","_law_stem"]:List Str).Nodup:=by symm
   have b1:0<=cV c 3/78%8:=bw _ (by decide)
   have b2:cV c 3/78%8<8:=bG _ (by decide)
   have p1:0<=cV c 3/624%(1+cV c 3/78%8):=bw _ (by omega)
   have p2:cV c 3/624%(1+cV c 3/78%8)<1+cV c 3/78%8:=bG _ (by omega)
   have sl:(stemOf (cV c 3)).length<=8:=by
    show(stemOf (cV c 3)).cps.size<=8
    rw[<-cR,vz,cu];omega
   refine aE (cv (VT.to (pP (bU (k:=1) (hr.mono (by omega)) (dg 20 _) (dg 20 _) (cZ (ai 3 rfl) aF (by decide)) aF) (λ_=>zY (ai 1 rfl) aF)) ?_) bQ) ?_
   ·rw[nZ]
    by_cases h0:cV c 3%3=0
    ·rw[qQ1 h0,j8]
     exact qQ0 λz=>hh ⟨h0,by omega⟩
    ·rw[qQ0 h0];rfl
   refine aE (bV 4 (eL aF (cZ (gO (ai 3 rfl) aF ⟨by decide,by decide⟩) aF (by decide))) nd) ?_
   refine aE (bV 5 (cZ (gO (ai 3 rfl) aF ⟨by decide,by decide⟩) (ai 4 rfl) (by omega)) nd) ?_
   refine aE (bV 6 (d:=.str (stemOf (cV c 3))) (Bh (Bi (ai 2 rfl) (cZ (gO (ai 3 rfl) aF ⟨by decide,by decide⟩) aF (by decide)) vA (EF (bw _ (by decide)) (bG _ (by decide)))) (ai 4 rfl) (by omega) (by omega) (by show 1<=1000;decide)) nd) ?_
   refine bq (wO (VO.to (gw (own:=["_law_k"]) (cap:=[2,3,5,6]) (N:=["_law_k","_law_letters","_law_m","_law_place","_law_stem"]) (tgt:=.one 0) (F:=FB (cV c 3)) (ds:=jZ many) rfl ⟨rfl,by symm,by symm,rfl,rfl,?_⟩ (xR (n:=(many:Int)) (ai 1 rfl) n.rng (by omega) (by omega)) (λf s3 H3=>cp (i:=0) nk2 rfl (bB rfl)) rfl
    (small (by rw[oB];omega)) (λd hd=>?_)) (Qv _ _)))
   ·intro j hj
    rcases aG.mp hj with rfl|hj
    ·exact⟨(by show(2:Nat)<7;decide),bB rfl,rfl⟩
    ·rcases aG.mp hj with rfl|hj
     ·exact⟨(by show(3:Nat)<7;decide),bB rfl,rfl⟩
     ·rcases aG.mp hj with rfl|hj
      ·exact⟨(by show(5:Nat)<7;decide),bB rfl,rfl⟩
      ·rcases aG.mp hj with rfl|hj
       ·exact⟨(by show(6:Nat)<7;decide),bB rfl,rfl⟩
       ·cases hj
   ·obtain⟨i,hi,rfl⟩:=aN.mp hd
    have hi:=dG.mp hi;refine⟨_,rfl,λf s3 H3=>gv,λr kT f s3 H3=>?_⟩
    cases kT;have l1:=DL (stemOf (cV c 3)) none (some (cV c 3/624%(1+cV c 3/78%8)));have l2:=DL (stemOf (cV c 3)) (some (cV c 3/624%(1+cV c 3/78%8)+1)) none;have l3:(CV ((cV c 3/3+5*(i:Int))%26)).length=1:=rfl;refine VE.to (iw (iw (Ad (ai 4 rfl) (small (by omega)) .no (.yes (ai 3 rfl))) (Bi (ai 1 rfl) (cZ (eL (gO (ai 2 rfl) aF ⟨by decide,by decide⟩) (tD aF (ai 0 rfl) (.inl ⟨by decide,by decide⟩))) aF (by decide)) vA (EF (bw _ (by decide)) (bG _ (by decide)))) (small ?_)) (Ad (ai 4 rfl) (small (by omega)) (.yes (eL (ai 3 rfl) aF)) .no) (small ?_)) ?_
    ·show _+(CV ((cV c 3/3+5*(i:Int))%26)).length<=_
     omega
    ·rw[b0]
     show _+(CV ((cV c 3/3+5*(i:Int))%26)).length+_<=_;omega
    ·rfl
end
inductive Rl where
 |meet
 |gather (most age:Int)
 |many (most:Int)
 |rank (bound:Option Int)
 |turns (shares:List Int)
 |eldest
def nF:Option Int->aq
 |none=>.none
 |some i=>.int i
def oM:Rl->Str
 | .meet=>"meet"
 | .gather _ _=>"gather"
 | .many _=>"many"
 | .rank _=>"rank"
 | .turns _=>"turns"
 | .eldest=>"eldest"
def rA:Rl->List aq
 | .meet=>[]
 | .gather m a=>[.int m,.int a]
 | .many m=>[.int m]
 | .rank b=>[nF b]
 | .turns s=>[.tuple (s.map .int)]
 | .eldest=>[]
def HJ(r:Rl):aq:=.tuple (.str (oM r)::rA r)
def Bp(rest:Int)(k:Nat):Int:=1+rest/((k:Int)*k+1)%3
def kI(m:Int)(many:Nat):Rl:=
 if m%6=5/\1<many then .meet
 else if m%6=4 then .gather (1+m/6%4) (m/6/4%9)
 else if m%6=3 then .many (1+m/6%4)
 else if m%6=2 then .rank (if m/6%2=0 then none else some (m/6/2%9))
 else if m%6=1 then .turns ((cq many).map (Bp (m/6)))
 else .eldest
def iB:Rl->Nat->Int
 | .many m,_=>m
 | .gather m _,_=>m
 | .meet,n=>n
 |_,_=>1
section
variable{P:bC}{w:cw}{K:ao}{mg:Str->Option ay}{base:c6}{f:aL}{k:Nat}
abbrev Nrl:List Str:=["_law_m","_law_many","_law_rest"]
theorem N6:c9 Nrl ["_law_m","_law_many"] (b9 (top 43)):=⟨rfl,rfl,rfl,by symm,rfl,by symm,by symm⟩
def Rrl(ds:List aq)(d:aq):Prop:=∃(m:Int)(many:Nat),ds=[.int m,.int many]/\0<=m/\m<1999999973/\many<=60/\d=HJ (kI m many)
def J3(rest:Int):aq->Option aq
 | .int k=>some (.int (1+rest/(k*k+1)%3))
 |_=>none
theorem EG(rest:Int)(many:Nat):(jZ many).filterMap (J3 rest)=((cq many).map (Bp rest)).map .int:=by
 unfold jZ;rw[cQ,bA];exact filterMap_some λk _=>rfl
theorem X'(F:lq K "_law_rule" "_law_rule" (top 43) f fd)(n:Ng mg):eX P w K mg base kF 1 f fd ["_law_m","_law_many"] (hV K Rrl):=
 jz F N6 (λ_ _ h=>by obtain⟨_,_,rfl,_⟩:=h;rfl) λ_ _ h=>by
  obtain⟨m,many,rfl,h0,h1,hm,rfl⟩:=h;intro h8 A outer s H E hr;have nd:Nrl.Nodup:=N6.nd;have nk:(["_law_k","_law_rest"]:List Str).Nodup:=by symm
  have r0:0<=m/6:=Int.ediv_nonneg h0 (by decide)
  have r1:m/6<1999999973:=by omega
  refine aE (bV 2 (gO (ai 0 rfl) aF ⟨by decide,by decide⟩) nd) ?_
  have ev:∀j:Int,dE (.int (m%6)) (.int j)=decide (m%6=j):=λj=>nZ _ _
  unfold kI;by_cases c5:m%6=5/\1<many
  ·rw[qQ3 c5]
   refine df (dH (VT.to (pP (bU hr (dg 20 _) (dg 20 _) (cZ (ai 0 rfl) aF (by decide)) aF) (λ_=>FU (ai 1 rfl) aF)) ?_) (bq (cn (VE.to (gf (av aO aX)) rfl)))) rfl
   rw[ev,qQ1 c5.1,qQ1 (by omega)];rfl
  rw[qQ2 c5];refine aE (cv (VT.to (pP (bU hr (dg 20 _) (dg 20 _) (cZ (ai 0 rfl) aF (by decide)) aF) (λ_=>FU (ai 1 rfl) aF)) ?_) bQ) ?_
  ·rw[ev]
   by_cases h5:m%6=5
   ·rw[qQ1 h5,j8]
    exact qQ0 λz=>c5 ⟨h5,by omega⟩
   ·rw[qQ0 h5];rfl
  by_cases c4:m%6=4
  ·rw[qQ3 c4]
   refine df (dH (VT.to (bU hr (dg 20 _) (dg 20 _) (cZ (ai 0 rfl) aF (by decide)) aF) (by rw[ev,qQ1 c4])) (bq (cn (VE.to (gf (av aO (av (eL aF (cZ (ai 2 rfl) aF (by decide))) (av (cZ (gO (ai 2 rfl) aF ⟨by decide,by decide⟩) aF (by decide)) aX)))) rfl)))) rfl
  rw[qQ2 c4];refine aE (cv (VT.to (bU hr (dg 20 _) (dg 20 _) (cZ (ai 0 rfl) aF (by decide)) aF) (by rw[ev,qQ0 c4])) bQ) ?_
  by_cases c3:m%6=3
  ·rw[qQ3 c3]
   refine df (dH (VT.to (bU hr (dg 20 _) (dg 20 _) (cZ (ai 0 rfl) aF (by decide)) aF) (by rw[ev,qQ1 c3])) (bq (cn (VE.to (gf (av aO (av (eL aF (cZ (ai 2 rfl) aF (by decide))) aX))) rfl)))) rfl
  rw[qQ2 c3];refine aE (cv (VT.to (bU hr (dg 20 _) (dg 20 _) (cZ (ai 0 rfl) aF (by decide)) aF) (by rw[ev,qQ0 c3])) bQ) ?_
  by_cases c2:m%6=2
  ·rw[qQ3 c2]
   refine df (dH (VT.to (bU hr (dg 20 _) (dg 20 _) (cZ (ai 0 rfl) aF (by decide)) aF) (by rw[ev,qQ1 c2])) (bq (cn (VE.to (gf (av aO (av (f7 (d:=nF (if m/6%2=0 then none else some (m/6/2%9))) (VO.ve (gG (av eK (av (cZ (gO (ai 2 rfl) aF ⟨by decide,by decide⟩) aF (by decide)) aX)))) (cZ (ai 2 rfl) aF (by decide)) ?_) aX))) rfl)))) rfl
   rcases Int.emod_two_eq (m/6)with e|e
   ·rw[e,qQ3 rfl];rfl
   ·rw[e,qQ2 (by decide)];rfl
  rw[qQ2 c2];refine aE (cv (VT.to (bU hr (dg 20 _) (dg 20 _) (cZ (ai 0 rfl) aF (by decide)) aF) (by rw[ev,qQ0 c2])) bQ) ?_
  by_cases c1:m%6=1
  ·rw[qQ3 c1]
   refine df (dH (VT.to (bU hr (dg 20 _) (dg 20 _) (cZ (ai 0 rfl) aF (by decide)) aF) (by rw[ev,qQ1 c1])) (bq (cn (VE.to (gf (av aO (av (j9 jN uz (av (VO.ve (VO.to (gw (own:=["_law_k"]) (cap:=[2]) (N:=["_law_k","_law_rest"]) (tgt:=.one 0) (F:=J3 (m/6)) (ds:=jZ many) rfl ⟨rfl,by symm,by symm,rfl,rfl,?_⟩ (xR (n:=(many:Int)) (ai 1 rfl) n.rng (by omega) (by omega)) (λf s3 H3=>cp (i:=0) nk rfl (bB rfl)) rfl
    (small (by rw[oB];omega)) (λd hd=>?_)) (EG _ _))) aX) n.tup rfl) aX))) rfl)))) rfl
   ·intro j hj
    rcases aG.mp hj with rfl|hj
    ·exact⟨(by show(2:Nat)<3;decide),bB rfl,rfl⟩
    ·cases hj
   ·obtain⟨i,hi,rfl⟩:=aN.mp hd
    have hi:=dG.mp hi;have hii:(0:Int)<=(i:Int)*i:=Int.mul_nonneg (by omega) (by omega)
    have zdf:(i:Int)*i<=60*60:=Int.mul_le_mul (by omega) (by omega) (by omega) (by omega)
    refine⟨_,rfl,λf s3 H3=>gv,λr kT f s3 H3=>?_⟩
    cases kT;exact eL aF (cZ (gO (ai 1 rfl) (eL (tD (ai 0 rfl) (ai 0 rfl) (.inl ⟨by omega,by omega⟩)) aF) ⟨by omega,by omega⟩) aF (by decide))
  rw[qQ2 c1];refine aE (cv (VT.to (bU hr (dg 20 _) (dg 20 _) (cZ (ai 0 rfl) aF (by decide)) aF) (by rw[ev,qQ0 c1])) bQ) ?_
  exact bq (cn (VE.to (gf (av aO aX)) rfl))
theorem T1:c9 ["_law_rule_here","_law_many"] ["_law_rule_here","_law_many"] (b9 (top 44)):=⟨rfl,rfl,rfl,by symm,rfl,by symm,by symm⟩
def VJ(ds:List aq)(d:aq):Prop:=∃(r:Rl)(many:Nat),ds=[HJ r,.int many]/\d=.int (iB r many)
theorem Ya(F:lq K "_law_greatest" "_law_greatest" (top 44) f fd):eX P w K mg base kF 1 f fd ["_law_rule_here","_law_many"] (hV K VJ):=
 jz F T1 (λ_ _ h=>by obtain⟨_,_,rfl,_⟩:=h;rfl) λ_ _ h=>by
  obtain⟨r,many,rfl,rfl⟩:=h;unfold HJ;intro h8 A outer s H E hr;have hl:(rA r).length<=2:=by cases r<;>simp[rA]
  have x1:∃x,(aQ (oM r)::rA r ++ [.int 0])[1]?=some x/\((jP [(("many":Str),x),("gather",x),("meet",.int many)] (oM r)).getD (.int 1))=.int (iB r many):=by
   cases r<;>exact⟨_,rfl,rfl⟩
  obtain⟨x,hx,hv⟩:=x1;have hn3:([(("many":Str),x),("gather",x),("meet",iU many)].map (·.1)).Nodup:=(show([("many":Str),"gather","meet"]).Nodup by symm)
  have hx1:sG (aQ (oM r)::rA r ++ [.int 0]) 1=some x:=cz (j:=1) hx;have hx0:sG (aQ (oM r)::rA r) 0=some (.str (oM r)):=cz (j:=0) rfl;have hz:(aQ (oM r)::rA r).length + [iU 0].length<=sizeLine:=small (by simp only[a9,ck];omega)
  have m8:(aQ (oM r)::rA r)≠[]:=by simp
  generalize rA r=ra at *
  generalize oM r=qz at *
  refine bq (cn (VE.to (JC hr (F5 (kvs:=[(("many":Str),x),("gather",x),("meet",.int many)]) (.cons aO ?_ (.cons aO ?_ (.cons aO (ai 1 rfl) .nil))) hn3 (by simp) (by show 3<=15;decide)) (x:=qz) ?_ (d:=.int 1) aF) hv))
  ·exact c0 (uF (d1:=.str qz::ra) (d2:=[.int 0]) (ai 0 rfl) (gf (av aF aX)) m8 hz) aF hx1
  ·exact c0 (uF (d1:=.str qz::ra) (d2:=[.int 0]) (ai 0 rfl) (gf (av aF aX)) m8 hz) aF hx1
  ·exact c0 (ds:=.str qz::ra) (ai 0 rfl) aF hx0
end
structure Dk where
 name:Str
 to:Str
 rule:Rl
 places:List Str
variable{ia:List Dk}
def cU(l:List Str):aq:=.list (l.map .str)
def fB(d:Dk):aq:=.tuple [.str d.name,.str d.to,HJ d.rule,.tuple (d.places.map .str)]
def fG(cell:Int)(nn k:Nat):Nat:=if k<nn then k else(cV cell (40+k)%nn).toNat
def yg(cell:Int)(k len:Nat):Nat:=(cV cell (60+k)%(len+1)).toNat
def dX(cell:Int)(nn:Nat)(places:List Str):Nat->List (List Str)
 |0=>aH nn []
 |k+1=>(dX cell nn places k).set (fG cell nn k) (nE ((dX cell nn places k).getD (fG cell nn k) []) (yg cell k ((dX cell nn places k).getD (fG cell nn k) []).length) (places.getD k ""))
def EH(cell:Int)(lines:List Str)(k:Nat):Str:=(lines ++ [("":Str)]).getD (cV cell (80+k)%(lines.length+1)).toNat ""
def yh(cell:Int)(names lines:List Str)(taken:List (List Str))(k:Nat):Dk:=⟨names.getD k "",EH cell lines k,kI (cV cell (90+k)) (taken.getD k []).length,taken.getD k []⟩
def j'(cell:Int)(n:Nat):Nat:=(1+cV cell 32%(if(n:Int)<4 then(n:Int)else 4)).toNat
def bW(cell:Int)(places lines:List Str):List Dk:=(cq (j' cell places.length)).map (yh cell (namesOf (cV cell 31) (j' cell places.length)) lines (dX cell (j' cell places.length) places places.length))
theorem gZ(cell:Int)(nn:Nat)(places:List Str):∀k,(dX cell nn places k).length=nn
 |0=>by simp[dX]
 |k+1=>by rw[dX,yO,gZ cell nn places k]
theorem lN(cell:Int){n:Nat}(h:1<=n):1<=j' cell n/\j' cell n<=4/\j' cell n<=n:=by
 unfold j'
 split
 ·rename_i hn
  have a1:0<=cV cell 32%(n:Int):=bw _ (by omega)
  have a2:cV cell 32%(n:Int)<n:=bG _ (by omega)
  omega
 ·have a1:0<=cV cell 32%4:=bw _ (by omega)
  have a2:cV cell 32%4<4:=bG _ (by omega)
  omega
theorem An(cell:Int){nn:Nat}(h:1<=nn)(k:Nat):fG cell nn k<nn:=by
 unfold fG
 split
 ·assumption
 ·have a1:0<=cV cell (40+k)%(nn:Int):=bw _ (by omega)
  have a2:cV cell (40+k)%(nn:Int)<nn:=bG _ (by omega)
  omega
theorem J4(cell:Int)(k len:Nat):yg cell k len<=len:=by
 unfold yg;have a1:0<=cV cell (60+k)%((len:Int)+1):=bw _ (by omega)
 have a2:cV cell (60+k)%((len:Int)+1)<(len:Int)+1:=bG _ (by omega)
 omega
theorem vW{α:Type}(l:List α)(i:Nat)(y:α):(nE l i y).length=l.length+1:=by
 unfold nE;rw[aV,a9,bS,b_];omega
theorem J5{α:Type}{l:List α}{x y:α}(h:x∈nE l i y):x∈l\/x=y:=by
 unfold nE at h;rcases bX.mp h with h|h
 ·exact .inl (cG h)
 ·rcases aG.mp h with h|h
  ·exact .inr h
  ·exact .inl (cW h)
theorem rV(cell:Int)(nn:Nat)(places:List Str):∀k,∀row∈dX cell nn places k,row.length<=k/\(k<=places.length->∀x∈row,x∈places)
 |0,row,h=>by
  obtain⟨_,rfl⟩:=fY.mp h;exact⟨aD _,λ_ x hx=>by cases hx⟩
 |k+1,row,h=>by
  have ih:=rV cell nn places k;rcases List.mem_or_eq_of_mem_set (show row∈List.set _ _ _ from h)with h|h
  ·exact⟨Nat.le_succ_of_le (ih row h).1,λhk=>(ih row h).2 (by omega)⟩
  ·have hg:(dX cell nn places k).getD (fG cell nn k) []=[]\/(dX cell nn places k).getD (fG cell nn k) []∈dX cell nn places k:=by
    rw[aI];cases e:(dX cell nn places k)[fG cell nn k]? with
    |none=>exact .inl rfl
    |some r=>exact .inr (bO e)
   generalize(dX cell nn places k).getD (fG cell nn k) []=g at *
   subst h;have hgl:g.length<=k/\(k<=places.length->∀x∈g,x∈places):=by
    rcases hg with rfl|hg
    ·exact⟨bu _,λ_ x hx=>by cases hx⟩
    ·exact ih g hg
   refine⟨by rw[vW];omega,λhk x hx=>?_⟩
   rcases J5 hx with hx|rfl
   ·exact hgl.2 (by omega) x hx
   ·rw[aI,ax (by omega)]
    exact dQ _
theorem Bq(cell:Int)(lines:List Str)(k:Nat):sG ((lines ++ [("":Str)]).map aQ) (cV cell (80+k)%((lines.length:Int)+1))=some (.str (EH cell lines k))/\EH cell lines k∈lines ++ [("":Str)]:=by
 have a1:0<=cV cell (80+k)%((lines.length:Int)+1):=bw _ (by omega)
 have a2:cV cell (80+k)%((lines.length:Int)+1)<(lines.length:Int)+1:=bG _ (by omega)
 unfold EH
 generalize cV cell (80+k)%((lines.length:Int)+1)=j at *
 obtain⟨i,rfl⟩:=kQ a1;have hi:i<(lines ++ [("":Str)]).length:=by simp;omega
 have e:(lines ++ [("":Str)]).getD ((i:Int)).toNat ""=(lines ++ [("":Str)])[i]:=by
  rw[eA,aI,ax hi];rfl
 rw[e];exact⟨cz (by rw[aT,ax hi];rfl),dQ hi⟩
section
variable{P:bC}{w:cw}{K:ao}{mg:Str->Option ay}{base:c6}{f:aL}{k:Nat}
abbrev Ndk:List Str:=["_law_cell","_law_places","_law_lines","_law_names_here","_law_taken","_law_k","_law_place","_law_at","_law_desks_here","_law_name","_law_to"]
theorem N7:c9 Ndk ["_law_cell","_law_places","_law_lines"] (b9 (top 45)):=⟨rfl,rfl,rfl,by symm,rfl,by symm,by symm⟩
def Rdk(ds es:List aq):Prop:=∃(cell:Int)(places lines:List Str),ds=[.int cell,cU places,cU lines]/\1<=places.length/\places.length<=12/\lines.length<=12/\es=(bW cell places lines).map fB
theorem Yb(F:lq K "_law_desks" "_law_desks" (top 45) f fd)(n:Ng mg)(C1:bE P w K mg base 1 "_law_mix" ["_law_cell","_law_k"] (hV K HG))(C2:bE P w K mg base 2 "_law_names" ["_law_cell","_law_many"] (FW K X9))(C3:bE P w K mg base 1 "_law_rule" ["_law_m","_law_many"] (hV K Rrl)):eX P w K mg base kF 3 f fd ["_law_cell","_law_places","_law_lines"] (FW K Rdk):=
 Jm F N7 (λ_ _ h=>by obtain⟨_,_,_,rfl,_⟩:=h;rfl) λ_ _ h=>by
  obtain⟨cell,places,lines,rfl,h1,h12,Qw,rfl⟩:=h;intro h8 A outer s H E hr;have nd:Ndk.Nodup:=N7.nd;have nc:(["_law_name"]:List Str).Nodup:=by symm
  have pY:fF 1 _:=hr.mono (by omega)
  obtain⟨nn1,nn4,nnp⟩:=lN cell h1;unfold bW;have enn:((j' cell places.length:Nat):Int)=1+cV cell 32%(if(places.length:Int)<4 then(places.length:Int)else 4):=by
   unfold j';have a1:0<=cV cell 32%(if(places.length:Int)<4 then(places.length:Int)else 4):=bw _ (by split<;>omega)
   omega
  generalize j' cell places.length=nn at *
  have nl:=gY (cV cell 31) nn
  generalize hnm:namesOf (cV cell 31) nn=names at *
  refine aE (bV 3 (d:=cU names) (VO.ve (nV C2 hr (av (bN C1 pY (av (ai 0 rfl) (av aF aX)) ⟨cell,31,rfl,by decide,by decide,rfl⟩) (av (VE.to (k:=.int nn) (eL aF (cZ (bN C1 pY (av (ai 0 rfl) (av aF aX)) ⟨cell,32,rfl,by decide,by decide,rfl⟩) (iV (GN rfl) (P9 4 (places.length:Int)) (av aF (av (VE.to (jE (ai 1 rfl) n.len) (by simp)) aX)) n.min rfl) (by split<;>omega))) (by rw[enn])) aX)) ⟨cV cell 31,nn,rfl,by omega,by rw[hnm]⟩)) nd) ?_
  refine xZ λB0 B σ H0 Hh D fr ok=>?_
  refine eG (L5 4 (ds:=names.map aQ) (own:=["_law_name"]) (cap:=[]) (N:=["_law_name"]) (cl:=[]) (tgt:=.one 0) fr rfl rfl ⟨rfl,by symm,by symm,rfl,rfl,by simp⟩ (je (ai 3 rfl)) (λf s3 H3=>cp (i:=0) nc rfl (bB rfl)) rfl (small (by rw[aj];omega)) (λd hd=>⟨_,rfl⟩) nd (λσ1 a ps H1 eC G=>?_) (λa=>rfl))
  refine eG (S9 (tgt:=.tup [5,6]) (ds:=zZ (places.map .str)) G eV rfl (nR (ds:=places.map .str) (ai 1 rfl) n.L6)
   (iS rfl (cD (cp (i:=5) nd rfl (bB rfl)) (cD (cp (i:=6) nd rfl (bB rfl)) gN))) (λi=>(dX cell nn places i).map λr=>r.map aQ) ?_ (λi d hd=>?_) (λσ2 Ha Hb G2=>?_))
  ·show(aH nn []).map _=_
   rw[kz,aj,nl];rfl
  ·obtain⟨x,hx,rfl⟩:=jy hd
   obtain⟨hip,rfl⟩:i<places.length/\x=.str (places.getD i ""):=by
    rw[aT]at hx;cases e:places[i]? with
    |none=>rw[e]at hx;cases hx
    |some p=>
     rw[e]at hx;cases hx;exact⟨(aJ.mp e).1,by rw[aI,e];rfl⟩
   refine⟨[.val (.int cell),.val (cU places),.val (cU lines),.val (cU names),.ref a,.val (.int i),.val (.str (places.getD i "")),.un,.un,.un,.un],rfl,rfl,λD C0 σ' eJ H' G q=>?_⟩
   have hR:=gZ cell nn places i;have hj:=An cell nn1 i;have pF:ps.length=nn:=G.len.trans (by simp[hR])
   obtain⟨p,hp⟩:∃p,ps[fG cell nn i]?=some p:=⟨ps[fG cell nn i]'(by omega),ax _⟩
   have vy:(dX cell nn places i)[fG cell nn i]?=some ((dX cell nn places i).getD (fG cell nn i) []):=by
    rw[aI,ax (by omega)];rfl
   have xK:=bO vy;have hlen:=(rV cell nn places i _ xK).1;have egs:((dX cell nn places (i+1)).map λr=>r.map aQ)=((dX cell nn places i).map λr=>r.map aQ).set (fG cell nn i) (nE (((dX cell nn places i).getD (fG cell nn i) []).map aQ) (yg cell i ((dX cell nn places i).getD (fG cell nn i) []).length) (.str (places.getD i ""))):=by
    show(List.set _ _ _).map _=_
    rw[List.map_set]
    congr 1
    unfold nE;rw[bh,aR,mh,jh]
   have hgj:((dX cell nn places i).map λr=>r.map aQ)[fG cell nn i]?=some (((dX cell nn places i).getD (fG cell nn i) []).map aQ):=by
    rw[aT,vy];rfl
   rw[egs]at q
   generalize(dX cell nn places i).getD (fG cell nn i) []=row at *
   refine eG (Jn G (bV 7 (ai 5 rfl) nd) rfl λσ1 Ha Hb G1=>?_)
   refine eG (Jn G1 (S7 (o:=.nx [.val (.int cell),.val (cU places),.val (cU lines),.val (cU names),.ref a,.val (.int i),.val (.str (places.getD i "")),.val (.int (fG cell nn i)),.un,.un,.un]) (Jk (ai 5 rfl) (jE (ai 3 rfl) n.len)) (λhk=>?_) (λhk=>?_)) rfl λσ2 Hc Hd G2=>?_)
   ·have hk:¬i<nn:=by
     have:=qQ4 hk;rw[aj,nl]at this;omega
    have e:((fG cell nn i:Nat):Int)=cV cell (40+i)%(nn:Int):=by
     unfold fG;rw[qQ2 hk];have a1:0<=cV cell (40+i)%(nn:Int):=bw _ (by omega)
     omega
    rw[e];exact bq (bV 7 (cZ (bN C1 pY (av (ai 0 rfl) (av (eL aF (ai 5 rfl)) aX)) ⟨cell,40+(i:Int),rfl,by omega,by omega,rfl⟩) (VE.to (jE (ai 3 rfl) n.len) (by rw[aj,nl])) (by omega)) nd)
   ·have hk:i<nn:=by
     have:=qQ5 hk;rw[aj,nl]at this;omega
    have e:fG cell nn i=i:=by unfold fG;rw[qQ3 hk]
    rw[e];exact bQ
   have em:((yg cell i row.length:Nat):Int)=cV cell (60+i)%((row.length:Int)+1):=by
    unfold yg;have a1:0<=cV cell (60+i)%((row.length:Int)+1):=bw _ (by omega)
    omega
   refine dR (JD G2 4 (j:=fG cell nn i) (m:=yg cell i row.length) (p:=p) (ds:=row.map .str) (d:=.str (places.getD i "")) rfl (ai 7 rfl) hp hgj (VE.to (cZ (bN C1 pY (av (ai 0 rfl) (av (eL aF (ai 5 rfl)) aX)) ⟨cell,60+(i:Int),rfl,by omega,by omega,rfl⟩) (eL (jE (ds:=row.map .str) (f7 (ai 4 rfl) (ai 7 rfl) (cz (by rw[aT,hgj];rfl))) n.len) aF) (by omega)) (by rw[em,aj])) rfl (by rw[aj];exact J4 _ _ _) (ai 6 rfl) (jF (by rw[aj];omega)) (λσ6 Hk Hl G6=>?_))
   exact q _ _ _ (G6.forget ⟨.inr rfl,.inr rfl,.inr rfl,.inr rfl,.inr rfl,.inl rfl,.inl rfl,.inl rfl,.inr rfl,.inr rfl,.inr rfl,trivial⟩ rfl)
  ·refine P_ G2 (ig:=4) (o:=.ro ((cq nn).map (yh cell names lines (dX cell nn places places.length)) |>.map fB)) rfl ?_ (λHx _=>ri.ret rfl rfl ok)
   rw[dN,aj];have tl:=gZ cell nn places places.length;have tr:=rV cell nn places places.length
   generalize dX cell nn places places.length=taken at *
   refine aE (nU 8 (gG aX) nd) ?_
   refine aE (pS (tgt:=.tup [5,9]) (o:=.nx [.val (.int cell),.val (cU places),.val (cU lines),.val (cU names),.val (.list ((taken.map λr=>r.map aQ).map .list)),.un,.un,.un,.own (((cq nn).map (yh cell names lines taken)).map fB),.un,.un]) eV rfl (nR (ds:=names.map .str) (ai 3 rfl) n.L6)
    (iS rfl (cD (cp (i:=5) nd rfl (bB rfl)) (cD (cp (i:=9) nd rfl (bB rfl)) gN))) (λi=>[.val (.int cell),.val (cU places),.val (cU lines),.val (cU names),.val (.list ((taken.map λr=>r.map aQ).map .list)),.un,.un,.un,.own (((cq i).map (yh cell names lines taken)).map fB),.un,.un]) nn rfl (by rw[dN,aj,nl];exact aD _) (λi d hi hd=>?_) (.inl ⟨by rw[dN,aj,nl],rfl⟩)) (bq (FV 8 rfl))
   obtain⟨x,hx,rfl⟩:=jy hd;obtain rfl:x=.str (names.getD i ""):=by
    rw[aT,ax (by omega)]at hx
    cases hx;rw[aI,ax (by omega)];rfl
   have vy:taken[i]?=some (taken.getD i []):=by
    rw[aI,ax (by omega)];rfl
   have N8:=(tr _ (bO vy)).1;obtain⟨ht,_⟩:=Bq cell lines i;have lo:=wU cell (90+i);have hi':=Ge cell (90+i);refine⟨_,rfl,?_⟩
   refine aE (bV 10 (d:=.str (EH cell lines i)) (f7 (ds:=(lines ++ [("":Str)]).map .str) (VE.to (VO.ve (jY (d1:=lines.map .str) (d2:=[.str ""]) (ai 2 rfl) (VO.ve (gG (av aO aX))) (small (by simp only[aj,a9,ck];omega)))) (by rw[bh];rfl)) (VE.to (cZ (bN C1 pY (av (ai 0 rfl) (av (eL aF (ai 5 rfl)) aX)) ⟨cell,80+(i:Int),rfl,by omega,by omega,rfl⟩) (eL (jE (ai 2 rfl) n.len) aF) (by omega)) (by rw[aj])) ht) nd) ?_
   refine kH (bq (j_ 8 rfl (d:=fB (yh cell names lines taken i)) (gf (av (ai 9 rfl) (av (ai 10 rfl) (av ?_ (av ?_ aX))))) (jF (by simp only[aj,gI];omega)))) ⟨.inr rfl,.inr rfl,.inr rfl,.inr rfl,.inr rfl,.inl rfl,.inl rfl,.inl rfl,.inr ?_,.inl rfl,.inl rfl,trivial⟩
   ·exact bN C3 pY (av (bN C1 pY (av (ai 0 rfl) (av (eL aF (ai 5 rfl)) aX)) ⟨cell,90+(i:Int),rfl,by omega,by omega,rfl⟩) (av (jE (ds:=(taken.getD i []).map .str) (f7 (ai 4 rfl) (ai 5 rfl) (cz (by rw[aT,aT,vy];rfl))) n.len) aX)) ⟨cV cell (90+i),(taken.getD i []).length,by rw[aj],by omega,by omega,by omega,rfl⟩
   ·exact j9 jN uz (av (f7 (ds:=(taken.map λr=>r.map aQ).map .list) (d:=.list ((taken.getD i []).map .str)) (ai 4 rfl) (ai 5 rfl) (cz (by rw[aT,aT,vy];rfl))) aX) n.tup rfl
   ·rw[yQ,bh,bh];rfl
end
def gJ(ns:List Int):Int:=ns.getD 0 0
def bR(ns:List Int):Int:=ns.getD 1 0
def fy(ns:List Int):Int:=ns.getD 2 0
def mB(p:Str×Option Int):aq:=.tuple [.str p.1,nF p.2]
def tG(m:Int):Option Int:=if m%3=2 then some (1+m/3%30)else none
def kindAt(a:Int)(names:List Str)(k:Nat):Str×Option Int:=(names.getD k "",tG (cV a (10+k)))
def iW(a:Int):Nat:=(1+cV a 1%4).toNat
def cH(a:Int):List (Str×Option Int):=(cq (iW a)).map (kindAt a (namesOf a (iW a)))
def gA(b:Int):Nat:=(1+cV b 2%3).toNat
def placesOf(b:Int):List Str:=namesOf (cV b 4) (gA b+(cV b 5%4).toNat)
def mn(b:Int)(n:Nat):Nat:=(cV b 6%n).toNat
def orderOf(b:Int):List Str:=(placesOf b).drop (mn b (placesOf b).length)++(placesOf b).take (mn b (placesOf b).length)
def kJ(b:Int):List Str:=(placesOf b).take (gA b)
def linesOf(b:Int):List Str:=(placesOf b).drop (gA b)
def iX(ia:List Dk)(name:Str):List Int:=ia.filterMap λd=>if decide (d.to=name)=true then some (iB d.rule d.places.length)else none
def maxOf(l:List Int):Int:=l.foldl (λm z=>if m<z then z else m) 1
def roomAt(b:Int)(ia:List Dk)(lines:List Str)(k:Nat):Str×Int:=(lines.getD k "",maxOf (iX ia (lines.getD k ""))+cV b (20+k)%3)
def qv(p:Str×Int):aq:=.tuple [.str p.1,.int p.2]
def sP(p:Str×Str×Int):aq:=.tuple [.str p.1,.str p.2.1,.int p.2.2]
def rB(p:Str×Int×Int):aq:=.tuple [.str p.1,.int p.2.1,.int p.2.2]
def tH(m:Int)(dn:Str)(p:(Str×Option Int)×Nat):Option (Str×Str×Int):=if decide (0<m/((p.2:Int)+7)%3)=true then some (dn,p.1.1,1+m/((p.2:Int)*p.2+2)%6)else none
def fJ(m:Int)(dn:Str)(kinds:List (Str×Option Int))(j:Nat):List (Str×Str×Int):=(kinds.zipIdx.take j).filterMap (tH m dn)
def jQ(m:Int)(dn:Str):List (Str×Int×Int):=if m/5%4=0 then [(dn,m/20%9,9+m/180%20),(dn,25+m/3600%20,50+m/72000%40)]else []
def gB(c:Int)(ia:List Dk)(kinds:List (Str×Option Int))(i:Nat):List (Str×Str×Int):=(ia.zipIdx.take i).flatMap λp=>fJ (cV c (110+p.2)) p.1.name kinds kinds.length
def iG(c:Int)(ia:List Dk)(i:Nat):List (Str×Int×Int):=(ia.zipIdx.take i).flatMap λp=>jQ (cV c (110+p.2)) p.1.name
structure Pl where
 kinds:List (Str×Option Int)
 gates:List Str
 lines:List (Str×Int)
 desks:List Dk
 times:List (Str×Str×Int)
 hours:List (Str×Int×Int)
def gD(ns:List Int):Pl:=
 let kds:=cH (gJ ns)
 let Yc:=linesOf (bR ns)
 let ia:=bW (fy ns) (orderOf (bR ns)) Yc
 ⟨kds,kJ (bR ns),(cq Yc.length).map (roomAt (bR ns) ia Yc),ia,gB (fy ns) ia kds ia.length,iG (fy ns) ia ia.length⟩
def mG(p:Pl):List (Str×aq):=[("kinds",.list (p.kinds.map mB)),("gates",cU p.gates),("lines",.list (p.lines.map qv)),("desks",.list (p.desks.map fB)),("times",.list (p.times.map sP)),("hours",.list (p.hours.map rB)),("paces",.list [])]
def oF(p:Pl):aq:=uD (mG p)
theorem pZ(l:List Int):maxOf l∈(1::l)/\∀z∈(1::l),z<=maxOf l:=by
 have go:∀(l:List Int)(m0:Int),(l.foldl (λm z=>if m<z then z else m) m0)∈m0::l/\∀z∈m0::l,z<=l.foldl (λm z=>if m<z then z else m) m0:=by
  intro l
  induction l with
  |nil=>intro m0;exact⟨aP,λz hz=>by simp at hz;rw[hz];exact Int.le_refl _⟩
  |cons x l ih=>
   intro m0;obtain⟨h1,h2⟩:=ih (if m0<x then x else m0)
   rw[mM];refine⟨?_,λz hz=>?_⟩
   ·rcases aG.mp h1 with h|h
    ·rw[h]
     split<;>simp
    ·exact aU _ (aU _ h)
   ·have hm:=h2 _ aP
    rcases aG.mp hz with rfl|hz
    ·refine Int.le_trans ?_ hm
     split<;>omega
    ·rcases aG.mp hz with rfl|hz
     ·refine Int.le_trans ?_ hm
      split<;>omega
     ·exact h2 z (aU _ hz)
 exact go l 1
theorem sQ{m:Int}{dn:Str}{j:Nat}{p:Str×Option Int}(h:kinds[j]?=some p):fJ m dn kinds (j+1)=fJ m dn kinds j++(tH m dn (p,j)).toList:=by
 unfold fJ;rw[eu,jB,h];simp only[mw,tW,lI,qP];cases e:tH m dn (p,j) with
 |none=>rw[gk e];rfl
 |some r=>rw[dB e];rfl
theorem rC(m:Int)(dn:Str)(kinds:List (Str×Option Int))(j:Nat):(fJ m dn kinds j).length<=j:=by
 unfold fJ;exact bZ (pE _ _) (by rw[bS];omega)
theorem p9{c:Int}{d:Dk}(h:ia[i]?=some d):gB c ia kinds (i+1)=gB c ia kinds i++fJ (cV c (110+i)) d.name kinds kinds.length:=by
 unfold gB;rw[eu,jB,h];simp
theorem uJ{c:Int}{d:Dk}(h:ia[i]?=some d):iG c ia (i+1)=iG c ia i++jQ (cV c (110+i)) d.name:=by
 unfold iG;rw[eu,jB,h];simp
theorem CY(m:Int)(dn:Str):(jQ m dn).length<=2:=by unfold jQ;split<;>simp
theorem p_(c:Int)(ia:List Dk)(kinds:List (Str×Option Int))(hk:kinds.length<=4):∀i,i<=ia.length->(gB c ia kinds i).length<=4*i
 |0,_=>by simp[gB]
 |i+1,h=>by
  have ih:=p_ c ia kinds hk i (by omega)
  have:=rC (cV c (110+i)) ia[i].name kinds kinds.length;rw[p9 (ax (by omega)),aV]
  omega
theorem qc(c:Int)(ia:List Dk):∀i,i<=ia.length->(iG c ia i).length<=2*i
 |0,_=>by simp[iG]
 |i+1,h=>by
  have ih:=qc c ia i (by omega)
  have:=CY (cV c (110+i)) ia[i].name;rw[uJ (ax (by omega)),aV]
  omega
theorem lO(a:Int):1<=iW a/\iW a<=4:=by
 unfold iW;have a1:0<=cV a 1%4:=bw _ (by omega)
 have a2:cV a 1%4<4:=bG _ (by omega)
 omega
theorem jv(b:Int):1<=gA b/\gA b<=3:=by
 unfold gA;have a1:0<=cV b 2%3:=bw _ (by omega)
 have a2:cV b 2%3<3:=bG _ (by omega)
 omega
theorem oG(b:Int):(placesOf b).length=gA b+(cV b 5%4).toNat:=gY _ _
theorem kK(b:Int):gA b<=(placesOf b).length/\(placesOf b).length<=6:=by
 have:=jv b;have a1:0<=cV b 5%4:=bw _ (by omega)
 have a2:cV b 5%4<4:=bG _ (by omega)
 rw[oG];omega
theorem rW(b:Int){n:Nat}(h:1<=n):mn b n<n:=by
 unfold mn;have a1:0<=cV b 6%(n:Int):=bw _ (by omega)
 have a2:cV b 6%(n:Int)<n:=bG _ (by omega)
 omega
theorem qd(cell:Int)(places lines:List Str):(bW cell places lines).length=j' cell places.length:=by simp[bW]
theorem MN(m:Int):sG [aq.none,.none,.int (1+m/3%30)] (m%3)=some (nF (tG m)):=by
 unfold tG;have a1:0<=m%3:=bw _ (by omega)
 have a2:m%3<3:=bG _ (by omega)
 rcases(by omega:m%3=0\/m%3=1\/m%3=2)with e|e|e<;>rw[e]<;>rfl
def vB(r:aq)(n:Nat):Int:=match r with
 | .tuple [.str w,.int m]=>if w="many" then m else 1
 | .tuple [.str w,.int m,_]=>if w="gather" then m else 1
 | .tuple [.str w]=>if w="meet" then n else 1
 |_=>1
theorem Br(r:Rl)(n:Nat):vB (HJ r) n=iB r n:=by
 cases r with
 |rank b=>cases b<;>rfl
 |_=>rfl
def Gf(name:Str):aq->Option aq
 | .tuple [_,.str to,r,.tuple ps]=>if decide (to=name)=true then some (.int (vB r ps.length))else none
 |_=>none
theorem tJ(name:Str)(d:Dk):Gf name (fB d)=(if decide (d.to=name)=true then some (.int (iB d.rule d.places.length))else none):=by
 show(if decide (d.to=name)=true then some (iU (vB (HJ d.rule) (d.places.map aQ).length))else none)=_
 rw[Br,aj]
theorem HK(name:Str)(ia:List Dk):(ia.map fB).filterMap (Gf name)=(iX ia name).map .int:=by
 unfold iX;rw[cQ,List.map_filterMap]
 congr 1
 funext d
 show Gf name (fB d)=_;rw[tJ]
 split<;>rfl
section
variable{P:bC}{w:cw}{K:ao}{mg:Str->Option ay}{base:c6}{f:aL}{k:Nat}
abbrev Npl:List Str:=["_law_script","_law_a","_law_b","_law_c","_law_kinds","_law_k","_law_name","_law_m","_law_many","_law_places","_law_gates","_law_lines","_law_order","_law_desks_here","_law_rooms","_law_loads","_law_times","_law_hours","_law_desk","_law_j","_law_kind"]
theorem N9:c9 Npl ["_law_script"] (b9 (top 46)):=⟨rfl,rfl,rfl,by symm,rfl,by symm,by symm⟩
def Rpl(ds:List aq)(d:aq):Prop:=∃ns:List Int,ds=[n_ ns]/\d=oF (gD ns)
end
theorem og{α β:Type}(g:α->β)(l:List α)(lo hi:Option Int):L2.cutD (l.map g) lo hi=(L2.cutD l lo hi).map g:=by
 unfold L2.cutD;rw[aj,mh,jh]
theorem jw{α:Type}(l:List α)(n:Nat):L2.cutD l (some (n:Int)) none=l.drop n:=by
 unfold L2.cutD;rw[HT.pL,HT.Ci];by_cases h:n<=l.length
 ·rw[ky h,dA (by rw[b_];omega)]
 ·rw[Nat.min_eq_right (by omega),qE (aD _),qE (by omega)];simp
section
variable{P:bC}{w:cw}{K:ao}{mg:Str->Option ay}{base:c6}{f:aL}{k:Nat}
theorem Yd(F:lq K "_law_plant" "_law_plant" (top 46) f fd)(n:Ng mg)(C0:bE P w K mg base 1 "_law_cell_at" ["_law_script","_law_k"] (hV K J1))(C1:bE P w K mg base 1 "_law_mix" ["_law_cell","_law_k"] (hV K HG))(C2:bE P w K mg base 2 "_law_names" ["_law_cell","_law_many"] (FW K X9))(C3:bE P w K mg base 1 "_law_greatest" ["_law_rule_here","_law_many"] (hV K VJ))(C4:bE P w K mg base 3 "_law_desks" ["_law_cell","_law_places","_law_lines"] (FW K Rdk)):eX P w K mg base kF 4 f fd ["_law_script"] (hV K Rpl):=
 jz F N9 (λ_ _ h=>by obtain⟨_,rfl,_⟩:=h;rfl) λ_ _ h=>by
  obtain⟨ns,rfl,rfl⟩:=h;intro h8 A outer s H E hr;have nd:Npl.Nodup:=N9.nd;have pY:fF 1 _:=hr.mono (by omega)
  have Ri:fF 2 _:=hr.mono (by omega)
  have e0:gD ns=⟨(cH (gJ ns)),(placesOf (bR ns)).take (gA (bR ns)),((cq (linesOf (bR ns)).length).map (roomAt (bR ns) (bW (fy ns) (orderOf (bR ns)) (linesOf (bR ns))) (linesOf (bR ns)))),(bW (fy ns) (orderOf (bR ns)) (linesOf (bR ns))),gB (fy ns) (bW (fy ns) (orderOf (bR ns)) (linesOf (bR ns))) (cH (gJ ns)) (bW (fy ns) (orderOf (bR ns)) (linesOf (bR ns))).length,iG (fy ns) (bW (fy ns) (orderOf (bR ns)) (linesOf (bR ns))) (bW (fy ns) (orderOf (bR ns)) (linesOf (bR ns))).length⟩:=rfl;rw[e0];obtain⟨k1,k4⟩:=lO (gJ ns);have knl:(namesOf (gJ ns) (iW (gJ ns))).length=iW (gJ ns):=gY _ _;have hkd:(cq (iW (gJ ns))).map (kindAt (gJ ns) (namesOf (gJ ns) (iW (gJ ns))))=(cH (gJ ns)):=rfl;have hkl:(cH (gJ ns)).length=iW (gJ ns):=by simp[cH]
  obtain⟨g1,g3⟩:=jv (bR ns);obtain⟨p1,p6⟩:=kK (bR ns);have pl:=oG (bR ns);have Qw:(placesOf (bR ns)).drop (gA (bR ns))=(linesOf (bR ns)):=rfl;have hll:(linesOf (bR ns)).length<=6:=by rw[<-Qw,b_];omega
  have hor:(placesOf (bR ns)).drop (mn (bR ns) (placesOf (bR ns)).length)++(placesOf (bR ns)).take (mn (bR ns) (placesOf (bR ns)).length)=(orderOf (bR ns)):=rfl;have K2:(orderOf (bR ns)).length=(placesOf (bR ns)).length:=by rw[<-hor,aV,b_,bS];have:=rW (bR ns) (n:=(placesOf (bR ns)).length) (by omega);omega
  have K3:(bW (fy ns) (orderOf (bR ns)) (linesOf (bR ns))).length<=4:=by rw[qd];exact(lN (fy ns) (by omega)).2.1
  have ek:((iW (gJ ns):Nat):Int)=1+cV (gJ ns) 1%4:=by
   unfold iW;have a1:0<=cV (gJ ns) 1%4:=bw _ (by omega)
   omega
  have eg:(((gA (bR ns)):Nat):Int)=1+cV (bR ns) 2%3:=by
   unfold gA;have a1:0<=cV (bR ns) 2%3:=bw _ (by omega)
   omega
  have ep:((((gA (bR ns))+(cV (bR ns) 5%4).toNat:Nat)):Int)=((gA (bR ns)):Int)+cV (bR ns) 5%4:=by
   have a1:0<=cV (bR ns) 5%4:=bw _ (by omega)
   omega
  have et:((mn (bR ns) (placesOf (bR ns)).length:Nat):Int)=cV (bR ns) 6%((placesOf (bR ns)).length:Int):=by
   unfold mn;have a1:0<=cV (bR ns) 6%((placesOf (bR ns)).length:Int):=bw _ (by omega)
   omega
  refine aE (Mj 1 2 3 (d1:=.int (gJ ns)) (d2:=.int (bR ns)) (d3:=.int (fy ns)) (bN C0 pY (av (ai 0 rfl) (av aF aX)) ⟨ns,0,rfl,rfl⟩) (bN C0 pY (av (ai 0 rfl) (av aF aX)) ⟨ns,1,rfl,rfl⟩) (bN C0 pY (av (ai 0 rfl) (av aF aX)) ⟨ns,2,rfl,rfl⟩) rfl nd (by decide) (by decide) (by decide)) ?_
  refine aE (nU 4 (gG aX) nd) ?_
  refine aE (pS (tgt:=.tup [5,6]) (o:=.nx [.val (n_ ns),.val (.int (gJ ns)),.val (.int (bR ns)),.val (.int (fy ns)),.own (((cq (iW (gJ ns))).map (kindAt (gJ ns) (namesOf (gJ ns) (iW (gJ ns))))).map mB),.un,.un,.un,.un,.un,.un,.un,.un,.un,.un,.un,.un,.un,.un,.un,.un]) eV rfl (nR (ds:=(namesOf (gJ ns) (iW (gJ ns))).map .str) (VO.ve (nV C2 Ri (av (ai 1 rfl) (av (VE.to (k:=.int (iW (gJ ns):Nat)) (eL aF (cZ (bN C1 pY (av (ai 1 rfl) (av (aF) aX)) ⟨gJ ns,1,rfl,by first|decide|omega,by first|decide|omega,rfl⟩) aF (by decide))) (by rw[ek])) aX)) ⟨gJ ns,iW (gJ ns),rfl,by omega,rfl⟩)) n.L6)
   (iS rfl (cD (cp (i:=5) nd rfl (by first|exact bB rfl|exact dm rfl)) (cD (cp (i:=6) nd rfl (by first|exact bB rfl|exact dm rfl)) (gN)))) (λi=>[.val (n_ ns),.val (.int (gJ ns)),.val (.int (bR ns)),.val (.int (fy ns)),.own (((cq (i)).map (kindAt (gJ ns) (namesOf (gJ ns) (iW (gJ ns))))).map mB),.un,.un,.un,.un,.un,.un,.un,.un,.un,.un,.un,.un,.un,.un,.un,.un]) (iW (gJ ns)) rfl (by rw[dN,aj,knl];exact aD _) (λi d hi hd=>?_) (.inl ⟨by rw[dN,aj,knl],rfl⟩)) ?_
  ·obtain⟨x,hx,rfl⟩:=jy hd
   obtain rfl:x=.str ((namesOf (gJ ns) (iW (gJ ns))).getD i ""):=by
    rw[aT,ax (by omega)]at hx
    cases hx;rw[aI,ax (by omega)];rfl
   refine⟨_,rfl,?_⟩
   refine aE (bV 7 (d:=.int (cV (gJ ns) (10+i))) (bN C1 pY (av (ai 1 rfl) (av (eL aF (ai 5 rfl)) aX)) ⟨gJ ns,10+(i:Int),rfl,by first|decide|omega,by first|decide|omega,rfl⟩) nd) ?_
   refine kH (bq (j_ 4 rfl (d:=mB (kindAt (gJ ns) (namesOf (gJ ns) (iW (gJ ns))) i)) (gf (av (ai 6 rfl) (av (f7 (VO.ve (gG (av eK (av eK (av (eL aF (cZ (gO (ai 7 rfl) aF ⟨by decide,by decide⟩) aF (by decide))) aX))))) (cZ (ai 7 rfl) aF (by decide)) (MN _)) aX))) (jF (by simp only[aj,gI];omega)))) ⟨.inr rfl,.inr rfl,.inr rfl,.inr rfl,.inr ?_,.inl rfl,.inl rfl,.inl rfl,.inl rfl,.inl rfl,.inl rfl,.inl rfl,.inl rfl,.inl rfl,.inl rfl,.inl rfl,.inl rfl,.inl rfl,.inl rfl,.inl rfl,.inl rfl,trivial⟩
   rw[yQ,bh,bh];rfl
  rw[hkd];refine iA 4 rfl ?_
  refine aE (bV 8 (d:=.int ((gA (bR ns)):Nat)) (VE.to (eL aF (cZ (bN C1 pY (av (ai 2 rfl) (av (aF) aX)) ⟨bR ns,2,rfl,by first|decide|omega,by first|decide|omega,rfl⟩) aF (by decide))) (by rw[eg])) nd) ?_
  refine aE (bV 9 (d:=cU (placesOf (bR ns))) (VO.ve (nV C2 Ri (av (bN C1 pY (av (ai 2 rfl) (av (aF) aX)) ⟨bR ns,4,rfl,by first|decide|omega,by first|decide|omega,rfl⟩) (av (VE.to (k:=.int ((gA (bR ns))+(cV (bR ns) 5%4).toNat:Nat)) (eL (ai 8 rfl) (cZ (bN C1 pY (av (ai 2 rfl) (av (aF) aX)) ⟨bR ns,5,rfl,by first|decide|omega,by first|decide|omega,rfl⟩) aF (by decide))) (by rw[ep])) aX)) ⟨cV (bR ns) 4,(gA (bR ns))+(cV (bR ns) 5%4).toNat,rfl,by omega,rfl⟩)) nd) ?_
  refine aE (PH 10 11 (d1:=cU ((placesOf (bR ns)).take (gA (bR ns)))) (d2:=cU (linesOf (bR ns))) (VE.to (VO.ve (eW (ds:=(placesOf (bR ns)).map .str) (ai 9 rfl) .no (.yes (ai 8 rfl)))) (by rw[og,uA];rfl)) (VE.to (VO.ve (eW (ds:=(placesOf (bR ns)).map .str) (ai 9 rfl) (.yes (ai 8 rfl)) .no)) (by rw[og,jw];rfl)) rfl nd (by decide)) ?_
  refine aE (bV 12 (d:=cU (orderOf (bR ns))) (VE.to (VO.ve (jY (VO.ve (VO.to (k:=((placesOf (bR ns)).drop (mn (bR ns) (placesOf (bR ns)).length)).map aQ) (eW (ds:=(placesOf (bR ns)).map .str) (ai 9 rfl) (.yes (VE.to (k:=.int (mn (bR ns) (placesOf (bR ns)).length:Nat)) (cZ (bN C1 pY (av (ai 2 rfl) (av (aF) aX)) ⟨bR ns,6,rfl,by first|decide|omega,by first|decide|omega,rfl⟩) (jE (ds:=(placesOf (bR ns)).map .str) (ai 9 rfl) n.len) (by rw[aj];omega)) (by rw[et,aj]))) .no) (by rw[og,jw]))) (VO.ve (VO.to (k:=((placesOf (bR ns)).take (mn (bR ns) (placesOf (bR ns)).length)).map aQ) (eW (ds:=(placesOf (bR ns)).map .str) (ai 9 rfl) .no (.yes (VE.to (k:=.int (mn (bR ns) (placesOf (bR ns)).length:Nat)) (cZ (bN C1 pY (av (ai 2 rfl) (av (aF) aX)) ⟨bR ns,6,rfl,by first|decide|omega,by first|decide|omega,rfl⟩) (jE (ds:=(placesOf (bR ns)).map .str) (ai 9 rfl) n.len) (by rw[aj];omega)) (by rw[et,aj])))) (by rw[og,uA]))) (small (by simp only[aj,b_,bS];omega)))) (by rw[<-bh,hor];rfl)) nd) ?_
  refine aE (bV 13 (d:=.list ((bW (fy ns) (orderOf (bR ns)) (linesOf (bR ns))).map fB)) (VO.ve (nV C4 hr (av (ai 3 rfl) (av (ai 12 rfl) (av (ai 11 rfl) aX))) ⟨fy ns,(orderOf (bR ns)),(linesOf (bR ns)),rfl,by omega,by omega,by omega,rfl⟩)) nd) ?_
  refine aE (nU 14 (gG aX) nd) ?_
  have VL:∀d∈(bW (fy ns) (orderOf (bR ns)) (linesOf (bR ns))),ng d.to:=λd hd=>by
   obtain⟨j,_,rfl⟩:=aN.mp hd;have hm:=(Bq (fy ns) (linesOf (bR ns)) j).2;rcases bX.mp hm with hm|hm
   ·exact(j3 (cW (show EH (fy ns) (linesOf (bR ns)) j∈(placesOf (bR ns)).drop (gA (bR ns))from hm))).ok.2
   ·show ng (EH (fy ns) (linesOf (bR ns)) j)
    rw[bo.mp hm];show cP (.str ("":Str))=true;symm
  refine aE (pS (tgt:=.tup [5,6]) (o:=.nx [.val (n_ ns),.val (.int (gJ ns)),.val (.int (bR ns)),.val (.int (fy ns)),.val (.list ((cH (gJ ns)).map mB)),.un,.un,.un,.val (.int (gA (bR ns))),.val (cU (placesOf (bR ns))),.val (cU ((placesOf (bR ns)).take (gA (bR ns)))),.val (cU (linesOf (bR ns))),.val (cU (orderOf (bR ns))),.val (.list ((bW (fy ns) (orderOf (bR ns)) (linesOf (bR ns))).map fB)),.own (((cq ((linesOf (bR ns)).length)).map (roomAt (bR ns) (bW (fy ns) (orderOf (bR ns)) (linesOf (bR ns))) (linesOf (bR ns)))).map qv),.un,.un,.un,.un,.un,.un]) eV rfl (nR (ds:=(linesOf (bR ns)).map .str) (ai 11 rfl) n.L6)
   (iS rfl (cD (cp (i:=5) nd rfl (by first|exact bB rfl|exact dm rfl)) (cD (cp (i:=6) nd rfl (by first|exact bB rfl|exact dm rfl)) (gN)))) (λi=>[.val (n_ ns),.val (.int (gJ ns)),.val (.int (bR ns)),.val (.int (fy ns)),.val (.list ((cH (gJ ns)).map mB)),.un,.un,.un,.val (.int (gA (bR ns))),.val (cU (placesOf (bR ns))),.val (cU ((placesOf (bR ns)).take (gA (bR ns)))),.val (cU (linesOf (bR ns))),.val (cU (orderOf (bR ns))),.val (.list ((bW (fy ns) (orderOf (bR ns)) (linesOf (bR ns))).map fB)),.own (((cq (i)).map (roomAt (bR ns) (bW (fy ns) (orderOf (bR ns)) (linesOf (bR ns))) (linesOf (bR ns)))).map qv),.un,.un,.un,.un,.un,.un]) (linesOf (bR ns)).length rfl (by rw[dN,aj];exact aD _) (λi d hi hd=>?_) (.inl ⟨by rw[dN,aj],rfl⟩)) ?_
  ·obtain⟨x,hx,rfl⟩:=jy hd
   obtain⟨rfl,xK⟩:x=.str ((linesOf (bR ns)).getD i "")/\(linesOf (bR ns)).getD i ""∈(linesOf (bR ns)):=by
    rw[aT,ax (by omega)]at hx
    cases hx;rw[aI,ax (by omega)]
    exact⟨rfl,dQ _⟩
   have okn:ng ((linesOf (bR ns)).getD i ""):=(j3 (cW (show(linesOf (bR ns)).getD i ""∈(placesOf (bR ns)).drop (gA (bR ns))from xK))).ok.2
   have nc:(["_law_desk","_law_name"]:List Str).Nodup:=by symm
   have hlo:(iX (bW (fy ns) (orderOf (bR ns)) (linesOf (bR ns))) ((linesOf (bR ns)).getD i "")).length<=4:=bZ (pE _ _) K3;refine⟨_,rfl,?_⟩
   refine aE (FY 15 (own:=["_law_desk"]) (cap:=[6]) (N:=["_law_desk","_law_name"]) (tgt:=.one 0) (F:=Gf ((linesOf (bR ns)).getD i "")) (ds:=(bW (fy ns) (orderOf (bR ns)) (linesOf (bR ns))).map fB) rfl ⟨rfl,by symm,by symm,rfl,rfl,?_⟩ (je (ai 13 rfl)) (λf s3 H3=>cp (i:=0) nc rfl (bB rfl)) rfl (small (by rw[aj];omega)) (λd hd=>?_) nd) ?_
   ·intro j hj
    rcases aG.mp hj with rfl|hj
    ·exact⟨(by show(6:Nat)<21;decide),bB rfl,rfl⟩
    ·cases hj
   ·obtain⟨dk,Gg,rfl⟩:=aN.mp hd
    refine⟨_,rfl,λf s3 H3=>?_,λr kT f s3 H3=>?_⟩
    ·refine Bf (VT.to (bU (k:=1) pY (bH (VL dk Gg)) (bH okn) (c0 (ai 0 rfl) aF rfl) (ai 1 rfl)) ?_)
     rw[tJ,bJ];by_cases h:dk.to=(linesOf (bR ns)).getD i ""
     ·rw[qQ1 h,qQ3 rfl];rfl
     ·rw[qQ0 h,qQ2 cF];rfl
    ·rw[tJ]at kT
     split at kT
     ·cases kT
      exact bN C3 pY (av (c0 (ai 0 rfl) aF rfl) (av (kG (ds:=dk.places.map .str) (c0 (ai 0 rfl) aF rfl) n.len) aX)) ⟨dk.rule,dk.places.length,by rw[aj],rfl⟩
     ·cases kT
   refine iA 15 rfl ?_
   rw[HK];obtain⟨mx1,mx2⟩:=pZ (iX (bW (fy ns) (orderOf (bR ns)) (linesOf (bR ns))) ((linesOf (bR ns)).getD i ""));refine kH (bq (j_ 14 rfl (d:=qv (roomAt (bR ns) (bW (fy ns) (orderOf (bR ns)) (linesOf (bR ns))) (linesOf (bR ns)) i)) (gf (av (ai 6 rfl) (av (eL (iV (Hf rfl) (S8 (ns:=1::iX (bW (fy ns) (orderOf (bR ns)) (linesOf (bR ns))) ((linesOf (bR ns)).getD i "")) mx1 mx2) (av (VO.ve (jY (d1:=[.int 1]) (d2:=(iX (bW (fy ns) (orderOf (bR ns)) (linesOf (bR ns))) ((linesOf (bR ns)).getD i "")).map .int) (VO.ve (gG (ds:=[.int 1]) (av aF aX))) (ai 15 rfl) (small (by simp only[aj,a9,ck];omega)))) aX) n.max rfl) (cZ (bN C1 pY (av (ai 2 rfl) (av (eL aF (ai 5 rfl)) aX)) ⟨bR ns,20+(i:Int),rfl,by first|decide|omega,by first|decide|omega,rfl⟩) aF (by decide))) aX))) (jF (by simp only[aj,gI];omega)))) ⟨.inr rfl,.inr rfl,.inr rfl,.inr rfl,.inr rfl,.inl rfl,.inl rfl,.inl rfl,.inr rfl,.inr rfl,.inr rfl,.inr rfl,.inr rfl,.inr rfl,.inr ?_,.inl rfl,.inl rfl,.inl rfl,.inl rfl,.inl rfl,.inl rfl,trivial⟩
   rw[yQ,bh,bh];rfl
  refine iA 14 rfl ?_
  refine aE (Mh 16 17 (gG aX) (gG aX) rfl nd (by decide)) ?_
  refine aE (pS (tgt:=.tup [5,18]) (o:=.nx [.val (n_ ns),.val (.int (gJ ns)),.val (.int (bR ns)),.val (.int (fy ns)),.val (.list ((cH (gJ ns)).map mB)),.un,.un,.un,.val (.int (gA (bR ns))),.val (cU (placesOf (bR ns))),.val (cU ((placesOf (bR ns)).take (gA (bR ns)))),.val (cU (linesOf (bR ns))),.val (cU (orderOf (bR ns))),.val (.list ((bW (fy ns) (orderOf (bR ns)) (linesOf (bR ns))).map fB)),.val (.list (((cq (linesOf (bR ns)).length).map (roomAt (bR ns) (bW (fy ns) (orderOf (bR ns)) (linesOf (bR ns))) (linesOf (bR ns)))).map qv)),.un,.own ((gB (fy ns) (bW (fy ns) (orderOf (bR ns)) (linesOf (bR ns))) (cH (gJ ns)) ((bW (fy ns) (orderOf (bR ns)) (linesOf (bR ns))).length)).map sP),.own ((iG (fy ns) (bW (fy ns) (orderOf (bR ns)) (linesOf (bR ns))) ((bW (fy ns) (orderOf (bR ns)) (linesOf (bR ns))).length)).map rB),.un,.un,.un]) eV rfl (nR (ds:=(bW (fy ns) (orderOf (bR ns)) (linesOf (bR ns))).map fB) (ai 13 rfl) n.L6)
   (iS rfl (cD (cp (i:=5) nd rfl (by first|exact bB rfl|exact dm rfl)) (cD (cp (i:=18) nd rfl (by first|exact bB rfl|exact dm rfl)) (gN)))) (λi=>[.val (n_ ns),.val (.int (gJ ns)),.val (.int (bR ns)),.val (.int (fy ns)),.val (.list ((cH (gJ ns)).map mB)),.un,.un,.un,.val (.int (gA (bR ns))),.val (cU (placesOf (bR ns))),.val (cU ((placesOf (bR ns)).take (gA (bR ns)))),.val (cU (linesOf (bR ns))),.val (cU (orderOf (bR ns))),.val (.list ((bW (fy ns) (orderOf (bR ns)) (linesOf (bR ns))).map fB)),.val (.list (((cq (linesOf (bR ns)).length).map (roomAt (bR ns) (bW (fy ns) (orderOf (bR ns)) (linesOf (bR ns))) (linesOf (bR ns)))).map qv)),.un,.own ((gB (fy ns) (bW (fy ns) (orderOf (bR ns)) (linesOf (bR ns))) (cH (gJ ns)) (i)).map sP),.own ((iG (fy ns) (bW (fy ns) (orderOf (bR ns)) (linesOf (bR ns))) (i)).map rB),.un,.un,.un]) (bW (fy ns) (orderOf (bR ns)) (linesOf (bR ns))).length rfl (by rw[dN,aj];exact aD _) (λi d hi hd=>?_) (.inl ⟨by rw[dN,aj],rfl⟩)) ?_
  ·obtain⟨x,hx,rfl⟩:=jy hd
   obtain⟨dk,Gg,rfl⟩:∃dk,(bW (fy ns) (orderOf (bR ns)) (linesOf (bR ns)))[i]?=some dk/\x=fB dk:=by
    rw[aT,ax (by omega)]at hx
    cases hx;exact⟨_,ax (by omega),rfl⟩
   refine⟨_,rfl,?_⟩
   refine aE (bV 7 (d:=.int (cV (fy ns) (110+i))) (bN C1 pY (av (ai 3 rfl) (av (eL aF (ai 5 rfl)) aX)) ⟨fy ns,110+(i:Int),rfl,by first|decide|omega,by first|decide|omega,rfl⟩) nd) ?_
   have tsu:=p9 (c:=fy ns) (kinds:=(cH (gJ ns))) Gg;have hsu:=uJ (c:=fy ns) Gg;have tle:=p_ (fy ns) (bW (fy ns) (orderOf (bR ns)) (linesOf (bR ns))) (cH (gJ ns)) (by omega) i (by omega)
   have hle:=qc (fy ns) (bW (fy ns) (orderOf (bR ns)) (linesOf (bR ns))) i (by omega)
   rw[tsu,hsu];have m0:=wU (fy ns) (110+i)
   generalize cV (fy ns) (110+i)=m at *
   refine aE (pS (tgt:=.tup [19,20]) (o:=.nx [.val (n_ ns),.val (.int (gJ ns)),.val (.int (bR ns)),.val (.int (fy ns)),.val (.list ((cH (gJ ns)).map mB)),.val (.int i),.un,.val (.int m),.val (.int (gA (bR ns))),.val (cU (placesOf (bR ns))),.val (cU ((placesOf (bR ns)).take (gA (bR ns)))),.val (cU (linesOf (bR ns))),.val (cU (orderOf (bR ns))),.val (.list ((bW (fy ns) (orderOf (bR ns)) (linesOf (bR ns))).map fB)),.val (.list (((cq (linesOf (bR ns)).length).map (roomAt (bR ns) (bW (fy ns) (orderOf (bR ns)) (linesOf (bR ns))) (linesOf (bR ns)))).map qv)),.un,.own ((gB (fy ns) (bW (fy ns) (orderOf (bR ns)) (linesOf (bR ns))) (cH (gJ ns)) i++fJ m dk.name (cH (gJ ns)) ((cH (gJ ns)).length)).map sP),.own ((iG (fy ns) (bW (fy ns) (orderOf (bR ns)) (linesOf (bR ns))) (i)).map rB),.val (fB dk),.un,.un]) eV rfl (nR (ds:=(cH (gJ ns)).map mB) (ai 4 rfl) n.L6)
    (iS rfl (cD (cp (i:=19) nd rfl (by first|exact bB rfl|exact dm rfl)) (cD (cp (i:=20) nd rfl (by first|exact bB rfl|exact dm rfl)) (gN)))) (λj=>[.val (n_ ns),.val (.int (gJ ns)),.val (.int (bR ns)),.val (.int (fy ns)),.val (.list ((cH (gJ ns)).map mB)),.val (.int i),.un,.val (.int m),.val (.int (gA (bR ns))),.val (cU (placesOf (bR ns))),.val (cU ((placesOf (bR ns)).take (gA (bR ns)))),.val (cU (linesOf (bR ns))),.val (cU (orderOf (bR ns))),.val (.list ((bW (fy ns) (orderOf (bR ns)) (linesOf (bR ns))).map fB)),.val (.list (((cq (linesOf (bR ns)).length).map (roomAt (bR ns) (bW (fy ns) (orderOf (bR ns)) (linesOf (bR ns))) (linesOf (bR ns)))).map qv)),.un,.own ((gB (fy ns) (bW (fy ns) (orderOf (bR ns)) (linesOf (bR ns))) (cH (gJ ns)) i++fJ m dk.name (cH (gJ ns)) (j)).map sP),.own ((iG (fy ns) (bW (fy ns) (orderOf (bR ns)) (linesOf (bR ns))) (i)).map rB),.val (fB dk),.un,.un]) (cH (gJ ns)).length (by show([.val (n_ ns),.val (.int (gJ ns)),.val (.int (bR ns)),.val (.int (fy ns)),.val (.list ((cH (gJ ns)).map mB)),.val (.int i),.un,.val (.int m),.val (.int (gA (bR ns))),.val (cU (placesOf (bR ns))),.val (cU ((placesOf (bR ns)).take (gA (bR ns)))),.val (cU (linesOf (bR ns))),.val (cU (orderOf (bR ns))),.val (.list ((bW (fy ns) (orderOf (bR ns)) (linesOf (bR ns))).map fB)),.val (.list (((cq (linesOf (bR ns)).length).map (roomAt (bR ns) (bW (fy ns) (orderOf (bR ns)) (linesOf (bR ns))) (linesOf (bR ns)))).map qv)),.un,.own ((gB (fy ns) (bW (fy ns) (orderOf (bR ns)) (linesOf (bR ns))) (cH (gJ ns)) i++fJ m dk.name (cH (gJ ns)) (0)).map sP),.own ((iG (fy ns) (bW (fy ns) (orderOf (bR ns)) (linesOf (bR ns))) (i)).map rB),.val (fB dk),.un,.un]:List Slot)=_;rw[show fJ m dk.name (cH (gJ ns)) 0=[]from rfl,dC];rfl) (by rw[dN,aj];exact aD _) (λj d hj hd=>?_) (.inl ⟨by rw[dN,aj],rfl⟩)) ?_
   ·obtain⟨x,hx,rfl⟩:=jy hd
    obtain⟨kd,Ye,rfl⟩:∃kd,(cH (gJ ns))[j]?=some kd/\x=mB kd:=by
     rw[aT,ax (by omega)]at hx
     cases hx;exact⟨_,ax (by omega),rfl⟩
    have rle:=rC m dk.name (cH (gJ ns)) j;have jj0:(0:Int)<=(j:Int)*j:=Int.mul_nonneg (by omega) (by omega)
    have jj1:(j:Int)*j<=60*60:=Int.mul_le_mul (by omega) (by omega) (by omega) (by omega)
    refine⟨_,rfl,?_⟩
    rw[sQ Ye];by_cases ht:decide (0<m/((j:Int)+7)%3)=true
    ·have et:tH m dk.name (kd,j)=some (dk.name,kd.1,1+m/((j:Int)*j+2)%6):=by show(if _ then _ else _)=_;rw[qQ3 ht]
     rw[et];refine kH (bq (dH (VT.to (FU (cZ (gO (ai 7 rfl) (eL (ai 19 rfl) aF) ⟨by omega,by omega⟩) aF (by decide)) aF) ht) (bq (j_ 16 rfl (d:=sP (dk.name,kd.1,1+m/((j:Int)*j+2)%6)) (gf (av (c0 (ai 18 rfl) aF rfl) (av (c0 (ai 20 rfl) aF rfl) (av (eL aF (cZ (gO (ai 7 rfl) (eL (tD (ai 19 rfl) (ai 19 rfl) (.inl ⟨by omega,by omega⟩)) aF) ⟨by omega,by omega⟩) aF (by decide))) aX)))) (jF (by simp only[aj,aV];omega)))))) ⟨.inr rfl,.inr rfl,.inr rfl,.inr rfl,.inr rfl,.inr rfl,.inl rfl,.inr rfl,.inr rfl,.inr rfl,.inr rfl,.inr rfl,.inr rfl,.inr rfl,.inr rfl,.inl rfl,.inr ?_,.inr rfl,.inr rfl,.inl rfl,.inl rfl,trivial⟩
     rw[<-eU,bh (l₂:=Option.toList _)];rfl
    ·have et:tH m dk.name (kd,j)=none:=by show(if _ then _ else _)=_;rw[qQ2 ht]
     rw[et];refine kH (bq (cv (VT.to (FU (cZ (gO (ai 7 rfl) (eL (ai 19 rfl) aF) ⟨by omega,by omega⟩) aF (by decide)) aF) (by simpa using ht)) bQ)) ⟨.inr rfl,.inr rfl,.inr rfl,.inr rfl,.inr rfl,.inr rfl,.inl rfl,.inr rfl,.inr rfl,.inr rfl,.inr rfl,.inr rfl,.inr rfl,.inr rfl,.inr rfl,.inl rfl,.inr ?_,.inr rfl,.inr rfl,.inl rfl,.inl rfl,trivial⟩
     rw[Option.toList_none,dC]
   have rle:=rC m dk.name (cH (gJ ns)) (cH (gJ ns)).length;have e5:dE (.int (m/5%4)) (.int 0)=decide (m/5%4=0):=nZ _ _;by_cases h5:m/5%4=0
   ·have eh:jQ m dk.name=[(dk.name,m/20%9,9+m/180%20),(dk.name,25+m/3600%20,50+m/72000%40)]:=by unfold jQ;rw[qQ3 h5]
    rw[eh];refine kH (bq (dH (VT.to (bU (k:=1) pY (dg 20 _) (dg 20 _) (cZ (gO (ai 7 rfl) aF ⟨by decide,by decide⟩) aF (by decide)) aF) (by rw[e5,qQ1 h5])) (aE (j_ 17 rfl (d:=rB (dk.name,m/20%9,9+m/180%20)) (gf (av (c0 (ai 18 rfl) aF rfl) (av (cZ (gO (ai 7 rfl) aF ⟨by decide,by decide⟩) aF (by decide)) (av (eL aF (cZ (gO (ai 7 rfl) aF ⟨by decide,by decide⟩) aF (by decide))) aX)))) (jF (by simp only[aj];omega))) (bq (j_ 17 rfl (d:=rB (dk.name,25+m/3600%20,50+m/72000%40)) (gf (av (c0 (ai 18 rfl) aF rfl) (av (eL aF (cZ (gO (ai 7 rfl) aF ⟨by decide,by decide⟩) aF (by decide))) (av (eL aF (cZ (gO (ai 7 rfl) aF ⟨by decide,by decide⟩) aF (by decide))) aX)))) (jF (by simp only[aj,aV,a9,ck];omega))))))) ⟨.inr rfl,.inr rfl,.inr rfl,.inr rfl,.inr rfl,.inl rfl,.inl rfl,.inl rfl,.inr rfl,.inr rfl,.inr rfl,.inr rfl,.inr rfl,.inr rfl,.inr rfl,.inl rfl,.inr rfl,.inr ?_,.inl rfl,.inl rfl,.inl rfl,trivial⟩
    rw[bh (l₂:=[_,_]),eU];rfl
   ·have eh:jQ m dk.name=[]:=by unfold jQ;rw[qQ2 h5]
    rw[eh,dC];exact kH (bq (cv (VT.to (bU (k:=1) pY (dg 20 _) (dg 20 _) (cZ (gO (ai 7 rfl) aF ⟨by decide,by decide⟩) aF (by decide)) aF) (by rw[e5,qQ0 h5])) bQ)) ⟨.inr rfl,.inr rfl,.inr rfl,.inr rfl,.inr rfl,.inl rfl,.inl rfl,.inl rfl,.inr rfl,.inr rfl,.inr rfl,.inr rfl,.inr rfl,.inr rfl,.inr rfl,.inl rfl,.inr rfl,.inr rfl,.inl rfl,.inl rfl,.inl rfl,trivial⟩
  refine iA 16 rfl ?_
  refine iA 17 rfl ?_
  refine bq (cn (F5 (.cons aO (ai 4 rfl) (.cons aO (ai 10 rfl) (.cons aO (ai 14 rfl) (.cons aO (ai 13 rfl) (.cons aO (ai 16 rfl) (.cons aO (ai 17 rfl) (.cons aO (VO.ve (gG aX)) .nil))))))) (show([("kinds":Str),"gates","lines","desks","times","hours","paces"]).Nodup by symm) (by simp[mG]) (by show 7<=15;decide)))
end
end Mg
namespace Mg
open L2 PySem PyProof.Rows
variable{n:Int}{c:Nat}{x:Str}
theorem J6(p:Pl):jP (mG p) "kinds"=some (.list (p.kinds.map mB)):=gj rfl
theorem J7(p:Pl):jP (mG p) "gates"=some (cU p.gates):=(cY (show ¬(("kinds":Str)="gates") by symm)).trans (gj rfl)
theorem J8(p:Pl):jP (mG p) "lines"=some (.list (p.lines.map qv)):=(cY (show ¬(("kinds":Str)="lines") by symm)).trans ((cY (show ¬(("gates":Str)="lines") by symm)).trans (gj rfl))
theorem J9(p:Pl):jP (mG p) "desks"=some (.list (p.desks.map fB)):=(cY (show ¬(("kinds":Str)="desks") by symm)).trans ((cY (show ¬(("gates":Str)="desks") by symm)).trans ((cY (show ¬(("lines":Str)="desks") by symm)).trans (gj rfl)))
theorem J_(p:Pl):jP (mG p) "times"=some (.list (p.times.map sP)):=(cY (show ¬(("kinds":Str)="times") by symm)).trans ((cY (show ¬(("gates":Str)="times") by symm)).trans ((cY (show ¬(("lines":Str)="times") by symm)).trans ((cY (show ¬(("desks":Str)="times") by symm)).trans (gj rfl))))
theorem J'(p:Pl):jP (mG p) "hours"=some (.list (p.hours.map rB)):=(cY (show ¬(("kinds":Str)="hours") by symm)).trans ((cY (show ¬(("gates":Str)="hours") by symm)).trans ((cY (show ¬(("lines":Str)="hours") by symm)).trans ((cY (show ¬(("desks":Str)="hours") by symm)).trans ((cY (show ¬(("times":Str)="hours") by symm)).trans (gj rfl)))))
theorem Kc(p:Pl):jP (mG p) "paces"=some (.list []):=(cY (show ¬(("kinds":Str)="paces") by symm)).trans ((cY (show ¬(("gates":Str)="paces") by symm)).trans ((cY (show ¬(("lines":Str)="paces") by symm)).trans ((cY (show ¬(("desks":Str)="paces") by symm)).trans ((cY (show ¬(("times":Str)="paces") by symm)).trans ((cY (show ¬(("hours":Str)="paces") by symm)).trans (gj rfl))))))
def pickOf{α:Type}(l:List α)(d:α)(j:Int):α:=l.getD (j%l.length).toNat d
theorem Bs{α:Type}{l:List α}{d:α}{F:α->aq}(h:1<=l.length)(j:Int):sG (l.map F) (j%(l.length:Int))=some (F (pickOf l d j))/\pickOf l d j∈l:=by
 unfold pickOf;have a1:0<=j%(l.length:Int):=bw _ (by omega)
 have a2:j%(l.length:Int)<l.length:=bG _ (by omega)
 generalize j%(l.length:Int)=i at *
 obtain⟨n,rfl⟩:=kQ a1;have hn:n<l.length:=by omega
 have e:l.getD ((n:Int)).toNat d=l[n]:=by rw[eA,aI,ax hn];rfl
 rw[e];exact⟨cz (by rw[aT,ax hn];rfl),dQ hn⟩
structure Ka(K:ao):Prop where
 ss:du K (.type "str") (.type "str")=some true
 is:du K (.type "int") (.type "str")=some false
 ts:du K (.type "tuple") (.type "str")=some false
 ls:du K (.type "list") (.type "str")=some false
 ii:du K (.type "int") (.type "int")=some true
 ti:du K (.type "tuple") (.type "int")=some false
 li:du K (.type "list") (.type "int")=some false
 ib:du K (.type "int") (.type "bool")=some false
 tt:du K (.type "tuple") (.type "tuple")=some true
 tl:du K (.type "tuple") (.type "list")=some false
 lt:du K (.type "list") (.type "tuple")=some false
 ll:du K (.type "list") (.type "list")=some true
def Kd:aq->Bool
 | .none=>true
 |_=>false
theorem kL{K:ao}{d:aq}:zX K (λx y H Q=>y=.non/\Q (.bl (decide (x=.non))) H) d .none (.bool (Kd d)):=λv u H0 H Q s r1 r2 k=>by
 cases r2;refine⟨rfl,k _ _ _ (.refl s) ?_⟩
 cases r1<;>exact .bl _
structure Na(mg:Str->Option ay):Prop extends Nm mg where
 str:mg "str"=none
 all:mg "all"=none
def Yf:aq->Option aq:=λ_=>some (.bool true)
theorem Gh:∀l:List aq,l.filterMap Yf=(aH l.length true).map .bool
 | []=>rfl
 |d::l=>by rw[dB (f:=Yf) (b:=.bool true) rfl,Gh l];rfl
theorem HM(n:Nat):nW (aH n true)=true:=by
 unfold nW;rw[ef];intro b hb;exact(fY.mp hb).2
def Ao(c:Nat):List (List Nat)->List Nat
 | []=>[]
 | [x]=>x
 |x::y::r=>x++c::Ao c (y::r)
theorem CZ:∀{a b r s:List Nat},c∉a->c∉b->a++c::r=b++c::s->a=b/\r=s
 | [],[],r,s,_,_,h=>⟨rfl,(jD h).2⟩
 | [],y::b,r,s,_,hb,h=>qQ7 (jD h).1 (λz=>hb (by rw[z];exact aP))
 |x::a,[],r,s,ha,_,h=>qQ7 (jD h).1 (λz=>ha (by rw[<-z];exact aP))
 |x::a,y::b,r,s,ha,hb,h=>by
  obtain⟨h1,h2⟩:=jD h;obtain⟨h3,h4⟩:=CZ (λz=>ha (aU _ z)) (λz=>hb (aU _ z)) h2
  exact⟨by rw[h1,h3],h4⟩
theorem Ap{c:Nat}:∀{ps qs:List (List Nat)},ps≠[]->qs≠[]->(∀p∈ps,c∉p)->(∀p∈qs,c∉p)->Ao c ps=Ao c qs->ps=qs
 | [],_,h,_,_,_,_=>qQ7 rfl h
 |_,[],_,h,_,_,_=>qQ7 rfl h
 | [x],[y],_,_,_,_,h=>by have h:x=y:=h;rw[h]
 | [x],y::y2::qs,_,_,hp,_,h=>by
  have h:x=y++c::Ao c (y2::qs):=h;exact qQ7 (by rw[h];exact cJ _ aP) (hp x aP)
 |x::x2::ps,[y],_,_,_,hq,h=>by
  have h:x++c::Ao c (x2::ps)=y:=h;exact qQ7 (by rw[<-h];exact cJ _ aP) (hq y aP)
 |x::x2::ps,y::y2::qs,_,_,hp,hq,h=>by
  obtain⟨h1,h2⟩:=CZ (hp x aP) (hq y aP) h;have:=Ap (ps:=x2::ps) (qs:=y2::qs) (by simp) (by simp) (λp z=>hp p (aU _ z)) (λp z=>hq p (aU _ z)) h2
  rw[h1,this]
theorem add_list(x y:Str):(x++y).cps.toList=x.cps.toList++y.cps.toList:=by
 show(x.cps++y.cps).toList=_
 simp
theorem str_inj{y: Str}(h:x.cps.toList=y.cps.toList):x=y:=Str.ext' (Array.toList_inj.mp h)
theorem join_list(c:Nat):∀ps:List Str,(cK (one c) ps).cps.toList=Ao c (ps.map λp=>p.cps.toList)
 | []=>rfl
 | [x]=>rfl
 |x::y::r=>by
  show(x++one c++cK (one c) (y::r)).cps.toList=_
  rw[add_list,add_list,join_list c (y::r)];show x.cps.toList ++ [c]++_=x.cps.toList++c::_;simp
theorem uK(x y:Str):bL x y≠[]:=by
 intro h;unfold bL at h
 split at h
 ·cases h
 ·split at h
  ·cases h
  ·have:=qQ6 gu h
   rw[wo]at this;simp at this
theorem qe{ps:List Str}(h:ps≠[])(hf:∀p∈ps,c∉p.cps.toList):bL (cK (one c) ps) (one c)=ps:=by
 have h1:=mU (cK (one c) ps) (one c);have h2:=mV (cK (one c) ps) c;have h3:=uK (cK (one c) ps) (one c)
 generalize hq:bL (cK (one c) ps) (one c)=qs at *
 have h2:∀p∈qs,c∉p.cps.toList:=by rw[<-hq];exact mV (cK (one c) ps) c
 have e:=qQ6 (λs:Str=>s.cps.toList) h1
 simp only[join_list]at e;have:=Ap (c:=c) (ps:=qs.map λp=>p.cps.toList) (qs:=ps.map λp=>p.cps.toList) (by simpa using h3) (by simpa using h)
  (λp hp=>by obtain⟨q,hq,rfl⟩:=aN.mp hp;exact h2 q hq) (λp hp=>by obtain⟨q,hq,rfl⟩:=aN.mp hp;exact hf q hq) e
 have inj:∀{l m:List Str},(l.map λp=>p.cps.toList)=(m.map λp=>p.cps.toList)->l=m:=by
  intro l
  induction l with
  |nil=>intro m hm;cases m with|nil=>rfl|cons _ _=>cases hm
  |cons x l ih=>
   intro m hm;cases m with
   |nil=>cases hm
   |cons y m=>
    obtain⟨a1,a2⟩:=jD hm;rw[str_inj a1,ih a2]
 exact inj this
theorem C5(c:Nat):∀{ps qs:List Str},ps≠[]->qs≠[]->cK (one c) (ps++qs)=cK (one c) ps++one c++cK (one c) qs
 | [],_,h,_=>qQ7 rfl h
 | [x],q::qs,_,_=>rfl
 | [x],[],_,h=>qQ7 rfl h
 |x::y::r,qs,_,h=>by
  show x++one c++cK (one c) ((y::r)++qs)=_;rw[C5 c (ps:=y::r) (by simp) h]
  apply str_inj;show _=(x++one c++cK (one c) (y::r)++one c++cK (one c) qs).cps.toList;simp only[add_list,eU]
theorem HN(c:Nat)(x y:Str):bL (x++one c++y) (one c)=bL x (one c)++bL y (one c):=by
 have e:x++one c++y=cK (one c) (bL x (one c)++bL y (one c)):=by
  rw[C5 c (uK _ _) (uK _ _),mU,mU]
 rw[e];refine qe (by simp[uK]) λp hp=>?_
 rcases bX.mp hp with hp|hp
 ·exact mV x c p hp
 ·exact mV y c p hp
theorem yi(h:c∉x.cps.toList):bL x (one c)=[x]:=by
 have:=qe (c:=c) (ps:=[x]) (by simp) (λp hp=>by rw[bo.mp hp];exact h)
 exact this
theorem rX:(" ":Str)=one 32:=by symm
theorem Ke:("\n":Str)=one 10:=by symm
theorem ly(x y:Str):wordsOf (x++" "++y)=wordsOf x++wordsOf y:=by
 unfold wordsOf;rw[rX,HN,List.filter_append]
theorem yj:wordsOf ""=[]:=by
 unfold wordsOf;rw[rX,yi (by symm)]
 rfl
theorem vC{w:Str}(h:w≠"")(hb:32∉w.cps.toList):wordsOf w=[w]:=by
 unfold wordsOf;rw[rX,yi hb,lV,qQ3 (by simpa using h)]
 rfl
theorem HP(x y z:Str):x++y++z=x++(y++z):=by
 apply str_inj;simp only[add_list,eU]
theorem HQ(x:Str):x++""=x:=by
 apply str_inj;rw[add_list];show x.cps.toList ++ []=_;simp
theorem empty_app(x:Str):""++x=x:=by
 apply str_inj;rw[add_list];rfl
theorem yk(x:Str)(n:Nat):gi x (n+1)=x++gi x n:=by
 apply str_inj;rw[add_list]
 show(x.cps++(gi x n).cps).toList=_
 simp
theorem yl(n:Nat)(y:Str):wordsOf (gi " " n++y)=wordsOf y:=by
 induction n with
 |zero=>rw[show gi " " 0="" from rfl,empty_app]
 |succ n ih=>
  have e:gi " " (n+1)++y=""++" "++(gi " " n++y):=by rw[yk,empty_app,HP]
  rw[e,ly,yj,ih];rfl
theorem HR(n:Nat)(x y:Str):wordsOf (x++gi " " (n+1)++y)=wordsOf x++wordsOf y:=by
 have e:x++gi " " (n+1)++y=x++" "++(gi " " n++y):=by rw[yk];apply str_inj;simp only[add_list,eU]
 rw[e,ly,yl]
theorem tK(n:Nat):∀{ws:List Str},(∀w∈ws,w≠""/\32∉w.cps.toList)->wordsOf (cK (gi " " (n+1)) ws)=ws
 | [],_=>yj
 | [w],h=>vC (h w aP).1 (h w aP).2
 |w::v::ws,h=>by
  show wordsOf (w++gi " " (n+1)++cK (gi " " (n+1)) (v::ws))=_;rw[HR,vC (h w aP).1 (h w aP).2,tK n (λu hu=>h u (aU _ hu))]
  rfl
theorem oh{ws:List Str}(h:∀w∈ws,w≠""/\32∉w.cps.toList):wordsOf (cK " " ws)=ws:=by
 have e:gi " " (0+1)=" ":=by rw[yk,show gi " " 0="" from rfl,HQ]
 have:=tK 0 h;rw[e]at this;exact this
theorem Aq{rows:List Str}(h0:rows≠[])(h:∀r∈rows,10∉r.cps.toList):rowsOf (cK "\n" rows)=rows.zipIdx.filterMap λp=>if(wordsOf p.1).isEmpty then none else some (p.2,wordsOf p.1):=by
 unfold rowsOf;rw[Ke,qe h0 h]
def dF(n:Int):Str:=nB (toString n)
theorem Bt{m:Nat}(h:¬m<10):iE 10 m=iE 10 (m/10) ++ [Nat.digitChar (m%10)]:=by
 have hm:m%10<10:=Nat.mod_lt m (by decide)
 have t:iE 10 (m/10)++iE 10 (m%10)=iE 10 (10*(m/10)+m%10):=Nat.toDigits_append_toDigits (by decide) (by omega) hm
 rw[Nat.div_add_mod]at t;rw[<-t,kR hm]
theorem Gi:∀(k m:Nat),1<=k->m<10^k->(iE 10 m).length<=k
 |0,_,h,_=>by omega
 |k+1,m,_,h=>by
  by_cases hm:m<10
  ·rw[kR hm];simp
  ·rw[Bt hm,aV]
   have hk:1<=k:=by
    rcases u6 k with rfl|hk
    ·exact qQ7 h (by simpa using hm)
    ·exact hk
   have Yg:m/10<10^k:=by rw[Nat.div_lt_iff_lt_mul (by decide)];rw[Nat.pow_succ]at h;exact h
   have:=Gi k (m/10) hk Yg;simp only[lH];omega
theorem MP(m:Nat):1<=(iE 10 m).length:=by
 by_cases hm:m<10
 ·rw[kR hm];simp
 ·rw[Bt hm,aV];simp
theorem Kf(m:Nat)(h:0<m):∃c,(iE 10 m).head?=some c/\c≠'0':=by
 induction m using Nat.strongRecOn with
 |_ m ih=>
  by_cases hm:m<10
  ·rw[kR hm]
   refine⟨_,rfl,?_⟩
   have:∀d:Nat,d<10->0<d->Nat.digitChar d≠'0':=by decide
   exact this m hm h
  ·obtain⟨c,h1,h2⟩:=ih (m/10) (by omega) (by omega)
   refine⟨c,?_,h2⟩
   rw[Bt hm,List.head?_append,h1]
   rfl
theorem vD(h0:0<=n):(dF n).cps.toList=(iE 10 n.toNat).map Char.toNat:=by
 obtain⟨m,rfl⟩:=kQ h0;exact PySem.W.KIN.signs_num m
theorem lz(h0:0<=n)(hc:c∈(dF n).cps.toList):48<=c/\c<=57:=by
 rw[vD h0]at hc;obtain⟨ch,Ij,e⟩:=aN.mp hc;have r:=digit_range (Nat.isDigit_of_mem_toDigits (by decide) (by decide) Ij)
 rw[<-e];exact r
theorem wV(h0:0<=n)(h1:n<1000000):1<=(dF n).length/\(dF n).length<=6:=by
 have e:(dF n).length=(iE 10 n.toNat).length:=by
  show(dF n).cps.size=_
  rw[<-cR,vD h0,aj]
 rw[e];exact⟨MP _,Gi 6 _ (by decide) (by omega)⟩
theorem C6:("0123456789":Str).cps.toList=(cq 10).map (48 + ·):=by symm
theorem oH(h0:0<=n)(h1:n<1000000):rq (dF n):=by
 refine⟨by have:=wV h0 h1;omega,(lD _).mpr λc hc=>?_⟩
 have:=lz h0 hc;omega
theorem ym(h0:0<=n)(h1:n<1000000):isNumber (dF n)=true:=by
 obtain⟨l1,l2⟩:=wV h0 h1;have em:oE "0123456789" 6 (dF n)=true:=by
  unfold oE;rw[qQ1 (by omega),qQ1 (by omega),j8,j8,ef]
  intro c hc;have hd:=lz h0 hc;have:Bj (one c) "0123456789"=decide (c∈("0123456789":Str).cps.toList):=uh ..;rw[this,C6];exact qQ1 (aN.mpr ⟨c-48,dG.mpr (by omega),by omega⟩)
 unfold isNumber;rw[em,j8];by_cases hn:n=0
 ·subst hn
  rw[qQ1 (show dF 0="0" by symm)]
  rfl
 ·obtain⟨c,c1,c2⟩:=Kf n.toNat (by omega)
  have hh:(dF n).cps.toList.head?=some c.toNat:=by
   rw[vD h0,List.head?_map,c1]
   rfl
  rw[hh];have:one c.toNat≠"0":=by
   intro z;have z2:(one c.toNat).cps.toList=("0":Str).cps.toList:=by rw[z]
   have z3:[c.toNat]=[48]:=z2;have z4:c.toNat=48:=by simpa using z3
   exact c2 (Char.toNat_inj.mp z4)
  show(_ || !decide (one c.toNat="0"))=true
  rw[qQ0 this];simp
theorem num_reads(h0:0<=n)(h1:n<1000000):intText? (dF n)=some n:=PySem.W.KIN.num_reads h0 (by omega)
theorem nh(h0:0<=n)(h1:n<1000000):dF n≠""/\32∉(dF n).cps.toList/\10∉(dF n).cps.toList:=by
 refine⟨λz=>?_,λz=>?_,λz=>?_⟩
 ·have:=(wV h0 h1).1
  rw[z]at this;exact qQ7 this (by decide)
 ·have:=lz h0 z;omega
 ·have:=lz h0 z;omega
theorem ic(h:dW x):x≠""/\32∉x.cps.toList/\10∉x.cps.toList:=by
 refine⟨λz=>?_,λz=>?_,λz=>?_⟩
 ·have:=h.1
  rw[z]at this;exact qQ7 this (by decide)
 ·have:=h.2.2 _ z;omega
 ·have:=h.2.2 _ z;omega
end Mg
namespace Mg
open L2 PySem PyProof.Rows
seal L2.VE L2.VS L2.wB L2.VT L2.VO L2.L4
variable{fd:e9}
def dD(i:Int):Prop:=0<=i/\i<1000000
theorem dD.log{i:Int}(h:dD i):i.natAbs.log2<1920:=by
 have:i.natAbs<2^20:=by have:=h.1;have:=h.2;omega
 have h2:i.natAbs.log2<=20:=by
  rcases u6 i.natAbs with e|e
  ·rw[e];decide
  ·exact nz ((Nat.log2_lt (by omega)).mpr this)
 omega
def EI:aq->Prop
 | .none=>True
 | .int i=>dD i
 | .str x=>x=""\/dW x
 |_=>False
def eI:aq->Str
 | .str x=>if x="" then "-" else x
 | .int i=>dF i
 |_=>"-"
section
variable{P:bC}{w:cw}{K:ao}{mg:Str->Option ay}{base:c6}{f:aL}{k:Nat}
theorem T2:c9 ["_law_thing"] ["_law_thing"] (b9 (top 47)):=⟨rfl,rfl,rfl,by symm,rfl,by symm,by symm⟩
def Yh(ds:List aq)(d:aq):Prop:=∃x,ds=[x]/\EI x/\d=.str (eI x)
theorem Yi(F:lq K "_law_dash" "_law_dash" (top 47) f fd)(n:Na mg):eX P w K mg base kF 1 f fd ["_law_thing"] (hV K Yh):=
 jz F T2 (λ_ _ h=>by obtain⟨_,rfl,_⟩:=h;rfl) λ_ _ h=>by
  obtain⟨x,rfl,ho,rfl⟩:=h;intro h8 A outer s H E hr;have l0:Lay 20 (.str ""):=bH (by symm)
  cases x with
  |none=>exact df (dH (VT.to (ju (k2:=true) (fN iK kL (ai 0 rfl) eK (fE _)) (λz=>by cases z)) rfl) (bq (cn aO))) rfl
  |int i=>
   refine aE (cv (VT.to (ju (fN iK kL (ai 0 rfl) eK (fE _)) (λ_=>bU hr (dg 20 _) l0 (ai 0 rfl) aO)) rfl) bQ) ?_
   exact bq (cn (rU (ai 0 rfl) (dD.log ho) n.str))
  |str z=>
   have oz:ng z:=by
    rcases ho with rfl|ho
    ·show cP (.str ("":Str))=true;symm
    ·exact ho.ok.2
   by_cases hz:z=""
   ·refine df (dH (VT.to (ju (fN iK kL (ai 0 rfl) eK (fE _)) (λ_=>bU hr (bH oz) l0 (ai 0 rfl) aO)) ?_) (bq (cn (VE.to aO ?_)))) rfl
    ·rw[bJ,qQ1 hz];rfl
    ·show aQ "-"=.str (if z="" then "-" else z);rw[qQ3 hz]
   ·refine aE (cv (VT.to (ju (fN iK kL (ai 0 rfl) eK (fE _)) (λ_=>bU hr (bH oz) l0 (ai 0 rfl) aO)) ?_) bQ) ?_
    ·rw[bJ,qQ0 hz];rfl
    ·refine bq (cn (VE.to (Ml (ai 0 rfl) n.str) ?_))
     show aQ z=.str (if z="" then "-" else z);rw[qQ2 hz]
  |_=>exact ho.elim
def yn:Rl->Prop
 | .meet=>True
 | .gather m a=>dD m/\dD a
 | .many m=>dD m
 | .rank none=>True
 | .rank (some b)=>dD b
 | .turns s=>s.length<=60/\∀z∈s,dD z
 | .eldest=>True
def cX:Rl->List Str
 | .turns s=>"turns"::s.map dF
 |r=>oM r::(rA r).map eI
def o9(r:Rl):Str:=cK " " (cX r)
theorem T3:c9 ["_law_rule_here"] ["_law_rule_here"] (b9 (top 48)):=⟨rfl,rfl,rfl,by symm,rfl,by symm,by symm⟩
def Rrt(ds:List aq)(d:aq):Prop:=∃r,ds=[HJ r]/\yn r/\d=.str (o9 r)
def T4:aq->Option aq
 | .int i=>some (.str (dF i))
 |_=>none
theorem Kg(l:List Int):(l.map iU).filterMap T4=(l.map dF).map .str:=by
 rw[cQ,bA];exact filterMap_some λk _=>rfl
def N_:aq->Option aq:=λd=>some (.str (eI d))
theorem HS(l:List aq):l.filterMap N_=(l.map eI).map .str:=by
 rw[bA];exact filterMap_some λk _=>rfl
theorem ik{i:Int}(h:dD i):(dF i).length<=6:=(wV h.1 h.2).2
theorem o_:∀{l:List Str}{b:Nat},(∀x∈l,x.length<=b)->(l.map (·.length)).sum<=l.length*b
 | [],_,_=>by simp
 |x::l,b,h=>by
  have h1:=h x aP;have h2:=o_ λy hy=>h y (aU _ hy)
  rw[aR,ui,a9,Nat.add_mul];omega
theorem j5{d:aq}(h:EI d):(eI d).length<=8:=by
 cases d with
 |none=>decide
 |int i=>exact bZ (ik h) (by decide)
 |str x=>
  show(if x="" then("-":Str)else x).length<=8
  split
  ·decide
  ·rename_i hx
   rcases h with h|h
   ·exact qQ7 h hx
   ·have:=h.2.1
    rw[cR]at this;exact this
 |_=>exact h.elim
theorem yo{r:Rl}(ht:∀s,r≠.turns s)(h:yn r):∀d∈rA r,EI d:=by
 intro d hd;cases r with
 |meet=>cases hd
 |eldest=>cases hd
 |gather m a=>
  rcases aG.mp hd with rfl|hd
  ·exact h.1
  ·rw[bo.mp hd];exact h.2
 |many m=>rw[bo.mp hd];exact h
 |rank b=>rw[bo.mp hd];cases b with|none=>trivial|some b=>exact h
 |turns s=>exact qQ7 rfl (ht s)
theorem Yj(F:lq K "_law_rule_text" "_law_rule_text" (top 48) f fd)(n:Na mg)(C:bE P w K mg base 1 "_law_dash" ["_law_thing"] (hV K Yh)):eX P w K mg base kF 2 f fd ["_law_rule_here"] (hV K Rrt):=
 jz F T3 (λ_ _ h=>by obtain⟨_,rfl,_⟩:=h;rfl) λ_ _ h=>by
  obtain⟨r,rfl,ho,rfl⟩:=h;intro h8 A outer s H E hr;have oR:ng (oM r):=by cases r<;>dsimp only[oM,ng]<;>symm
  have lT:Lay 20 (.str "turns"):=bH (by symm)
  have h0:sG (aQ (oM r)::rA r) 0=some (.str (oM r)):=cz (j:=0) rfl;by_cases ht:∃sh,r=.turns sh
  ·obtain⟨sh,rfl⟩:=ht
   have nc:(["_law_share"]:List Str).Nodup:=by symm
   refine df (dH (VT.to (bU (k:=1) hr (bH oR) lT (c0 (ai 0 rfl) aF h0) aO) (by rw[bJ];exact qQ1 rfl)) (bq (cn (nX (zs:=cX (.turns sh)) aO (VE.to (VO.ve (jY (d1:=[.str "turns"]) (d2:=(sh.map dF).map .str) (VO.ve (gG (av aO aX))) (VO.ve (VO.to (gw (own:=["_law_share"]) (cap:=[]) (N:=["_law_share"]) (cl:=[]) (tgt:=.one 0) (F:=T4) (ds:=sh.map .int) rfl ⟨rfl,by symm,by symm,rfl,rfl,by simp⟩ (vm (c0 (d:=.tuple (sh.map .int)) (ai 0 rfl) aF (cz (j:=1) rfl))) (λf s3 H3=>cp (i:=0) nc rfl (bB rfl)) rfl
    (small (by rw[aj];have:=ho.1;omega)) (λd hd=>?_)) (Kg _))) (small (by simp only[aj,a9,ck];have:=ho.1;omega)))) rfl) ?_)))) rfl
   ·obtain⟨z,hz,rfl⟩:=aN.mp hd
    refine⟨_,rfl,λf s3 H3=>gv,λr kT f s3 H3=>?_⟩
    cases kT;exact rU (ai 0 rfl) (dD.log (ho.2 z hz)) n.str
   ·have h1:=o_ (l:=cX (.turns sh)) (b:=6) λx hx=>by
     rcases aG.mp hx with rfl|hx
     ·decide
     ·obtain⟨z,hz,rfl⟩:=aN.mp hx
      exact ik (ho.2 z hz)
    have h2:(cX (.turns sh)).length=sh.length+1:=by simp[cX]
    have h3:=ho.1;have h4:(" ":Str).length=1:=by decide
    rw[h4];omega
  ·have Bu:∀sh,r≠.turns sh:=λsh z=>ht ⟨sh,z⟩
   have hw:oM r≠"turns":=by
    cases r with
    |turns sh=>exact qQ7 rfl (Bu sh)
    |_=>dsimp only[oM];symm
   have Kh:cX r=oM r::(rA r).map eI:=by
    cases r with
    |turns sh=>exact qQ7 rfl (Bu sh)
    |_=>rfl
   have hl:(rA r).length<=2:=by cases r<;>simp[rA]
   have Pn:(oM r).length<=8:=by cases r<;>dsimp only[oM]<;>symm
   have hok:=yo Bu ho;unfold o9;rw[Kh];unfold HJ
   generalize rA r=ra at *
   generalize oM r=qz at *
   have nc:(["_law_one"]:List Str).Nodup:=by symm
   have Ki:L2.cutD (aQ qz::ra) (some 1) none=ra:=(jw (aQ qz::ra) 1).trans rfl;refine aE (cv (VT.to (bU (k:=1) hr (bH oR) lT (c0 (ai 0 rfl) aF h0) aO) (by rw[bJ];exact qQ0 hw)) bQ) ?_
   refine bq (cn (nX (zs:=qz::ra.map eI) aO (VE.to (VO.ve (jY (d1:=[.str qz]) (d2:=(ra.map eI).map .str) (VO.ve (gG (av (c0 (ai 0 rfl) aF h0) aX))) (VO.ve (VO.to (gw (own:=["_law_one"]) (cap:=[]) (N:=["_law_one"]) (cl:=[]) (tgt:=.one 0) (F:=N_) (ds:=ra) rfl ⟨rfl,by symm,by symm,rfl,rfl,by simp⟩ (vm (VE.to (vk (ds:=.str qz::ra) (ai 0 rfl) (.yes aF) .no ?_) (by rw[Ki]))) (λf s3 H3=>cp (i:=0) nc rfl (bB rfl)) rfl
    (small (by omega)) (λd hd=>?_)) (HS _))) (small (by simp only[aj,a9,ck];omega)))) rfl) ?_))
   ·intro z
    have:=z.1;rw[show(1:Int)=((1:Nat):Int)from rfl,HT.pL,a9]at this
    omega
   ·refine⟨_,rfl,λf s3 H3=>gv,λr kT f s3 H3=>?_⟩
    cases kT;exact bN C hr (av (ai 0 rfl) aX) ⟨d,rfl,hok d hd,rfl⟩
   ·have h1:=o_ (l:=qz::ra.map eI) (b:=8) λx hx=>by
     rcases aG.mp hx with rfl|hx
     ·exact Pn
     ·obtain⟨z,hz,rfl⟩:=aN.mp hx
      exact j5 (hok z hz)
    have h2:(qz::ra.map eI).length=ra.length+1:=by simp
    have h4:(" ":Str).length=1:=by decide
    rw[h4];omega
end
def qf(p:Str×Option Int):Str:="kind "++p.1++" "++eI (nF p.2)
def mH(g:Str):Str:="gate "++g
def mI(p:Str×Int):Str:="line "++p.1++" "++dF p.2
def ni(d:Dk):Str:="desk "++d.name++" to "++eI (.str d.to)++" by "++o9 d.rule
def lE(d:Dk):Str:=ni d++" from "++cK " " d.places
def mJ(p:Str×Str×Int):Str:=cK " " ["time",p.1,p.2.1,dF p.2.2]
def oi(p:Str×Int×Int):Str:=cK " " ["open",p.1,dF p.2.1,dF p.2.2]
structure mK(p:Pl):Prop where
 kn:p.kinds.length<=60
 gn:p.gates.length<=60
 ln:p.lines.length<=60
 dn:p.desks.length<=60
 tn:p.times.length<=600
 hn:p.hours.length<=600
 kinds:∀q∈p.kinds,dW q.1/\EI (nF q.2)
 gates:∀g∈p.gates,dW g
 lines:∀q∈p.lines,dW q.1/\dD q.2
 desks:∀d∈p.desks,dW d.name/\(d.to=""\/dW d.to)/\yn d.rule/\d.places.length<=60/\∀x∈d.places,dW x
 times:∀q∈p.times,dW q.1/\dW q.2.1/\dD q.2.2
 hours:∀q∈p.hours,dW q.1/\dD q.2.1/\dD q.2.2
theorem dW.short{x:Str}(h:dW x):x.length<=8:=by
 have:=h.2.1;rw[cR]at this;exact this
theorem g7{y:Str}(hy:y.length<=1):∀{l:List Str}{b:Nat},(∀x∈l,x.length<=b)->(cK y l).length<=l.length*(b+1)
 | [],_,_=>by show 0<=_;exact bu _
 | [x],b,h=>by
  have:=h x aP;show x.length<=1*(b+1);omega
 |x::z::l,b,h=>by
  have h1:=h x aP;have h2:=g7 hy (l:=z::l) λu hu=>h u (aU _ hu)
  show(x++y++cK y (z::l)).length<=(z::l).length.succ*(b+1)
  rw[b0,b0,qJ];omega
theorem nq{r:Rl}(h:yn r):(o9 r).length<=700:=by
 have hl:(cX r).length<=61/\∀x∈cX r,x.length<=8:=by
  by_cases ht:∃sh,r=.turns sh
  ·obtain⟨sh,rfl⟩:=ht
   refine⟨by have:=h.1;simp[cX];omega,λx hx=>?_⟩
   rcases aG.mp hx with rfl|hx
   ·decide
   ·obtain⟨z,hz,rfl⟩:=aN.mp hx
    exact bZ (ik (h.2 z hz)) (by decide)
  ·have Bu:∀sh,r≠.turns sh:=λsh z=>ht ⟨sh,z⟩
   have hok:=yo Bu h;have Kh:cX r=oM r::(rA r).map eI:=by
    cases r with
    |turns sh=>exact qQ7 rfl (Bu sh)
    |_=>rfl
   have hl:(rA r).length<=2:=by cases r<;>simp[rA]
   have Pn:(oM r).length<=8:=by cases r<;>dsimp only[oM]<;>symm
   rw[Kh];refine⟨by rw[a9,aj];omega,λx hx=>?_⟩
   rcases aG.mp hx with rfl|hx
   ·exact Pn
   ·obtain⟨z,hz,rfl⟩:=aN.mp hx
    exact j5 (hok z hz)
 have:=g7 (y:=" ") (by decide) hl.2
 unfold o9;have h9:(cX r).length*(8+1)<=61*9:=eD hl.1 (aD _);omega
def Fkr:aq->Option aq
 | .tuple [.str a,k]=>some (.str ("kind "++a++" "++eI k))
 |_=>none
def Fgr:aq->Option aq
 | .str a=>some (.str (mH a))
 |_=>none
def Flr:aq->Option aq
 | .tuple [.str a,.int i]=>some (.str (mI (a,i)))
 |_=>none
def Ftr:aq->Option aq
 | .tuple [.str a,.str b,.int i]=>some (.str (mJ (a,b,i)))
 |_=>none
def Fhr:aq->Option aq
 | .tuple [.str a,.int i,.int j]=>some (.str (oi (a,i,j)))
 |_=>none
theorem MQ(l:List (Str×Option Int)):(l.map mB).filterMap Fkr=(l.map qf).map .str:=by
 rw[cQ,bA];exact filterMap_some λk _=>rfl
theorem MR(l:List Str):(l.map aQ).filterMap Fgr=(l.map mH).map .str:=by
 rw[cQ,bA];exact filterMap_some λk _=>rfl
theorem MS(l:List (Str×Int)):(l.map qv).filterMap Flr=(l.map mI).map .str:=by
 rw[cQ,bA];exact filterMap_some λk _=>rfl
theorem MT(l:List (Str×Str×Int)):(l.map sP).filterMap Ftr=(l.map mJ).map .str:=by
 rw[cQ,bA];exact filterMap_some λk _=>rfl
theorem MV(l:List (Str×Int×Int)):(l.map rB).filterMap Fhr=(l.map oi).map .str:=by
 rw[cQ,bA];exact filterMap_some λk _=>rfl
def mD(p:Pl):List Str:=p.kinds.map qf++p.gates.map mH++p.lines.map mI
def cO(p:Pl):List Str:=mD p++p.desks.map lE++p.times.map mJ++p.hours.map oi
def oj(p:Pl):Str:=cK "\n" (cO p)
section
variable{P:bC}{w:cw}{K:ao}{mg:Str->Option ay}{base:c6}{f:aL}{k:Nat}
abbrev Npt:List Str:=["_law_h","_law_rows","_law_name","_law_to","_law_rule_here","_law_places","_law_row","_law_gate","_law_kind","_law_burst","_law_gap"]
theorem Oa:c9 Npt ["_law_h"] (b9 (top 49)):=⟨rfl,rfl,rfl,by symm,rfl,by symm,by symm⟩
def Rpt(ds:List aq)(d:aq):Prop:=∃p,ds=[oF p]/\mK p/\d=.str (oj p)
theorem Yk(F:lq K "_law_plant_text" "_law_plant_text" (top 49) f fd)(n:Na mg)(C1:bE P w K mg base 1 "_law_dash" ["_law_thing"] (hV K Yh))(C2:bE P w K mg base 2 "_law_rule_text" ["_law_rule_here"] (hV K Rrt)):eX P w K mg base kF 3 f fd ["_law_h"] (hV K Rpt):=
 jz F Oa (λ_ _ h=>by obtain⟨_,rfl,_⟩:=h;rfl) λ_ _ h=>by
  obtain⟨p,rfl,ok,rfl⟩:=h;intro h8 A outer s H E hr;have nd:Npt.Nodup:=Oa.nd;have pY:fF 1 _:=hr.mono (by omega)
  have b1:=ok.kn;have b2:=ok.gn;have b3:=ok.ln;have b4:=ok.dn;have b5:=ok.tn;have b6:=ok.hn;have nk:(["_law_name","_law_keep"]:List Str).Nodup:=by symm
  refine aE (FY 1 (own:=["_law_name","_law_keep"]) (cap:=[]) (N:=["_law_name","_law_keep"]) (cl:=[]) (tgt:=.tup [0,1]) (F:=Fkr) (ds:=p.kinds.map mB) rfl ⟨rfl,by symm,by symm,rfl,rfl,by simp⟩ (je (nY pY (ai 0 rfl) aO (J6 p))) (λf s3 H3=>iS rfl (cD (cp (i:=0) nk rfl (bB rfl)) (cD (cp (i:=1) nk rfl (bB rfl)) gN))) rfl (small (by rw[aj];omega)) (λd hd=>?_) nd) ?_
  ·obtain⟨q,hq,rfl⟩:=aN.mp hd
   obtain⟨h1,h2⟩:=ok.kinds q hq;refine⟨_,rfl,λf s3 H3=>gv,λr kT f s3 H3=>?_⟩
   cases kT;have s1:=h1.short;have s2:=j5 h2;have e1:("kind ":Str).length=5:=by decide
   have e2:(" ":Str).length=1:=by decide
   exact iw (iw (iw aO (ai 0 rfl) (small (by omega))) aO (small (by simp only[b0];omega))) (bN C1 pY (av (ai 1 rfl) aX) ⟨_,rfl,h2,rfl⟩) (small (by simp only[b0];omega))
  rw[MQ];refine iA 1 rfl ?_
  have n1:(["_law_name"]:List Str).Nodup:=by symm
  refine aE (nU 1 (ds:=(p.kinds.map qf++p.gates.map mH).map .str) (VO.to (jY (d2:=(p.gates.map mH).map .str) (ai 1 rfl) (VO.ve (VO.to (gw (own:=["_law_name"]) (cap:=[]) (N:=["_law_name"]) (cl:=[]) (tgt:=.one 0) (F:=Fgr) (ds:=p.gates.map .str) rfl ⟨rfl,by symm,by symm,rfl,rfl,by simp⟩ (je (nY pY (ai 0 rfl) aO (J7 p))) (λf s3 H3=>cp (i:=0) n1 rfl (bB rfl)) rfl (small (by rw[aj];omega)) (λd hd=>?_)) (MR _))) (small (by simp only[aj];omega))) (by rw[bh])) nd) ?_
  ·obtain⟨q,hq,rfl⟩:=aN.mp hd
   have s1:=(ok.gates q hq).short;have e1:("gate ":Str).length=5:=by decide
   refine⟨_,rfl,λf s3 H3=>gv,λr kT f s3 H3=>?_⟩
   cases kT;exact iw aO (ai 0 rfl) (small (by omega))
  refine iA 1 rfl ?_
  have n2:(["_law_name","_law_room"]:List Str).Nodup:=by symm
  refine aE (nU 1 (ds:=(mD p).map .str) (VO.to (jY (d2:=(p.lines.map mI).map .str) (ai 1 rfl) (VO.ve (VO.to (gw (own:=["_law_name","_law_room"]) (cap:=[]) (N:=["_law_name","_law_room"]) (cl:=[]) (tgt:=.tup [0,1]) (F:=Flr) (ds:=p.lines.map qv) rfl ⟨rfl,by symm,by symm,rfl,rfl,by simp⟩ (je (nY pY (ai 0 rfl) aO (J8 p))) (λf s3 H3=>iS rfl (cD (cp (i:=0) n2 rfl (bB rfl)) (cD (cp (i:=1) n2 rfl (bB rfl)) gN))) rfl (small (by rw[aj];omega)) (λd hd=>?_)) (MS _))) (small (by simp only[aj,aV];omega))) (by unfold mD;rw[bh (l₂:=Fq mI _)])) nd) ?_
  ·obtain⟨⟨qa,qi⟩,hq,rfl⟩:=aN.mp hd
   obtain⟨h1,h2⟩:dW qa/\dD qi:=ok.lines (qa,qi) hq;have s1:=h1.short;have s2:=ik h2;have e1:("line ":Str).length=5:=by decide
   have e2:(" ":Str).length=1:=by decide
   refine⟨_,rfl,λf s3 H3=>gv,λr kT f s3 H3=>?_⟩
   cases kT;exact VE.to (iw (x:="line "++qa++" ") (y:=dF qi) (iw (x:="line "++qa) (iw (y:=qa) aO (ai 0 rfl) (small (by omega))) aO (small (by simp only[b0];omega))) (rU (ai 1 rfl) (dD.log h2) n.str) (small (by simp only[b0];omega))) rfl
  have r1:(mD p).length=p.kinds.length+p.gates.length+p.lines.length:=by unfold mD;simp only[aV,aj]
  refine aE (pS (tgt:=.tup [2,3,4,5]) (o:=.nx [.val (oF p),.own ((mD p++(p.desks.take p.desks.length).map lE).map .str),.un,.un,.un,.un,.un,.un,.un,.un,.un]) eV rfl (je (nY pY (ai 0 rfl) aO (J9 p)))
   (iS rfl (cD (cp (i:=2) nd rfl (by first|exact bB rfl|exact dm rfl)) (cD (cp (i:=3) nd rfl (by first|exact bB rfl|exact dm rfl)) (cD (cp (i:=4) nd rfl (by first|exact bB rfl|exact dm rfl)) (cD (cp (i:=5) nd rfl (by first|exact bB rfl|exact dm rfl)) gN))))) (λi=>[.val (oF p),.own ((mD p++(p.desks.take i).map lE).map .str),.un,.un,.un,.un,.un,.un,.un,.un,.un]) p.desks.length (by show([.val (oF p),.own ((mD p++(p.desks.take 0).map lE).map .str),.un,.un,.un,.un,.un,.un,.un,.un,.un]:List Slot)=_;rw[List.take_zero,gX,dC];rfl) (by rw[aj];exact aD _) (λi d hi hd=>?_) (.inl ⟨by rw[aj],rfl⟩)) ?_
  ·obtain⟨dk,Gg,rfl⟩:∃dk,p.desks[i]?=some dk/\d=fB dk:=by
    rw[aT,ax (by omega)]at hd
    cases hd;exact⟨_,ax (by omega),rfl⟩
   obtain⟨h1,h2,h3,h4,h5⟩:=ok.desks dk (bO Gg);have Rj:EI (.str dk.to):=h2;have s1:=h1.short;have s2:=j5 Rj;have s3:=nq h3;have s4:=g7 (y:=" ") (by decide) (l:=dk.places) (b:=8) λx hx=>(h5 x hx).short
   have s5:dk.places.length*(8+1)<=60*9:=eD h4 (aD _);have s6:=o_ (l:=dk.places) (b:=8) λx hx=>(h5 x hx).short
   have e1:("desk ":Str).length=5:=by decide
   have e2:(" to ":Str).length=4:=by decide
   have e3:(" by ":Str).length=4:=by decide
   have e4:(" from ":Str).length=6:=by decide
   have e5:(" ":Str).length=1:=by decide
   have eh:(ni dk).length<=800:=by unfold ni;simp only[b0];omega
   refine⟨_,rfl,?_⟩
   refine aE (bV 6 (d:=.str (ni dk)) (iw (iw (iw (iw (iw aO (ai 2 rfl) (small (by omega))) aO (small (by simp only[b0];omega))) (bN C1 pY (av (ai 3 rfl) aX) ⟨_,rfl,Rj,rfl⟩) (small (by simp only[b0];omega))) aO (small (by simp only[b0];omega))) (bN C2 hr (av (ai 4 rfl) aX) ⟨_,rfl,h3,rfl⟩) (small (by simp only[b0];omega))) nd) ?_
   refine kH (bq (j_ 1 rfl (d:=.str (lE dk)) (iw (iw (ai 6 rfl) aO (small (by omega))) (nX (zs:=dk.places) aO (VO.ve (G' Ba Mm (av (ai 5 rfl) aX) n.lst rfl)) (by rw[e5];omega)) (small (by simp only[b0];omega))) (jF (by simp only[aj,aV,bS];omega)))) ⟨.inr rfl,.inr ?_,.inl rfl,.inl rfl,.inl rfl,.inl rfl,.inl rfl,.inr rfl,.inr rfl,.inr rfl,.inr rfl,trivial⟩
   rw[eu,Gg];simp only[tW,bh,aR,gX,eU]
  rw[jJ];refine iA 1 rfl ?_
  have n3:(["_law_desk","_law_kind","_law_work"]:List Str).Nodup:=by symm
  refine aE (nU 1 (ds:=(mD p++p.desks.map lE++p.times.map mJ).map .str) (VO.to (jY (d2:=(p.times.map mJ).map .str) (ai 1 rfl) (VO.ve (VO.to (gw (own:=["_law_desk","_law_kind","_law_work"]) (cap:=[]) (N:=["_law_desk","_law_kind","_law_work"]) (cl:=[]) (tgt:=.tup [0,1,2]) (F:=Ftr) (ds:=p.times.map sP) rfl ⟨rfl,by symm,by symm,rfl,rfl,by simp⟩ (je (nY pY (ai 0 rfl) aO (J_ p))) (λf s3 H3=>iS rfl (cD (cp (i:=0) n3 rfl (bB rfl)) (cD (cp (i:=1) n3 rfl (bB rfl)) (cD (cp (i:=2) n3 rfl (bB rfl)) gN)))) rfl (small (by rw[aj];omega)) (λd hd=>?_)) (MT _))) (small (by simp only[aj,aV];omega))) (by rw[bh (l₂:=Fq mJ _)])) nd) ?_
  ·obtain⟨⟨qa,qb,qi⟩,hq,rfl⟩:=aN.mp hd
   obtain⟨h1,h2,h3⟩:dW qa/\dW qb/\dD qi:=ok.times (qa,qb,qi) hq;have s1:=h1.short;have s2:=h2.short;have s3:=ik h3;have e1:("time":Str).length=4:=by decide
   have e2:(" ":Str).length=1:=by decide
   refine⟨_,rfl,λf s3 H3=>gv,λr kT f s3 H3=>?_⟩
   cases kT;exact nX (zs:=["time",qa,qb,dF qi]) aO (VO.ve (gG (av aO (av (ai 0 rfl) (av (ai 1 rfl) (av (rU (ai 2 rfl) (dD.log h3) n.str) aX)))) (small (by show 4<=_;decide)))) (by rw[e2];simp only[aR,gX,ui,List.sum_nil,a9,ck];omega)
  refine iA 1 rfl ?_
  have n4:(["_law_desk","_law_begin","_law_end"]:List Str).Nodup:=by symm
  refine aE (nU 1 (ds:=(cO p).map .str) (VO.to (jY (d2:=(p.hours.map oi).map .str) (ai 1 rfl) (VO.ve (VO.to (gw (own:=["_law_desk","_law_begin","_law_end"]) (cap:=[]) (N:=["_law_desk","_law_begin","_law_end"]) (cl:=[]) (tgt:=.tup [0,1,2]) (F:=Fhr) (ds:=p.hours.map rB) rfl ⟨rfl,by symm,by symm,rfl,rfl,by simp⟩ (je (nY pY (ai 0 rfl) aO (J' p))) (λf s3 H3=>iS rfl (cD (cp (i:=0) n4 rfl (bB rfl)) (cD (cp (i:=1) n4 rfl (bB rfl)) (cD (cp (i:=2) n4 rfl (bB rfl)) gN)))) rfl (small (by rw[aj];omega)) (λd hd=>?_)) (MV _))) (small (by simp only[aj,aV];omega))) (by unfold cO;rw[bh (l₂:=Fq oi _)])) nd) ?_
  ·obtain⟨⟨qa,qb,qi⟩,hq,rfl⟩:=aN.mp hd
   obtain⟨h1,h2,h3⟩:dW qa/\dD qb/\dD qi:=ok.hours (qa,qb,qi) hq;have s1:=h1.short;have s2:=ik h2;have s3:=ik h3;have e1:("open":Str).length=4:=by decide
   have e2:(" ":Str).length=1:=by decide
   refine⟨_,rfl,λf s3 H3=>gv,λr kT f s3 H3=>?_⟩
   cases kT;exact nX (zs:=["open",qa,dF qb,dF qi]) aO (VO.ve (gG (av aO (av (ai 0 rfl) (av (rU (ai 1 rfl) (dD.log h2) n.str) (av (rU (ai 2 rfl) (dD.log h3) n.str) aX)))) (small (by show 4<=_;decide)))) (by rw[e2];simp only[aR,gX,ui,List.sum_nil,a9,ck];omega)
  refine aE (pS (tgt:=.tup [7,8,9,10]) (o:=.nx [.val (oF p),.own ((cO p).map .str),.un,.un,.un,.un,.un,.un,.un,.un,.un]) eV rfl (je (nY pY (ai 0 rfl) aO (Kc p)))
   (iS rfl (cD (cp (i:=7) nd rfl (by first|exact bB rfl|exact dm rfl)) (cD (cp (i:=8) nd rfl (by first|exact bB rfl|exact dm rfl)) (cD (cp (i:=9) nd rfl (by first|exact bB rfl|exact dm rfl)) (cD (cp (i:=10) nd rfl (by first|exact bB rfl|exact dm rfl)) gN))))) (λi=>[.val (oF p),.own ((cO p).map .str),.un,.un,.un,.un,.un,.un,.un,.un,.un]) 0 rfl (bu _) (λi d hi hd=>qQ7 hi (by omega)) (.inl ⟨rfl,rfl⟩)) ?_
  refine iA 1 rfl ?_
  refine bq (cn (nX (zs:=cO p) aO (ai 1 rfl) ?_))
  have e5:("\n":Str).length=1:=by decide
  have e2:(" ":Str).length=1:=by decide
  have hl:(cO p).length<=1440:=by unfold cO;simp only[aV,aj];omega
  have hs:=o_ (l:=cO p) (b:=2000) λx hx=>by
   unfold cO mD at hx;simp only[bX,aN]at hx;rcases hx with((((⟨q,hq,rfl⟩|⟨q,hq,rfl⟩)|⟨q,hq,rfl⟩)|⟨dk,hq,rfl⟩)|⟨q,hq,rfl⟩)|⟨q,hq,rfl⟩
   ·obtain⟨h1,h2⟩:=ok.kinds q hq
    have s1:=h1.short;have s2:=j5 h2;have e1:("kind ":Str).length=5:=by decide
    unfold qf;simp only[b0];omega
   ·have s1:=(ok.gates q hq).short
    have e1:("gate ":Str).length=5:=by decide
    unfold mH;simp only[b0];omega
   ·obtain⟨h1,h2⟩:=ok.lines q hq
    have s1:=h1.short;have s2:=ik h2;have e1:("line ":Str).length=5:=by decide
    unfold mI;simp only[b0];omega
   ·obtain⟨h1,h2,h3,h4,h5⟩:=ok.desks dk hq
    have Rj:EI (.str dk.to):=h2;have s1:=h1.short;have s2:=j5 Rj;have s3:=nq h3;have s4:=g7 (y:=" ") (by decide) (l:=dk.places) (b:=8) λx hx=>(h5 x hx).short
    have s5:dk.places.length*(8+1)<=60*9:=eD h4 (aD _);have e1:("desk ":Str).length=5:=by decide
    have e2:(" to ":Str).length=4:=by decide
    have e3:(" by ":Str).length=4:=by decide
    have e4:(" from ":Str).length=6:=by decide
    unfold lE ni;simp only[b0];omega
   ·obtain⟨h1,h2,h3⟩:=ok.times q hq
    have s1:=h1.short;have s2:=h2.short;have s3:=ik h3;have:=g7 (y:=" ") (by decide) (l:=["time",q.1,q.2.1,dF q.2.2]) (b:=8) λx hx=>by
     simp only[aG,bP,or_false]at hx;rcases hx with rfl|rfl|rfl|rfl
     ·decide
     ·exact s1
     ·exact s2
     ·omega
    unfold mJ;exact bZ this (by simp only[a9,ck];omega)
   ·obtain⟨h1,h2,h3⟩:=ok.hours q hq
    have s1:=h1.short;have s2:=ik h2;have s3:=ik h3;have:=g7 (y:=" ") (by decide) (l:=["open",q.1,dF q.2.1,dF q.2.2]) (b:=8) λx hx=>by
     simp only[aG,bP,or_false]at hx;rcases hx with rfl|rfl|rfl|rfl
     ·decide
     ·exact s1
     ·omega
     ·omega
    unfold oi;exact bZ this (by simp only[a9,ck];omega)
  have hb:(cO p).length*2000<=1440*2000:=eD hl (aD _);rw[e5];omega
end
end Mg
namespace Mg
open L2 PySem PyProof.Rows
variable{many:Nat}
theorem gW(a c:Int){b:Int}(hb:0<b)(hc:0<=c)(h:c+b<=1000000):dD (c+a%b):=by
 have a1:0<=a%b:=bw _ (by omega)
 have a2:a%b<b:=bG _ hb;exact⟨by omega,by omega⟩
theorem nr(a:Int){b:Int}(hb:0<b)(h:b<=1000000):dD (a%b):=by
 have:=gW a 0 hb (by omega) (by omega)
 rw[Int.zero_add]at this;exact this
theorem getD_mem{l:List Str}{k:Nat}(h:k<l.length):l.getD k ""∈l:=by
 rw[aI,ax h];exact dQ _
theorem MX(m:Int)(h:many<=60):yn (kI m many):=by
 unfold kI
 split
 ·trivial
 split
 ·exact⟨gW _ 1 (by decide) (by decide) (by decide),nr _ (by decide) (by decide)⟩
 split
 ·exact gW _ 1 (by decide) (by decide) (by decide)
 split
 ·split
  ·trivial
  ·exact nr _ (by decide) (by decide)
 split
 ·refine⟨by rw[aj,gI];exact h,λz hz=>?_⟩
  obtain⟨k,_,rfl⟩:=aN.mp hz;exact gW _ 1 (by decide) (by decide) (by decide)
 ·trivial
theorem yp(m:Int)(h:many<=12):iB (kI m many) many<=12:=by
 have a2:m/6%4<4:=bG _ (by decide)
 unfold kI
 split
 ·show(many:Int)<=12;omega
 split
 ·show 1+m/6%4<=12;omega
 split
 ·show 1+m/6%4<=12;omega
 split
 ·show(1:Int)<=12;omega
 split
 ·show(1:Int)<=12;omega
 ·show(1:Int)<=12;omega
theorem Gj{cell:Int}{places lines:List Str}(h1:1<=places.length)(h12:places.length<=12){d:Dk}(hd:d∈bW cell places lines):
  dW d.name/\d.to∈lines ++ [("":Str)]/\yn d.rule/\d.places.length<=places.length/\(∀x∈d.places,x∈places)/\iB d.rule d.places.length<=12:=by
 obtain⟨k,hk,rfl⟩:=aN.mp hd;have hk:=dG.mp hk;have tl:=gZ cell (j' cell places.length) places places.length;have vy:(dX cell (j' cell places.length) places places.length).getD k []∈dX cell (j' cell places.length) places places.length:=by
  rw[aI,ax (by omega)]
  exact dQ _
 obtain⟨r1,r2⟩:=rV cell _ places _ _ vy;refine⟨j3 (getD_mem (by rw[gY];exact hk)),(Bq cell lines k).2,MX _ (by omega),r1,r2 (aD _),yp _ (by omega)⟩
theorem Gk(ns:List Int):mK (gD ns):=by
 obtain⟨k1,k4⟩:=lO (gJ ns);obtain⟨g1,g3⟩:=jv (bR ns);obtain⟨p1,p6⟩:=kK (bR ns);have hll:(linesOf (bR ns)).length<=6:=by unfold linesOf;rw[b_];omega
 have K2:(orderOf (bR ns)).length=(placesOf (bR ns)).length:=by
  unfold orderOf;rw[aV,b_,bS];have:=rW (bR ns) (n:=(placesOf (bR ns)).length) (by omega)
  omega
 have VM:∀x∈placesOf (bR ns),dW x:=λx hx=>j3 hx
 have hon:∀x∈orderOf (bR ns),dW x:=λx hx=>by
  rcases bX.mp hx with hx|hx
  ·exact VM x (cW hx)
  ·exact VM x (cG hx)
 have Qw:∀x∈linesOf (bR ns),dW x:=λx hx=>VM x (cW hx)
 have hkl:(cH (gJ ns)).length=iW (gJ ns):=by simp[cH]
 have Qn:∀q∈cH (gJ ns),dW q.1/\EI (nF q.2):=λq hq=>by
  obtain⟨k,hk,rfl⟩:=aN.mp hq;have hk:=dG.mp hk;refine⟨j3 (getD_mem (by rw[gY];exact hk)),?_⟩
  show EI (nF (tG _));unfold tG
  split
  ·exact gW _ 1 (by decide) (by decide) (by decide)
  ·trivial
 have K3:(bW (fy ns) (orderOf (bR ns)) (linesOf (bR ns))).length<=4:=by rw[qd];exact(lN (fy ns) (by omega)).2.1
 have Gg:∀d∈bW (fy ns) (orderOf (bR ns)) (linesOf (bR ns)),_:=λd hd=>Gj (by omega) (by omega) hd
 have Rk:=p_ (fy ns) (bW (fy ns) (orderOf (bR ns)) (linesOf (bR ns))) (cH (gJ ns)) (by omega) _ (aD _)
 have hhl:=qc (fy ns) (bW (fy ns) (orderOf (bR ns)) (linesOf (bR ns))) _ (aD _)
 generalize hD:bW (fy ns) (orderOf (bR ns)) (linesOf (bR ns))=ia at *
 have e0:gD ns=⟨cH (gJ ns),kJ (bR ns),(cq (linesOf (bR ns)).length).map (roomAt (bR ns) ia (linesOf (bR ns))),ia,gB (fy ns) ia (cH (gJ ns)) ia.length,iG (fy ns) ia ia.length⟩:=by rw[<-hD];rfl
 rw[e0];refine⟨by show(cH (gJ ns)).length<=60;omega,?_,?_,by show ia.length<=60;omega,by show(gB _ _ _ _).length<=600;omega,by show(iG _ _ _).length<=600;omega,Qn,λg hg=>VM g (cG hg),λq hq=>?_,λd hd=>?_,λq hq=>?_,λq hq=>?_⟩
 ·show(kJ (bR ns)).length<=60
  unfold kJ;rw[bS];omega
 ·show((cq (linesOf (bR ns)).length).map _).length<=60
  rw[aj,gI];omega
 ·obtain⟨k,hk,rfl⟩:=aN.mp hq
  have hk:=dG.mp hk;refine⟨Qw _ (getD_mem hk),?_⟩
  have mo:=pZ (iX ia ((linesOf (bR ns)).getD k ""));have mb:maxOf (iX ia ((linesOf (bR ns)).getD k ""))<=12:=by
   rcases aG.mp mo.1 with h|h
   ·rw[h];decide
   ·obtain⟨d,hd,he⟩:=ku.mp h
    split at he
    ·rw[<-di he];exact(Gg d hd).2.2.2.2.2
    ·cases he
  have ml:=mo.2 1 aP;exact gW _ _ (by decide) (by omega) (by omega)
 ·obtain⟨d1,d2,d3,d4,d5,_⟩:=Gg d hd
  refine⟨d1,?_,d3,by omega,λx hx=>hon x (d5 x hx)⟩
  rcases bX.mp d2 with h|h
  ·exact .inr (Qw _ h)
  ·exact .inl (bo.mp h)
 ·obtain⟨⟨d,i⟩,hd,hq⟩:=wI.mp hq
  have Rm:d∈ia:=by
   have:=cG hd;exact jC this
  obtain⟨⟨kd,j⟩,hk,hq⟩:=ku.mp hq;have hkm:kd∈cH (gJ ns):=jC (cG hk);unfold tH at hq
  split at hq
  ·cases hq
   exact⟨(Gg d Rm).1,(Qn kd hkm).1,gW _ 1 (by decide) (by decide) (by decide)⟩
  ·cases hq
 ·obtain⟨⟨d,i⟩,hd,hq⟩:=wI.mp hq
  have Rm:d∈ia:=jC (cG hd);have hn:=(Gg d Rm).1;unfold jQ at hq
  split at hq
  ·rcases aG.mp hq with rfl|hq
   ·exact⟨hn,nr _ (by decide) (by decide),gW _ 9 (by decide) (by decide) (by decide)⟩
   ·rw[bo.mp hq]
    exact⟨hn,gW _ 25 (by decide) (by decide) (by decide),gW _ 50 (by decide) (by decide) (by decide)⟩
  ·cases hq
def iL(x:Str):Prop:=x≠""/\32∉x.cps.toList/\10∉x.cps.toList
theorem iL.one{x:Str}(h:iL x):wordsOf x=[x]:=vC h.1 h.2.1
theorem qg{l k:Str}(hl:l=k++" ")(hk:iL k)(x:Str):wordsOf (l++x)=k::wordsOf x:=by
 rw[hl,ly,hk.one];rfl
theorem tL{l k:Str}(hl:l=" "++k++" ")(hk:iL k)(x y:Str):wordsOf (x++l++y)=wordsOf x++k::wordsOf y:=by
 have e:x++l++y=x++" "++(k++" "++y):=by
  rw[hl];apply str_inj;simp only[add_list,eU]
 rw[e,ly,ly,hk.one];rfl
theorem rY{d:aq}(h:EI d):iL (eI d):=by
 have e:iL "-":=by unfold iL;symm
 cases d with
 |none=>exact e
 |int i=>exact nh h.1 h.2
 |str x=>
  show iL (if x="" then "-" else x)
  split
  ·exact e
  ·rename_i hx
   rcases h with h|h
   ·exact qQ7 h hx
   ·exact ic h
 |_=>exact h.elim
theorem tM{r:Rl}(h:yn r):∀w∈cX r,iL w:=by
 intro w hw;by_cases ht:∃sh,r=.turns sh
 ·obtain⟨sh,rfl⟩:=ht
  rcases aG.mp hw with rfl|hw
  ·unfold iL;symm
  ·obtain⟨z,hz,rfl⟩:=aN.mp hw
   exact nh (h.2 z hz).1 (h.2 z hz).2
 ·have Bu:∀sh,r≠.turns sh:=λsh z=>ht ⟨sh,z⟩
  have hok:=yo Bu h;have Kh:cX r=oM r::(rA r).map eI:=by
   cases r with
   |turns sh=>exact qQ7 rfl (Bu sh)
   |_=>rfl
  rw[Kh]at hw;rcases aG.mp hw with rfl|hw
  ·cases r<;>dsimp only[oM,iL]<;>symm
  ·obtain⟨z,hz,rfl⟩:=aN.mp hw
   exact rY (hok z hz)
theorem EJ{q:Str×Option Int}(h:dW q.1/\EI (nF q.2)):wordsOf (qf q)=[("kind":Str),q.1,eI (nF q.2)]:=by
 unfold qf;rw[ly,qg (k:="kind") (by symm) (by unfold iL;symm),(show iL q.1 from ic h.1).one,(rY h.2).one];rfl
theorem EK{g:Str}(h:dW g):wordsOf (mH g)=[("gate":Str),g]:=by
 unfold mH;rw[qg (k:="gate") (by symm) (by unfold iL;symm),(show iL g from ic h).one]
theorem EL{q:Str×Int}(h:dW q.1/\dD q.2):wordsOf (mI q)=[("line":Str),q.1,dF q.2]:=by
 unfold mI;rw[ly,qg (k:="line") (by symm) (by unfold iL;symm),(show iL q.1 from ic h.1).one,(show iL (dF q.2)from nh h.2.1 h.2.2).one];rfl
theorem ER{d:Dk}(h:dW d.name/\(d.to=""\/dW d.to)/\yn d.rule/\d.places.length<=60/\∀x∈d.places,dW x):wordsOf (lE d)=[("desk":Str),d.name,"to",eI (.str d.to),"by"]++cX d.rule ++ [("from":Str)]++d.places:=by
 obtain⟨h1,h2,h3,h4,h5⟩:=h;have Rj:EI (.str d.to):=h2;have hr:wordsOf (o9 d.rule)=cX d.rule:=oh λw hw=>⟨(tM h3 w hw).1,(tM h3 w hw).2.1⟩
 have hp:wordsOf (cK " " d.places)=d.places:=oh λw hw=>⟨(ic (h5 w hw)).1,(ic (h5 w hw)).2.1⟩
 unfold lE ni;rw[tL (k:="from") (by symm) (by unfold iL;symm),tL (k:="by") (by symm) (by unfold iL;symm),tL (k:="to") (by symm) (by unfold iL;symm),qg (k:="desk") (by symm) (by unfold iL;symm),(show iL d.name from ic h1).one,(rY Rj).one,hr,hp]
 simp
theorem EV{q:Str×Str×Int}(h:dW q.1/\dW q.2.1/\dD q.2.2):wordsOf (mJ q)=[("time":Str),q.1,q.2.1,dF q.2.2]:=by
 refine oh λw hw=>?_
 have:iL w:=by
  simp only[aG,bP,or_false]at hw;rcases hw with rfl|rfl|rfl|rfl
  ·unfold iL;symm
  ·exact ic h.1
  ·exact ic h.2.1
  ·exact nh h.2.2.1 h.2.2.2
 exact⟨this.1,this.2.1⟩
theorem EW{q:Str×Int×Int}(h:dW q.1/\dD q.2.1/\dD q.2.2):wordsOf (oi q)=[("open":Str),q.1,dF q.2.1,dF q.2.2]:=by
 refine oh λw hw=>?_
 have:iL w:=by
  simp only[aG,bP,or_false]at hw;rcases hw with rfl|rfl|rfl|rfl
  ·unfold iL;symm
  ·exact ic h.1
  ·exact nh h.2.1.1 h.2.1.2
  ·exact nh h.2.2.1 h.2.2.2
 exact⟨this.1,this.2.1⟩
end Mg
namespace Mg
open L2 PySem PyProof.Rows
seal L2.VE L2.VS L2.wB L2.VT L2.VO L2.L4
variable{p:aL}{fd:e9}{H:Hp}{n:Int}{l:List Str}{d:aq}{K:ao}{r:Rl}{x:Str}
inductive Sh where
 |name|number|count|share|kM|jf|kN
def Sh.tx:Sh->Str
 | .name=>"name"
 | .number=>"number"
 | .count=>"count"
 | .share=>"share"
 | .kM=>"count or -"
 | .jf=>"name or -"
 | .kN=>"number or -"
def jT(x:Str):Bool:=isNumber x && !decide (x="0")
def k9:Sh->Str->Bool
 | .name,x=>isName x
 | .number,x=>isNumber x
 | .count,x=>jT x
 | .share,x=>jT x&&decide ((x.length:Int)=1)
 | .kM,x=>decide (x="-")||jT x
 | .jf,x=>decide (x="-")||isName x
 | .kN,x=>decide (x="-")||isNumber x
def Bv(x:Str):Int:=(intText? x).getD 0
def iC:Sh->Str->aq
 | .name,x=>.str x
 | .jf,x=>.str (if x="-" then "" else x)
 |_,x=>if x="-" then .none else .int (Bv x)
def Sh.base:Sh->Bool
 | .name=>true
 | .number=>true
 | .count=>true
 |_=>false
theorem Sh.ok(s:Sh):ng s.tx:=by cases s<;>(show cP (.str _)=true)<;>symm
theorem yq(h:isNumber x=true):1<=x.length/\x.length<=6/\∀c∈x.cps.toList,48<=c/\c<=57:=by
 unfold isNumber at h;have h:=(fh.mp h).1;unfold oE at h;obtain⟨h1,h2⟩:=fh.mp h;obtain⟨h3,h4⟩:=fh.mp h1;have h3:=qQ4 h3;have h4:=qQ4 h4;refine⟨by omega,by omega,λc hc=>?_⟩
 have:=ef.mp h2 c hc;have e:Bj (one c) "0123456789"=decide (c∈("0123456789":Str).cps.toList):=uh ..;rw[e,C6]at this;obtain⟨i,hi,rfl⟩:=aN.mp (qQ4 this);have:=dG.mp hi;omega
theorem zr(h:isNumber x=true):intText? x=some (Bv x):=by
 obtain⟨h1,h2,h3⟩:=yq h;have hd:NumText.AllDigits x.cps.toList:=λc hc=>h3 c hc
 have hl:x.cps.toList.length=x.length:=cR;have e:=intText_digits hd (λz=>by rw[z]at hl;simp only[ck]at hl;omega) (by omega)
 unfold Bv;rw[e];rfl
theorem C7(h:dD n):Bv (dF n)=n:=by unfold Bv;rw[num_reads h.1 h.2];rfl
theorem qj(h:jT x=true):isNumber x=true:=(fh.mp h).1
theorem vX{s:Sh}(h:k9 s x=true)(h1:s≠.name)(h2:s≠.jf)(hx:x≠"-"):isNumber x=true:=by
 cases s with
 |name=>exact qQ7 rfl h1
 |jf=>exact qQ7 rfl h2
 |number=>exact h
 |count=>exact qj h
 |share=>exact qj (fh.mp h).1
 |kM=>
  rcases Bool.or_eq_true_iff.mp h with h|h
  ·exact qQ7 (qQ4 h) hx
  ·exact qj h
 |kN=>
  rcases Bool.or_eq_true_iff.mp h with h|h
  ·exact qQ7 (qQ4 h) hx
  ·exact h
section
variable{P:bC}{w:cw}{K:ao}{mg:Str->Option ay}{base:c6}{f:aL}{k:Nat}
abbrev Io:List Str:=["shape","word"]
theorem Ob:c9 Io Io (b9 (top 24)):=⟨rfl,rfl,rfl,by symm,rfl,by symm,by symm⟩
def Rn(b:Bool)(ds:List aq)(d:aq):Prop:=∃(s:Sh)(x:Str),ds=[.str s.tx,.str x]/\rq x/\(b=true\/s.base=true)/\d=.bool (k9 s x)
theorem aZ(h:cP (.str x)=true:=by symm):Lay 20 (.str x):=bH h
theorem T5{fb:Bool}(n:Na mg)(C1:bE P w K mg base 2 "is_name" ["word"] (hV K Rh))(C2:bE P w K mg base 2 "is_number" ["word"] (hV K VH))(k2:2<=k)(C3:fb=true->bE P w K mg base k "fits" Io (hV K (Rn false))){ds:List aq}(h:Rn fb ds d):z8 P w K mg base Io "fits" (top 24) f k ds (.rt d):=by
 obtain⟨s,x,rfl,ox,hb,rfl⟩:=h;intro h8 A outer sh H E hr;have Ri:fF 2 _:=hr.mono k2;have ls:=bH (n:=20) s.ok;have lx:=bH (n:=20) ox.2;cases s with
 |name=>exact df (dH (VT.to (bU hr ls aZ (ai 0 rfl) aO) (by rw[bJ];exact qQ1 rfl)) (bq (cn (bN C1 Ri (av (ai 1 rfl) aX) ⟨x,rfl,ox.1,rfl⟩)))) rfl
 |number=>
  refine aE (cv (VT.to (bU hr ls aZ (ai 0 rfl) aO) (by rw[bJ];symm)) bQ) ?_
  exact df (dH (VT.to (bU hr ls aZ (ai 0 rfl) aO) (by rw[bJ];exact qQ1 rfl)) (bq (cn (bN C2 Ri (av (ai 1 rfl) aX) ⟨x,rfl,ox,rfl⟩)))) rfl
 |count=>
  refine aE (cv (VT.to (bU hr ls aZ (ai 0 rfl) aO) (by rw[bJ];symm)) bQ) ?_
  refine aE (cv (VT.to (bU hr ls aZ (ai 0 rfl) aO) (by rw[bJ];symm)) bQ) ?_
  exact df (dH (VT.to (bU hr ls aZ (ai 0 rfl) aO) (by rw[bJ];exact qQ1 rfl)) (bq (cn (VE.to (m9 (bN C2 Ri (av (ai 1 rfl) aX) ⟨x,rfl,ox,rfl⟩) (λ_=>j0 (Jo hr lx aZ (ai 1 rfl) aO))) (by rw[bJ];rfl))))) rfl
 |share=>
  have C3:=C3 (hb.resolve_right (by decide))
  refine aE (cv (VT.to (bU hr ls aZ (ai 0 rfl) aO) (by rw[bJ];symm)) bQ) ?_
  refine aE (cv (VT.to (bU hr ls aZ (ai 0 rfl) aO) (by rw[bJ];symm)) bQ) ?_
  refine aE (cv (VT.to (bU hr ls aZ (ai 0 rfl) aO) (by rw[bJ];symm)) bQ) ?_
  exact df (dH (VT.to (bU hr ls aZ (ai 0 rfl) aO) (by rw[bJ];exact qQ1 rfl)) (bq (cn (VE.to (m9 (bN C3 hr (av aO (av (ai 1 rfl) aX)) ⟨.count,x,rfl,ox,.inr rfl,rfl⟩) (λ_=>j0 (sJ hr (dg 20 _) (dg 20 _) (F2 (ai 1 rfl) (small (by have:=ox.1;omega)) n.len) aF))) (by rw[nZ];rfl))))) rfl
 |kM=>
  have C3:=C3 (hb.resolve_right (by decide))
  refine aE (cv (VT.to (bU hr ls aZ (ai 0 rfl) aO) (by rw[bJ];symm)) bQ) ?_
  refine aE (cv (VT.to (bU hr ls aZ (ai 0 rfl) aO) (by rw[bJ];symm)) bQ) ?_
  refine aE (cv (VT.to (bU hr ls aZ (ai 0 rfl) aO) (by rw[bJ];symm)) bQ) ?_
  refine aE (cv (VT.to (bU hr ls aZ (ai 0 rfl) aO) (by rw[bJ];symm)) bQ) ?_
  have za:(bL (Sh.kM.tx) " ").map aQ=[.str "count",.str "or",.str "-"]:=by rw[show bL (Sh.kM.tx) " "=[("count":Str),"or","-"]from by symm];rfl
  exact bq (cn (VE.to (uB (sJ hr lx aZ (ai 1 rfl) aO) (λ_=>j0 (bN C3 hr (av (f7 (VE.to (VO.ve (oZ (ai 0 rfl) aO rfl (small (by decide)))) (by rw[za])) aF (cz (j:=0) rfl)) (av (ai 1 rfl) aX)) ⟨.count,x,rfl,ox,.inr rfl,rfl⟩))) (by rw[bJ];rfl)))
 |jf=>
  have C3:=C3 (hb.resolve_right (by decide))
  refine aE (cv (VT.to (bU hr ls aZ (ai 0 rfl) aO) (by rw[bJ];symm)) bQ) ?_
  refine aE (cv (VT.to (bU hr ls aZ (ai 0 rfl) aO) (by rw[bJ];symm)) bQ) ?_
  refine aE (cv (VT.to (bU hr ls aZ (ai 0 rfl) aO) (by rw[bJ];symm)) bQ) ?_
  refine aE (cv (VT.to (bU hr ls aZ (ai 0 rfl) aO) (by rw[bJ];symm)) bQ) ?_
  have za:(bL (Sh.jf.tx) " ").map aQ=[.str "name",.str "or",.str "-"]:=by rw[show bL (Sh.jf.tx) " "=[("name":Str),"or","-"]from by symm];rfl
  exact bq (cn (VE.to (uB (sJ hr lx aZ (ai 1 rfl) aO) (λ_=>j0 (bN C3 hr (av (f7 (VE.to (VO.ve (oZ (ai 0 rfl) aO rfl (small (by decide)))) (by rw[za])) aF (cz (j:=0) rfl)) (av (ai 1 rfl) aX)) ⟨.name,x,rfl,ox,.inr rfl,rfl⟩))) (by rw[bJ];rfl)))
 |kN=>
  have C3:=C3 (hb.resolve_right (by decide))
  refine aE (cv (VT.to (bU hr ls aZ (ai 0 rfl) aO) (by rw[bJ];symm)) bQ) ?_
  refine aE (cv (VT.to (bU hr ls aZ (ai 0 rfl) aO) (by rw[bJ];symm)) bQ) ?_
  refine aE (cv (VT.to (bU hr ls aZ (ai 0 rfl) aO) (by rw[bJ];symm)) bQ) ?_
  refine aE (cv (VT.to (bU hr ls aZ (ai 0 rfl) aO) (by rw[bJ];symm)) bQ) ?_
  have za:(bL (Sh.kN.tx) " ").map aQ=[.str "number",.str "or",.str "-"]:=by rw[show bL (Sh.kN.tx) " "=[("number":Str),"or","-"]from by symm];rfl
  exact bq (cn (VE.to (uB (sJ hr lx aZ (ai 1 rfl) aO) (λ_=>j0 (bN C3 hr (av (f7 (VE.to (VO.ve (oZ (ai 0 rfl) aO rfl (small (by decide)))) (by rw[za])) aF (cz (j:=0) rfl)) (av (ai 1 rfl) aX)) ⟨.number,x,rfl,ox,.inr rfl,rfl⟩))) (by rw[bJ];rfl)))
theorem T6(F:lq K "fits" "fits" (top 24) f fd)(n:Na mg)(C1:bE P w K mg base 2 "is_name" ["word"] (hV K Rh))(C2:bE P w K mg base 2 "is_number" ["word"] (hV K VH)):eX P w K mg base kF 3 f fd Io (hV K (Rn false)):=
 jz F Ob (λ_ _ h=>by obtain⟨_,_,rfl,_⟩:=h;rfl) λ_ _ h=>T5 n C1 C2 (aD _) (λz=>by cases z) h
theorem Yl(F:lq K "fits" "fits" (top 24) f fd)(n:Na mg)(C1:bE P w K mg base 2 "is_name" ["word"] (hV K Rh))(C2:bE P w K mg base 2 "is_number" ["word"] (hV K VH))(C3:bE P w K mg base 3 "fits" Io (hV K (Rn false))):eX P w K mg base kF 4 f fd Io (hV K (Rn true)):=
 jz F Ob (λ_ _ h=>by obtain⟨_,_,rfl,_⟩:=h;rfl) λ_ _ h=>T5 n C1 C2 (by decide) (λ_=>C3) h
theorem T7:c9 Io Io (b9 (top 25)):=⟨rfl,rfl,rfl,by symm,rfl,by symm,by symm⟩
def Rvo(ds:List aq)(d:aq):Prop:=∃(s:Sh)(x:Str),ds=[.str s.tx,.str x]/\rq x/\k9 s x=true/\d=iC s x
theorem Ym(F:lq K "value_of" "value_of" (top 25) f fd)(n:Na mg):eX P w K mg base kF 1 f fd Io (hV K Rvo):=
 jz F T7 (λ_ _ h=>by obtain⟨_,_,rfl,_⟩:=h;rfl) λ_ _ h=>by
  obtain⟨s,x,rfl,ox,hf,rfl⟩:=h;intro h8 A outer sh H E hr;have ls:=bH (n:=20) s.ok;have lx:=bH (n:=20) ox.2;by_cases h1:s=.name
  ·subst h1
   exact df (dH (VT.to (bU hr ls aZ (ai 0 rfl) aO) (by rw[bJ];exact qQ1 rfl)) (bq (cn (ai 1 rfl)))) rfl
  ·have d1:s.tx≠"name":=by cases s<;>first|exact qQ7 rfl h1|(dsimp only[Sh.tx];symm)
   refine aE (cv (VT.to (bU hr ls aZ (ai 0 rfl) aO) (by rw[bJ];exact qQ0 d1)) bQ) ?_
   by_cases h2:s=.jf
   ·subst h2
    refine df (dH (VT.to (bU hr ls aZ (ai 0 rfl) aO) (by rw[bJ];exact qQ1 rfl)) (bq (cn (rg (k:=decide (x="-")) (VT.to (bU hr lx aZ (ai 1 rfl) aO) (by rw[bJ])) (λz=>VE.to aO ?_) (λz=>VE.to (ai 1 rfl) ?_))))) rfl
    ·show aQ ""=.str (if x="-" then "" else x);rw[qQ3 (qQ4 z)]
    ·show aQ x=.str (if x="-" then "" else x);rw[qQ2 (qQ5 z)]
   ·have d2:s.tx≠"name or -":=by cases s<;>first|exact qQ7 rfl h2|exact qQ7 rfl h1|(dsimp only[Sh.tx];symm)
    have ev:iC s x=if x="-" then .none else .int (Bv x):=by cases s<;>first|exact qQ7 rfl h1|exact qQ7 rfl h2|rfl
    rw[ev];refine aE (cv (VT.to (bU hr ls aZ (ai 0 rfl) aO) (by rw[bJ];exact qQ0 d2)) bQ) ?_
    refine bq (cn (rg (k:=decide (x="-")) (VT.to (bU hr lx aZ (ai 1 rfl) aO) (by rw[bJ])) (λz=>VE.to eK (by rw[qQ3 (qQ4 z)])) (λz=>VE.to (L9 (ai 1 rfl) (zr (vX hf h1 h2 (qQ5 z))) (by have:=(yq (vX hf h1 h2 (qQ5 z))).2.1;omega) n.int) (by rw[qQ2 (qQ5 z)]))))
def tN(pj:List Sh):aq:=.tuple (pj.map λs=>.str s.tx)
def iM(pj:List Sh)(ws:List Str):Bool:=decide (ws.length=pj.length)&&(pj.zip ws).all λp=>k9 p.1 p.2
def jA(pj:List Sh)(ws:List Str):List aq:=(pj.zip ws).map λp=>iC p.1 p.2
def ft(pj:List Sh)(ws:List Str):aq:=if iM pj ws then .tuple (jA pj ws)else .none
abbrev MY:List Str:=["shapes","words"]
theorem T8:c9 MY MY (b9 (top 26)):=⟨rfl,rfl,rfl,by symm,rfl,by symm,by symm⟩
def Qx(ds:List aq)(d:aq):Prop:=∃(pj:List Sh)(ws:List Str),ds=[tN pj,cU ws]/\pj.length<=1000/\ws.length<=100002/\(∀x∈ws,rq x)/\d=ft pj ws
def C8(x:Str):Sh:=if x="name" then .name else if x="number" then .number else if x="count" then .count else if x="share" then .share else if x="count or -" then .kM else if x="name or -" then .jf else .kN
theorem uL(s:Sh):C8 s.tx=s:=by
 cases s<;>rfl
def Qy:aq->Option aq
 | .tuple [.str s,.str x]=>some (.bool (k9 (C8 s) x))
 |_=>none
def T9:aq->Option aq
 | .tuple [.str s,.str x]=>some (iC (C8 s) x)
 |_=>none
theorem rD:∀(pj:List Sh)(ws:List Str),xY (pj.map λs=>aQ s.tx) (ws.map aQ)=(pj.zip ws).map λp=>.tuple [.str p.1.tx,.str p.2]
 | [],_=>rfl
 |_::_,[]=>rfl
 |s::pj,x::ws=>by
  have:=rD pj ws;unfold xY at this ⊢;rw[aR,aR,kA,kA,aR,aR,this]
theorem C9(pj:List Sh)(ws:List Str):(xY (pj.map λs=>aQ s.tx) (ws.map aQ)).filterMap Qy=((pj.zip ws).map λp=>k9 p.1 p.2).map .bool:=by
 rw[rD,cQ,bA];exact filterMap_some λp _=>by show some (km (k9 (C8 p.1.tx) p.2))=_;rw[uL];rfl
theorem Kj(pj:List Sh)(ws:List Str):(xY (pj.map λs=>aQ s.tx) (ws.map aQ)).filterMap T9=jA pj ws:=by
 unfold jA;rw[rD,cQ];exact filterMap_some λp _=>by show some (iC (C8 p.1.tx) p.2)=_;rw[uL]
theorem Yn(F:lq K "values_of" "values_of" (top 26) f fd)(n:Na mg)(mz:mg "zip"=none)(C1:bE P w K mg base 4 "fits" Io (hV K (Rn true)))(C2:bE P w K mg base 1 "value_of" Io (hV K Rvo)):eX P w K mg base kF 5 f fd MY (hV K Qx):=
 jz F T8 (λ_ _ h=>by obtain⟨_,_,rfl,_⟩:=h;rfl) λ_ _ h=>by
  obtain⟨pj,ws,rfl,Ef,hw1,hok,rfl⟩:=h;intro h8 A outer sh H E hr;have pY:fF 1 _:=hr.mono (by omega)
  have nc:(["shape","word"]:List Str).Nodup:=by symm
  have hzl:(xY (pj.map λs=>aQ s.tx) (ws.map aQ)).length<=1000:=by rw[rD,aj,yR];omega
  have hlen:∀b,decide (ws.length=pj.length)=b->dE (.int ((ws.map aQ).length:Nat)) (.int ((pj.map λs=>aQ s.tx).length:Nat))=b:=λb hb=>by
   rw[nZ,aj,aj,<-hb,fH,decide_eq_true_iff,decide_eq_true_iff];omega
  have xK:∀d∈xY (pj.map λs=>aQ s.tx) (ws.map aQ),∃s x,d=.tuple [.str (Sh.tx s),.str x]/\(s,x)∈pj.zip ws/\rq x:=λd hd=>by
   rw[rD]at hd;obtain⟨p,hp,rfl⟩:=aN.mp hd;exact⟨p.1,p.2,rfl,hp,hok _ (qI hp).2⟩
  by_cases hl:ws.length=pj.length
  ·have uo:∀b,((pj.zip ws).all λp=>k9 p.1 p.2)=b->nW ((pj.zip ws).map λp=>k9 p.1 p.2)=b:=λb hb=>by
    unfold nW;rw[vM];exact hb
   by_cases ha:((pj.zip ws).all λp=>k9 p.1 p.2)=true
   ·have ev:ft pj ws=.tuple (jA pj ws):=by unfold ft iM;rw[ha,qQ1 hl];rfl
    rw[ev];refine aE (cv (VT.to (ju (k1:=false) (k2:=false) (VT.to (mZ hr (dg 20 _) (dg 20 _) (jE (ai 1 rfl) n.len) (kG (ai 0 rfl) n.len)) (by rw[hlen true (qQ1 hl)];rfl)) (λ_=>VT.to (Be (pQ (iV (oY rfl) Ab (av (VO.ve (VO.to (gw (own:=["shape","word"]) (cap:=[]) (N:=["shape","word"]) (cl:=[]) (tgt:=.tup [0,1]) (F:=Qy) rfl ⟨rfl,by symm,by symm,rfl,rfl,by simp⟩ (Ek .tup .lst (ai 0 rfl) (ai 1 rfl) mz) (λf s3 H3=>iS rfl (cD (cp (i:=0) nc rfl (bB rfl)) (cD (cp (i:=1) nc rfl (bB rfl)) gN))) rfl
     (small (by omega)) (λd hd=>?_)) (C9 pj ws))) aX) n.all rfl) (t:=true) (by show some _=some _;rw[uo true ha]))) rfl)) rfl) bQ) ?_
    ·obtain⟨s,x,rfl,hp,ox⟩:=xK d hd
     refine⟨_,rfl,λf s3 H3=>gv,λr kT f s3 H3=>?_⟩
     have kT:some (km (k9 (C8 s.tx) x))=some r:=kT;rw[uL]at kT;cases kT;exact bN C1 hr (av (ai 0 rfl) (av (ai 1 rfl) aX)) ⟨s,x,rfl,ox,.inl rfl,rfl⟩
    refine bq (cn (j9 jN uz (av (VO.ve (VO.to (gw (own:=["shape","word"]) (cap:=[]) (N:=["shape","word"]) (cl:=[]) (tgt:=.tup [0,1]) (F:=T9) rfl ⟨rfl,by symm,by symm,rfl,rfl,by simp⟩ (Ek .tup .lst (ai 0 rfl) (ai 1 rfl) mz) (λf s3 H3=>iS rfl (cD (cp (i:=0) nc rfl (bB rfl)) (cD (cp (i:=1) nc rfl (bB rfl)) gN))) rfl
     (small (by omega)) (λd hd=>?_)) (Kj pj ws))) aX) n.tup rfl))
    obtain⟨s,x,rfl,hp,ox⟩:=xK d hd;refine⟨_,rfl,λf s3 H3=>gv,λr kT f s3 H3=>?_⟩
    have kT:some (iC (C8 s.tx) x)=some r:=kT;rw[uL]at kT;cases kT;exact bN C2 pY (av (ai 0 rfl) (av (ai 1 rfl) aX)) ⟨s,x,rfl,ox,ef.mp ha (s,x) hp,rfl⟩
   ·have ha:=Bool.not_eq_true _▸ha
    have ev:ft pj ws=.none:=by unfold ft iM;rw[ha,zG];rfl
    rw[ev];refine df (dH (VT.to (ju (k1:=false) (k2:=true) (VT.to (mZ hr (dg 20 _) (dg 20 _) (jE (ai 1 rfl) n.len) (kG (ai 0 rfl) n.len)) (by rw[hlen true (qQ1 hl)];rfl)) (λ_=>VT.to (Be (pQ (iV (oY rfl) Ab (av (VO.ve (VO.to (gw (own:=["shape","word"]) (cap:=[]) (N:=["shape","word"]) (cl:=[]) (tgt:=.tup [0,1]) (F:=Qy) rfl ⟨rfl,by symm,by symm,rfl,rfl,by simp⟩ (Ek .tup .lst (ai 0 rfl) (ai 1 rfl) mz) (λf s3 H3=>iS rfl (cD (cp (i:=0) nc rfl (bB rfl)) (cD (cp (i:=1) nc rfl (bB rfl)) gN))) rfl
     (small (by omega)) (λd hd=>?_)) (C9 pj ws))) aX) n.all rfl) (t:=false) (by show some _=some _;rw[uo false ha]))) rfl)) rfl) (bq (cn eK))) rfl
    obtain⟨s,x,rfl,hp,ox⟩:=xK d hd;refine⟨_,rfl,λf s3 H3=>gv,λr kT f s3 H3=>?_⟩
    have kT:some (km (k9 (C8 s.tx) x))=some r:=kT;rw[uL]at kT;cases kT;exact bN C1 hr (av (ai 0 rfl) (av (ai 1 rfl) aX)) ⟨s,x,rfl,ox,.inl rfl,rfl⟩
  ·have ev:ft pj ws=.none:=by unfold ft iM;rw[qQ0 hl];rfl
   rw[ev];exact df (dH (VT.to (ju (k1:=true) (k2:=true) (VT.to (mZ hr (dg 20 _) (dg 20 _) (jE (ai 1 rfl) n.len) (kG (ai 0 rfl) n.len)) (by rw[hlen false (qQ0 hl)];rfl)) (λz=>by cases z)) rfl) (bq (cn eK))) rfl
end
def rE:Rl->Nat->Prop
 | .meet,n=>2<=n
 | .gather m a,_=>1<=m/\dD m/\dD a
 | .many m,_=>1<=m/\dD m
 | .rank none,_=>True
 | .rank (some b),_=>dD b
 | .turns s,n=>s.length=n/\∀z∈s,1<=z/\z<=9
 | .eldest,_=>True
theorem Qz(h:dD n)(hx:Bv x≠n):dF n≠x:=λz=>hx (by rw[<-z,C7 h])
theorem Kk(h:dD n):dF n≠"-":=λz=>by
 have hd:45∈(dF n).cps.toList:=by rw[z];symm
 have:=lz h.1 hd;omega
theorem mO(h:dD n)(h1:1<=n):jT (dF n)=true:=by
 unfold jT;rw[ym h.1 h.2,qQ0 (Qz h (by rw[show Bv "0"=0 from by symm];omega))]
 rfl
theorem HV(h1:1<=n)(h9:n<=9):k9 .share (dF n)=true:=by
 have hs:dD n:=⟨by omega,by omega⟩
 show(jT (dF n)&&decide (((dF n).length:Int)=1))=true
 rw[mO hs h1];rcases(by omega:n=1\/n=2\/n=3\/n=4\/n=5\/n=6\/n=7\/n=8\/n=9)with rfl|rfl|rfl|rfl|rfl|rfl|rfl|rfl|rfl<;>symm
theorem lF{s:Sh}(h:dD n)(h1:s≠.name)(h2:s≠.jf):iC s (dF n)=.int n:=by
 have e:iC s (dF n)=if dF n="-" then .none else .int (Bv (dF n)):=by cases s<;>first|exact qQ7 rfl h1|exact qQ7 rfl h2|rfl
 rw[e,qQ2 (Kk h),C7 h]
theorem uM:∀s:List Int,(∀z∈s,1<=z/\z<=9)->iM (aH s.length .share) (s.map dF)=true/\jA (aH s.length .share) (s.map dF)=s.map .int
 | [],_=>⟨rfl,rfl⟩
 |z::s,h=>by
  obtain⟨i1,i2⟩:=uM s λx hx=>h x (aU _ hx)
  obtain⟨z1,z9⟩:=h z aP;unfold iM at i1 ⊢;unfold jA at i2 ⊢;obtain⟨j1,j2⟩:=fh.mp i1;rw[a9,dv,aR,kA,List.all_cons,aR,aR,i2];refine⟨?_,?_⟩
  ·rw[j2,show k9 (Sh.share,dF z).1 (Sh.share,dF z).2=true from HV z1 z9]
   simp
  ·rw[show iC (Sh.share,dF z).1 (Sh.share,dF z).2=.int z from lF (s:=.share) ⟨by omega,by omega⟩ (by intro z;cases z) (by intro z;cases z)]
def rF:Rl->List Sh
 | .rank _=>[.kN]
 | .many _=>[.count]
 | .gather _ _=>[.count,.number]
 |_=>[]
theorem C_{n:Nat}(h:rE r n)(ht:∀s,r≠.turns s):iM (rF r) ((rA r).map eI)=true/\jA (rF r) ((rA r).map eI)=rA r:=by
 cases r with
 |meet=>exact⟨rfl,rfl⟩
 |eldest=>exact⟨rfl,rfl⟩
 |turns s=>exact qQ7 rfl (ht s)
 |many m=>
  obtain⟨h1,h2⟩:=h
  constructor
  ·show(true&&(jT (dF m)&&true))=true
   rw[mO h2 h1];rfl
  ·show [iC .count (dF m)]=[iU m]
   rw[lF h2 (by intro z;cases z) (by intro z;cases z)]
 |gather m a=>
  obtain⟨h1,h2,h3⟩:=h
  constructor
  ·show(true&&(jT (dF m)&&(isNumber (dF a)&&true)))=true
   rw[mO h2 h1,ym h3.1 h3.2];rfl
  ·show [iC .count (dF m),iC .number (dF a)]=[iU m,.int a]
   rw[lF h2 (by intro z;cases z) (by intro z;cases z),lF h3 (by intro z;cases z) (by intro z;cases z)]
 |rank b=>
  cases b with
  |none=>exact⟨by symm,rfl⟩
  |some b=>
   constructor
   ·show(true&&((decide (dF b="-")||isNumber (dF b))&&true))=true
    rw[ym h.1 h.2];simp
   ·show [iC .kN (dF b)]=[iU b]
    rw[lF h (by intro z;cases z) (by intro z;cases z)]
theorem rE.ok{n:Nat}(hn:n<=60)(h:rE r n):yn r:=by
 cases r with
 |meet=>trivial
 |eldest=>trivial
 |gather m a=>exact h.2
 |many m=>exact h.2
 |rank b=>cases b with|none=>trivial|some b=>exact h
 |turns s=>exact⟨by have:=h.1;omega,λz hz=>by have:=h.2 z hz;exact⟨by omega,by omega⟩⟩
abbrev jU:List (Str×List Str):=[("kind",[("name":Str),"count or -"]),("gate",[("name":Str)]),("line",[("name":Str),"count"]),("time",[("name":Str),"name","count"]),("open",[("name":Str),"number","number"]),("pace",[("name":Str),"name","count","count"])]
abbrev jV:List (Str×List Str):=[("eldest",[]),("rank",[("number or -":Str)]),("many",[("count":Str)]),("gather",[("count":Str),"number"]),("meet",[])]
structure Np(mg:Str->Option ay)(pr:AU)(K:ao):Prop extends Na mg where
 zip:mg "zip"=none
 set:mg "set"=none
 any:mg "any"=none
 mp:∃t,mg "MOST_PLACES"=some (.int 6 t)
 fo:∃g,mg "FORMS"=some (.ref g)/\GD pr K g jU
 ru:∃g,mg "RULES"=some (.ref g)/\GD pr K g jV
theorem uN{α:Type}(x:α):∀n,(aH n [x]).flatten=aH n x
 |0=>rfl
 |n+1=>by rw[dv,eM,uN x n];rfl
theorem pq(x:aq)(l:List aq):L2.cutD (x::l) (some 1) none=l:=(jw (x::l) 1).trans rfl
section
variable{P:bC}{w:cw}{K:ao}{mg:Str->Option ay}{base:c6}{f:aL}{k:Nat}
abbrev Kl:List Str:=["words","many","shares","values"]
theorem Bw:c9 Kl ["words","many"] (b9 (top 29)):=⟨rfl,rfl,rfl,by symm,rfl,by symm,by symm⟩
def T_(ds:List aq)(d:aq):Prop:=∃(r:Rl)(n:Nat),ds=[cU (cX r),.int n]/\1<=n/\n<=6/\rE r n/\d=HJ r
theorem Km:zX K (λx y H Q=>y=.non/\Q (.bl (decide (x=.non))) H) d .none (.bool (Kd d)):=kL
theorem Ua(F:lq K "rule_of" "rule_of" (top 29) f fd)(n:Np mg w.params K)(C:bE P w K mg base 5 "values_of" MY (hV K Qx)):eX P w K mg base kF 6 f fd ["words","many"] (hV K T_):=
 jz F Bw (λ_ _ h=>by obtain⟨_,_,rfl,_⟩:=h;rfl) λ_ _ h=>by
  obtain⟨r,m,rfl,m1,m6,hg,rfl⟩:=h;intro h8 A outer s H E hr;have nd:Kl.Nodup:=Bw.nd;have N4:=hg.ok (by omega)
  by_cases ht:∃sh,r=.turns sh
  ·obtain⟨sh,rfl⟩:=ht
   obtain⟨hl,hz⟩:=hg;obtain⟨v1,v2⟩:=uM sh hz;have ev:ft (aH m .share) (sh.map dF)=.tuple (sh.map .int):=by unfold ft;rw[<-hl,v1,v2];rfl
   refine df (dH (VT.to (bU hr aZ aZ (f7 (ai 0 rfl) aF (cz (j:=0) rfl)) aO) (by rw[bJ];exact qQ1 rfl)) (aE (bV 2 (d:=.tuple (sh.map .int)) (bN C hr (av (VE.to (F6 (gf (av aO aX)) (ai 1 rfl) (by omega) (by omega) (by show 1<=100;decide) (by simp)) (k:=tN (aH m .share)) (by rw[uN];unfold tN;rw[kz,eA];rfl)) (av (VE.to (VO.ve (eW (ai 0 rfl) (.yes aF) .no)) (k:=cU (sh.map dF)) (by show ko (L2.cutD (_::_) _ _)=_;rw[pq];rfl)) aX)) ⟨aH m .share,sh.map dF,rfl,by rw[cu];omega,by rw[aj];omega,λx hx=>?_,ev.symm⟩) nd) (bq (cn (rg (k:=false) (VT.to (fN iK kL (ai 2 rfl) eK (fE _)) rfl) (λz=>by cases z) (λ_=>VE.to (gf (av aO (av (ai 2 rfl) aX))) rfl)))))) rfl
   obtain⟨z,hz',rfl⟩:=aN.mp hx;have:=hz z hz';exact oH (by omega) (by omega)
  ·have Bu:∀sh,r≠.turns sh:=λsh z=>ht ⟨sh,z⟩
   obtain⟨v1,v2⟩:=C_ hg Bu;have Kh:cX r=oM r::(rA r).map eI:=by
    cases r with
    |turns sh=>exact qQ7 rfl (Bu sh)
    |_=>rfl
   have hw:oM r≠"turns":=by
    cases r with
    |turns sh=>exact qQ7 rfl (Bu sh)
    |_=>dsimp only[oM];symm
   have oR:ng (oM r):=by cases r<;>dsimp only[oM,ng]<;>symm
   have hk:gy jV (oM r)=some ((rF r).map Sh.tx):=by
    cases r with
    |turns sh=>exact qQ7 rfl (Bu sh)
    |meet=>symm
    |eldest=>symm
    |rank b=>show gy jV "rank"=some ([Sh.kN].map Sh.tx);symm
    |many m=>show gy jV "many"=some ([Sh.count].map Sh.tx);symm
    |gather m a=>show gy jV "gather"=some ([Sh.count,Sh.number].map Sh.tx);symm
   have hme:decide (oM r="meet")=true->¬(m:Int)<2:=by
    cases r with
    |meet=>intro _;have:2<=m:=hg;omega
    |turns sh=>exact qQ7 rfl (Bu sh)
    |eldest=>intro z;exact qQ7 z (by symm)
    |rank b=>intro z;exact qQ7 z (show ¬decide (("rank":Str)="meet")=true by symm)
    |many m=>intro z;exact qQ7 z (show ¬decide (("many":Str)="meet")=true by symm)
    |gather m a=>intro z;exact qQ7 z (show ¬decide (("gather":Str)="meet")=true by symm)
   have Ub:(rA r).length<=2:=by cases r<;>simp[rA]
   have hok:=yo Bu N4;have hsl:(rF r).length<=2:=by cases r<;>simp[rF]
   have ev:ft (rF r) ((rA r).map eI)=.tuple (rA r):=by unfold ft;rw[v1,v2];rfl
   rw[Kh];unfold HJ
   generalize hA:rA r=ra at *
   generalize hW:oM r=qz at *
   obtain⟨g1,q1,q2⟩:=n.ru;have a0:sG ((qz::ra.map eI).map aQ) 0=some (.str qz):=cz (j:=0) rfl;refine aE (cv (VT.to (bU hr (bH oR) aZ (f7 (ai 0 rfl) aF a0) aO) (by rw[bJ];exact qQ0 hw)) bQ) ?_
   refine aE (cv (VT.to (ju (k1:=false) (k2:=decide (qz="meet")&&decide ((m:Int)<2)) (VT.to (o7 q1 q2 (f7 (ai 0 rfl) aF a0)) (by rw[hk];rfl)) (λ_=>pP (VT.to (bU hr (bH oR) aZ (f7 (ai 0 rfl) aF a0) aO) (by rw[bJ])) (λ_=>zY (ai 1 rfl) aF))) ?_) bQ) ?_
   ·cases hd:decide (qz="meet") with
    |false=>rfl
    |true=>rw[qQ0 (hme hd)];rfl
   refine aE (bV 3 (d:=.tuple ra) (bN C hr (av (VE.to (wQ q1 q2 (f7 (ai 0 rfl) aF a0) hk) (k:=tN (rF r)) (by unfold tN;rw[bA];rfl)) (av (VE.to (VO.ve (eW (ai 0 rfl) (.yes aF) .no)) (k:=cU (ra.map eI)) (by show ko (L2.cutD (_::_) _ _)=_;rw[pq];rfl)) aX)) ⟨rF r,ra.map eI,rfl,by omega,by rw[aj];omega,λx hx=>?_,ev.symm⟩) nd) ?_
   ·obtain⟨z,hz,rfl⟩:=aN.mp hx
    have:=hok z hz;cases z with
    |none=>exact⟨by decide,by show cP (.str ("-":Str))=true;symm⟩
    |int i=>exact oH this.1 this.2
    |str x=>
     show rq (if x="" then "-" else x)
     split
     ·exact⟨by decide,by show cP (.str ("-":Str))=true;symm⟩
     ·rename_i hx
      exact(this.resolve_left hx).ok
    |_=>exact this.elim
   ·exact bq (cn (rg (k:=false) (VT.to (fN iK kL (ai 3 rfl) eK (fE _)) rfl) (λz=>by cases z) (λ_=>VE.to (uF (gf (av (f7 (ai 0 rfl) aF a0) aX)) (ai 3 rfl) (by simp) (small (by simp only[a9,ck];omega))) rfl)))
theorem Oc:c9 ["names"] ["names"] (b9 (top 30)):=⟨rfl,rfl,rfl,by symm,rfl,by symm,by symm⟩
def Kn(l:List Str):Prop:=1<=l.length/\l.length<=6/\l.Nodup/\∀x∈l,dW x
def Rap(ds:List aq)(d:aq):Prop:=∃l:List Str,ds=[.tuple (l.map .str)]/\Kn l/\d=.bool true
def Ko:aq->Option aq
 | .str x=>some (.bool (isName x))
 |_=>none
theorem Ar(l:List Str):(l.map aQ).filterMap Ko=(l.map isName).map .bool:=by
 rw[cQ,bA];exact filterMap_some λk _=>rfl
theorem Yo(F:lq K "are_places" "are_places" (top 30) f fd)(n:Np mg w.params K)(C:bE P w K mg base 2 "is_name" ["word"] (hV K Rh)):eX P w K mg base kF 3 f fd ["names"] (hV K Rap):=
 jz F Oc (λ_ _ h=>by obtain⟨_,rfl,_⟩:=h;rfl) λ_ _ h=>by
  obtain⟨l,rfl,⟨l1,l6,lnd,Uc⟩,rfl⟩:=h;intro h8 A outer s H E hr;obtain⟨t,m6⟩:=n.mp;have nc:(["name"]:List Str).Nodup:=by symm
  have hdd:dd [] l=l:=Cy (by simpa using lnd)
  have uo:nW (l.map isName)=true:=by
   unfold nW;rw[vM,ef];intro x hx;exact(Uc x hx).is
  refine bq (cn (VE.to (m9 (k1:=true) (VE.to (yf zN zN (zj 1 l.length) (zj l.length 6) aF (VE.to (kG (ai 0 rfl) n.len) (by rw[aj])) (λ_=>CN m6)) (by rw[qQ1 (by omega),qQ1 (by omega)];rfl)) (λ_=>m9 (k1:=true) (VE.to (iV (oY rfl) Ab (av (VO.ve (VO.to (gw (own:=["name"]) (cap:=[]) (N:=["name"]) (cl:=[]) (tgt:=.one 0) (F:=Ko) (ds:=l.map aQ) rfl ⟨rfl,by symm,by symm,rfl,rfl,by simp⟩ (vm (ai 0 rfl)) (λf s3 H3=>cp (i:=0) nc rfl (bB rfl)) rfl
   (small (by rw[aj];omega)) (λd hd=>?_)) (Ar _))) aX) n.all rfl) (by rw[uo])) (λ_=>j0 (sJ hr (dg 20 _) (dg 20 _) (vS (ai 0 rfl) (by omega) rfl n.len n.set) (kG (ai 0 rfl) n.len))))) ?_))
  ·obtain⟨z,hz,rfl⟩:=aN.mp hd
   refine⟨_,rfl,λf s3 H3=>gv,λr kT f s3 H3=>?_⟩
   cases kT;exact bN C hr (av (ai 0 rfl) aX) ⟨z,rfl,(Uc z hz).ok.1,rfl⟩
  ·rw[nZ,hdd,aj,qQ1 rfl];rfl
end
inductive Ent where
 |kind (n:Str) (k:Option Int)
 |gate (n:Str)
 |line (n:Str) (r:Int)
 |desk (d:Dk)
 |time (d k:Str) (w:Int)
 |hour (d:Str) (a b:Int)
variable{e:Ent}
def Ent.form:Ent->Str
 | .kind _ _=>"kind"
 | .gate _=>"gate"
 | .line _ _=>"line"
 | .desk _=>"desk"
 | .time _ _ _=>"time"
 | .hour _ _ _=>"open"
def Ent.rest:Ent->List aq
 | .kind n k=>[.str n,nF k]
 | .gate n=>[.str n]
 | .line n r=>[.str n,.int r]
 | .desk d=>[.str d.name,.str d.to,HJ d.rule,.tuple (d.places.map .str)]
 | .time d k w=>[.str d,.str k,.int w]
 | .hour d a b=>[.str d,.int a,.int b]
def Dc(e:Ent):aq:=.tuple (.str e.form::e.rest)
def jg(d:Dk):List Str:=[("desk":Str),d.name,"to",eI (.str d.to),"by"]++cX d.rule ++ [("from":Str)]++d.places
def uO:Ent->List Str
 | .kind n k=>[("kind":Str),n,eI (nF k)]
 | .gate n=>[("gate":Str),n]
 | .line n r=>[("line":Str),n,dF r]
 | .desk d=>jg d
 | .time d k w=>[("time":Str),d,k,dF w]
 | .hour d a b=>[("open":Str),d,dF a,dF b]
def EX(d:Dk):Prop:=dW d.name/\(d.to=""\/dW d.to)/\rE d.rule d.places.length/\Kn d.places
def sS:Ent->Prop
 | .kind n k=>dW n/\∀i,k=some i->1<=i/\dD i
 | .gate n=>dW n
 | .line n r=>dW n/\1<=r/\dD r
 | .desk d=>EX d
 | .time d k w=>dW d/\dW k/\1<=w/\dD w
 | .hour d a b=>dW d/\dD a/\dD b/\a<b
theorem Bx(h:dW x):x≠"-":=λz=>by
 have hd:45∈x.cps.toList:=by rw[z];symm
 have:=h.2.2 _ hd;omega
theorem HW(h:dW x):eI (.str x)=x:=by
 show(if x="" then("-":Str)else x)=x
 rw[qQ2 (ic h).1]
theorem uP(h:EI d):rq (eI d):=by
 have h0:rq "-":=⟨by decide,by show cP (.str ("-":Str))=true;symm⟩
 cases d with
 |none=>exact h0
 |int i=>exact oH h.1 h.2
 |str x=>
  show rq (if x="" then "-" else x)
  split
  ·exact h0
  ·rename_i hx
   exact(h.resolve_left hx).ok
 |_=>exact h.elim
theorem Dd(h:yn r):∀x∈cX r,rq x:=by
 intro x hx;by_cases ht:∃sh,r=.turns sh
 ·obtain⟨sh,rfl⟩:=ht
  rcases aG.mp hx with rfl|hx
  ·exact⟨by decide,by show cP (.str ("turns":Str))=true;symm⟩
  ·obtain⟨z,hz,rfl⟩:=aN.mp hx
   exact oH (h.2 z hz).1 (h.2 z hz).2
 ·have Bu:∀sh,r≠.turns sh:=λsh z=>ht ⟨sh,z⟩
  have Kh:cX r=oM r::(rA r).map eI:=by
   cases r with
   |turns sh=>exact qQ7 rfl (Bu sh)
   |_=>rfl
  rw[Kh]at hx;rcases aG.mp hx with rfl|hx
  ·cases r<;>(refine⟨?_,?_⟩<;>dsimp only[oM,ng]<;>symm)
  ·obtain⟨z,hz,rfl⟩:=aN.mp hx
   exact uP (yo Bu h z hz)
theorem Kq{n:Nat}(hn:n<=6)(h:rE r n):1<=(cX r).length/\(cX r).length<=7:=by
 cases r with
 |turns s=>have:=h.1;simp[cX];omega
 |_=>simp[cX,rA]
theorem Bz(h:yn r):∀x∈(cX r).drop 1,x≠"from":=by
 have hd:∀d,EI d->(∀x,d≠.str x)->eI d≠"from":=by
  intro d hd hs;cases d with
  |none=>symm
  |int i=>
   intro z;have:102∈(dF i).cps.toList:=by
    have z:dF i="from":=z;rw[z];symm
   have:=lz hd.1 this;omega
  |str x=>exact qQ7 rfl (hs x)
  |_=>exact hd.elim
 intro x hx;cases r with
 |turns s=>
  obtain⟨z,hz,rfl⟩:=aN.mp (show x∈s.map dF from hx)
  exact hd (.int z) (h.2 z hz) (by intro x z;cases z)
 |meet=>cases hx
 |eldest=>cases hx
 |gather m a=>
  simp only[cX,rA,aR,gX,tX,kZ,aG,bP,or_false]at hx;rcases hx with rfl|rfl
  ·exact hd (.int m) h.1 (by intro x z;cases z)
  ·exact hd (.int a) h.2 (by intro x z;cases z)
 |many m=>
  simp only[cX,rA,aR,gX,tX,kZ,aG,bP,or_false]at hx;rw[hx];exact hd (.int m) h (by intro x z;cases z)
 |rank b=>
  simp only[cX,rA,aR,gX,tX,kZ,aG,bP,or_false]at hx;rw[hx];cases b with
  |none=>exact hd .none trivial (by intro x z;cases z)
  |some b=>exact hd (.int b) h (by intro x z;cases z)
section
variable{P:bC}{w:cw}{K:ao}{mg:Str->Option ay}{base:c6}{f:aL}{k:Nat}
abbrev Ud:List Str:=["words","end","head","places","rule"]
theorem Gm:c9 Ud ["words"] (b9 (top 28)):=⟨rfl,rfl,rfl,by symm,rfl,by symm,by symm⟩
def Rde(ds:List aq)(d:aq):Prop:=∃q:Dk,ds=[cU (jg q)]/\EX q/\d=Dc (.desk q)
theorem Ue{α:Type}(l:List α)(a b:Nat)(ha:a<=b)(hb:b<=l.length):L2.cutD l (some (a:Int)) (some (b:Int))=(l.drop a).take (b-a):=by
 unfold L2.cutD;rw[HT.pL,HT.pL,ky hb,ky (show a<=l.length by omega)]
theorem uQ(h:∀x∈l,rq x):Lay 20 (cU l):=FZ (n:=19) λd hd=>by
 obtain⟨x,hx,rfl⟩:=aN.mp hd;exact bH (h x hx).2
theorem lA(x:Str)(l:List Str):uy (.str x) (.list (l.map aQ))=decide (x∈l):=by
 show((l.map aQ).any λy=>dE y (.str x))=_
 rw[List.any_map]
 induction l with
 |nil=>rfl
 |cons y l ih=>
  rw[uf,ih]
  show(dE (.str y) (.str x)||decide (x∈l))=_
  rw[bJ,fH];simp only[yN,decide_eq_true_eq,aG]
  constructor
  ·rintro(h|h)
   ·exact .inl h.symm
   ·exact .inr h
  ·rintro(h|h)
   ·exact .inl h.symm
   ·exact .inr h
theorem Yp(F:lq K "desk_entry" "desk_entry" (top 28) f fd)(n:Np mg w.params K)(C1:bE P w K mg base 5 "values_of" MY (hV K Qx))(C2:bE P w K mg base 6 "rule_of" ["words","many"] (hV K T_))(C3:bE P w K mg base 3 "are_places" ["names"] (hV K Rap)):eX P w K mg base kF 7 f fd ["words"] (hV K Rde):=
 jz F Gm (λ_ _ h=>by obtain⟨_,rfl,_⟩:=h;rfl) λ_ _ h=>by
  obtain⟨q,rfl,⟨hn,VL,N8,NT⟩,rfl⟩:=h;intro h8 A outer s H E hr;have nd:Ud.Nodup:=Gm.nd;have Yq:=NT;obtain⟨p1,p6,Yr,pnm⟩:=Yq;have N4:=N8.ok (by omega)
  obtain⟨r1,r7⟩:=Kq p6 N8;have rok:=Dd N4;have rnf:=Bz N4;have Ug:rq (eI (.str q.to)):=uP (d:=.str q.to) VL;obtain⟨Ys,rest,MZ⟩:∃a l,cX q.rule=a::l:=by
   cases e:cX q.rule with
   |nil=>rw[e]at r1;simp at r1
   |cons a l=>exact⟨a,l,rfl⟩
  have Uh:rq "from":=⟨by decide,by show cP (.str ("from":Str))=true;symm⟩
  have hW:jg q=("desk":Str)::q.name::"to"::eI (.str q.to)::"by"::Ys::(rest++("from":Str)::q.places):=by
   unfold jg;rw[MZ];simp
  have Yt:∀x∈rest,rq x:=λx hx=>rok x (by rw[MZ];exact aU _ hx)
  have Yu:∀x∈rest,x≠"from":=λx hx=>rnf x (by rw[MZ];exact hx)
  have zdE:rest.length<=6:=by rw[MZ]at r7;simp at r7;omega
  have lit:∀x:Str,cP (.str x)=true->x.length<=100000->rq x:=λx h1 h2=>⟨h2,h1⟩
  have hok:∀x∈jg q,rq x:=by
   intro x hx;rw[hW]at hx;simp only[aG,bX]at hx;rcases hx with rfl|rfl|rfl|rfl|rfl|rfl|hx|rfl|hx
   ·exact lit _ (by symm) (by decide)
   ·exact hn.ok
   ·exact lit _ (by symm) (by decide)
   ·exact Ug
   ·exact lit _ (by symm) (by decide)
   ·exact rok _ (by rw[MZ];exact aP)
   ·exact Yt x hx
   ·exact Uh
   ·exact(pnm x hx).ok
  have hlay:=uQ hok;have hlen:(jg q).length=7+rest.length+q.places.length:=by rw[hW];simp;omega
  have Ui:(jg q).drop 6=rest++("from":Str)::q.places:=by rw[hW];rfl
  have Gn:L2.cutD ((jg q).map aQ) (some 6) none=(rest++("from":Str)::q.places).map aQ:=by rw[<-Ui,jh];exact jw _ 6
  have Gp:Lay 20 (.list ((rest++("from":Str)::q.places).map aQ)):=uQ λx hx=>by
   refine hok x ?_
   rw[<-Ui]at hx;exact cW hx
  have As:Lay 20 (.str "from"):=aZ;have BD:∀(j:Nat)(x:Str),(jg q)[j]?=some x->sG ((jg q).map aQ) (j:Int)=some (.str x):=λj x h=>cz (by rw[aT,h];rfl)
  have g1:(jg q)[1]?=some q.name:=by rw[hW];rfl
  have g2:(jg q)[2]?=some ("to":Str):=by rw[hW];rfl
  have g3:(jg q)[3]?=some (eI (.str q.to)):=by rw[hW];rfl
  have g4:(jg q)[4]?=some ("by":Str):=by rw[hW];rfl
  have Mb:(jg q)[6+rest.length]?=some ("from":Str):=by
   have:(jg q)[6+rest.length]?=((jg q).drop 6)[rest.length]?:=by rw[nH]
   rw[this,Ui,cy (aD _),DM];rfl
  have sv:∀j (h:j<(jg q).length),6<=j->j<6+rest.length->(jg q)[j]≠"from":=by
   intro j h j6 jr;have:(jg q)[j]?=((jg q).drop 6)[j-6]?:=by rw[nH];congr 1;omega
   rw[Ui,cC (by omega),ax h,ax (by omega)]at this
   rw[di this];exact Yu _ (dQ _)
  have BF:L2.cutD ((jg q).map aQ) (some ((6+rest.length:Nat)+1:Int)) none=q.places.map aQ:=by
   rw[show((6+rest.length:Nat)+1:Int)=((6+rest.length+1:Nat):Int)from by omega,jw,<-jh]
   congr 1
   rw[show 6+rest.length+1=6+(rest.length+1)from by omega,<-List.drop_drop,Ui,List.drop_append,qE (by omega),show rest.length+1-rest.length=1 from by omega]
   rfl
  have Kr:L2.cutD ((jg q).map aQ) (some 5) (some ((6+rest.length:Nat):Int))=(cX q.rule).map aQ:=by
   rw[show(5:Int)=((5:Nat):Int)from rfl,Ue _ 5 (6+rest.length) (by omega) (by rw[aj];omega),<-jh,<-mh]
   congr 1
   rw[hW,MZ]
   show((Ys::(rest++("from":Str)::q.places))).take (6+rest.length-5)=Ys::rest
   rw[show 6+rest.length-5=rest.length+1 from by omega,List.take_succ_cons,List.take_left' rfl]
  refine aE (cv (VT.to (xQ (k1:=false) (k2:=false) (k3:=false) (VT.to (xP hr rfl As Gp aO (VE.to (VO.ve (eW (ai 0 rfl) (.yes aF) .no)) (by rw[Gn]))) (by rw[lA,qQ1 (by simp)];rfl)) (λ_=>VT.to (mZ hr aZ aZ (f7 (ai 0 rfl) aF (BD 2 _ g2)) aO) (by rw[bJ,qQ1 rfl];rfl)) (λ_ _=>VT.to (mZ hr aZ aZ (f7 (ai 0 rfl) aF (BD 4 _ g4)) aO) (by rw[bJ,qQ1 rfl];rfl))) rfl) bQ) ?_
  refine aE (bV 1 (d:=.int ((6+rest.length:Nat):Int)) (Ac (i:=6) (j:=6+rest.length) hr (ai 0 rfl) aO aF hlay As (by omega) ⟨by rw[aj];omega,?_⟩ (λj h j6 jr=>?_)) nd) ?_
  ·have:(jg q)[6+rest.length]'(by omega)="from":=by
    rw[ax (by omega)]at Mb
    exact di Mb
   rw[qo,bJ,this];exact qQ1 rfl
  ·rw[aj]at h
   rw[qo,bJ];exact qQ0 (sv j h j6 jr)
  have IQ:ft [.name,.jf] [q.name,eI (.str q.to)]=.tuple [.str q.name,.str q.to]:=by
   have f2:k9 .jf (eI (.str q.to))=true/\iC .jf (eI (.str q.to))=.str q.to:=by
    rcases VL with h|h
    ·rw[h];exact⟨by symm,rfl⟩
    ·rw[HW h]
     refine⟨?_,?_⟩
     ·show(decide (q.to="-")||isName q.to)=true
      rw[h.is,vK]
     ·show aQ (if q.to="-" then "" else q.to)=_
      rw[qQ2 (Bx h)]
   unfold ft iM jA
   show(if(true&&(isName q.name&&(k9 .jf (eI (.str q.to))&&true)))=true then fX [.str q.name,iC .jf (eI (.str q.to))]else .none)=_
   rw[hn.is,f2.1,f2.2];rfl
  refine aE (bV 2 (d:=.tuple [.str q.name,.str q.to]) (bN C1 (hr.mono (by omega)) (av (VE.to (gf (av aO (av aO aX))) (k:=tN [.name,.jf]) rfl) (av (VE.to (VO.ve (gG (av (f7 (ai 0 rfl) aF (BD 1 _ g1)) (av (f7 (ai 0 rfl) aF (BD 3 _ g3)) aX)))) (k:=cU [q.name,eI (.str q.to)]) rfl) aX)) ⟨_,_,rfl,by show 2<=1000;decide,by show 2<=100002;decide,λx hx=>?_,IQ.symm⟩) nd) ?_
  ·simp only[aG,bP,or_false]at hx
   rcases hx with rfl|rfl
   ·exact hn.ok
   ·exact Ug
  refine aE (bV 3 (d:=.tuple (q.places.map .str)) (j9 jN uz (av (VE.to (VO.ve (eW (ai 0 rfl) (.yes (eL (ai 1 rfl) aF)) .no)) (by rw[BF])) aX) n.tup rfl) nd) ?_
  refine aE (bV 4 (d:=HJ q.rule) (bN C2 hr (av (VE.to (VO.ve (eW (ai 0 rfl) (.yes aF) (.yes (ai 1 rfl)))) (k:=cU (cX q.rule)) (by rw[Kr];rfl)) (av (VE.to (kG (ai 3 rfl) n.len) (by rw[aj])) aX)) ⟨q.rule,q.places.length,rfl,p1,p6,N8,rfl⟩) nd) ?_
  refine aE (cv (VT.to (xQ (k1:=false) (k2:=false) (k3:=false) (VT.to (fN iK kL (ai 2 rfl) eK (fE _)) rfl) (λ_=>VT.to (fN iK kL (ai 4 rfl) eK (fE _)) rfl) (λ_ _=>VT.to (Be (pQ (bN C3 (hr.mono (by omega)) (av (ai 3 rfl) aX) ⟨q.places,rfl,NT,rfl⟩) rfl)) rfl)) rfl) bQ) ?_
  exact bq (cn (VE.to (gf (av aO (av (c0 (ai 2 rfl) aF (cz (j:=0) rfl)) (av (c0 (ai 2 rfl) aF (cz (j:=1) rfl)) (av (ai 4 rfl) (av (ai 3 rfl) aX)))))) rfl))
abbrev Yv:List Str:=["words","form","values"]
theorem Gq:c9 Yv ["words"] (b9 (top 27)):=⟨rfl,rfl,rfl,by symm,rfl,by symm,by symm⟩
def Yw(ds:List aq)(d:aq):Prop:=∃e:Ent,ds=[cU (uO e)]/\sS e/\d=Dc e
def Au:Ent->List Sh
 | .kind _ _=>[.name,.kM]
 | .gate _=>[.name]
 | .line _ _=>[.name,.count]
 | .desk _=>[]
 | .time _ _ _=>[.name,.name,.count]
 | .hour _ _ _=>[.name,.number,.number]
theorem EY(h:sS e)(hd:∀q,e≠.desk q):∃ws,uO e=e.form::ws/\ws.length<=3/\(∀x∈ws,rq x)/\ft (Au e) ws=.tuple e.rest/\gy jU e.form=some ((Au e).map Sh.tx)/\e.form≠"desk"/\ng e.form:=by
 cases e with
 |desk q=>exact qQ7 rfl (hd q)
 |kind n k=>
  obtain⟨hn,hk⟩:=h;have Yx:rq (eI (nF k))/\k9 .kM (eI (nF k))=true/\iC .kM (eI (nF k))=nF k:=by
   cases k with
   |none=>exact⟨uP (d:=.none) trivial,by symm,rfl⟩
   |some i=>
    obtain⟨h1,h2⟩:=hk i rfl;refine⟨oH h2.1 h2.2,?_,lF h2 (by intro z;cases z) (by intro z;cases z)⟩
    show(decide (dF i="-")||jT (dF i))=true
    rw[mO h2 h1,vK]
  refine⟨[n,eI (nF k)],rfl,by show 2<=3;decide,λx hx=>?_,?_,(show gy jU "kind"=some ([Sh.name,Sh.kM].map Sh.tx) by symm),(show("kind":Str)≠"desk" by symm),(show cP (.str ("kind":Str))=true by symm)⟩
  ·simp only[aG,bP,or_false]at hx
   rcases hx with rfl|rfl
   ·exact hn.ok
   ·exact Yx.1
  ·show(if(true&&(isName n&&(k9 .kM (eI (nF k))&&true)))=true then fX [.str n,iC .kM (eI (nF k))]else .none)=_
   rw[hn.is,Yx.2.1,Yx.2.2];rfl
 |gate n=>
  refine⟨[n],rfl,by show 1<=3;decide,λx hx=>?_,?_,(show gy jU "gate"=some ([Sh.name].map Sh.tx) by symm),(show("gate":Str)≠"desk" by symm),(show cP (.str ("gate":Str))=true by symm)⟩
  ·rw[bo.mp hx];exact(show dW n from h).ok
  ·show(if(true&&(isName n&&true))=true then fX [.str n]else .none)=_
   rw[(show dW n from h).is];rfl
 |line n r=>
  obtain⟨hn,h1,h2⟩:=h;refine⟨[n,dF r],rfl,by show 2<=3;decide,λx hx=>?_,?_,(show gy jU "line"=some ([Sh.name,Sh.count].map Sh.tx) by symm),(show("line":Str)≠"desk" by symm),(show cP (.str ("line":Str))=true by symm)⟩
  ·simp only[aG,bP,or_false]at hx
   rcases hx with rfl|rfl
   ·exact hn.ok
   ·exact oH h2.1 h2.2
  ·show(if(true&&(isName n&&(jT (dF r)&&true)))=true then fX [.str n,iC .count (dF r)]else .none)=_
   rw[hn.is,mO h2 h1,lF h2 (by intro z;cases z) (by intro z;cases z)];rfl
 |time d k w=>
  obtain⟨hn,hk,h1,h2⟩:=h;refine⟨[d,k,dF w],rfl,by show 3<=3;decide,λx hx=>?_,?_,(show gy jU "time"=some ([Sh.name,Sh.name,Sh.count].map Sh.tx) by symm),(show("time":Str)≠"desk" by symm),(show cP (.str ("time":Str))=true by symm)⟩
  ·simp only[aG,bP,or_false]at hx
   rcases hx with rfl|rfl|rfl
   ·exact hn.ok
   ·exact hk.ok
   ·exact oH h2.1 h2.2
  ·show(if(true&&(isName d&&(isName k&&(jT (dF w)&&true))))=true then fX [.str d,.str k,iC .count (dF w)]else .none)=_
   rw[hn.is,hk.is,mO h2 h1,lF h2 (by intro z;cases z) (by intro z;cases z)];rfl
 |hour d a b=>
  obtain⟨hn,h1,h2,_⟩:=h;refine⟨[d,dF a,dF b],rfl,by show 3<=3;decide,λx hx=>?_,?_,(show gy jU "open"=some ([Sh.name,Sh.number,Sh.number].map Sh.tx) by symm),(show("open":Str)≠"desk" by symm),(show cP (.str ("open":Str))=true by symm)⟩
  ·simp only[aG,bP,or_false]at hx
   rcases hx with rfl|rfl|rfl
   ·exact hn.ok
   ·exact oH h1.1 h1.2
   ·exact oH h2.1 h2.2
  ·show(if(true&&(isName d&&(isNumber (dF a)&&(isNumber (dF b)&&true))))=true then fX [.str d,iC .number (dF a),iC .number (dF b)]else .none)=_
   rw[hn.is,ym h1.1 h1.2,ym h2.1 h2.2,lF h1 (by intro z;cases z) (by intro z;cases z),lF h2 (by intro z;cases z) (by intro z;cases z)];rfl
theorem Yy(F:lq K "entry_of" "entry_of" (top 27) f fd)(n:Np mg w.params K)(C1:bE P w K mg base 5 "values_of" MY (hV K Qx))(C2:bE P w K mg base 7 "desk_entry" ["words"] (hV K Rde)):eX P w K mg base kF 8 f fd ["words"] (hV K Yw):=
 jz F Gq (λ_ _ h=>by obtain⟨_,rfl,_⟩:=h;rfl) λ_ _ h=>by
  obtain⟨e,rfl,ok,rfl⟩:=h;intro h8 A outer s H E hr;have nd:Yv.Nodup:=Gq.nd;by_cases hd:∃q,e=.desk q
  ·obtain⟨q,rfl⟩:=hd
   refine aE (bV 1 (d:=.str "desk") (f7 (ai 0 rfl) aF (cz (j:=0) rfl)) nd) ?_
   exact df (dH (VT.to (bU hr aZ aZ (ai 1 rfl) aO) (by rw[bJ];exact qQ1 rfl)) (bq (cn (bN C2 hr (av (ai 0 rfl) aX) ⟨q,rfl,ok,rfl⟩)))) rfl
  ·have Vf:∀q,e≠.desk q:=λq z=>hd ⟨q,z⟩
   obtain⟨ws,w1,w2,w3,w4,w5,w6,w7⟩:=EY ok Vf;obtain⟨g1,q1,q2⟩:=n.fo;rw[w1];have hsl:(Au e).length<=3:=by cases e<;>simp[Au]
   refine aE (bV 1 (d:=.str e.form) (f7 (ai 0 rfl) aF (cz (j:=0) rfl)) nd) ?_
   refine aE (cv (VT.to (bU hr (bH w7) aZ (ai 1 rfl) aO) (by rw[bJ];exact qQ0 w6)) bQ) ?_
   refine aE (cv (VT.to (o7 q1 q2 (ai 1 rfl)) (by rw[w5];rfl)) bQ) ?_
   refine aE (bV 2 (d:=.tuple e.rest) (bN C1 (hr.mono (by omega)) (av (VE.to (wQ q1 q2 (ai 1 rfl) w5) (k:=tN (Au e)) (by unfold tN;rw[bA];rfl)) (av (VE.to (VO.ve (eW (ai 0 rfl) (.yes aF) .no)) (k:=cU ws) (by show ko (L2.cutD (_::_) _ _)=_;rw[pq];rfl)) aX)) ⟨Au e,ws,rfl,by omega,by omega,w3,w4.symm⟩) nd) ?_
   have N8:e.rest.length<=4:=by cases e<;>simp[Ent.rest]
   refine aE (cv ?_ bQ) (bq (cn (VE.to (uF (gf (av (ai 1 rfl) aX)) (ai 2 rfl) (by simp) (small (by simp only[a9,ck];omega))) rfl)))
   cases e with
   |hour d a b=>
    exact VT.to (ju (k1:=false) (k2:=false) (VT.to (fN iK kL (ai 2 rfl) eK (fE _)) rfl) (λ_=>VT.to (pP (k1:=true) (k2:=false) (VT.to (bU hr (bH w7) aZ (ai 1 rfl) aO) (by rw[bJ];exact qQ1 rfl)) (λ_=>VT.to (Jk (c0 (ai 2 rfl) aF (cz (j:=1) rfl)) (c0 (ai 2 rfl) aF (cz (j:=2) rfl))) (qQ0 (by have:=ok.2.2.2;omega)))) rfl)) rfl
   |_=>
    exact VT.to (ju (k1:=false) (k2:=false) (VT.to (fN iK kL (ai 2 rfl) eK (fE _)) rfl) (λ_=>VT.to (pP (k1:=false) (k2:=false) (VT.to (bU hr (bH w7) aZ (ai 1 rfl) aO) (by rw[bJ];dsimp only[Ent.form];exact qQ0 (by symm))) (λz=>by cases z)) rfl)) rfl
end
def qB:List (Str×List (Int×Int))->Str->Int×Int->List (Str×List (Int×Int))
 | [],n,z=>[(n,[z])]
 |q::l,n,z=>if q.1=n then(q.1,q.2 ++ [z])::l else q::qB l n z
def fP(l:List (Str×Int×Int)):List (Str×List (Int×Int)):=l.foldl (λacc q=>qB acc q.1 q.2) []
def pairD(z:Int×Int):aq:=.tuple [.int z.1,.int z.2]
def rZ(p:Pl):List (Str×aq):=p.kinds.map λq=>(q.1,nF q.2)
def om(p:Pl):List (Str×aq):=p.lines.map λq=>(q.1,.int q.2)
def r6(p:Pl):List ((Str×Str)×aq):=p.times.map λq=>((q.1,q.2.1),.int q.2.2)
def wW(p:Pl):List (Str×aq):=(fP p.hours).map λq=>(q.1,.list (q.2.map pairD))
def r9(p:Pl):List (Str×aq):=[("kinds",uD (rZ p)),("gates",cU p.gates),("lines",uD (om p)),("desks",.list (p.desks.map fB)),("times",Jr (r6 p)),("hours",uD (wW p)),("paces",uD [])]
def rG(p:Pl):aq:=L_ (r9 p)
theorem De(p:Pl):jP (r9 p) "kinds"=some (uD (rZ p)):=gj rfl
theorem Ks(p:Pl):jP (r9 p) "gates"=some (cU p.gates):=(cY (show ¬(("kinds":Str)="gates") by symm)).trans (gj rfl)
theorem yr(p:Pl):jP (r9 p) "lines"=some (uD (om p)):=(cY (show ¬(("kinds":Str)="lines") by symm)).trans ((cY (show ¬(("gates":Str)="lines") by symm)).trans (gj rfl))
theorem Df(p:Pl):jP (r9 p) "desks"=some (.list (p.desks.map fB)):=(cY (show ¬(("kinds":Str)="desks") by symm)).trans ((cY (show ¬(("gates":Str)="desks") by symm)).trans ((cY (show ¬(("lines":Str)="desks") by symm)).trans (gj rfl)))
theorem Kt(p:Pl):jP (r9 p) "times"=some (Jr (r6 p)):=(cY (show ¬(("kinds":Str)="times") by symm)).trans ((cY (show ¬(("gates":Str)="times") by symm)).trans ((cY (show ¬(("lines":Str)="times") by symm)).trans ((cY (show ¬(("desks":Str)="times") by symm)).trans (gj rfl))))
theorem jx{κ:Type}[DecidableEq κ]:∀(kvs:List (κ×aq))(x:κ),(jP kvs x).isSome=decide (x∈kvs.map (·.1))
 | [],x=>by simp[jP]
 |q::l,x=>by
  by_cases h:q.1=x
  ·rw[gj h,qQ1 (by simp[h])];rfl
  ·rw[cY h,jx l x,fH,decide_eq_true_iff,decide_eq_true_iff,aR,aG]
   exact⟨.inr,λz=>z.resolve_left λe=>h e.symm⟩
theorem uR(p:Pl):(rZ p).map (·.1)=p.kinds.map (·.1):=by unfold rZ;rw[bA];rfl
theorem mL(p:Pl):(om p).map (·.1)=p.lines.map (·.1):=by unfold om;rw[bA];rfl
theorem BG(p:Pl):(r6 p).map (·.1)=p.times.map λq=>(q.1,q.2.1):=by unfold r6;rw[bA];rfl
def pw(p:Pl)(x:Str):Prop:=x∈p.gates\/x∈p.lines.map (·.1)
instance (p : Pl) (x : Str) : Decidable (pw p x) := by unfold pw; infer_instance
def qk(p:Pl)(x:Str):Prop:=x∈p.desks.map (·.name)
instance (p : Pl) (x : Str) : Decidable (qk p x) := by unfold qk; infer_instance
def Dg(p:Pl)(x:Str):Prop:=∃q∈p.desks,x∈q.places
def yt(p:Pl):Ent->Prop
 | .kind n _=>n∉p.kinds.map (·.1)
 | .gate n=>¬pw p n
 | .line n _=>¬pw p n
 | .desk d=>¬qk p d.name/\(∀x∈d.places,¬Dg p x)/\(∀x∈d.places,pw p x)/\(d.to=""\/∃r:Int,jP (om p) d.to=some (.int r)/\iB d.rule d.places.length<=r)
 | .time d k _=>(d,k)∉p.times.map (λq=>(q.1,q.2.1))/\qk p d/\k∈p.kinds.map (·.1)
 | .hour d _ _=>qk p d
section
variable{P:bC}{w:cw}{K:ao}{mg:Str->Option ay}{base:c6}{f:aL}{k:Nat}
abbrev K4:List Str:=["plant","name"]
abbrev VN:List Str:=["plant","place"]
theorem Uj:c9 K4 K4 (b9 (top 35)):=⟨rfl,rfl,rfl,by symm,rfl,by symm,by symm⟩
theorem Uk:c9 K4 K4 (b9 (top 36)):=⟨rfl,rfl,rfl,by symm,rfl,by symm,by symm⟩
theorem Ul:c9 VN VN (b9 (top 37)):=⟨rfl,rfl,rfl,by symm,rfl,by symm,by symm⟩
def Yz(ds:List aq)(d:aq):Prop:=∃(p:Pl)(x:Str),ds=[rG p,.str x]/\mK p/\ng x/\d=.bool (decide (pw p x))
def YB(ds:List aq)(d:aq):Prop:=∃(p:Pl)(x:Str),ds=[rG p,.str x]/\mK p/\ng x/\d=.bool (decide (qk p x))
def yu(p:Pl)(x:Str):List Dk:=p.desks.filter λq=>decide (x∈q.places)
def Rit(ds es:List aq):Prop:=∃(p:Pl)(x:Str),ds=[rG p,.str x]/\mK p/\ng x/\es=(yu p x).map fB
theorem EZ{p:Pl}(h:¬Dg p x):yu p x=[]:=by
 unfold yu;rw[DB];intro q hq z;exact h ⟨q,hq,qQ4 z⟩
theorem Av(h:∀x∈l,dW x):Lay 20 (.list (l.map aQ)):=uQ λx hx=>(h x hx).ok
theorem YC(F:lq K "is_place" "is_place" (top 35) f fd):eX P w K mg base kF 1 f fd K4 (hV K Yz):=
 jz F Uj (λ_ _ h=>by obtain⟨_,_,rfl,_⟩:=h;rfl) λ_ _ h=>by
  obtain⟨p,x,rfl,ok,ox,rfl⟩:=h;intro h8 A outer s H E hr;refine bq (cn (VE.to (uB (NV hr rfl (bH ox) (Av ok.gates) (ai 1 rfl) (pU (ai 0 rfl) (Ks p))) (λ_=>j0 (Eg hr (ai 1 rfl) (pU (ai 0 rfl) (yr p))))) ?_))
  rw[lA,jx,mL]
  congr 1
  rw[fH];simp only[yN,decide_eq_true_eq];exact Iff.rfl
def Fdn:aq->Option aq
 | .tuple (x::_)=>some x
 |_=>none
theorem M0(l:List Dk):(l.map fB).filterMap Fdn=(l.map (·.name)).map .str:=by
 rw[cQ,bA];exact filterMap_some λk _=>rfl
theorem YD(F:lq K "is_desk" "is_desk" (top 36) f fd):eX P w K mg base kF 1 f fd K4 (hV K YB):=
 jz F Uk (λ_ _ h=>by obtain⟨_,_,rfl,_⟩:=h;rfl) λ_ _ h=>by
  obtain⟨p,x,rfl,ok,ox,rfl⟩:=h;intro h8 A outer s H E hr;have nc:(["desk"]:List Str).Nodup:=by symm
  have hn:=ok.dn;refine bq (cn (VE.to (NV hr rfl (bH ox) (Av (l:=p.desks.map (·.name)) λy hy=>?_) (ai 1 rfl) (VO.ve (VO.to (gw (own:=["desk"]) (cap:=[]) (N:=["desk"]) (cl:=[]) (tgt:=.one 0) (F:=Fdn) (ds:=p.desks.map fB) rfl ⟨rfl,by symm,by symm,rfl,rfl,by simp⟩ (je (pU (ai 0 rfl) (Df p))) (λf s3 H3=>cp (i:=0) nc rfl (bB rfl)) rfl
   (small (by rw[aj];omega)) (λd hd=>?_)) (M0 _)))) ?_))
  ·obtain⟨q,hq,rfl⟩:=aN.mp hy
   exact(ok.desks q hq).1
  ·obtain⟨z,hz,rfl⟩:=aN.mp hd
   refine⟨_,rfl,λf s3 H3=>gv,λr kT f s3 H3=>?_⟩
   cases kT;exact c0 (ai 0 rfl) aF (cz (j:=0) rfl)
  ·rw[lA];rfl
theorem vY(x:Str)(l:List Str):uy (.str x) (.tuple (l.map aQ))=decide (x∈l):=lA x l
def Ku(x:Str):aq->Bool
 | .tuple [_,_,_,.tuple l]=>l.any λy=>dE y (.str x)
 |_=>false
def Fin(x:Str)(d:aq):Option aq:=if Ku x d=true then some d else none
theorem rH(x:Str)(q:Dk):Ku x (fB q)=decide (x∈q.places):=vY x q.places
theorem M4(x:Str)(l:List Dk):(l.map fB).filterMap (Fin x)=(l.filter λq=>decide (x∈q.places)).map fB:=by
 induction l with
 |nil=>rfl
 |cons q l ih=>
  rw[aR,lV];by_cases h:x∈q.places
  ·rw[dB (f:=Fin x) (b:=fB q) (by unfold Fin;rw[rH,qQ3 (qQ1 h)]),ih,qQ3 (qQ1 h),aR]
  ·rw[gk (f:=Fin x) (by unfold Fin;rw[rH,qQ2 (by rw[qQ0 h];decide)]),ih,qQ2 (by rw[qQ0 h];decide)]
theorem YF(F:lq K "takers_of" "takers_of" (top 37) f fd):eX P w K mg base kF 1 f fd VN (FW K Rit):=
 Jm F Ul (λ_ _ h=>by obtain⟨_,_,rfl,_⟩:=h;rfl) λ_ _ h=>by
  obtain⟨p,x,rfl,ok,ox,rfl⟩:=h;intro h8 A outer s H E hr;have nc:(["desk","place"]:List Str).Nodup:=by symm
  have hn:=ok.dn;refine bq (wO (VO.to (gw (own:=["desk"]) (cap:=[1]) (N:=["desk","place"]) (tgt:=.one 0) (F:=Fin x) (ds:=p.desks.map fB) rfl ⟨rfl,by symm,by symm,rfl,rfl,?_⟩ (je (pU (ai 0 rfl) (Df p))) (λf s3 H3=>cp (i:=0) nc rfl (bB rfl)) rfl
   (small (by rw[aj];omega)) (λd hd=>?_)) (M4 x _)))
  ·intro j hj
   rcases aG.mp hj with rfl|hj
   ·exact⟨(by show(1:Nat)<2;decide),bB rfl,rfl⟩
   ·cases hj
  ·obtain⟨z,hz,rfl⟩:=aN.mp hd
   refine⟨_,rfl,λf s3 H3=>?_,λr kT f s3 H3=>?_⟩
   ·refine Bf (VT.to (S2 hr rfl (bH ox) (F0 (n:=19) λd hd=>by obtain⟨y,hy,rfl⟩:=aN.mp hd;exact bH ((ok.desks z hz).2.2.2.2 y hy).ok.2) (ai 1 rfl) (c0 (d:=.tuple (z.places.map .str)) (ai 0 rfl) aF (cz (j:=3) rfl))) ?_)
    unfold Fin;rw[rH,vY];by_cases h:x∈z.places
    ·rw[qQ1 h];rfl
    ·rw[qQ0 h];rfl
   ·unfold Fin at kT
    split at kT
    ·cases kT;exact ai 0 rfl
    ·cases kT
def Um:Rl->Bool
 | .many _=>true
 | .gather _ _=>true
 |_=>false
theorem Uo:c9 ["rule","many"] ["rule","many"] (b9 (top 7)):=⟨rfl,rfl,rfl,by symm,rfl,by symm,by symm⟩
theorem YG(F:lq K "greatest_load" "greatest_load" (top 7) f fd):eX P w K mg base kF 1 f fd ["rule","many"] (hV K VJ):=
 jz F Uo (λ_ _ h=>by obtain⟨_,_,rfl,_⟩:=h;rfl) λ_ _ h=>by
  obtain⟨r,m,rfl,rfl⟩:=h;intro h8 A outer s H E hr;have oR:ng (oM r):=by cases r<;>dsimp only[oM,ng]<;>symm
  have h0:sG (aQ (oM r)::rA r) 0=some (.str (oM r)):=cz (j:=0) rfl;have KY:(decide (oM r="many")||decide (oM r="gather"))=Um r:=by
   cases r with
   |meet=>symm
   |eldest=>symm
   |many m=>exact(show(decide (("many":Str)="many")||decide (("many":Str)="gather"))=true by symm)
   |gather m a=>exact(show(decide (("gather":Str)="many")||decide (("gather":Str)="gather"))=true by symm)
   |rank b=>exact(show(decide (("rank":Str)="many")||decide (("rank":Str)="gather"))=false by symm)
   |turns l=>exact(show(decide (("turns":Str)="many")||decide (("turns":Str)="gather"))=false by symm)
  by_cases h1:Um r=true
  ·refine df (dH (VT.to (ju (bU hr (bH oR) aZ (c0 (ai 0 rfl) aF h0) aO) (λ_=>bU hr (bH oR) aZ (c0 (ai 0 rfl) aF h0) aO)) (by rw[bJ,bJ,KY,h1])) (bq (cn (c0 (ai 0 rfl) aF ?_)))) rfl
   cases r with
   |many m=>exact cz (j:=1) rfl
   |gather m a=>exact cz (j:=1) rfl
   |_=>cases h1
  ·have h1:=Bool.not_eq_true _▸h1
   refine aE (cv (VT.to (ju (bU hr (bH oR) aZ (c0 (ai 0 rfl) aF h0) aO) (λ_=>bU hr (bH oR) aZ (c0 (ai 0 rfl) aF h0) aO)) (by rw[bJ,bJ,KY,h1])) bQ) ?_
   by_cases h2:oM r="meet"
   ·refine df (dH (VT.to (bU hr (bH oR) aZ (c0 (ai 0 rfl) aF h0) aO) (by rw[bJ];exact qQ1 h2)) (bq (cn (VE.to (ai 1 rfl) ?_)))) rfl
    cases r with
    |meet=>rfl
    |many m=>cases h1
    |gather m a=>cases h1
    |eldest=>exact qQ7 h2 (by symm)
    |rank b=>exact qQ7 h2 (show ¬(("rank":Str)="meet") by symm)
    |turns l=>exact qQ7 h2 (show ¬(("turns":Str)="meet") by symm)
   ·refine aE (cv (VT.to (bU hr (bH oR) aZ (c0 (ai 0 rfl) aF h0) aO) (by rw[bJ];exact qQ0 h2)) bQ) ?_
    refine bq (cn (VE.to aF ?_))
    cases r with
    |meet=>exact qQ7 rfl h2
    |many m=>cases h1
    |gather m a=>cases h1
    |_=>rfl
end
theorem dI(e:Ent):ng e.form:=by cases e<;>(dsimp only[Ent.form,ng];symm)
theorem sf(e:Ent):sG (aQ e.form::e.rest) 0=some (.str e.form):=cz (j:=0) rfl
def Ent.name:Ent->Str
 | .kind n _=>n
 | .gate n=>n
 | .line n _=>n
 | .desk d=>d.name
 | .time d _ _=>d
 | .hour d _ _=>d
theorem Gr(e:Ent):sG (aQ e.form::e.rest) 1=some (.str e.name):=by cases e<;>exact cz (j:=1) rfl
theorem Gs(h:sS e):dW e.name:=by
 cases e with
 |gate n=>exact h
 |_=>exact h.1
theorem gE{a b:Str}(h:a≠b):dE (.str a) (.str b)=false:=by rw[bJ];exact qQ0 h
theorem jb(a:Str):dE (.str a) (.str a)=true:=by rw[bJ];exact qQ1 rfl
section
variable{P:bC}{w:cw}{K:ao}{mg:Str->Option ay}{base:c6}{f:aL}{k:Nat}
abbrev zt:List Str:=["plant","entry"]
def Ro(ds:List aq)(d:aq):Prop:=∃(p:Pl)(e:Ent),ds=[rG p,Dc e]/\mK p/\sS e/\yt p e/\d=.bool false
def E1:aq->Option aq:=λ_=>some (.bool false)
theorem yv:∀l:List aq,l.filterMap E1=(aH l.length false).map .bool
 | []=>rfl
 |d::l=>by rw[dB (f:=E1) (b:=.bool false) rfl,yv l];rfl
theorem HX(n:Nat):x4 (aH n false)=false:=by
 unfold x4;rw[vL];intro z;obtain⟨b,hb,h⟩:=wH.mp z;rw[(fY.mp hb).2]at h;cases h
abbrev Ntt:List Str:=["plant","entry","form","name"]
theorem Od:c9 Ntt zt (b9 (top 32)):=⟨rfl,rfl,rfl,by symm,rfl,by symm,by symm⟩
theorem YH(F:lq K "tells_twice" "tells_twice" (top 32) f fd)(n:Np mg w.params K)(C1:bE P w K mg base 1 "is_place" K4 (hV K Yz))(C2:bE P w K mg base 1 "is_desk" K4 (hV K YB))(C3:bE P w K mg base 1 "takers_of" VN (FW K Rit)):eX P w K mg base kF 2 f fd zt (hV K Ro):=
 jz F Od (λ_ _ h=>by obtain⟨_,_,rfl,_⟩:=h;rfl) λ_ _ h=>by
  obtain⟨p,e,rfl,ok,oe,oa,rfl⟩:=h;intro h8 A outer s H E hr;have nd:Ntt.Nodup:=Od.nd;have Rp:=(Gs oe).ok.2;have ofm:=dI e;refine aE (bV 2 (d:=.str e.form) (c0 (ai 1 rfl) aF (sf e)) nd) ?_
  refine aE (bV 3 (d:=.str e.name) (c0 (ai 1 rfl) aF (Gr e)) nd) ?_
  cases e with
  |kind m k=>
   refine df (dH (VT.to (bU hr (bH (dI _)) aZ (ai 2 rfl) aO) (jb _)) (bq (cn (VE.to (Eg hr (ai 3 rfl) (pU (ai 0 rfl) (De p))) ?_)))) rfl
   rw[jx,uR];exact qQ6 km (qQ0 oa)
  |gate m=>
   refine aE (cv (VT.to (bU hr (bH (dI _)) aZ (ai 2 rfl) aO) (gE (show("gate":Str)≠"kind" by symm))) bQ) ?_
   exact df (dH (VT.to (ju (k1:=true) (k2:=true) (VT.to (bU hr (bH (dI _)) aZ (ai 2 rfl) aO) (jb _)) (λz=>by cases z)) rfl) (bq (cn (bN C1 hr (av (ai 0 rfl) (av (ai 3 rfl) aX)) ⟨p,m,rfl,ok,Rp,by rw[qQ0 oa]⟩)))) rfl
  |line m r=>
   refine aE (cv (VT.to (bU hr (bH (dI _)) aZ (ai 2 rfl) aO) (gE (show("line":Str)≠"kind" by symm))) bQ) ?_
   exact df (dH (VT.to (ju (k1:=false) (k2:=true) (VT.to (bU hr (bH (dI _)) aZ (ai 2 rfl) aO) (gE (show("line":Str)≠"gate" by symm))) (λ_=>VT.to (bU hr (bH (dI _)) aZ (ai 2 rfl) aO) (jb _))) rfl) (bq (cn (bN C1 hr (av (ai 0 rfl) (av (ai 3 rfl) aX)) ⟨p,m,rfl,ok,Rp,by rw[qQ0 oa]⟩)))) rfl
  |desk q=>
   refine aE (cv (VT.to (bU hr (bH (dI _)) aZ (ai 2 rfl) aO) (gE (show("desk":Str)≠"kind" by symm))) bQ) ?_
   refine aE (cv (VT.to (ju (k1:=false) (k2:=false) (VT.to (bU hr (bH (dI _)) aZ (ai 2 rfl) aO) (gE (show("desk":Str)≠"gate" by symm))) (λ_=>VT.to (bU hr (bH (dI _)) aZ (ai 2 rfl) aO) (gE (show("desk":Str)≠"line" by symm)))) rfl) bQ) ?_
   have nc:(["place","plant"]:List Str).Nodup:=by symm
   obtain⟨a1,a2,a3,a4⟩:=oa;have l6:=oe.2.2.2.2.1;refine df (dH (VT.to (bU hr (bH (dI _)) aZ (ai 2 rfl) aO) (jb _)) (bq (cn (VE.to (uB (bN C2 hr (av (ai 0 rfl) (av (ai 3 rfl) aX)) ⟨p,q.name,rfl,ok,Rp,rfl⟩) (λ_=>j0 (iV (JF rfl) Tj (av (VO.ve (VO.to (gw (own:=["place"]) (cap:=[0]) (N:=["place","plant"]) (tgt:=.one 0) (F:=E1) (ds:=q.places.map .str) rfl ⟨rfl,by symm,by symm,rfl,rfl,?_⟩ (vm (c0 (d:=.tuple (q.places.map .str)) (ai 1 rfl) aF (cz (j:=4) rfl))) (λf s3 H3=>cp (i:=0) nc rfl (bB rfl)) rfl
    (small (by rw[aj];omega)) (λd hd=>?_)) (yv _))) aX) n.any rfl))) ?_)))) rfl
   ·intro j hj
    rcases aG.mp hj with rfl|hj
    ·exact⟨(by show(0:Nat)<4;decide),bB rfl,rfl⟩
    ·cases hj
   ·obtain⟨z,hz,rfl⟩:=aN.mp hd
    refine⟨_,rfl,λf s3 H3=>gv,λr kT f s3 H3=>?_⟩
    cases kT;exact VE.to (Jo hr F1 F1 (VE.to (VO.ve (nV C3 hr (av (ai 1 rfl) (av (ai 0 rfl) aX)) ⟨p,z,rfl,ok,(oe.2.2.2.2.2.2 z hz).ok.2,rfl⟩)) (by rw[EZ (a2 z hz)];rfl)) (VO.ve (gG (ds:=[]) aX))) rfl
   ·rw[qQ0 a1,HX];rfl
  |time d k wk=>
   refine aE (cv (VT.to (bU hr (bH (dI _)) aZ (ai 2 rfl) aO) (gE (show("time":Str)≠"kind" by symm))) bQ) ?_
   refine aE (cv (VT.to (ju (k1:=false) (k2:=false) (VT.to (bU hr (bH (dI _)) aZ (ai 2 rfl) aO) (gE (show("time":Str)≠"gate" by symm))) (λ_=>VT.to (bU hr (bH (dI _)) aZ (ai 2 rfl) aO) (gE (show("time":Str)≠"line" by symm)))) rfl) bQ) ?_
   refine aE (cv (VT.to (bU hr (bH (dI _)) aZ (ai 2 rfl) aO) (gE (show("time":Str)≠"desk" by symm))) bQ) ?_
   refine df (dH (VT.to (bU hr (bH (dI _)) aZ (ai 2 rfl) aO) (jb _)) (bq (cn (VE.to (Ma hr (ai 3 rfl) (c0 (ai 1 rfl) aF (cz (j:=2) rfl)) (pU (ai 0 rfl) (Kt p))) ?_)))) rfl
   refine qQ6 km ?_
   rw[jx,BG];rw[vL];intro z;exact oa.1 (@of_decide_eq_true _ (_) z)
  |hour d a b=>
   refine aE (cv (VT.to (bU hr (bH (dI _)) aZ (ai 2 rfl) aO) (gE (show("open":Str)≠"kind" by symm))) bQ) ?_
   refine aE (cv (VT.to (ju (k1:=false) (k2:=false) (VT.to (bU hr (bH (dI _)) aZ (ai 2 rfl) aO) (gE (show("open":Str)≠"gate" by symm))) (λ_=>VT.to (bU hr (bH (dI _)) aZ (ai 2 rfl) aO) (gE (show("open":Str)≠"line" by symm)))) rfl) bQ) ?_
   refine aE (cv (VT.to (bU hr (bH (dI _)) aZ (ai 2 rfl) aO) (gE (show("open":Str)≠"desk" by symm))) bQ) ?_
   refine aE (cv (VT.to (bU hr (bH (dI _)) aZ (ai 2 rfl) aO) (gE (show("open":Str)≠"time" by symm))) bQ) ?_
   exact bq (cn (VE.to (m9 (k1:=false) (k2:=false) (VE.to (sJ hr (bH (dI _)) aZ (ai 2 rfl) aO) (qQ6 km (gE (show("open":Str)≠"pace" by symm)))) (λz=>by cases z)) rfl))
abbrev Nln:List Str:=["plant","entry","form","into_line"]
theorem Oe:c9 Nln zt (b9 (top 33)):=⟨rfl,rfl,rfl,by symm,rfl,by symm,by symm⟩
theorem YJ(F:lq K "lacks_name" "lacks_name" (top 33) f fd)(n:Np mg w.params K)(C1:bE P w K mg base 1 "is_place" K4 (hV K Yz))(C2:bE P w K mg base 1 "is_desk" K4 (hV K YB)):eX P w K mg base kF 2 f fd zt (hV K Ro):=
 jz F Oe (λ_ _ h=>by obtain⟨_,_,rfl,_⟩:=h;rfl) λ_ _ h=>by
  obtain⟨p,e,rfl,ok,oe,oa,rfl⟩:=h;intro h8 A outer s H E hr;have nd:Nln.Nodup:=Oe.nd;have Rp:=(Gs oe).ok.2;refine aE (bV 2 (d:=.str e.form) (c0 (ai 1 rfl) aF (sf e)) nd) ?_
  have pac:∀(e:Ent),e.form≠"pace":=λe=>by cases e<;>(dsimp only[Ent.form];symm)
  cases e with
  |desk q=>
   obtain⟨a1,a2,a3,a4⟩:=oa;have nc:(["place","plant"]:List Str).Nodup:=by symm
   have VQ:ng q.to:=by
    rcases oe.2.1 with h|h
    ·rw[h];show cP (.str ("":Str))=true;symm
    ·exact h.ok.2
   have l6:=oe.2.2.2.2.1;refine df (dH (VT.to (bU hr (bH (dI _)) aZ (ai 2 rfl) aO) (jb _)) (aE (bV 3 (d:=.bool true) (VE.to (uB (sJ hr (bH VQ) aZ (c0 (ai 1 rfl) aF (cz (j:=2) rfl)) aO) (λ_=>j0 (Eg hr (c0 (ai 1 rfl) aF (cz (j:=2) rfl)) (pU (ai 0 rfl) (yr p))))) ?_) nd) (bq (cn (VE.to (uB (k1:=false) (k2:=false) (VE.to (wR (ai 3 rfl)) rfl) (λ_=>j0 (VE.to (wR (iV (oY rfl) Ab (av (VO.ve (VO.to (gw (own:=["place"]) (cap:=[0]) (N:=["place","plant"]) (tgt:=.one 0) (F:=Yf) (ds:=q.places.map .str) rfl ⟨rfl,by symm,by symm,rfl,rfl,?_⟩ (vm (c0 (d:=.tuple (q.places.map .str)) (ai 1 rfl) aF (cz (j:=4) rfl))) (λf s3 H3=>cp (i:=0) nc rfl (bB rfl)) rfl
    (small (by rw[aj];omega)) (λd hd=>?_)) (Gh _))) aX) n.all rfl)) (by rw[HM];rfl)))) rfl))))) rfl
   ·rw[bJ,jx,mL]
    congr 1
    rcases a4 with h|⟨r,h,_⟩
    ·rw[qQ1 h];rfl
    ·have:(jP (om p) q.to).isSome=true:=by rw[h];rfl
     rw[jx,mL]at this;rw[this,vK]
   ·intro j hj
    rcases aG.mp hj with rfl|hj
    ·exact⟨(by show(0:Nat)<4;decide),bB rfl,rfl⟩
    ·cases hj
   ·obtain⟨z,hz,rfl⟩:=aN.mp hd
    refine⟨_,rfl,λf s3 H3=>gv,λr kT f s3 H3=>?_⟩
    cases kT;exact bN C1 hr (av (ai 1 rfl) (av (ai 0 rfl) aX)) ⟨p,z,rfl,ok,(oe.2.2.2.2.2.2 z hz).ok.2,by rw[qQ1 (a3 z hz)]⟩
  |time d k wk=>
   refine aE (cv (VT.to (bU hr (bH (dI _)) aZ (ai 2 rfl) aO) (gE (show("time":Str)≠"desk" by symm))) bQ) ?_
   refine df (dH (VT.to (bU hr (bH (dI _)) aZ (ai 2 rfl) aO) (jb _)) (bq (cn (VE.to (uB (k1:=false) (VE.to (wR (bN C2 hr (av (ai 0 rfl) (av (c0 (ai 1 rfl) aF (cz (j:=1) rfl)) aX)) ⟨p,d,rfl,ok,Rp,rfl⟩)) (by rw[qQ1 oa.2.1];rfl)) (λ_=>j0 (Hj hr (c0 (ai 1 rfl) aF (cz (j:=2) rfl)) (pU (ai 0 rfl) (De p))))) ?_)))) rfl
   rw[jx,uR,qQ1 oa.2.2];rfl
  |hour d a b=>
   refine aE (cv (VT.to (bU hr (bH (dI _)) aZ (ai 2 rfl) aO) (gE (show("open":Str)≠"desk" by symm))) bQ) ?_
   refine aE (cv (VT.to (bU hr (bH (dI _)) aZ (ai 2 rfl) aO) (gE (show("open":Str)≠"time" by symm))) bQ) ?_
   exact df (dH (VT.to (bU hr (bH (dI _)) aZ (ai 2 rfl) aO) (jb _)) (bq (cn (VE.to (wR (bN C2 hr (av (ai 0 rfl) (av (c0 (ai 1 rfl) aF (cz (j:=1) rfl)) aX)) ⟨p,d,rfl,ok,Rp,rfl⟩)) (by rw[qQ1 (show qk p d from oa)];rfl))))) rfl
  |_=>
   refine aE (cv (VT.to (bU hr (bH (dI _)) aZ (ai 2 rfl) aO) (by rw[bJ];dsimp only[Ent.form];exact qQ0 (by symm))) bQ) ?_
   refine aE (cv (VT.to (bU hr (bH (dI _)) aZ (ai 2 rfl) aO) (by rw[bJ];dsimp only[Ent.form];exact qQ0 (by symm))) bQ) ?_
   refine aE (cv (VT.to (bU hr (bH (dI _)) aZ (ai 2 rfl) aO) (by rw[bJ];dsimp only[Ent.form];exact qQ0 (by symm))) bQ) ?_
   exact bq (cn (VE.to (m9 (k1:=false) (k2:=false) (VE.to (sJ hr (bH (dI _)) aZ (ai 2 rfl) aO) (by rw[bJ];exact qQ6 km (qQ0 (pac _)))) (λz=>by cases z)) rfl))
theorem QB:c9 zt zt (b9 (top 34)):=⟨rfl,rfl,rfl,by symm,rfl,by symm,by symm⟩
theorem Up(F:lq K "lacks_room" "lacks_room" (top 34) f fd)(n:Np mg w.params K)(C1:bE P w K mg base 1 "greatest_load" ["rule","many"] (hV K VJ)):eX P w K mg base kF 2 f fd zt (hV K Ro):=
 jz F QB (λ_ _ h=>by obtain⟨_,_,rfl,_⟩:=h;rfl) λ_ _ h=>by
  obtain⟨p,e,rfl,ok,oe,oa,rfl⟩:=h;intro h8 A outer s H E hr;by_cases hd:∃q,e=.desk q
  ·obtain⟨q,rfl⟩:=hd
   obtain⟨a1,a2,a3,a4⟩:=oa;have VQ:ng q.to:=by
    rcases oe.2.1 with h|h
    ·rw[h];show cP (.str ("":Str))=true;symm
    ·exact h.ok.2
   by_cases ht:q.to=""
   ·exact df (dH (VT.to (ju (k1:=false) (k2:=true) (VT.to (mZ hr (bH (dI _)) aZ (c0 (ai 1 rfl) aF (sf _)) aO) (qQ6 (λb=>!b) (jb _))) (λ_=>VT.to (bU hr (bH VQ) aZ (c0 (ai 1 rfl) aF (cz (j:=2) rfl)) aO) (by rw[bJ];exact qQ1 ht))) rfl) (bq (cn Jg))) rfl
   ·obtain⟨r,h1,h2⟩:=a4.resolve_left ht
    refine aE (cv (VT.to (ju (k1:=false) (k2:=false) (VT.to (mZ hr (bH (dI _)) aZ (c0 (ai 1 rfl) aF (sf _)) aO) (qQ6 (λb=>!b) (jb _))) (λ_=>VT.to (bU hr (bH VQ) aZ (c0 (ai 1 rfl) aF (cz (j:=2) rfl)) aO) (by rw[bJ];exact qQ0 ht))) rfl) bQ) ?_
    exact bq (cn (VE.to (S1 (bN C1 hr (av (c0 (d:=HJ q.rule) (ai 1 rfl) aF (cz (j:=3) rfl)) (av (VE.to (kG (ds:=q.places.map .str) (c0 (ai 1 rfl) aF (cz (j:=4) rfl)) n.len) (by rw[aj])) aX)) ⟨q.rule,q.places.length,rfl,rfl⟩) (nY hr (pU (ai 0 rfl) (yr p)) (c0 (ai 1 rfl) aF (cz (j:=2) rfl)) h1)) (qQ6 km (qQ0 (by omega)))))
  ·have hf:e.form≠"desk":=by
    cases e with
    |desk q=>exact qQ7 ⟨q,rfl⟩ hd
    |_=>dsimp only[Ent.form];symm
   exact df (dH (VT.to (ju (k1:=true) (k2:=true) (VT.to (mZ hr (bH (dI e)) aZ (c0 (ai 1 rfl) aF (sf _)) aO) (by rw[bJ,qQ0 hf];rfl)) (λz=>by cases z)) rfl) (bq (cn Jg))) rfl
theorem Og:c9 zt zt (b9 (top 31)):=⟨rfl,rfl,rfl,by symm,rfl,by symm,by symm⟩
def YK(ds:List aq)(d:aq):Prop:=∃(p:Pl)(e:Ent),ds=[rG p,Dc e]/\mK p/\sS e/\yt p e/\d=.str ""
theorem YL(F:lq K "fault_of" "fault_of" (top 31) f fd)(C1:bE P w K mg base 2 "tells_twice" zt (hV K Ro))(C2:bE P w K mg base 2 "lacks_name" zt (hV K Ro))(C3:bE P w K mg base 2 "lacks_room" zt (hV K Ro)):eX P w K mg base kF 3 f fd zt (hV K YK):=
 jz F Og (λ_ _ h=>by obtain⟨_,_,rfl,_⟩:=h;rfl) λ_ _ h=>by
  obtain⟨p,e,rfl,ok,oe,oa,rfl⟩:=h;intro h8 A outer s H E hr;refine aE (cv (VT.to (fN iK kL (ai 1 rfl) eK (fE _)) rfl) bQ) ?_
  refine aE (cv (pQ (bN C1 hr (av (ai 0 rfl) (av (ai 1 rfl) aX)) ⟨p,e,rfl,ok,oe,oa,rfl⟩) rfl) bQ) ?_
  refine aE (cv (pQ (bN C2 hr (av (ai 0 rfl) (av (ai 1 rfl) aX)) ⟨p,e,rfl,ok,oe,oa,rfl⟩) rfl) bQ) ?_
  refine aE (cv (pQ (bN C3 hr (av (ai 0 rfl) (av (ai 1 rfl) aX)) ⟨p,e,rfl,ok,oe,oa,rfl⟩) rfl) bQ) ?_
  exact bq (cn aO)
end
def M5:Option Int->V
 |none=>.non
 |some i=>.int i
theorem Kv(o:Option Int):Rep K H (M5 o) (nF o):=by
 cases o with
 |none=>exact .non
 |some i=>exact .int i
theorem Rep.M6{v:V}{o:Option Int}(r:Rep K H v (nF o)):v=M5 o:=by
 cases o with
 |none=>cases r;rfl
 |some i=>cases r;rfl
def tP(p:Pl):List (Key×V):=p.kinds.map λq=>(cx q.1,M5 q.2)
def tQ(p:Pl):List (Key×V):=p.lines.map λq=>(cx q.1,V.int q.2)
def tR(p:Pl):List (List Key×V):=p.times.map λq=>(vp (q.1,q.2.1),V.int q.2.2)
def gP(h:List (Str×List (Int×Int)))(cs:List aL):List (Key×V):=(h.zip cs).map λz=>(cx z.1.1,V.ref z.2)
abbrev VR:List Str:=["kinds","gates","lines","desks","times","hours","paces"]
def M7(ak ag al ad at_ ah ap:aL):List (Str×V):=[("kinds",.ref ak),("gates",.ref ag),("lines",.ref al),("desks",.ref ad),("times",.ref at_),("hours",.ref ah),("paces",.ref ap)]
structure PlW(K:ao)(p:aL)(st:Pl)(H0 H:Hp)(C dx ak ag al ad at_ ah ap:aL)(cs:List aL)(xd:List V):Prop where
 ins:H p=some (.ins C dx (M7 ak ag al ad at_ ah ap))
 cls:Cb K C
 sx:∀f∈VR,fK K C f
 ki:H ak=some (.dK (tP st))
 ga:H ag=some (.lst (st.gates.map V.str))
 li:H al=some (.dK (tQ st))
 de:H ad=some (.lst xd)
 dr:dq K H0 xd (st.desks.map fB)
 ti:H at_=some (.dT (tR st))
 ho:H ah=some (.dK (gP (fP st.hours) cs))
 hl:cs.length=(fP st.hours).length
 pa:H ap=some (.dK [])
 ce:∀(i:Nat)c q,cs[i]?=some c->(fP st.hours)[i]?=some q->∃xs,H c=some (.lst xs)/\dq K H0 xs (q.2.map pairD)
def sU(K:ao)(p:aL)(st:Pl):OR:=λH0 H as=>∃C dx ak ag al ad at_ ah ap cs xd,as=p::ak::ag::al::ad::at_::ah::ap::cs/\as.Nodup/\PlW K p st H0 H C dx ak ag al ad at_ ah ap cs xd
theorem sU.mono{st:Pl}:vT (sU K p st):=by
 rintro H0 H Ha Hb as ⟨C,dx,ak,ag,al,ad,at_,ah,ap,cs,xd,rfl,nd,W⟩ s e
 refine⟨C,dx,ak,ag,al,ad,at_,ah,ap,cs,xd,rfl,nd,?_⟩
 exact⟨by rw[e p (by simp)];exact W.ins,W.cls,W.sx,by rw[e ak (by simp)];exact W.ki,by rw[e ag (by simp)];exact W.ga,by rw[e al (by simp)];exact W.li,by rw[e ad (by simp)];exact W.de,W.dr.mono s,by rw[e at_ (by simp)];exact W.ti,by rw[e ah (by simp)];exact W.ho,W.hl,by rw[e ap (by simp)];exact W.pa,λi c q e1 e2=>by
  obtain⟨xs,h1,h2⟩:=W.ce i c q e1 e2;refine⟨xs,?_,h2.mono s⟩
  rw[e c (by simp[bO e1])]
  exact h1⟩
theorem uS{α:Type}{f:α->V}{g:α->aq}:∀{l:List α},(∀x∈l,Rep K H (f x) (g x))->dq K H (l.map f) (l.map g)
 | [],_=>.nil
 |x::l,h=>.cons (h x aP) (uS λy hy=>h y (aU _ hy))
theorem Dh{α:Type}{g:α->aq}:∀{l:List α}{cs:List aL},cs.length=l.length->(∀(i:Nat)c q,cs[i]?=some c->l[i]?=some q->Rep K H (.ref c) (g q))->dq K H (cs.map V.ref) (l.map g)
 | [],[],_,_=>.nil
 | [],_::_,h,_=>by cases h
 |_::_,[],h,_=>by cases h
 |q::l,c::cs,h,k=>.cons (k 0 c q rfl rfl) (Dh (by simpa using h) λi c' q' e1 e2=>k (i+1) c' q' (by simpa using e1) (by simpa using e2))
theorem vZ:∀{h:List (Str×List (Int×Int))}{cs:List aL},cs.length=h.length->(gP h cs).map (·.1)=h.map λq=>(cx q.1:Key)
 | [],[],_=>rfl
 | [],_::_,e=>by cases e
 |_::_,[],e=>by cases e
 |q::h,c::cs,e=>by
  have:=vZ (h:=h) (cs:=cs) (by simpa using e)
  unfold gP at this ⊢;rw[kA,aR,aR,this];rfl
theorem v5:∀{h:List (Str×List (Int×Int))}{cs:List aL},cs.length=h.length->(gP h cs).map (·.2)=cs.map V.ref
 | [],[],_=>rfl
 | [],_::_,e=>by cases e
 |_::_,[],e=>by cases e
 |q::h,c::cs,e=>by
  have:=v5 (h:=h) (cs:=cs) (by simpa using e)
  unfold gP at this ⊢;rw[kA,aR,aR,this];rfl
theorem sU.rep{st:Pl}(Ha Hb:Hp)(as:List aL)(sb:ej Ha Hb)(h:sU K p st Ha Hb as):Rep K (vv as Hb Ha) (.ref p) (rG st):=by
 obtain⟨C,dx,ak,ag,al,ad,at_,ah,ap,cs,xd,rfl,nd,W⟩:=h;have sm:=x9 (as:=p::ak::ag::al::ad::at_::ah::ap::cs) sb
 generalize hM:vv (p::ak::ag::al::ad::at_::ah::ap::cs) Hb Ha=M at *
 have mm:∀a∈p::ak::ag::al::ad::at_::ah::ap::cs,M a=Hb a:=λa ha=>by rw[<-hM];exact Bl ha
 refine Rep.obj (fs:=M7 ak ag al ad at_ ah ap) (by rw[mm p (by simp)];exact W.ins) W.cls W.sx rfl ?_
 refine .cons ?_ (.cons ?_ (.cons ?_ (.cons ?_ (.cons ?_ (.cons ?_ (.cons ?_ .nil))))))
 ·refine .dct (by rw[mm ak (by simp)];exact W.ki) ?_ ?_
  ·unfold rZ tP;simp only[bA];rfl
  ·unfold rZ tP;simp only[bA];exact uS λq _=>Kv q.2
 ·exact .lst (lg.of (by rw[mm ag (by simp)];exact W.ga)) (vq _)
 ·refine .dct (by rw[mm al (by simp)];exact W.li) ?_ ?_
  ·unfold om tQ;simp only[bA];rfl
  ·unfold om tQ;simp only[bA];exact uS λq _=>.int q.2
 ·exact .lst (lg.of (by rw[mm ad (by simp)];exact W.de)) (W.dr.mono sm)
 ·refine .SW (by rw[mm at_ (by simp)];exact W.ti) ?_ ?_
  ·unfold r6 tR;simp only[bA];rfl
  ·unfold r6 tR;simp only[bA];exact uS λq _=>.int q.2.2
 ·refine .dct (by rw[mm ah (by simp)];exact W.ho) ?_ ?_
  ·have:=vZ W.hl
   have e:(gP (fP st.hours) cs).map (λq=>zh q.1)=((gP (fP st.hours) cs).map (·.1)).map zh:=by rw[bA];rfl
   rw[e,this];unfold wW;simp only[bA];rfl
  ·rw[v5 W.hl]
   have e:((wW st).map λq=>(aQ q.1,q.2)).map (·.2)=(fP st.hours).map λq=>ko (q.2.map pairD):=by
    unfold wW;simp only[bA];rfl
   rw[e];exact Dh W.hl λi c q e1 e2=>by
    obtain⟨xs,h1,h2⟩:=W.ce i c q e1 e2;exact .lst (lg.of (by rw[mm c (by simp[bO e1])];exact h1)) (h2.mono sm)
 ·exact .dct (kvs:=[]) (by rw[mm ap (by simp)];exact W.pa) rfl .nil
structure Uq(H H1:Hp)(p C dx:aL)(fs:List (Str×V))(os:List (aL×HO)):Prop where
 ins:H1 p=some (.ins C dx fs)
 ob:∀q∈os,H1 q.1=some q.2
 nd:(p::os.map (·.1)).Nodup
 fresh:∀q∈os,H q.1=none
 old:∀b o,H b=some o->b≠p->H1 b=some o
theorem Uq.step{H1: Hp}{C dx d: aL}{fs fs':List (Str×V)}{os:List (aL×HO)}{o:HO}(m:Uq H H1 p C dx fs os)(hd:H1 d=none):Uq H (upd (upd H1 d o) p (.ins C dx fs')) p C dx fs' (os ++ [(d,o)]):=by
 have Ur:d≠p:=λz=>by subst z;rw[m.ins]at hd;cases hd
 have Pa:d∉os.map (·.1):=λz=>by
  obtain⟨q,hq,rfl⟩:=aN.mp z;rw[m.ob q hq]at hd;cases hd
 have NT:p∉os.map (·.1):=(gL.mp m.nd).1
 refine⟨bK,λq hq=>?_,?_,λq hq=>?_,λb o' e hb=>?_⟩
 ·rcases bX.mp hq with hq|hq
  ·have h1:q.1≠p:=λz=>NT (by rw[<-z];exact aN.mpr ⟨q,hq,rfl⟩)
   have h2:q.1≠d:=λz=>Pa (by rw[<-z];exact aN.mpr ⟨q,hq,rfl⟩)
   rw[aS h1,aS h2];exact m.ob q hq
  ·rw[bo.mp hq,aS Ur];exact bK
 ·rw[bh,<-List.cons_append,eN]
  refine⟨m.nd,by simp,λx hx y hy=>?_⟩
  rw[List.map_singleton,bo]at hy;subst hy;rcases aG.mp hx with rfl|hx
  ·exact bM Ur
  ·exact λz=>Pa (by rw[<-z];exact hx)
 ·rcases bX.mp hq with hq|hq
  ·exact m.fresh q hq
  ·rw[bo.mp hq]
   cases e:H d with
   |none=>rfl
   |some o'=>have:=m.old d o' e Ur;rw[hd]at this;cases this
 ·have h2:b≠d:=λz=>by subst z;have:=m.old b o' e hb;rw[hd]at this;cases this
  rw[aS hb,aS h2];exact m.old b o' e hb
theorem lP{f:Str}{v:V}:∀{fs:List (Str×V)},f∉fs.map (·.1)->kr f v fs=fs ++ [(f,v)]
 | [],_=>rfl
 |(g,x)::fs,h=>by
  have h1:g≠f:=λz=>h (by rw[z];simp)
  show(if g=f then(g,v)::fs else(g,x)::kr f v fs)=_
  rw[qQ2 h1,lP λz=>h (by simp[z])]
  rfl
abbrev yw:iH:=inClass (top 22) 0
def Kw(C:aL):Sp:=λvs H Q _=>∃p dx,vs=[.ref p]/\H p=some (.ins C dx [])/\∀ak ag al ad at_ ah ap H',Uq H H' p C dx (M7 ak ag al ad at_ ah ap) [(ak,.dK []),(ag,.lst []),(al,.dK []),(ad,.lst []),(at_,.dT []),(ah,.dK []),(ap,.dK [])]->Q .non H'
section
variable{P:bC}{w:cw}{K:ao}{mg:Str->Option ay}{base:c6}{f:aL}{k:Nat}
theorem Us:c9 ["self"] ["self"] (b9 yw):=⟨rfl,rfl,rfl,by symm,rfl,by symm,by symm⟩
theorem YM{C:aL}(F:lq K "__init__" "Plant.__init__" yw f fd)(cl:Cb K C)(na:∀f∈VR,fK K C f):eX P w K mg base kF 1 f fd ["self"] (Kw C):=by
 refine F.ok Us (λvs H Q E h=>?_) (λh8 A outer s H vs Q E hr h=>?_)
 ·obtain⟨p,dx,rfl,_⟩:=h
  rfl
 ·obtain⟨p,dx,rfl,hp,q⟩:=h
  refine⟨_,kE (tf (pv 0) ur rfl) (kE (tf (pv 0) (A5 fM) rfl) (kE (tf (pv 0) ur rfl) (kE (tf (pv 0) (A5 fM) rfl) (kE (tf (pv 0) IZ rfl) (kE (tf (pv 0) ur rfl) (wJ (tf (pv 0) ur rfl))))))),?_⟩
  have m0:Uq H H p C dx [] []:=⟨hp,λq hq=>(by cases hq),by simp,λq hq=>(by cases hq),λb o e _=>e⟩
  intro ak hak;have p1:(upd H ak (.dK [])) p=some (.ins C dx []):=by rw[aS (bj hp hak)];exact hp
  refine⟨_,rfl,p,C,dx,_,rfl,p1,cl,na _ (by symm),by show 0<1000;decide,?_⟩
  have e1:kr "kinds" (.ref ak) ([]:List (Str×V))=[(("kinds":Str),V.ref ak)]:=lP (show("kinds":Str)∉([]:List Str) by symm)
  have m1:=m0.step (o:=.dK []) (fs':=[(("kinds":Str),V.ref ak)]) hak;rw[e1];refine⟨bu _,λag hag=>?_⟩
  refine⟨_,rfl,p,C,dx,_,rfl,by rw[aS (bj m1.ins hag)];exact m1.ins,cl,na _ (by symm),by show 1<1000;decide,?_⟩
  have e2:kr "gates" (.ref ag) ([(("kinds":Str),V.ref ak)]:List (Str×V))=[(("kinds":Str),V.ref ak),("gates",V.ref ag)]:=lP (show("gates":Str)∉(["kinds"]:List Str) by symm)
  have m2:=m1.step (o:=.lst []) (fs':=[(("kinds":Str),V.ref ak),("gates",V.ref ag)]) hag;rw[e2];intro al Ub;refine⟨_,rfl,p,C,dx,_,rfl,by rw[aS (bj m2.ins Ub)];exact m2.ins,cl,na _ (by symm),by show 2<1000;decide,?_⟩
  have e3:kr "lines" (.ref al) ([(("kinds":Str),V.ref ak),("gates",V.ref ag)]:List (Str×V))=[(("kinds":Str),V.ref ak),("gates",V.ref ag),("lines",V.ref al)]:=lP (show("lines":Str)∉(["kinds","gates"]:List Str) by symm)
  have m3:=m2.step (o:=.dK []) (fs':=[(("kinds":Str),V.ref ak),("gates",V.ref ag),("lines",V.ref al)]) Ub;rw[e3];refine⟨bu _,λad had=>?_⟩
  refine⟨_,rfl,p,C,dx,_,rfl,by rw[aS (bj m3.ins had)];exact m3.ins,cl,na _ (by symm),by show 3<1000;decide,?_⟩
  have e4:kr "desks" (.ref ad) ([(("kinds":Str),V.ref ak),("gates",V.ref ag),("lines",V.ref al)]:List (Str×V))=[(("kinds":Str),V.ref ak),("gates",V.ref ag),("lines",V.ref al),("desks",V.ref ad)]:=lP (show("desks":Str)∉(["kinds","gates","lines"]:List Str) by symm)
  have m4:=m3.step (o:=.lst []) (fs':=[(("kinds":Str),V.ref ak),("gates",V.ref ag),("lines",V.ref al),("desks",V.ref ad)]) had;rw[e4];intro at_ VD;refine⟨_,rfl,p,C,dx,_,rfl,by rw[aS (bj m4.ins VD)];exact m4.ins,cl,na _ (by symm),by show 4<1000;decide,?_⟩
  have e5:kr "times" (.ref at_) ([(("kinds":Str),V.ref ak),("gates",V.ref ag),("lines",V.ref al),("desks",V.ref ad)]:List (Str×V))=[(("kinds":Str),V.ref ak),("gates",V.ref ag),("lines",V.ref al),("desks",V.ref ad),("times",V.ref at_)]:=lP (show("times":Str)∉(["kinds","gates","lines","desks"]:List Str) by symm)
  have m5:=m4.step (o:=.dT []) (fs':=[(("kinds":Str),V.ref ak),("gates",V.ref ag),("lines",V.ref al),("desks",V.ref ad),("times",V.ref at_)]) VD;rw[e5];intro ah hah;refine⟨_,rfl,p,C,dx,_,rfl,by rw[aS (bj m5.ins hah)];exact m5.ins,cl,na _ (by symm),by show 5<1000;decide,?_⟩
  have e6:kr "hours" (.ref ah) ([(("kinds":Str),V.ref ak),("gates",V.ref ag),("lines",V.ref al),("desks",V.ref ad),("times",V.ref at_)]:List (Str×V))=[(("kinds":Str),V.ref ak),("gates",V.ref ag),("lines",V.ref al),("desks",V.ref ad),("times",V.ref at_),("hours",V.ref ah)]:=lP (show("hours":Str)∉(["kinds","gates","lines","desks","times"]:List Str) by symm)
  have m6:=m5.step (o:=.dK []) (fs':=[(("kinds":Str),V.ref ak),("gates",V.ref ag),("lines",V.ref al),("desks",V.ref ad),("times",V.ref at_),("hours",V.ref ah)]) hah;rw[e6];intro ap hap;refine⟨_,rfl,p,C,dx,_,rfl,by rw[aS (bj m6.ins hap)];exact m6.ins,cl,na _ (by symm),by show 6<1000;decide,?_⟩
  have e7:kr "paces" (.ref ap) ([(("kinds":Str),V.ref ak),("gates",V.ref ag),("lines",V.ref al),("desks",V.ref ad),("times",V.ref at_),("hours",V.ref ah)]:List (Str×V))=[(("kinds":Str),V.ref ak),("gates",V.ref ag),("lines",V.ref al),("desks",V.ref ad),("times",V.ref at_),("hours",V.ref ah),("paces",V.ref ap)]:=lP (show("paces":Str)∉(["kinds","gates","lines","desks","times","hours"]:List Str) by symm)
  have m7:=m6.step (o:=.dK []) (fs':=[(("kinds":Str),V.ref ak),("gates",V.ref ag),("lines",V.ref al),("desks",V.ref ad),("times",V.ref at_),("hours",V.ref ah),("paces",V.ref ap)]) hap;rw[e7];exact q ak ag al ad at_ ah ap _ m7
end
def rJ(p:Pl):Ent->Pl
 | .kind n k=>{ p with kinds:=p.kinds ++ [(n,k)] }
 | .gate n=>{ p with gates:=p.gates ++ [n] }
 | .line n r=>{ p with lines:=p.lines ++ [(n,r)] }
 | .desk d=>{ p with desks:=p.desks ++ [d] }
 | .time d k w=>{ p with times:=p.times ++ [(d,k,w)] }
 | .hour d a b=>{ p with hours:=p.hours ++ [(d,a,b)] }
def Kx(st:Pl)(d:aq)(y9:Pl):Prop:=∃e,d=Dc e/\mK st/\sS e/\yt st e/\y9=rJ st e
theorem uT{κ:Type}[DecidableEq κ]:∀{kvs:List (κ×V)}{k:κ},(∀q∈kvs,q.1≠k)->ja kvs k=none
 | [],_,_=>rfl
 |q::l,k,h=>by rw[lK (h q aP)];exact uT λx hx=>h x (aU _ hx)
theorem yx(z:Int×Int)(n:Str):∀{h:List (Str×List (Int×Int))}{cs:List aL},cs.length=h.length->
  (ja (gP h cs) (cx n)=none/\qB h n z=h ++ [(n,[z])])\/∃i c q,h[i]?=some q/\cs[i]?=some c/\ja (gP h cs) (cx n)=some (.ref c)/\qB h n z=h.set i (q.1,q.2 ++ [z])
 | [],[],_=>.inl ⟨rfl,rfl⟩
 | [],_::_,e=>by cases e
 |_::_,[],e=>by cases e
 |q::h,c::cs,e=>by
  have hv:gP (q::h) (c::cs)=(cx q.1,V.ref c)::gP h cs:=rfl;by_cases hn:q.1=n
  ·refine .inr ⟨0,c,q,rfl,rfl,?_,?_⟩
   ·rw[hv];exact oS (by show(cx q.1:Key)=cx n;rw[hn])
   ·show(if q.1=n then(q.1,q.2 ++ [z])::h else q::qB h n z)=_
    rw[qQ3 hn];rfl
  ·have ne:¬(cx q.1:Key)=cx n:=λw=>hn (by injection w)
   have ea:qB (q::h) n z=q::qB h n z:=by
    show(if q.1=n then(q.1,q.2 ++ [z])::h else q::qB h n z)=_
    rw[qQ2 hn]
   rcases yx z n (h:=h) (cs:=cs) (by simpa using e) with⟨h1,h2⟩|⟨i,c',q',h1,h2,h3,h4⟩
   ·exact .inl ⟨by rw[hv,lK ne];exact h1,by rw[ea,h2];rfl⟩
   ·exact .inr ⟨i+1,c',q',by simpa using h1,by simpa using h2,by rw[hv,lK ne];exact h3,by rw[ea,h4];rfl⟩
theorem v7:∀{h h':List (Str×List (Int×Int))}{cs:List aL},h'.map (·.1)=h.map (·.1)->gP h' cs=gP h cs
 | [],[],_,_=>rfl
 | [],_::_,_,e=>by cases e
 |_::_,[],_,e=>by cases e
 |q::h,q'::h',cs,e=>by
  obtain⟨e1,e2⟩:=jD e;cases cs with
  |nil=>rfl
  |cons c cs=>
   show(cx q'.1,V.ref c)::gP h' cs=(cx q.1,V.ref c)::gP h cs
   rw[show q'.1=q.1 from e1,v7 e2]
theorem E2{h:List (Str×List (Int×Int))}{cs:List aL}(e:cs.length=h.length)(q:Str×List (Int×Int))(c:aL):gP (h ++ [q]) (cs ++ [c])=gP h cs ++ [(cx q.1,V.ref c)]:=by
 unfold gP;rw[List.zip_append (by omega),bh]
 rfl
theorem E3(l:List (Str×Int×Int))(q:Str×Int×Int):fP (l ++ [q])=qB (fP l) q.1 q.2:=by
 unfold fP;rw[iD];rfl
theorem Di(z:Int×Int)(n:Str):∀h,(qB h n z).length<=h.length+1
 | []=>aD _
 |q::h=>by
  show(if q.1=n then(q.1,q.2 ++ [z])::h else q::qB h n z).length<=_
  split
  ·simp
  ·have:=Di z n h
   simp only[a9];omega
theorem E4(l:List (Str×Int×Int)):(fP l).length<=l.length:=by
 have go:∀(l:List (Str×Int×Int))(acc:List (Str×List (Int×Int))),(l.foldl (λacc q=>qB acc q.1 q.2) acc).length<=acc.length+l.length:=by
  intro l
  induction l with
  |nil=>intro acc;exact aD _
  |cons q l ih=>
   intro acc;have h1:=ih (qB acc q.1 q.2);have h2:=Di q.2 q.1 acc;rw[mM,a9];omega
 have:=go l [];rw[ck,qP]at this;exact this
theorem yy(z:Int×Int)(n:Str):∀(h:List (Str×List (Int×Int)))(b:Nat),(∀q∈h,q.2.length<=b)->∀q∈qB h n z,q.2.length<=b+1
 | [],b,_,q,hq=>by rw[bo.mp hq];simp
 |p::h,b,hb,q,hq=>by
  have hq:q∈(if p.1=n then(p.1,p.2 ++ [z])::h else p::qB h n z):=hq
  split at hq
  ·rcases aG.mp hq with rfl|hq
   ·have:=hb p aP
    rw[aV];simp;omega
   ·have:=hb q (aU _ hq);omega
  ·rcases aG.mp hq with rfl|hq
   ·have:=hb q aP;omega
   ·exact yy z n h b (λx hx=>hb x (aU _ hx)) q hq
theorem Dj(l:List (Str×Int×Int)):∀q∈fP l,q.2.length<=l.length:=by
 have go:∀(l:List (Str×Int×Int))(acc:List (Str×List (Int×Int)))(b:Nat),(∀q∈acc,q.2.length<=b)->∀q∈l.foldl (λacc q=>qB acc q.1 q.2) acc,q.2.length<=b+l.length:=by
  intro l
  induction l with
  |nil=>intro acc b hb q hq;exact hb q hq
  |cons q0 l ih=>
   intro acc b hb q hq;have:=ih (qB acc q0.1 q0.2) (b+1) (yy q0.2 q0.1 acc b hb) q hq;rw[a9];omega
 intro q hq;have:=go l [] 0 (λq hq=>by cases hq) q hq
 omega
section
variable{P:bC}{w:cw}{K:ao}{mg:Str->Option ay}{base:c6}{f:aL}{k:Nat}
abbrev YN:List Str:=["plant","entry","form","name"]
theorem Oh:c9 YN zt (b9 (top 38)):=⟨rfl,rfl,rfl,by symm,rfl,by symm,by symm⟩
theorem Ut{ak ag al ad at_ ah ap:aL}:(M7 ak ag al ad at_ ah ap).lookup ("kinds":Str)=some (.ref ak)/\(M7 ak ag al ad at_ ah ap).lookup ("gates":Str)=some (.ref ag)/\(M7 ak ag al ad at_ ah ap).lookup ("lines":Str)=some (.ref al)/\(M7 ak ag al ad at_ ah ap).lookup ("desks":Str)=some (.ref ad)/\(M7 ak ag al ad at_ ah ap).lookup ("times":Str)=some (.ref at_)/\(M7 ak ag al ad at_ ah ap).lookup ("hours":Str)=some (.ref ah):=⟨rfl,rfl,rfl,rfl,rfl,rfl⟩
theorem YQ(F:lq K "add_entry" "add_entry" (top 38) f fd):eX P w K mg base kF 1 f fd zt (F8 K Pl (sU K) Kx):=by
 refine F.ok Oh (λvs H Q E h=>?_) (λh8 A outer s H vs Q E hr h=>?_)
 ·obtain⟨_,_,_,_,_,_,_,rfl,_⟩:=h
  rfl
 ·obtain⟨H0,p,v,as,st,y9,d,rfl,sm,rv,own,W0,⟨e,rfl,ok,oe,oa,rfl⟩,q⟩:=h
  refine⟨_,my,?_⟩
  have nd:YN.Nodup:=Oh.nd;have f0:hU K H0 H H0 H (start YN [.ref p,v]) [.ref p,.val (Dc e),.un,.un]:=by
   refine⟨.refl sm,rfl,λi sl hi=>?_,λi j a b p' _ h1=>?_⟩
   ·match i,hi with
    |0,hi=>cases hi;exact rfl
    |1,hi=>cases hi;exact⟨v,rfl,rv⟩
    |2,hi=>cases hi;exact trivial
    |3,hi=>cases hi;exact trivial
    |i+4,hi=>simp at hi
   ·match i,h1 with
    |0,h1=>cases h1
    |1,h1=>cases h1
    |2,h1=>cases h1
    |3,h1=>cases h1
    |i+4,h1=>simp at h1
  refine eG (Tv f0 (bV 2 (d:=.str e.form) (c0 (ai 1 rfl) aF (sf e)) nd) λσ1 H1 eC s1 f1=>?_)
  refine eG (Tv f1 (bV 3 (d:=.str e.name) (c0 (ai 1 rfl) aF (Gr e)) nd) λσ2 H2 iT s2 f2=>?_)
  have W2:=sU.mono _ _ _ _ _ W0 f2.ent.gU (λa ha=>f2.ent.big.eq (own a ha).2)
  obtain⟨C,dx,ak,ag,al,ad,at_,ah,ap,cs,xd,rfl,M8,W⟩:=W2;have o2:∀a∈p::ak::ag::al::ad::at_::ah::ap::cs,∃o,H a=some o/\H0 a=none:=λa ha=>by
   obtain⟨z1,z2⟩:=own a ha;cases e:H a with
   |none=>exact qQ7 e z2
   |some o=>exact⟨o,rfl,z1⟩
  have Uu:=M8;simp only[gL,aG,not_or]at Uu;obtain⟨⟨pk,pg,pl,pd,pt,ph,pp,pc⟩,⟨kg,kl,kd,kt,kh,kp,kc⟩,⟨gl,gd,gt,gh,gp,gc⟩,⟨ld,lt,lh,lp,lc⟩,⟨dt,dh,dp,dc⟩,⟨th,tp,tc⟩,⟨hp,hc⟩,apc,ncs⟩:=Uu;have fin:∀(Ha Hb:Hp)(a:aL)(o:HO),dU H0 H Ha Hb->a∈p::ak::ag::al::ad::at_::ah::ap::cs->(∀xd',xd'=xd->sU K p (rJ st e) Ha (upd Hb a o) (p::ak::ag::al::ad::at_::ah::ap::cs))->Q .non (upd Hb a o):=λHa Hb a o g ha hW=>by
   have fr:∀b∈p::ak::ag::al::ad::at_::ah::ap::cs,Ha b=none/\Hb b≠none:=λb hb=>by
    obtain⟨ob,e1,e2⟩:=o2 b hb;exact⟨g.still e2 e1,by rw[g.big _ _ e1];simp⟩
   refine q Ha (upd Hb a o) _ g.gU (λb u e=>?_) g.new (λb hb=>⟨(fr b hb).1,?_,.inl hb⟩) (λb u e hb=>?_) (hW xd rfl)
   ·rw[aS (bj e (fr a ha).1)];exact g.sub b u e
   ·by_cases hba:b=a
    ·subst hba;rw[bK];simp
    ·rw[aS hba];exact(fr b hb).2
   ·rw[aS (λz=>hb (by rw[z];exact ha))];exact g.big b u e
  have Wg:∀Ha Hb,dU H2 iT Ha Hb->PlW K p st Ha Hb C dx ak ag al ad at_ ah ap cs xd:=λHa Hb g=>by
   have M:=sU.mono (K:=K) (p:=p) (st:=st) H2 iT Ha Hb (p::ak::ag::al::ad::at_::ah::ap::cs) ⟨C,dx,ak,ag,al,ad,at_,ah,ap,cs,xd,rfl,M8,W⟩ g.gU (λa ha=>by
    obtain⟨o,e1,_⟩:=o2 a ha;exact g.big.eq (by rw[f2.ent.big _ _ e1];simp))
   exact⟨g.big _ _ W.ins,W.cls,W.sx,g.big _ _ W.ki,g.big _ _ W.ga,g.big _ _ W.li,g.big _ _ W.de,W.dr.mono g.gU,g.big _ _ W.ti,g.big _ _ W.ho,W.hl,g.big _ _ W.pa,λi c q e1 e2=>by
    obtain⟨xs,h1,h2⟩:=W.ce i c q e1 e2;exact⟨xs,g.big _ _ h1,h2.mono g.gU⟩⟩
  obtain⟨lk1,lk2,lk3,lk4,lk5,lk6⟩:=Ut (ak:=ak) (ag:=ag) (al:=al) (ad:=ad) (at_:=at_) (ah:=ah) (ap:=ap);have lf:=bH (n:=20) (dI e);cases e with
  |kind m kk=>
   refine dR (yc f2 (VT.to (bU hr lf aZ (ai 2 rfl) aO) (jb _)) λHa Hb g=>?_)
   have Wa:=Wg Ha Hb g;have hz:(tP st).length<sizeLine:=jF (by unfold tP;rw[aj];have:=ok.kn;omega)
   refine dR (N0 (f2.grow g) hr 0 rfl Wa.ins Wa.cls (Wa.sx _ (by symm)) lk1 Wa.ki (ai 3 rfl) (c0 (ai 1 rfl) aF (cz (j:=2) rfl)) hz λv Hc Hd g2 r=>?_)
   have Wd:=Wg Hc Hd (g.trans g2);have hv:=Rep.M6 r;subst hv;refine fin Hc Hd ak _ (f2.ent.trans (g.trans g2)) (by simp) λ_ _=>⟨C,dx,ak,ag,al,ad,at_,ah,ap,cs,xd,rfl,M8,?_⟩
   have hn:ja (tP st) (cx m)=none:=uT λq' Cd=>by
    obtain⟨q0,h0,rfl⟩:=aN.mp Cd;intro z
    injection z with z
    exact oa (by rw[<-z];exact aN.mpr ⟨q0,h0,rfl⟩)
   refine⟨by rw[aS pk];exact Wd.ins,Wd.cls,Wd.sx,?_,by rw[aS (bM kg)];exact Wd.ga,by rw[aS (bM kl)];exact Wd.li,by rw[aS (bM kd)];exact Wd.de,Wd.dr,by rw[aS (bM kt)];exact Wd.ti,by rw[aS (bM kh)];exact Wd.ho,Wd.hl,by rw[aS (bM kp)];exact Wd.pa,λi c q' e1 e2=>?_⟩
   ·rw[bK]
    show some (HO.dK (putK (tP st) (cx m) (M5 kk)))=some (.dK ((st.kinds ++ [(m,kk)]).map _));rw[uq _ hn,bh];rfl
   ·obtain⟨xs,h1,h2⟩:=Wd.ce i c q' e1 e2
    exact⟨xs,by rw[aS (λz=>kc (by rw[<-z];exact bO e1))];exact h1,h2⟩
  |gate m=>
   refine dR (m_ f2 (VT.to (bU hr lf aZ (ai 2 rfl) aO) (gE (show("gate":Str)≠"kind" by symm))) λQC QD g1=>?_)
   have Gu:=f2.grow g1;have M9:=g1;refine dR (yc Gu (VT.to (bU hr lf aZ (ai 2 rfl) aO) (jb _)) λOi Oj g2=>?_)
   have HY:=Gu.grow g2;have Ky:=M9.trans g2;have Wa:=Wg Oi Oj Ky;have hz:(st.gates.map V.str).length<sizeLine:=jF (by rw[aj];have:=ok.gn;omega)
   refine dR (CG HY 0 rfl Wa.ins Wa.cls (Wa.sx _ (by symm)) lk2 Wa.ga (ai 3 rfl) hz λv Hc Hd g9 r=>?_)
   have Wd:=Wg Hc Hd (Ky.trans g9);cases r;refine fin Hc Hd ag _ (f2.ent.trans (Ky.trans g9)) (by simp) λ_ _=>⟨C,dx,ak,ag,al,ad,at_,ah,ap,cs,xd,rfl,M8,?_⟩
   refine⟨by rw[aS (pg)];exact Wd.ins,Wd.cls,Wd.sx,by rw[aS (kg)];exact Wd.ki,?_,by rw[aS (bM gl)];exact Wd.li,by rw[aS (bM gd)];exact Wd.de,Wd.dr,by rw[aS (bM gt)];exact Wd.ti,by rw[aS (bM gh)];exact Wd.ho,Wd.hl,by rw[aS (bM gp)];exact Wd.pa,λi c q' e1 e2=>?_⟩
   ·rw[bK]
    show some (HO.lst (st.gates.map V.str ++ [V.str m]))=some (.lst ((st.gates ++ [m]).map V.str));rw[bh];rfl
   ·obtain⟨xs,h1,h2⟩:=Wd.ce i c q' e1 e2
    exact⟨xs,by rw[aS (λz=>gc (by rw[<-z];exact bO e1))];exact h1,h2⟩
  |line m rr=>
   refine dR (m_ f2 (VT.to (bU hr lf aZ (ai 2 rfl) aO) (gE (show("line":Str)≠"kind" by symm))) λQC QD g1=>?_)
   have Gu:=f2.grow g1;have M9:=g1;refine dR (m_ Gu (VT.to (bU hr lf aZ (ai 2 rfl) aO) (gE (show("line":Str)≠"gate" by symm))) λOi Oj g2=>?_)
   have HY:=Gu.grow g2;have Ky:=M9.trans g2;refine dR (yc HY (VT.to (bU hr lf aZ (ai 2 rfl) aO) (jb _)) λRq Rr g3=>?_)
   have K5:=HY.grow g3;have M_:=Ky.trans g3;have Wa:=Wg Rq Rr M_;have hz:(tQ st).length<sizeLine:=jF (by unfold tQ;rw[aj];have:=ok.ln;omega)
   refine dR (N0 K5 hr 0 rfl Wa.ins Wa.cls (Wa.sx _ (by symm)) lk3 Wa.li (ai 3 rfl) (c0 (ai 1 rfl) aF (cz (j:=2) rfl)) hz λv Hc Hd g9 r=>?_)
   have Wd:=Wg Hc Hd (M_.trans g9);cases r;refine fin Hc Hd al _ (f2.ent.trans (M_.trans g9)) (by simp) λ_ _=>⟨C,dx,ak,ag,al,ad,at_,ah,ap,cs,xd,rfl,M8,?_⟩
   have hn:ja (tQ st) (cx m)=none:=uT λq' Cd=>by
    obtain⟨q0,h0,rfl⟩:=aN.mp Cd;intro z
    injection z with z
    exact oa (.inr (by rw[<-z];exact aN.mpr ⟨q0,h0,rfl⟩))
   refine⟨by rw[aS (pl)];exact Wd.ins,Wd.cls,Wd.sx,by rw[aS (kl)];exact Wd.ki,by rw[aS (gl)];exact Wd.ga,?_,by rw[aS (bM ld)];exact Wd.de,Wd.dr,by rw[aS (bM lt)];exact Wd.ti,by rw[aS (bM lh)];exact Wd.ho,Wd.hl,by rw[aS (bM lp)];exact Wd.pa,λi c q' e1 e2=>?_⟩
   ·rw[bK]
    show some (HO.dK (putK (tQ st) (cx m) (V.int rr)))=some (.dK ((st.lines ++ [(m,rr)]).map _));rw[uq _ hn,bh];rfl
   ·obtain⟨xs,h1,h2⟩:=Wd.ce i c q' e1 e2
    exact⟨xs,by rw[aS (λz=>lc (by rw[<-z];exact bO e1))];exact h1,h2⟩
  |desk q0=>
   refine dR (m_ f2 (VT.to (bU hr lf aZ (ai 2 rfl) aO) (gE (show("desk":Str)≠"kind" by symm))) λQC QD g1=>?_)
   have Gu:=f2.grow g1;have M9:=g1;refine dR (m_ Gu (VT.to (bU hr lf aZ (ai 2 rfl) aO) (gE (show("desk":Str)≠"gate" by symm))) λOi Oj g2=>?_)
   have HY:=Gu.grow g2;have Ky:=M9.trans g2;refine dR (m_ HY (VT.to (bU hr lf aZ (ai 2 rfl) aO) (gE (show("desk":Str)≠"line" by symm))) λRq Rr g3=>?_)
   have K5:=HY.grow g3;have M_:=Ky.trans g3;refine dR (yc K5 (VT.to (bU hr lf aZ (ai 2 rfl) aO) (jb _)) λUv Uw g4=>?_)
   have QF:=K5.grow g4;have QG:=M_.trans g4;have Wa:=Wg Uv Uw QG;have XO:=Wa.dr.length;rw[aj]at XO;have hz:xd.length<sizeLine:=jF (by have:=ok.dn;omega)
   have Ki:L2.cutD (aQ "desk"::Ent.rest (.desk q0)) (some 1) none=Ent.rest (.desk q0):=(jw (aQ "desk"::Ent.rest (.desk q0)) 1).trans rfl;refine dR (CG (d:=fB q0) QF 0 rfl Wa.ins Wa.cls (Wa.sx _ (by symm)) lk4 Wa.de (VE.to (vk (ai 1 rfl) (.yes aF) .no ?_) (by show fX (L2.cutD (aQ "desk"::Ent.rest (.desk q0)) (some 1) none)=_;rw[Ki];rfl)) hz λv Hc Hd g9 r=>?_)
   ·intro z
    have:=z.1;rw[show(1:Int)=((1:Nat):Int)from rfl,HT.pL]at this
    exact qQ7 this (by show ¬(min 1 5=0);decide)
   have Wd:=Wg Hc Hd (QG.trans g9);refine fin Hc Hd ad _ (f2.ent.trans (QG.trans g9)) (by simp) λ_ _=>⟨C,dx,ak,ag,al,ad,at_,ah,ap,cs,xd ++ [v],rfl,M8,?_⟩
   refine⟨by rw[aS (pd)];exact Wd.ins,Wd.cls,Wd.sx,by rw[aS (kd)];exact Wd.ki,by rw[aS (gd)];exact Wd.ga,by rw[aS (ld)];exact Wd.li,bK,?_,by rw[aS (bM dt)];exact Wd.ti,by rw[aS (bM dh)];exact Wd.ho,Wd.hl,by rw[aS (bM dp)];exact Wd.pa,λi c q' e1 e2=>?_⟩
   ·show dq K Hc (xd ++ [v]) ((st.desks ++ [q0]).map fB)
    rw[bh];exact Wd.dr.append (.cons r .nil)
   ·obtain⟨xs,h1,h2⟩:=Wd.ce i c q' e1 e2
    exact⟨xs,by rw[aS (λz=>dc (by rw[<-z];exact bO e1))];exact h1,h2⟩
  |time dk VW wk=>
   refine dR (m_ f2 (VT.to (bU hr lf aZ (ai 2 rfl) aO) (gE (show("time":Str)≠"kind" by symm))) λQC QD g1=>?_)
   have Gu:=f2.grow g1;have M9:=g1;refine dR (m_ Gu (VT.to (bU hr lf aZ (ai 2 rfl) aO) (gE (show("time":Str)≠"gate" by symm))) λOi Oj g2=>?_)
   have HY:=Gu.grow g2;have Ky:=M9.trans g2;refine dR (m_ HY (VT.to (bU hr lf aZ (ai 2 rfl) aO) (gE (show("time":Str)≠"line" by symm))) λRq Rr g3=>?_)
   have K5:=HY.grow g3;have M_:=Ky.trans g3;refine dR (m_ K5 (VT.to (bU hr lf aZ (ai 2 rfl) aO) (gE (show("time":Str)≠"desk" by symm))) λUv Uw g4=>?_)
   have QF:=K5.grow g4;have QG:=M_.trans g4;refine dR (yc QF (VT.to (bU hr lf aZ (ai 2 rfl) aO) (jb _)) λHa5 Hb5 g5=>?_)
   have VX:=QF.grow g5;have VY:=QG.trans g5;have Wa:=Wg Ha5 Hb5 VY;have hz:(tR st).length<sizeLine:=jF (by unfold tR;rw[aj];have:=ok.tn;omega)
   refine dR (Qc VX hr 0 rfl Wa.ins Wa.cls (Wa.sx _ (by symm)) lk5 Wa.ti (ai 3 rfl) (c0 (ai 1 rfl) aF (cz (j:=2) rfl)) (c0 (ai 1 rfl) aF (cz (j:=3) rfl)) hz λv t Hc Hd g9 ht r=>?_)
   have gt9:dU H2 iT Hc (upd Hd t (.tup [.str dk,.str VW])):=(VY.trans g9).trans (.loose g9.sub ht);have Wd:=Wg Hc _ gt9;cases r;refine fin Hc _ at_ _ (f2.ent.trans gt9) (by simp) λ_ _=>⟨C,dx,ak,ag,al,ad,at_,ah,ap,cs,xd,rfl,M8,?_⟩
   have hn:ja (tR st) (vp (dk,VW))=none:=uT λq' Cd=>by
    obtain⟨q0,h0,rfl⟩:=aN.mp Cd;intro z;have:=CD z;exact oa.1 (by rw[<-this];exact aN.mpr ⟨q0,h0,rfl⟩)
   refine⟨by rw[aS (pt)];exact Wd.ins,Wd.cls,Wd.sx,by rw[aS (kt)];exact Wd.ki,by rw[aS (gt)];exact Wd.ga,by rw[aS (lt)];exact Wd.li,by rw[aS (dt)];exact Wd.de,Wd.dr,?_,by rw[aS (bM th)];exact Wd.ho,Wd.hl,by rw[aS (bM tp)];exact Wd.pa,λi c q' e1 e2=>?_⟩
   ·rw[bK]
    show some (HO.dT (putK (tR st) (vp (dk,VW)) (V.int wk)))=some (.dT ((st.times ++ [(dk,VW,wk)]).map _));rw[uq _ hn,bh];rfl
   ·obtain⟨xs,h1,h2⟩:=Wd.ce i c q' e1 e2
    exact⟨xs,by rw[aS (λz=>tc (by rw[<-z];exact bO e1))];exact h1,h2⟩
  |hour dk ha hb=>
   refine dR (m_ f2 (VT.to (bU hr lf aZ (ai 2 rfl) aO) (gE (show("open":Str)≠"kind" by symm))) λQC QD g1=>?_)
   have Gu:=f2.grow g1;have M9:=g1;refine dR (m_ Gu (VT.to (bU hr lf aZ (ai 2 rfl) aO) (gE (show("open":Str)≠"gate" by symm))) λOi Oj g2=>?_)
   have HY:=Gu.grow g2;have Ky:=M9.trans g2;refine dR (m_ HY (VT.to (bU hr lf aZ (ai 2 rfl) aO) (gE (show("open":Str)≠"line" by symm))) λRq Rr g3=>?_)
   have K5:=HY.grow g3;have M_:=Ky.trans g3;refine dR (m_ K5 (VT.to (bU hr lf aZ (ai 2 rfl) aO) (gE (show("open":Str)≠"desk" by symm))) λUv Uw g4=>?_)
   have QF:=K5.grow g4;have QG:=M_.trans g4;refine dR (m_ QF (VT.to (bU hr lf aZ (ai 2 rfl) aO) (gE (show("open":Str)≠"time" by symm))) λHa5 Hb5 g5=>?_)
   have VX:=QF.grow g5;have VY:=QG.trans g5;refine dR (yc VX (VT.to (bU hr lf aZ (ai 2 rfl) aO) (jb _)) λYR Hb6 g6=>?_)
   have ff6:=VX.grow g6;have Ux:=VY.trans g6;have Wa:=Wg YR Hb6 Ux;have hll:=E4 st.hours;have Ik:=Dj st.hours;have okh:=ok.hn;have hz:(gP (fP st.hours) cs).length<sizeLine:=jF (by unfold gP;rw[aj,yR];omega)
   have Ki:L2.cutD (aQ "open"::Ent.rest (.hour dk ha hb)) (some 2) none=[.int ha,.int hb]:=(jw (aQ "open"::Ent.rest (.hour dk ha hb)) 2).trans rfl;have XJ:YR ah=none:=by
    obtain⟨o,e1,e2⟩:=o2 ah (by simp)
    exact(f2.ent.trans Ux).still e2 e1
   have GU:fP (st.hours ++ [(dk,ha,hb)])=qB (fP st.hours) dk (ha,hb):=E3 _ _;have Kz:=yx (ha,hb) dk W.hl;refine dR (JK (d:=pairD (ha,hb)) ff6 0 rfl Wa.ins Wa.cls (Wa.sx _ (by symm)) lk6 Wa.ho (ai 3 rfl) (VE.to (vk (ai 1 rfl) (.yes aF) .no ?_) (by show fX (L2.cutD (aQ "open"::Ent.rest (.hour dk ha hb)) (some 2) none)=_;rw[Ki];rfl)) hz rfl XJ (λv hv=>?_) (λc xs v t Hc Hd En QY htt g9 ht0 r=>?_) (λv c Hc Hd En XX s9 W8 nw old Ra hdc Vj ha9 r=>?_))
   ·intro z
    have:=z.1;rw[show(2:Int)=((2:Nat):Int)from rfl,HT.pL]at this
    exact qQ7 this (by show ¬(min 2 4=0);decide)
   ·rcases Kz with⟨h1,_⟩|⟨i,c,q',h1,h2,h3,h4⟩
    ·have hv:ja (gP (fP st.hours) cs) (cx dk)=some v:=hv
     rw[h1]at hv;cases hv
    ·have hv:some v=some (V.ref c):=hv.symm.trans h3
     cases hv;obtain⟨xs,x1,x2⟩:=Wa.ce i c q' h2 h1;refine⟨c,xs,rfl,x1,jF ?_⟩
     have:=x2.length;rw[aj]at this;have:=Ik q' (bO h1);omega
   ·rcases Kz with⟨h1,_⟩|⟨i,c',q',h1,h2,h3,h4⟩
    ·have En:ja (gP (fP st.hours) cs) (cx dk)=some (V.ref c):=En
     rw[h1]at En;cases En
    ·have En:some (V.ref c')=some (V.ref c):=h3.symm.trans En
     cases En;have Wd:=Wg Hc Hd (Ux.trans g9);have Sb:c∈cs:=bO h2;obtain⟨xs',x1,x2⟩:=Wd.ce i c q' h2 h1;have ex:xs'=xs:=by
      have:=g9.big _ _ QY;rw[this]at x1;cases x1;rfl
     subst ex;have YS:i<(fP st.hours).length:=(aJ.mp h1).1;have E5:fP (rJ st (.hour dk ha hb)).hours=(fP st.hours).set i (q'.1,q'.2 ++ [(ha,hb)]):=by
      show fP (st.hours ++ [(dk,ha,hb)])=_;rw[GU,h4]
     refine fin Hc Hd c _ (f2.ent.trans (Ux.trans g9)) (by simp[Sb]) λ_ _=>⟨C,dx,ak,ag,al,ad,at_,ah,ap,cs,xd,rfl,M8,?_⟩
     have nc:∀x,x∉cs->x≠c:=λx hx z=>hx (by rw[z];exact Sb)
     refine⟨by rw[aS (nc _ pc)];exact Wd.ins,Wd.cls,Wd.sx,by rw[aS (nc _ kc)];exact Wd.ki,by rw[aS (nc _ gc)];exact Wd.ga,by rw[aS (nc _ lc)];exact Wd.li,by rw[aS (nc _ dc)];exact Wd.de,Wd.dr,by rw[aS (nc _ tc)];exact Wd.ti,?_,?_,by rw[aS (nc _ apc)];exact Wd.pa,λj c2 q2 e1 e2=>?_⟩
     ·rw[aS (nc _ hc),Wd.ho,E5]
      congr 2
      refine(v7 ?_).symm
      rw[List.map_set];refine k6 λn=>?_
      by_cases hn:n=i
      ·subst hn;rw[a8 (by rw[aj];exact YS),aT,h1];rfl
      ·rw[a7 (bM hn)]
     ·rw[E5,yO];exact Wd.hl
     ·rw[E5]at e2
      by_cases hj:j=i
      ·subst hj
       rw[h2]at e1;cases e1;rw[a8 YS]at e2;cases e2;refine⟨xs' ++ [v],bK,?_⟩
       show dq K Hc (xs' ++ [v]) ((q'.2 ++ [(ha,hb)]).map pairD);rw[bh];exact x2.append (.cons r .nil)
      ·rw[a7 (bM hj)]at e2
       obtain⟨ys,y1,y2⟩:=Wd.ce j c2 q2 e1 e2;have m8:c2≠c:=λz=>by
        subst z;have l1:=aJ.mp e1;have l2:=aJ.mp h2;obtain⟨l1a,l1b⟩:=l1;obtain⟨l2a,l2b⟩:=l2;rcases Nat.lt_or_gt_of_ne hj with rS|rS
        ·exact oK.mp ncs j i l1a l2a rS (by rw[l1b,l2b])
        ·exact oK.mp ncs i j l2a l1a rS (by rw[l1b,l2b])
       exact⟨ys,by rw[aS m8];exact y1,y2⟩
   ·rcases Kz with⟨h1,h4⟩|⟨i,c',q',h1,h2,h3,h4⟩
    ·have gH:=f2.ent.trans Ux
     have YT:H c=none:=gH.big.free XX;have Nb:c∉p::ak::ag::al::ad::at_::ah::ap::cs:=λz=>by
      obtain⟨o,e1,_⟩:=o2 c z;rw[YT]at e1;cases e1
     have E5:fP (rJ st (.hour dk ha hb)).hours=fP st.hours ++ [(dk,[(ha,hb)])]:=by
      show fP (st.hours ++ [(dk,ha,hb)])=_;rw[GU,h4]
     have YV:∀x∈p::ak::ag::al::ad::at_::ah::ap::cs,Hc x=none:=λx hx=>by
      obtain⟨o,e1,e2⟩:=o2 x hx;have:YR x=none:=gH.still e2 e1;cases e:Hc x with
      |none=>rfl
      |some u=>
       rcases nw x (by rw[e];simp)with z|z
       ·exact qQ7 this z
       ·rw[gH.big _ _ e1]at z;cases z
     have Il:∀x∈p::ak::ag::al::ad::at_::ah::ap::cs,x≠ah->∀u,Hb6 x=some u->(upd Hd c (.lst [v])) x=some u:=λx hx VZ u e=>by
      rw[aS (λz=>Nb (by rw[<-z];exact hx))];exact old x u e VZ
     refine q Hc (upd Hd c (.lst [v])) (p::ak::ag::al::ad::at_::ah::ap::(cs ++ [c])) (gH.gU.trans s9) (λb u e=>?_) (λb z=>?_) (λx hx=>?_) (λb u e Tf=>?_) ⟨C,dx,ak,ag,al,ad,at_,ah,ap,cs ++ [c],xd,rfl,?_,?_⟩
     ·rw[aS (bj e Vj)];exact W8 b u e
     ·rcases nw b z with z|z
      ·exact gH.new b z
      ·exact .inr (gH.big.free z)
     ·have hx:x∈(p::ak::ag::al::ad::at_::ah::ap::cs) ++ [c]:=by simpa using hx
      rcases bX.mp hx with hx|hx
      ·refine⟨YV x hx,?_,.inl hx⟩
       rw[aS (λz=>Nb (by rw[<-z];exact hx))]
       obtain⟨o,e1,_⟩:=o2 x hx;by_cases VZ:x=ah
       ·rw[VZ,Ra];simp
       ·rw[old x o (gH.big _ _ e1) VZ];simp
      ·rw[bo.mp hx]
       exact⟨Vj,by rw[bK];simp,.inr YT⟩
     ·have hbc:b≠c:=λz=>by rw[z,YT]at e;cases e
      rw[aS hbc];exact old b u (gH.big _ _ e) (λz=>Tf (by rw[z];simp))
     ·have:(p::ak::ag::al::ad::at_::ah::ap::(cs ++ [c]))=(p::ak::ag::al::ad::at_::ah::ap::cs) ++ [c]:=by simp
      rw[this,eN];exact⟨M8,by simp,λx hx y hy z=>Nb (by rw[<-bo.mp hy,<-z];exact hx)⟩
     ·refine⟨Il p (by simp) ph _ Wa.ins,Wa.cls,Wa.sx,Il ak (by simp) kh _ Wa.ki,Il ag (by simp) gh _ Wa.ga,Il al (by simp) lh _ Wa.li,Il ad (by simp) dh _ Wa.de,Wa.dr.mono s9,Il at_ (by simp) th _ Wa.ti,?_,?_,Il ap (by simp) (bM hp) _ Wa.pa,λj c2 q2 e1 e2=>?_⟩
      ·have Ra:Hd ah=some (.dK (putK (gP (fP st.hours) cs) (cx dk) (.ref c))):=Ra
       rw[aS (λz=>Nb (by rw[<-z];simp)),Ra,E5,uq _ h1,E2 W.hl]
      ·rw[E5,aV,aV,W.hl];rfl
      ·rw[E5]at e2
       by_cases hj:j<cs.length
       ·rw[cC hj]at e1
        rw[cC (by rw[<-W.hl];exact hj)]at e2
        obtain⟨ys,y1,y2⟩:=Wa.ce j c2 q2 e1 e2;have hm:c2∈cs:=bO e1;exact⟨ys,Il c2 (by simp[hm]) (λz=>hc (by rw[<-z];exact hm)) _ y1,y2.mono s9⟩
       ·have hl:=W.hl
        have hj2:j=cs.length:=by
         have:=(aJ.mp e1).1;rw[aV,lH]at this;omega
        subst hj2;rw[cy (aD _),DM]at e1;rw[cy (by omega),show cs.length-(fP st.hours).length=0 from by omega]at e2
        cases e1;cases e2;exact⟨[v],bK,.cons r .nil⟩
    ·have En:ja (gP (fP st.hours) cs) (cx dk)=none:=En
     rw[h3]at En;cases En
end
def E6:Pl:=⟨[],[],[],[],[],[]⟩
def oI(es:List Ent)(i:Nat):Pl:=(es.take i).foldl rJ E6
theorem Aw{es:List Ent}{i:Nat}(h:es[i]?=some e):oI es (i+1)=rJ (oI es i) e:=by
 unfold oI;rw[eu,h,iD];rfl
theorem KC(es:List Ent):oI es es.length=es.foldl rJ E6:=by unfold oI;rw[jJ]
structure HZ(es:List Ent):Prop where
 ent:∀e∈es,sS e
 pl:∀i,i<=es.length->mK (oI es i)
 add:∀(i:Nat)e,es[i]?=some e->yt (oI es i) e
section
variable{P:bC}{w:cw}{K:ao}{mg:Str->Option ay}{base:c6}{f:aL}{k:Nat}
structure YW(P:bC)(w:cw)(K:ao)(mg:Str->Option ay)(base:c6):Prop where
 ex:∃C fi fd,mg "Plant"=some (.ref C)/\Cb K C/\(∀f∈VR,fK K C f)/\Mk K C fi/\eX P w K mg base kF 1 fi fd ["self"] (Kw C)/\Binds K fd ["self"] []
abbrev Rt:List Str:=["text","plant","number","words","entry","word"]
theorem Gv:c9 Rt ["text"] (b9 (top 23)):=⟨rfl,rfl,rfl,by symm,rfl,by symm,by symm⟩
def Rrp(ds:List aq)(d:aq):Prop:=∃(x:Str)(es:List Ent),ds=[.str x]/\rq x/\(rowsOf x).map (·.2)=es.map uO/\HZ es/\d=rG (es.foldl rJ E6)
theorem YX(F:lq K "read_plant" "read_plant" (top 23) f fd)(n:Np mg w.params K)(T:YW P w K mg base)(C1:bE P w K mg base 2 "rows_of" ["text"] (FW K X7))(C2:bE P w K mg base 8 "entry_of" ["words"] (hV K Yw))(C3:bE P w K mg base 3 "fault_of" zt (hV K YK))(C4:bE P w K mg base 1 "add_entry" zt (F8 K Pl (sU K) Kx)):eX P w K mg base kF 9 f fd ["text"] (hV K Rrp):=
 jz F Gv (λ_ _ h=>by obtain⟨_,_,rfl,_⟩:=h;rfl) λ_ _ h=>by
  obtain⟨x,es,rfl,ox,Ax,E7,rfl⟩:=h;intro h8 A outer s H E hr;have nd:Rt.Nodup:=Gv.nd;obtain⟨C,fi,fdi,mC,cl,na,M,FI,bI⟩:=T.ex;have hlen:(rowsOf x).length=es.length:=by have:=qQ6 gu Ax;simpa using this
  refine xZ λB0 B σ H0 Hh D fr YY=>?_
  refine eG (JH 1 M FI (hr.mono (by omega)) mC bI (λp dx E' hp YZ Ur=>?_) nd)
  refine⟨p,dx,rfl,bK,λak ag al ad at_ ah ap H' mid=>⟨rfl,?_⟩⟩
  have Fy:∀b,(upd (upd Hh dx (.own p)) p (.ins C dx [])) b=none->Hh b=none:=λb hb=>by
   have h1:b≠p:=λz=>by rw[z,bK]at hb;cases hb
   rw[aS h1]at hb;have h2:b≠dx:=λz=>by rw[z,bK]at hb;cases hb
   rw[aS h2]at hb;exact hb
  have Dl:∀b o,Hh b=some o->H' b=some o:=λb o e=>by
   have h1:b≠p:=bj e hp;refine mid.old b o ?_ h1
   rw[aS h1,aS (bj e YZ)];exact e
  have G0:OF K B0 B (sU K p (oI es 0)) H0 H' (σ.set 1 (some (.ref p))) [.val (.str x),.ref p,.un,.un,.un,.un]:=by
   have g:dU H0 Hh H0 H':=⟨Dl,ej.refl _,λb u e=>Dl b u (fr.sub b u e),λ_ z=>.inl z⟩
   refine⟨(fr.grow g).Cw (i:=1) (v:=.ref p) (sl:=.ref p) rfl rfl,rfl,[p,ak,ag,al,ad,at_,ah,ap],λa ha=>?_,C,dx,ak,ag,al,ad,at_,ah,ap,[],[],rfl,by simpa using mid.nd,?_⟩
   ·have yz:Hh a=none/\H' a≠none:=by
     rcases aG.mp ha with rfl|ha
     ·exact⟨hp,by rw[mid.ins];simp⟩
     ·have Y0:∃q∈[(ak,HO.dK []),(ag,.lst []),(al,.dK []),(ad,.lst []),(at_,.dT []),(ah,.dK []),(ap,.dK [])],q.1=a:=by
       simp only[aG,bP,or_false]at ha;rcases ha with rfl|rfl|rfl|rfl|rfl|rfl|rfl<;>simp
      obtain⟨q,hq,rfl⟩:=Y0;exact⟨Fy _ (mid.fresh q hq),by rw[mid.ob q hq];simp⟩
    exact⟨fr.sub.free yz.1,fr.ent.big.free yz.1,yz.2⟩
   ·exact⟨mid.ins,cl,na,mid.ob (ak,.dK []) (by simp),mid.ob (ag,.lst []) (by simp),mid.ob (al,.dK []) (by simp),mid.ob (ad,.lst []) (by simp),.nil,mid.ob (at_,.dT []) (by simp),mid.ob (ah,.dK []) (by simp),rfl,mid.ob (ap,.dK []) (by simp),λi c q e1=>by simp at e1⟩
  refine eG (Tr (tgt:=.tup [2,3]) (ds:=(rowsOf x).map sN) (λi=>sU K p (oI es i)) (λi=>sU.mono) G0 eV rfl (je (VO.ve (nV C1 (hr.mono (by omega)) (av (ai 0 rfl) aX) ⟨x,rfl,ox,rfl⟩)))
   (iS rfl (cD (cp (i:=2) nd rfl (bB rfl)) (cD (cp (i:=3) nd rfl (bB rfl)) gN))) (λi d hd=>?_) (λσ2 Ha Hb G=>?_))
  ·obtain⟨r,V0,rfl⟩:∃r,(rowsOf x)[i]?=some r/\d=sN r:=by
    rw[aT]at hd;cases e:(rowsOf x)[i]? with
    |none=>rw[e]at hd;cases hd
    |some r=>rw[e]at hd;cases hd;exact⟨r,rfl,rfl⟩
   have YS:i<(rowsOf x).length:=(aJ.mp V0).1;have KZ:es[i]?=some es[i]:=ax (by omega)
   have hw:r.2=uO es[i]:=by
    have h1:((rowsOf x).map (·.2))[i]?=some r.2:=by rw[aT,V0];rfl
    rw[Ax,aT,KZ]at h1;exact(di h1).symm
   have oe:=E7.ent _ (dQ (by omega:i<es.length))
   have oa:=E7.add i _ KZ;have op:=E7.pl i (by omega)
   have KD:=Aw KZ
   generalize es[i]=e at *
   refine⟨[.val (.str x),.ref p,.val (.int (r.1:Nat)),.val (.list (r.2.map .str)),.un,.un],rfl,rfl,λD C0 σ' eJ eC G q=>?_⟩
   refine eG (yb sU.mono G (bV 4 (d:=Dc e) (bN C2 hr (av (ai 3 rfl) aX) ⟨e,by rw[hw];rfl,oe,rfl⟩) nd) rfl λσ1 QC QD G1=>?_)
   refine eG (El sU.mono G1 1 5 (d:=.str "") rfl sU.rep (bN C3 (hr.mono (by omega)) (av (ai 1 rfl) (av (ai 4 rfl) aX)) ⟨oI es i,e,rfl,op,oe,oa,rfl⟩) rfl rfl (λσ2 Oi Oj G2=>?_) nd)
   refine eG (yb sU.mono G2 (cv (VT.to (mZ hr aZ aZ (ai 5 rfl) aO) (qQ6 (λb=>!b) (jb _))) bQ) rfl λσ3 Rq Rr G3=>?_)
   refine dR (NZ (s:=oI es i) (s':=oI es (i+1)) C4 (hr.mono (by omega)) G3 sU.mono 1 rfl (ai 4 rfl) ⟨e,rfl,op,oe,oa,KD⟩ λUv Uw G4=>?_)
   exact q _ _ _ (G4.forget sU.mono ⟨.inr rfl,.inr rfl,.inl rfl,.inl rfl,.inl rfl,.inl rfl,trivial⟩ rfl)
  ·have e:oI es ((rowsOf x).map sN).length=es.foldl rJ E6:=by rw[aj,hlen,KC]
   rw[e]at G;exact dR (Ts G 1 rfl sU.rep YY)
end
end Mg
namespace Mg
open L2 PySem PyProof.Rows
variable{many nn:Nat}{p:Pl}
structure E8(p:Pl):Prop where
 kn:(p.kinds.map (·.1)).Nodup
 pn:(p.gates++p.lines.map (·.1)).Nodup
 dn:(p.desks.map (·.name)).Nodup
 dk:∀d∈p.desks,EX d/\(∀x∈d.places,x∈p.gates++p.lines.map (·.1))/\(d.to=""\/∃r,(d.to,r)∈p.lines/\iB d.rule d.places.length<=r)
 dj:(p.desks.map (·.places)).flatten.Nodup
 tn:(p.times.map λq=>(q.1,q.2.1)).Nodup
 tm:∀q∈p.times,q.1∈p.desks.map (·.name)/\q.2.1∈p.kinds.map (·.1)/\1<=q.2.2
 hr:∀q∈p.hours,q.1∈p.desks.map (·.name)/\q.2.1<q.2.2
 kk:∀q∈p.kinds,∀i,q.2=some i->1<=i/\dD i
 ll:∀q∈p.lines,1<=q.2
def vE(p:Pl):List Ent:=p.kinds.map (λq=>Ent.kind q.1 q.2)++p.gates.map Ent.gate++p.lines.map (λq=>Ent.line q.1 q.2)++p.desks.map Ent.desk++p.times.map (λq=>Ent.time q.1 q.2.1 q.2.2)++p.hours.map (λq=>Ent.hour q.1 q.2.1 q.2.2)
def sV:Pl->List Ent->Prop
 |st,[]=>mK st
 |st,e::es=>mK st/\sS e/\yt st e/\sV (rJ st e) es
theorem sV.app:∀{A B:List Ent}{st:Pl},sV st A->sV (A.foldl rJ st) B->sV st (A++B)
 | [],_,_,_,h=>h
 |_::_,_,_,⟨h1,h2,h3,h4⟩,h=>⟨h1,h2,h3,h4.app h⟩
theorem sV.es:∀{es:List Ent}{st:Pl},sV st es->(∀e∈es,sS e)/\(∀i,i<=es.length->mK ((es.take i).foldl rJ st))/\∀(i:Nat)e,es[i]?=some e->yt ((es.take i).foldl rJ st) e
 | [],st,h=>⟨λe he=>(by cases he),λi hi=>by rw[List.take_nil];exact h,λi e he=>by simp at he⟩
 |e::es,st,⟨h1,h2,h3,h4⟩=>by
  obtain⟨a,b,c⟩:=h4.es;refine⟨λx hx=>?_,λi hi=>?_,λi x hx=>?_⟩
  ·rcases aG.mp hx with rfl|hx
   ·exact h2
   ·exact a x hx
  ·cases i with
   |zero=>exact h1
   |succ i=>exact b i (by simpa using hi)
  ·cases i with
   |zero=>cases hx;exact h3
   |succ i=>exact c i x (by simpa using hx)
theorem seg{α:Type}(mk:α->Ent)(put:List α->Pl)(h1:∀l x,rJ (put l) (mk x)=put (l ++ [x]))(l:List α)(hok:∀pre x post,l=pre++x::post->mK (put pre)/\sS (mk x)/\yt (put pre) (mk x))(Y1:mK (put l)):
  sV (put []) (l.map mk)/\(l.map mk).foldl rJ (put [])=put l:=by
 have go:∀(rest pre:List α),l=pre++rest->sV (put pre) (rest.map mk)/\(rest.map mk).foldl rJ (put pre)=put l:=by
  intro rest
  induction rest with
  |nil=>intro pre e;rw[dC]at e;subst e;exact⟨Y1,rfl⟩
  |cons x rest ih=>
   intro pre e;obtain⟨a,b,c⟩:=hok pre x rest e;obtain⟨i1,i2⟩:=ih (pre ++ [x]) (by rw[e];simp)
   rw[aR];refine⟨⟨a,b,c,?_⟩,?_⟩
   ·rw[h1];exact i1
   ·rw[mM,h1];exact i2
 exact go l [] rfl
theorem kO{q: Pl}(h:mK p)(k1:q.kinds.length<=p.kinds.length)(k2:∀x∈q.kinds,x∈p.kinds)(g1:q.gates.length<=p.gates.length)(g2:∀x∈q.gates,x∈p.gates)(l1:q.lines.length<=p.lines.length)(l2:∀x∈q.lines,x∈p.lines)(d1:q.desks.length<=p.desks.length)(d2:∀x∈q.desks,x∈p.desks)(t1:q.times.length<=p.times.length)(t2:∀x∈q.times,x∈p.times)(h1:q.hours.length<=p.hours.length)(h2:∀x∈q.hours,x∈p.hours):mK q:=
 ⟨bZ k1 h.kn,bZ g1 h.gn,bZ l1 h.ln,bZ d1 h.dn,bZ t1 h.tn,bZ h1 h.hn,λx hx=>h.kinds x (k2 x hx),λx hx=>h.gates x (g2 x hx),λx hx=>h.lines x (l2 x hx),λx hx=>h.desks x (d2 x hx),λx hx=>h.times x (t2 x hx),λx hx=>h.hours x (h2 x hx)⟩
theorem Dm{κ:Type}[DecidableEq κ]:∀{kvs:List (κ×aq)}{k:κ}{v:aq},(kvs.map (·.1)).Nodup->(k,v)∈kvs->jP kvs k=some v
 | [],_,_,_,h=>by cases h
 |q::l,k,v,nd,h=>by
  rw[aR,gL]at nd;rcases aG.mp h with rfl|h
  ·exact gj rfl
  ·rw[cY (λe=>nd.1 (by rw[e];exact aN.mpr ⟨(k,v),h,rfl⟩))]
   exact Dm nd.2 h
theorem vF{α:Type}{l pre post:List α}{x:α}(e:l=pre++x::post):pre.length<=l.length/\∀y∈pre,y∈l:=by
 subst e;exact⟨by rw[aV];omega,λy hy=>fe _ hy⟩
theorem lB{α β:Type}{f:α->β}{l pre post:List α}{x:α}(nd:(l.map f).Nodup)(e:l=pre++x::post):f x∉pre.map f:=by
 subst e;rw[bh,aR,eN]at nd;intro z;exact nd.2.2 _ z _ aP rfl
theorem KG(ok:mK p)(g:E8 p):sV E6 (vE p)/\(vE p).foldl rJ E6=p:=by
 have n0:∀{α:Type}(x:α),x∈([]:List α)->False:=λx h=>by cases h
 have s1:=seg (λq:Str×Option Int=>Ent.kind q.1 q.2) (λl=>⟨l,[],[],[],[],[]⟩) (λ_ _=>rfl) p.kinds (λpre x post e=>by
  obtain⟨e1,e2⟩:=vF e;have hx:x∈p.kinds:=by rw[e];simp
  exact⟨kO ok e1 e2 (bu _) (λx h=>(n0 x h).elim) (bu _) (λx h=>(n0 x h).elim) (bu _) (λx h=>(n0 x h).elim) (bu _) (λx h=>(n0 x h).elim) (bu _) (λx h=>(n0 x h).elim),⟨(ok.kinds x hx).1,g.kk x hx⟩,lB g.kn e⟩)
  (kO ok (aD _) (λ_ h=>h) (bu _) (λx h=>(n0 x h).elim) (bu _) (λx h=>(n0 x h).elim) (bu _) (λx h=>(n0 x h).elim) (bu _) (λx h=>(n0 x h).elim) (bu _) (λx h=>(n0 x h).elim))
 have pn:=g.pn;rw[eN]at pn;have s2:=seg Ent.gate (λl=>⟨p.kinds,l,[],[],[],[]⟩) (λ_ _=>rfl) p.gates (λpre x post e=>by
  obtain⟨e1,e2⟩:=vF e;have hx:x∈p.gates:=by rw[e];simp
  refine⟨kO ok (aD _) (λ_ h=>h) e1 e2 (bu _) (λx h=>(n0 x h).elim) (bu _) (λx h=>(n0 x h).elim) (bu _) (λx h=>(n0 x h).elim) (bu _) (λx h=>(n0 x h).elim),ok.gates x hx,?_⟩
  rintro(h|h)
  ·have:=lB (f:=id) (by simpa using pn.1) e
   exact this (by simpa using h)
  ·cases h)
  (kO ok (aD _) (λ_ h=>h) (aD _) (λ_ h=>h) (bu _) (λx h=>(n0 x h).elim) (bu _) (λx h=>(n0 x h).elim) (bu _) (λx h=>(n0 x h).elim) (bu _) (λx h=>(n0 x h).elim))
 have s3:=seg (λq:Str×Int=>Ent.line q.1 q.2) (λl=>⟨p.kinds,p.gates,l,[],[],[]⟩) (λ_ _=>rfl) p.lines (λpre x post e=>by
  obtain⟨e1,e2⟩:=vF e;have hx:x∈p.lines:=by rw[e];simp
  refine⟨kO ok (aD _) (λ_ h=>h) (aD _) (λ_ h=>h) e1 e2 (bu _) (λx h=>(n0 x h).elim) (bu _) (λx h=>(n0 x h).elim) (bu _) (λx h=>(n0 x h).elim),⟨(ok.lines x hx).1,g.ll x hx,(ok.lines x hx).2⟩,?_⟩
  rintro(h|h)
  ·exact pn.2.2 _ h _ (aN.mpr ⟨x,hx,rfl⟩) rfl
  ·exact lB pn.2.1 e h)
  (kO ok (aD _) (λ_ h=>h) (aD _) (λ_ h=>h) (aD _) (λ_ h=>h) (bu _) (λx h=>(n0 x h).elim) (bu _) (λx h=>(n0 x h).elim) (bu _) (λx h=>(n0 x h).elim))
 have s4:=seg Ent.desk (λl=>⟨p.kinds,p.gates,p.lines,l,[],[]⟩) (λ_ _=>rfl) p.desks (λpre x post e=>by
  obtain⟨e1,e2⟩:=vF e;have hx:x∈p.desks:=by rw[e];simp
  obtain⟨q1,q2,q3⟩:=g.dk x hx;refine⟨kO ok (aD _) (λ_ h=>h) (aD _) (λ_ h=>h) (aD _) (λ_ h=>h) e1 e2 (bu _) (λx h=>(n0 x h).elim) (bu _) (λx h=>(n0 x h).elim),q1,lB g.dn e,λy hy hz=>?_,λy hy=>bX.mp (q2 y hy),?_⟩
  ·obtain⟨d,hd,hyd⟩:=hz
   have dj:=g.dj;rw[e,bh,tY,eN]at dj;exact dj.2.2 y (List.mem_flatten.mpr ⟨d.places,aN.mpr ⟨d,hd,rfl⟩,hyd⟩) y (List.mem_flatten.mpr ⟨x.places,by simp,hy⟩) rfl
  ·rcases q3 with h|⟨r,h,hr⟩
   ·exact .inl h
   ·refine .inr ⟨r,Dm ?_ (aN.mpr ⟨(x.to,r),h,rfl⟩),hr⟩
    rw[mL];exact pn.2.1)
  (kO ok (aD _) (λ_ h=>h) (aD _) (λ_ h=>h) (aD _) (λ_ h=>h) (aD _) (λ_ h=>h) (bu _) (λx h=>(n0 x h).elim) (bu _) (λx h=>(n0 x h).elim))
 have s5:=seg (λq:Str×Str×Int=>Ent.time q.1 q.2.1 q.2.2) (λl=>⟨p.kinds,p.gates,p.lines,p.desks,l,[]⟩) (λ_ _=>rfl) p.times (λpre x post e=>by
  obtain⟨e1,e2⟩:=vF e;have hx:x∈p.times:=by rw[e];simp
  obtain⟨q1,q2,q3⟩:=g.tm x hx;obtain⟨r1,r2,r3⟩:=ok.times x hx;exact⟨kO ok (aD _) (λ_ h=>h) (aD _) (λ_ h=>h) (aD _) (λ_ h=>h) (aD _) (λ_ h=>h) e1 e2 (bu _) (λx h=>(n0 x h).elim),⟨r1,r2,q3,r3⟩,lB (f:=λq:Str×Str×Int=>(q.1,q.2.1)) g.tn e,q1,q2⟩)
  (kO ok (aD _) (λ_ h=>h) (aD _) (λ_ h=>h) (aD _) (λ_ h=>h) (aD _) (λ_ h=>h) (aD _) (λ_ h=>h) (bu _) (λx h=>(n0 x h).elim))
 have s6:=seg (λq:Str×Int×Int=>Ent.hour q.1 q.2.1 q.2.2) (λl=>⟨p.kinds,p.gates,p.lines,p.desks,p.times,l⟩) (λ_ _=>rfl) p.hours (λpre x post e=>by
  obtain⟨e1,e2⟩:=vF e;have hx:x∈p.hours:=by rw[e];simp
  obtain⟨q1,q2⟩:=g.hr x hx;obtain⟨r1,r2,r3⟩:=ok.hours x hx;exact⟨kO ok (aD _) (λ_ h=>h) (aD _) (λ_ h=>h) (aD _) (λ_ h=>h) (aD _) (λ_ h=>h) (aD _) (λ_ h=>h) e1 e2,⟨r1,r2,r3,q2⟩,q1⟩)
  ok
 unfold vE;simp only[eU];refine⟨s1.1.app ?_,?_⟩
 ·rw[s1.2]
  refine s2.1.app ?_
  rw[s2.2];refine s3.1.app ?_
  rw[s3.2];refine s4.1.app ?_
  rw[s4.2];refine s5.1.app ?_
  rw[s5.2];exact s6.1
 ·rw[iD,show E6=⟨[],[],[],[],[],[]⟩from rfl,s1.2,iD,s2.2,iD,s3.2,iD,s4.2,iD,s5.2,s6.2]
theorem Ol(ok:mK p)(g:E8 p):HZ (vE p):=by
 obtain⟨a,b,c⟩:=(KG ok g).1.es;exact⟨a,b,c⟩
theorem gK{x y:Str}{c:Nat}(h1:c∉x.cps.toList)(h2:c∉y.cps.toList):c∉(x++y).cps.toList:=by rw[add_list,bX];exact λz=>z.elim h1 h2
theorem uU{c:Nat}{y:Str}(hy:c∉y.cps.toList):∀{l:List Str},(∀x∈l,c∉x.cps.toList)->c∉(cK y l).cps.toList
 | [],_=>by show c∉([]:List Nat);simp
 | [x],h=>h x aP
 |x::z::l,h=>by
  show c∉(x++y++cK y (z::l)).cps.toList;exact gK (gK (h x aP) hy) (uU hy λu hu=>h u (aU _ hu))
theorem qm(ok:mK p):(∀r∈cO p,10∉r.cps.toList)/\(cO p).map wordsOf=(vE p).map uO:=by
 have nn:∀{x:Str},dW x->10∉x.cps.toList:=λh=>(ic h).2.2
 have dn:∀{d:aq},EI d->10∉(eI d).cps.toList:=λh=>(rY h).2.2
 have nm:∀{i:Int},dD i->10∉(dF i).cps.toList:=λh=>(nh h.1 h.2).2.2
 constructor
 ·intro r hr
  unfold cO mD at hr;simp only[bX,aN]at hr;rcases hr with((((⟨q,hq,rfl⟩|⟨q,hq,rfl⟩)|⟨q,hq,rfl⟩)|⟨q,hq,rfl⟩)|⟨q,hq,rfl⟩)|⟨q,hq,rfl⟩
  ·obtain⟨h1,h2⟩:=ok.kinds q hq
   exact gK (gK (gK (by symm) (nn h1)) (by symm)) (dn h2)
  ·exact gK (by symm) (nn (ok.gates q hq))
  ·obtain⟨h1,h2⟩:=ok.lines q hq
   exact gK (gK (gK (by symm) (nn h1)) (by symm)) (nm h2)
  ·obtain⟨h1,h2,h3,h4,h5⟩:=ok.desks q hq
   refine gK (gK (gK (gK (gK (gK (gK (by symm) (nn h1)) (by symm)) (dn (d:=.str q.to) h2)) (by symm)) (uU (by symm) λx hx=>(tM h3 x hx).2.2)) (by symm)) (uU (by symm) λx hx=>nn (h5 x hx))
  ·obtain⟨h1,h2,h3⟩:=ok.times q hq
   refine uU (by symm) λx hx=>?_
   simp only[aG,bP,or_false]at hx;rcases hx with rfl|rfl|rfl|rfl
   ·symm
   ·exact nn h1
   ·exact nn h2
   ·exact nm h3
  ·obtain⟨h1,h2,h3⟩:=ok.hours q hq
   refine uU (by symm) λx hx=>?_
   simp only[aG,bP,or_false]at hx;rcases hx with rfl|rfl|rfl|rfl
   ·symm
   ·exact nn h1
   ·exact nm h2
   ·exact nm h3
 ·unfold cO mD vE
  simp only[bh,bA]
  congr 1
  congr 1
  congr 1
  congr 1
  congr 1
  ·exact iP λq hq=>EJ (ok.kinds q hq)
  ·exact iP λq hq=>EK (ok.gates q hq)
  ·exact iP λq hq=>EL (ok.lines q hq)
  ·exact iP λq hq=>ER (ok.desks q hq)
  ·exact iP λq hq=>EV (ok.times q hq)
  ·exact iP λq hq=>EW (ok.hours q hq)
theorem Nc(e:Ent):(uO e).isEmpty=false:=by cases e<;>rfl
theorem H_(l:List Str):∀k,((l.zipIdx k).filterMap λp=>if(wordsOf p.1).isEmpty then none else some (p.2,wordsOf p.1)).map (·.2)=(l.map wordsOf).filter λws=>!ws.isEmpty:=by
 induction l with
 |nil=>intro k;rfl
 |cons x l ih=>
  intro k;rw[lS,aR,lV];cases hx:(wordsOf x).isEmpty with
  |true=>rw[gk (by simp only[hx];rfl),ih];rfl
  |false=>rw[dB (b:=(k,wordsOf x)) (by simp only[hx];rfl),aR,ih];rfl
theorem Dn(ok:mK p)(hk:p.kinds≠[]):(rowsOf (oj p)).map (·.2)=(vE p).map uO:=by
 obtain⟨h1,h2⟩:=qm ok;unfold oj;rw[Aq (λz=>?_) h1,H_,h2,List.filter_eq_self.mpr]
 ·intro ws Kh
  obtain⟨e,_,rfl⟩:=aN.mp Kh;rw[Nc];rfl
 ·unfold cO mD at z
  cases hkk:p.kinds with
  |nil=>exact hk hkk
  |cons q l=>rw[hkk]at z;simp at z
theorem E9(m:Int)(k:Nat):(sO m k).cps.toList=(stemOf m).cps.toList.take (m/624%(1+m/78%8)).toNat++(97+((m/3+5*k)%26).toNat)::(stemOf m).cps.toList.drop (m/624%(1+m/78%8)+1).toNat:=by
 have hs:=vz m;have hl:(stemOf m).cps.toList.length=(1+m/78%8).toNat:=by rw[hs,cu]
 have b1:0<=m/78%8:=bw _ (by decide)
 have b2:m/78%8<8:=bG _ (by decide)
 have p1:0<=m/624%(1+m/78%8):=bw _ (by omega)
 have p2:m/624%(1+m/78%8)<1+m/78%8:=bG _ (by omega)
 have e1:lZ (stemOf m) none (some (m/624%(1+m/78%8)))=_:=B7 (x:=stemOf m) ⟨p1,by rw[hl];omega⟩
 have e2:lZ (stemOf m) (some (m/624%(1+m/78%8)+1)) none=_:=AZ (x:=stemOf m) ⟨by omega,by rw[hl];omega⟩
 unfold sO;rw[e1,e2]
 show((_++_++_:Array Nat)).toList=_
 simp only[Fs,kZ,Int.sub_zero,CV,one];rw[dA (l:=List.drop _ _) (by rw[b_];omega),eU]
 rfl
theorem v8{β:Type}{f:Nat->β}:∀{n:Nat},(∀i j,i<n->j<n->f i=f j->i=j)->((cq n).map f).Nodup:=by
 intro n h;rw[List.Nodup,List.pairwise_map,oK];intro i j hi hj zM e;rw[gI]at hi hj;rw[List.getElem_range,List.getElem_range]at e;exact qQ7 (h i j hi hj e) (by omega)
theorem oJ(cell:Int)(hm:many<=26):(namesOf cell many).Nodup:=by
 unfold namesOf
 split
 ·refine v8 λi j hi hj e=>?_
  have e1:∀k,(nameA (cV cell 3) many k).cps.toList=aH (many-k) (97+(cV cell 3/3%26).toNat):=λk=>Bo _ _
  have:=qQ6 (λx:Str=>x.cps.toList.length) e
  simp only[e1,cu]at this;omega
 ·refine v8 λi j hi hj e=>?_
  have:=qQ6 (λx:Str=>x.cps.toList) e
  simp only[E9]at this;have:=List.append_cancel_left this;have:=(jD this).1
  generalize cV cell 3/3=a at *
  omega
theorem tS(l:List Str):(cq l.length).map (λk=>l.getD k "")=l:=by
 refine k6 λi=>?_
 rw[aT];by_cases h:i<l.length
 ·rw[mS h,ax h]
  show some (l.getD i "")=_;rw[aI,ax h];rfl
 ·rw[hX (by simpa using h),hX (by simpa using h)];rfl
theorem v9{α:Type}:∀(L:List (List α))(i:Nat)(j:Nat)(y:α),i<L.length->(L.set i (nE (L.getD i []) j y)).flatten.Perm (y::L.flatten)
 | [],i,_,_,h=>by simp at h
 |r::L,0,j,y,_=>by
  show(nE r j y++L.flatten).Perm (y::(r++L.flatten))
  have:(nE r j y).Perm (y::r):=by
   unfold nE;exact List.perm_middle.trans (by rw[hZ])
  exact this.append_right _
 |r::L,i+1,j,y,h=>by
  have ih:=v9 L i j y (by simpa using h)
  show(r++(L.set i (nE (L.getD i []) j y)).flatten).Perm (y::(r++L.flatten))
  exact(ih.append_left r).trans List.perm_middle
theorem yA(cell:Int)(h1:1<=nn)(places:List Str):∀k,k<=places.length->(dX cell nn places k).flatten.Perm (places.take k)
 |0,_=>by
  show(aH nn ([]:List Str)).flatten.Perm []
  rw[List.flatten_replicate_nil]
 |k+1,hk=>by
  have ih:=yA cell h1 places k (by omega)
  have hl:fG cell nn k<(dX cell nn places k).length:=by rw[gZ];exact An cell h1 k
  have e:places.take (k+1)=places.take k ++ [places.getD k ""]:=by
   rw[eu,ax (by omega),aI,ax (by omega)];rfl
  rw[e];refine(v9 _ _ _ _ hl).trans ?_
  refine(ih.cons _).trans ?_
  exact(List.perm_append_singleton _ _).symm
theorem uV(cell:Int)(h1:1<=nn)(places:List Str):∀k,∀j,j<k->j<nn->(dX cell nn places k).getD j []≠[]
 |0,_,h,_=>by omega
 |k+1,j,hj,hn=>by
  have hl:=gZ cell nn places k;have ex:∀(L:List (List Str))(i:Nat)(r:List Str),L.length=nn->(L.set i r).getD j []=if i=j then r else L.getD j []:=λL i r e=>by
   rw[aI,List.getElem?_set]
   by_cases zM:i=j
   ·subst zM;rw[qQ3 rfl,qQ3 (by omega),qQ3 rfl];rfl
   ·rw[qQ2 zM,qQ2 zM,aI]
  show((dX cell nn places k).set (fG cell nn k) (nE _ _ _)).getD j []≠[]
  rw[ex _ _ _ hl]
  split
  ·intro z
   have:=qQ6 gu z;rw[vW]at this;simp at this
  ·rename_i m8
   by_cases DE:j<k
   ·exact uV cell h1 places k j DE hn
   ·exfalso
    apply m8;have:j=k:=by omega
    subst this;unfold fG;rw[qQ3 hn]
theorem Ia(m:Int):rE (kI m many) many:=by
 unfold kI
 split
 ·rename_i h;exact h.2
 ·split
  ·exact⟨by omega,gW _ 1 (by decide) (by decide) (by decide),nr _ (by decide) (by decide)⟩
  ·split
   ·exact⟨by omega,gW _ 1 (by decide) (by decide) (by decide)⟩
   ·split
    ·split
     ·trivial
     ·exact nr _ (by decide) (by decide)
    ·split
     ·refine⟨by simp,λz hz=>?_⟩
      obtain⟨k,_,rfl⟩:=aN.mp hz;unfold Bp;omega
     ·trivial
theorem Dp(cell:Int)(places lines:List Str):(bW cell places lines).map (·.name)=namesOf (cV cell 31) (j' cell places.length):=by
 unfold bW;rw[bA];have:=tS (namesOf (cV cell 31) (j' cell places.length));rw[gY]at this;exact this
theorem BH(cell:Int)(places lines:List Str):(bW cell places lines).map (·.places)=dX cell (j' cell places.length) places places.length:=by
 unfold bW;rw[bA];have hl:=gZ cell (j' cell places.length) places places.length;refine k6 λi=>?_
 rw[aT];by_cases h:i<j' cell places.length
 ·rw[mS h]
  show some ((dX cell (j' cell places.length) places places.length).getD i [])=_;rw[aI,ax (by omega)];rfl
 ·rw[hX (by simpa using h),hX (by omega)];rfl
theorem yB(c:Int)(ia:List Dk)(kinds:List (Str×Option Int))(hk:(kinds.map (·.1)).Nodup)(hd:(ia.map (·.name)).Nodup):∀i,i<=ia.length->((gB c ia kinds i).map λq=>(q.1,q.2.1)).Nodup/\∀q∈gB c ia kinds i,q.1∈(ia.take i).map (·.name)/\q.2.1∈kinds.map (·.1)/\1<=q.2.2
 |0,_=>⟨by simp[gB],λq hq=>by simp[gB]at hq⟩
 |i+1,hi=>by
  obtain⟨a,b⟩:=yB c ia kinds hk hd i (by omega)
  have hg:ia[i]?=some ia[i]:=ax (by omega)
  rw[p9 hg,eu,hg];have row:∀j,((fJ (cV c (110+i)) ia[i].name kinds j).map λq=>(q.1,q.2.1)).Nodup/\∀q∈fJ (cV c (110+i)) ia[i].name kinds j,q.1=ia[i].name/\q.2.1∈(kinds.take j).map (·.1)/\1<=q.2.2:=by
   intro j
   induction j with
   |zero=>exact⟨by simp[fJ],λq hq=>by simp[fJ]at hq⟩
   |succ j ih=>
    by_cases hj:j<kinds.length
    ·have hkj:kinds[j]?=some kinds[j]:=ax hj
     rw[sQ hkj,eu,hkj];unfold tH
     split
     ·rw[bh]
      refine⟨?_,λq hq=>?_⟩
      ·rw[eN]
       refine⟨ih.1,by simp,λx hx y hy z=>?_⟩
       obtain⟨q,hq,rfl⟩:=aN.mp hx;have h2:=(ih.2 q hq).2.1;have hy:y=(ia[i].name,kinds[j].1):=by simpa using hy
       rw[hy]at z;have z2:q.2.1=kinds[j].1:=qQ6 (λw:Str×Str=>w.2) z
       rw[z2]at h2;have:kinds=kinds.take j++kinds[j]::kinds.drop (j+1):=by rw[DC,hZ]
       exact lB hk this h2
      ·rcases bX.mp hq with hq|hq
       ·obtain⟨h1,h2,h3⟩:=ih.2 q hq
        exact⟨h1,by rw[bh];exact fe _ h2,h3⟩
       ·have hq:q=(ia[i].name,kinds[j].1,1+cV c (110+i)/((j:Int)*j+2)%6):=by simpa using hq
        rw[hq];refine⟨rfl,by rw[bh];exact cJ _ (aN.mpr ⟨kinds[j],bo.mpr rfl,rfl⟩),?_⟩
        have:=bw (cV c (110+i)/((j:Int)*j+2)) (b:=6) (by decide)
        show 1<=1+cV c (110+i)/((j:Int)*j+2)%6;omega
     ·refine⟨by simpa using ih.1,λq hq=>?_⟩
      obtain⟨h1,h2,h3⟩:=ih.2 q (by simpa using hq)
      exact⟨h1,by rw[bh];exact fe _ h2,h3⟩
    ·have e1:fJ (cV c (110+i)) ia[i].name kinds (j+1)=fJ (cV c (110+i)) ia[i].name kinds j:=by
      unfold fJ;rw[dA (by simp;omega),dA (by simp;omega)]
     rw[e1,dA (by omega)]
     rw[dA (by omega)]at ih
     exact ih
  obtain⟨r1,r2⟩:=row kinds.length;rw[jJ]at r2;have GU:ia[i].name∉(ia.take i).map (·.name):=by
   have:ia=ia.take i++ia[i]::ia.drop (i+1):=by rw[DC,hZ]
   exact lB hd this
  refine⟨?_,λq hq=>?_⟩
  ·rw[bh,eN]
   refine⟨a,r1,λx hx y hy z=>?_⟩
   obtain⟨q,hq,rfl⟩:=aN.mp hx;obtain⟨q2,Eb,rfl⟩:=aN.mp hy;have z1:q.1=q2.1:=qQ6 (λw:Str×Str=>w.1) z
   have:=(b q hq).1;rw[z1,(r2 q2 Eb).1]at this;exact GU this
  ·rcases bX.mp hq with hq|hq
   ·obtain⟨h1,h2,h3⟩:=b q hq
    exact⟨by rw[bh];exact fe _ h1,h2,h3⟩
   ·obtain⟨h1,h2,h3⟩:=r2 q hq
    exact⟨by rw[h1,bh];exact cJ _ (aN.mpr ⟨ia[i],bo.mpr rfl,rfl⟩),h2,h3⟩
theorem yC{α:Type}:∀{L:List (List α)},L.flatten.Nodup->∀r∈L,r.Nodup
 | [],_,r,h=>by cases h
 |x::L,nd,r,h=>by
  rw[eM,eN]at nd;rcases aG.mp h with rfl|h
  ·exact nd.1
  ·exact yC nd.2.1 r h
theorem Ib(ns:List Int):E8 (gD ns):=by
 obtain⟨k1,k4⟩:=lO (gJ ns);obtain⟨g1,g3⟩:=jv (bR ns);obtain⟨p1,p6⟩:=kK (bR ns);have K2:(orderOf (bR ns)).length=(placesOf (bR ns)).length:=by
  unfold orderOf;rw[aV,b_,bS];have:=rW (bR ns) (n:=(placesOf (bR ns)).length) (by omega)
  omega
 have pF:=oG (bR ns);have Yr:(placesOf (bR ns)).Nodup:=oJ _ (by omega)
 have hpm:(orderOf (bR ns)).Perm (placesOf (bR ns)):=by
  unfold orderOf;exact List.perm_append_comm.trans (by rw[hZ])
 have QH:(cH (gJ ns)).map (·.1)=namesOf (gJ ns) (iW (gJ ns)):=by
  unfold cH;rw[bA];have:=tS (namesOf (gJ ns) (iW (gJ ns)));rw[gY]at this;exact this
 have knd:((cH (gJ ns)).map (·.1)).Nodup:=by rw[QH];exact oJ _ (by omega)
 obtain⟨m1,m4,mp⟩:=lN (fy ns) (n:=(orderOf (bR ns)).length) (by omega)
 have dnm:=Dp (fy ns) (orderOf (bR ns)) (linesOf (bR ns));have dpl:=BH (fy ns) (orderOf (bR ns)) (linesOf (bR ns));have dnd:((bW (fy ns) (orderOf (bR ns)) (linesOf (bR ns))).map (·.name)).Nodup:=by rw[dnm];exact oJ _ (by omega)
 have tp:=yA (fy ns) m1 (orderOf (bR ns)) _ (aD _);rw[jJ]at tp;have dj:((bW (fy ns) (orderOf (bR ns)) (linesOf (bR ns))).map (·.places)).flatten.Nodup:=by
  rw[dpl];exact(tp.trans hpm).nodup_iff.mpr Yr
 have Gg:∀d∈bW (fy ns) (orderOf (bR ns)) (linesOf (bR ns)),_:=λd hd=>Gj (by omega) (by omega) hd
 have Uy:∀d∈bW (fy ns) (orderOf (bR ns)) (linesOf (bR ns)),d.places≠[]/\d.places.Nodup/\rE d.rule d.places.length:=λd hd=>by
  refine⟨?_,?_,?_⟩
  ·obtain⟨k,hk,rfl⟩:=aN.mp hd
   have hk:=dG.mp hk;exact uV (fy ns) m1 (orderOf (bR ns)) _ k (by omega) hk
  ·exact yC dj _ (aN.mpr ⟨d,hd,rfl⟩)
  ·obtain⟨k,hk,rfl⟩:=aN.mp hd
   exact Ia _
 have Qw:∀x∈linesOf (bR ns),dW x:=λx hx=>j3 (cW (show x∈(placesOf (bR ns)).drop _ from hx))
 have tk:=yB (fy ns) (bW (fy ns) (orderOf (bR ns)) (linesOf (bR ns))) (cH (gJ ns)) knd dnd _ (aD _)
 generalize hD:bW (fy ns) (orderOf (bR ns)) (linesOf (bR ns))=ia at *
 have e0:gD ns=⟨cH (gJ ns),kJ (bR ns),(cq (linesOf (bR ns)).length).map (roomAt (bR ns) ia (linesOf (bR ns))),ia,gB (fy ns) ia (cH (gJ ns)) ia.length,iG (fy ns) ia ia.length⟩:=by rw[<-hD];rfl
 have Uc:((cq (linesOf (bR ns)).length).map (roomAt (bR ns) ia (linesOf (bR ns)))).map (·.1)=linesOf (bR ns):=by
  rw[bA];exact tS _
 have gl:kJ (bR ns)++linesOf (bR ns)=placesOf (bR ns):=hZ _ _;rw[e0];rw[jJ]at tk;refine⟨knd,by rw[Uc,gl];exact Yr,dnd,λd hd=>?_,dj,tk.1,tk.2,λq hq=>?_,λq hq i hi=>?_,λq hq=>?_⟩
 ·obtain⟨a1,a2,a3,a4,a5,a6⟩:=Gg d hd
  obtain⟨f1,f2,f3⟩:=Uy d hd;have hpx:∀x∈d.places,x∈placesOf (bR ns):=λx hx=>hpm.mem_iff.mp (a5 x hx)
  refine⟨⟨a1,?_,f3,?_,by omega,f2,λx hx=>j3 (hpx x hx)⟩,λx hx=>by rw[Uc,gl];exact hpx x hx,?_⟩
  ·rcases bX.mp a2 with h|h
   ·exact .inr (Qw _ h)
   ·exact .inl (bo.mp h)
  ·cases hp:d.places with
   |nil=>exact qQ7 hp f1
   |cons _ _=>simp
  ·rcases bX.mp a2 with h|h
   ·obtain⟨k,hk,he⟩:=List.mem_iff_getElem.mp h
    have hgd:(linesOf (bR ns)).getD k ""=d.to:=by rw[aI,ax hk,he];rfl
    refine .inr ⟨(roomAt (bR ns) ia (linesOf (bR ns)) k).2,aN.mpr ⟨k,dG.mpr hk,?_⟩,?_⟩
    ·show roomAt (bR ns) ia (linesOf (bR ns)) k=(d.to,_)
     rw[<-hgd];rfl
    ·show _<=maxOf (iX ia ((linesOf (bR ns)).getD k ""))+cV (bR ns) (20+k)%3
     have:=(pZ (iX ia ((linesOf (bR ns)).getD k ""))).2 (iB d.rule d.places.length) (aU _ (ku.mpr ⟨d,hd,by rw[hgd,qQ1 rfl];rfl⟩))
     have h2:=bw (cV (bR ns) (20+k)) (b:=3) (by decide)
     omega
   ·exact .inl (bo.mp h)
 ·obtain⟨⟨d,i⟩,hd,hq⟩:=wI.mp hq
  have Rm:d∈ia:=jC (cG hd);unfold jQ at hq
  split at hq
  ·rcases aG.mp hq with rfl|hq
   ·exact⟨aN.mpr ⟨d,Rm,rfl⟩,by show _%9<9+_%20;omega⟩
   ·rw[bo.mp hq]
    exact⟨aN.mpr ⟨d,Rm,rfl⟩,by show 25+_%20<50+_%40;omega⟩
  ·cases hq
 ·obtain⟨k,hk,rfl⟩:=aN.mp hq
  have hi:tG (cV (gJ ns) (10+k))=some i:=hi;unfold tG at hi
  split at hi
  ·cases hi
   exact⟨by omega,gW _ 1 (by decide) (by decide) (by decide)⟩
  ·cases hi
 ·obtain⟨k,hk,rfl⟩:=aN.mp hq
  show 1<=maxOf _+_%3;have:=(pZ (iX ia ((linesOf (bR ns)).getD k ""))).2 1 aP;have h2:=bw (cV (bR ns) (20+k)) (b:=3) (by decide)
  omega
theorem E_(ns:List Int):(gD ns).kinds≠[]/\(gD ns).gates≠[]:=by
 obtain⟨k1,k4⟩:=lO (gJ ns);obtain⟨g1,g3⟩:=jv (bR ns);obtain⟨p1,p6⟩:=kK (bR ns);refine⟨λz=>?_,λz=>?_⟩
 ·have:=qQ6 gu z
  have:(cH (gJ ns)).length=0:=this;simp only[cH,aj,gI]at this;omega
 ·have:=qQ6 gu z
  have:(kJ (bR ns)).length=0:=this;unfold kJ at this;rw[bS]at this;omega
end Mg
namespace Mg
open L2 PySem PyProof.Rows
seal L2.VE L2.VS L2.wB L2.VT L2.VO L2.L4
theorem iy(x y:Str):(x++y).length=x.length+y.length:=by simp only[b0]
theorem g8{x y:Str}(h1:ng x)(h2:ng y):ng (x++y):=(lD _).mpr λc hc=>by
 rw[add_list]at hc;rcases bX.mp hc with hc|hc
 ·exact(lD _).mp h1 c hc
 ·exact(lD _).mp h2 c hc
theorem lQ{y:Str}(hy:ng y):∀{l:List Str},(∀x∈l,ng x)->ng (cK y l)
 | [],_=>(lD _).mpr λc hc=>by cases hc
 | [x],h=>h x aP
 |x::z::l,h=>g8 (g8 (h x aP) hy) (lQ hy λu hu=>h u (aU _ hu))
theorem fu{x:Str}(h:cP (.str x)=true:=by symm):ng x:=h
theorem vG{p:Pl}(ok:mK p):∀r∈cO p,ng r/\r.length<=1400:=by
 intro r hr;have nn:∀{x:Str},dW x->ng x/\x.length<=8:=λh=>⟨h.ok.2,h.short⟩
 have dn:∀{d:aq},EI d->ng (eI d)/\(eI d).length<=8:=λh=>⟨(uP h).2,j5 h⟩
 have nm:∀{i:Int},dD i->ng (dF i)/\(dF i).length<=6:=λh=>⟨(oH h.1 h.2).2,ik h⟩
 unfold cO mD at hr;simp only[bX,aN]at hr;rcases hr with((((⟨q,hq,rfl⟩|⟨q,hq,rfl⟩)|⟨q,hq,rfl⟩)|⟨q,hq,rfl⟩)|⟨q,hq,rfl⟩)|⟨q,hq,rfl⟩
 ·obtain⟨h1,h2⟩:=ok.kinds q hq
  refine⟨g8 (g8 (g8 fu (nn h1).1) fu) (dn h2).1,?_⟩
  have a:=(nn h1).2;have b:=(dn h2).2;unfold qf;rw[iy,iy,iy,show("kind ":Str).length=5 from by decide,show(" ":Str).length=1 from by decide]
  omega
 ·have h1:=ok.gates q hq
  refine⟨g8 fu (nn h1).1,?_⟩
  have a:=(nn h1).2;unfold mH;rw[iy,show("gate ":Str).length=5 from by decide]
  omega
 ·obtain⟨h1,h2⟩:=ok.lines q hq
  refine⟨g8 (g8 (g8 fu (nn h1).1) fu) (nm h2).1,?_⟩
  have a:=(nn h1).2;have b:=(nm h2).2;unfold mI;rw[iy,iy,iy,show("line ":Str).length=5 from by decide,show(" ":Str).length=1 from by decide]
  omega
 ·obtain⟨h1,h2,h3,h4,h5⟩:=ok.desks q hq
  refine⟨g8 (g8 (g8 (g8 (g8 (g8 (g8 fu (nn h1).1) fu) (dn (d:=.str q.to) h2).1) fu) (lQ fu λx hx=>(Dd h3 x hx).2)) fu) (lQ fu λx hx=>(nn (h5 x hx)).1),?_⟩
  have a:=(nn h1).2;have b:=(dn (d:=.str q.to) h2).2;have c:=nq h3;have d:=g7 (y:=(" ":Str)) (by decide) (l:=q.places) (b:=8) λx hx=>(nn (h5 x hx)).2
  unfold lE ni;rw[iy,iy,iy,iy,iy,iy,iy,show("desk ":Str).length=5 from by decide,show(" to ":Str).length=4 from by decide,show(" by ":Str).length=4 from by decide,show(" from ":Str).length=6 from by decide]
  omega
 ·obtain⟨h1,h2,h3⟩:=ok.times q hq
  have Uz:∀x∈[("time":Str),q.1,q.2.1,dF q.2.2],ng x/\x.length<=8:=λx hx=>by
   simp only[aG,bP,or_false]at hx;rcases hx with rfl|rfl|rfl|rfl
   ·exact⟨fu,by decide⟩
   ·exact nn h1
   ·exact nn h2
   ·exact⟨(nm h3).1,by have:=(nm h3).2;omega⟩
  refine⟨lQ fu λx hx=>(Uz x hx).1,?_⟩
  have:=g7 (y:=(" ":Str)) (by decide) λx hx=>(Uz x hx).2
  unfold mJ;simp only[a9,ck]at this;omega
 ·obtain⟨h1,h2,h3⟩:=ok.hours q hq
  have Uz:∀x∈[("open":Str),q.1,dF q.2.1,dF q.2.2],ng x/\x.length<=8:=λx hx=>by
   simp only[aG,bP,or_false]at hx;rcases hx with rfl|rfl|rfl|rfl
   ·exact⟨fu,by decide⟩
   ·exact nn h1
   ·exact⟨(nm h2).1,by have:=(nm h2).2;omega⟩
   ·exact⟨(nm h3).1,by have:=(nm h3).2;omega⟩
  refine⟨lQ fu λx hx=>(Uz x hx).1,?_⟩
  have:=g7 (y:=(" ":Str)) (by decide) λx hx=>(Uz x hx).2
  unfold oi;simp only[a9,ck]at this;omega
theorem Ay(ns:List Int):(cO (gD ns)).length<=44:=by
 obtain⟨k1,k4⟩:=lO (gJ ns);obtain⟨p1,p6⟩:=kK (bR ns);have K2:(orderOf (bR ns)).length=(placesOf (bR ns)).length:=by
  unfold orderOf;rw[aV,b_,bS];have:=rW (bR ns) (n:=(placesOf (bR ns)).length) (by have:=(jv (bR ns)).1;omega)
  omega
 have g1:=(jv (bR ns)).1;have hkl:(cH (gJ ns)).length=iW (gJ ns):=by simp[cH]
 have K3:(bW (fy ns) (orderOf (bR ns)) (linesOf (bR ns))).length<=4:=by rw[qd];exact(lN (fy ns) (by omega)).2.1
 have Rk:=p_ (fy ns) (bW (fy ns) (orderOf (bR ns)) (linesOf (bR ns))) (cH (gJ ns)) (by omega) _ (aD _)
 have hhl:=qc (fy ns) (bW (fy ns) (orderOf (bR ns)) (linesOf (bR ns))) _ (aD _)
 generalize hD:bW (fy ns) (orderOf (bR ns)) (linesOf (bR ns))=ia at *
 have e0:gD ns=⟨cH (gJ ns),kJ (bR ns),(cq (linesOf (bR ns)).length).map (roomAt (bR ns) ia (linesOf (bR ns))),ia,gB (fy ns) ia (cH (gJ ns)) ia.length,iG (fy ns) ia ia.length⟩:=by rw[<-hD];rfl
 have hg:(kJ (bR ns)).length+(linesOf (bR ns)).length<=6:=by unfold kJ linesOf;rw[bS,b_];omega
 rw[e0];unfold cO mD;simp only[aV,aj,gI];omega
theorem Ie(ns:List Int):rq (oj (gD ns)):=by
 have hr:=vG (Gk ns);refine⟨?_,lQ fu λx hx=>(hr x hx).1⟩
 have:=g7 (y:=("\n":Str)) (by decide) λx hx=>(hr x hx).2
 have h2:=Ay ns;unfold oj;have:(cO (gD ns)).length*(1400+1)<=44*1401:=eD h2 (aD _);omega
end Mg
namespace Mg
open L2 PySem PyProof.Rows
structure UA(K:ao)(mg:Str->Option ay)(M:aL):Prop where
 mg:mg "MergeError"=some (.ref M)
 rd:wu K M (.type "type")=true
 fc:wx K (.ref M) (.type "type") "__init__"=some (.val (.builtin "ValueError.__init__"))
 sp:kC K (.ref M) "__getattribute__"=some (some (.builtin "type.__getattribute__"))
abbrev QI:iH:=inClass (top 2) 0
abbrev QJ:List Str:=["self","place","word"]
section
variable{P:bC}{w:cw}{K:ao}{mg:Str->Option ay}{base:c6}{f C M:aL}{k:Nat}
theorem UB:c9 QJ QJ (b9 QI):=⟨rfl,rfl,rfl,by symm,rfl,by symm,by symm⟩
theorem Y2{fd:e9}(F:lq K "__init__" "BadPlant.__init__" QI f fd)(c:Ew K C)(n1:fK K C "place")(n2:fK K C "word")(S:UA K mg M):eX P w K mg base kF 1 f fd QJ (Bn C):=by
 refine F.ok UB (λvs H Q E h=>by obtain⟨_,_,_,rfl,_⟩:=h;rfl) (λh8 A outer s H vs Q E hr h=>⟨_,my,?_⟩)
 obtain⟨e,v1,x2,rfl,hl,ge,q⟩:=h;have hx:(ei++("bad plant: ":Str)).length<=sizeLine:=by rw[cL];symm
 have Vm:∀y:Str,y.length<=1000->(ei++("bad plant: ":Str)++y).length<=sizeLine:=λy hy=>by
  rw[cL,b0];have:(ei++("bad plant: ":Str)).length<=100:=by symm
  omega
 refine eG (λpins s1 I=>pJ (Qj (pl:=_) (by rfl) S.mg S.rd S.fc S.sp (dw (h7 (i:=0) rfl (bB rfl)) (dw (Mt (h7 (i:=2) rfl (bB rfl)) hx) fM))) rfl pins s1 _ _ _ I ?_)
 refine⟨.ref e,rfl,.str x2,rfl,x2,rfl,bZ hl (by rw[cL];decide),Vm x2 hl,e,C,none,_,rfl,ge,c,?_⟩
 refine eG (λpins s1 I=>JL (h7 (i:=0) rfl (bB rfl)) (h7 (i:=1) rfl (bB rfl)) rfl pins s1 _ _ _ I ⟨v1,rfl,.ref e,rfl,e,C,rfl,ge,c,n1,λdx h1 h2=>?_⟩)
 exact dR (λpins s1 I=>JM (h7 (i:=0) rfl (bB rfl)) (h7 (i:=2) rfl (bB rfl)) rfl pins s1 _ _ _ I ⟨.str x2,rfl,.ref e,rfl,e,C,dx,_,rfl,bK,by rw[aS h2,bK],h2,c,n2,(by show 1<50;decide),q dx h1 h2⟩)
end
end Mg
namespace Mg
open L2 PySem PyProof.Rows
seal L2.VE L2.VS L2.wB L2.VT L2.VO L2.L4
variable{fd:e9}
def ifC(b:List iH)(i:Nat):cj:=match b.getD i (.Pass ⟨0,0,0,0⟩) with
 | .If c _ _ _=>c
 |_=>.Name "" ⟨0,0,0,0⟩
structure Nf(ws:List Str):Prop where
 ne:ws≠[]
 len:ws.length<=60
 ok:∀x∈ws,rq x
def rK(w0:Str):List Sh:=if w0="rank" then [.kN]else if w0="many" then [.count]else if w0="gather" then [.count,.number]else []
theorem Fb(w0:Str):gy jV w0=none\/gy jV w0=some ((rK w0).map Sh.tx):=by
 unfold gy;by_cases h1:"eldest"=w0
 ·subst h1;right;symm
 by_cases h2:"rank"=w0
 ·subst h2;right;symm
 by_cases h3:"many"=w0
 ·subst h3;right;symm
 by_cases h4:"gather"=w0
 ·subst h4;right;symm
 by_cases h5:"meet"=w0
 ·subst h5;right;symm
 ·left
  simp only[jV,dY,qQ0 h1,qQ0 h2,qQ0 h3,qQ0 h4,qQ0 h5,List.find?_nil,Option.map_none]
def rL(w0:Str):List Sh:=if w0="kind" then [.name,.kM]else if w0="gate" then [.name]else if w0="line" then [.name,.count]else if w0="time" then [.name,.name,.count]else if w0="open" then [.name,.number,.number]else [.name,.name,.count,.count]
theorem Fc(w0:Str):gy jU w0=none\/gy jU w0=some ((rL w0).map Sh.tx):=by
 unfold gy;by_cases h1:"kind"=w0
 ·subst h1;right;symm
 by_cases h2:"gate"=w0
 ·subst h2;right;symm
 by_cases h3:"line"=w0
 ·subst h3;right;symm
 by_cases h4:"time"=w0
 ·subst h4;right;symm
 by_cases h5:"open"=w0
 ·subst h5;right;symm
 by_cases h6:"pace"=w0
 ·subst h6;right;symm
 ·left
  simp only[jU,dY,qQ0 h1,qQ0 h2,qQ0 h3,qQ0 h4,qQ0 h5,qQ0 h6,List.find?_nil,Option.map_none]
def Dq(w0:Str)(ws:List Str)(n:Nat):aq:=
 if w0="turns" then(if iM (aH n .share) ws then .tuple [.str "turns",.tuple (jA (aH n .share) ws)]else .none)
 else if gy jV w0=none\/(w0="meet"/\n<2)then .none
 else if iM (rK w0) ws then .tuple (.str w0::jA (rK w0) ws)else .none
def wX(l:List Str):Bool:=(decide (1<=l.length)&&decide (l.length<=6))&&(l.all isName&&decide ((dd [] l).length=l.length))
section
variable{P:bC}{w:cw}{K:ao}{mg:Str->Option ay}{base:c6}{f:aL}{k:Nat}
def Om(ds:List aq)(d:aq):Prop:=∃(w0:Str)(ws:List Str)(n:Nat),ds=[cU (w0::ws),.int n]/\rq w0/\(∀x∈ws,rq x)/\ws.length<=60/\n<=60/\(w0="turns"->1<=n)/\d=Dq w0 ws n
theorem QK(F:lq K "rule_of" "rule_of" (top 29) f fd)(n:Np mg w.params K)(C:bE P w K mg base 5 "values_of" MY (hV K Qx)):eX P w K mg base kF 6 f fd ["words","many"] (hV K Om):=
 jz F Bw (λ_ _ h=>by obtain⟨_,_,_,rfl,_⟩:=h;rfl) λ_ _ h=>by
  obtain⟨w0,ws,m,rfl,ow,ows,hl,hm,VG,rfl⟩:=h;intro h8 A outer s H E hr;have nd:Kl.Nodup:=Bw.nd;have a0:sG ((w0::ws).map aQ) 0=some (.str w0):=cz (j:=0) rfl;unfold Dq;by_cases ht:w0="turns"
  ·rw[qQ3 ht]
   have VG:=VG ht;refine df (dH (VT.to (bU hr (bH ow.2) aZ (f7 (ai 0 rfl) aF a0) aO) (by rw[bJ];exact qQ1 ht)) (aE (bV 2 (d:=ft (aH m .share) ws) (bN C hr (av (VE.to (F6 (gf (av aO aX)) (ai 1 rfl) (by omega) (by omega) (by show 1<=100;decide) (by simp)) (k:=tN (aH m .share)) (by rw[uN];unfold tN;rw[kz,eA];rfl)) (av (VE.to (VO.ve (eW (ai 0 rfl) (.yes aF) .no)) (k:=cU ws) (by show ko (L2.cutD (_::_) _ _)=_;rw[pq];rfl)) aX)) ⟨aH m .share,ws,rfl,by rw[cu];omega,by omega,ows,rfl⟩) nd) ?_)) rfl
   unfold ft;cases iM (aH m .share) ws with
   |true=>exact bq (cn (rg (k:=false) (VT.to (fN iK kL (ai 2 rfl) eK (fE _)) rfl) (λz=>by cases z) (λ_=>VE.to (gf (av aO (av (ai 2 rfl) aX))) rfl)))
   |false=>exact bq (cn (rg (k:=true) (VT.to (fN iK kL (ai 2 rfl) eK (fE _)) rfl) (λ_=>eK) (λz=>by cases z)))
  ·rw[qQ2 ht]
   obtain⟨g1,q1,q2⟩:=n.ru;refine aE (cv (VT.to (bU hr (bH ow.2) aZ (f7 (ai 0 rfl) aF a0) aO) (by rw[bJ];exact qQ0 ht)) bQ) ?_
   have UC:VT (y_ kF P w K mg base Kl "rule_of" (b9 (top 29)) f h8 A outer s H E).OV (ifC (jS (top 29)) 1) (rj Kl [cU (w0::ws),.int (m:Nat)]) (!(gy jV w0).isSome||(decide (w0="meet")&&decide ((m:Int)<2))):=
    ju (o7 q1 q2 (f7 (ai 0 rfl) aF a0)) (λ_=>pP (VT.to (bU hr (bH ow.2) aZ (f7 (ai 0 rfl) aF a0) aO) (by rw[bJ])) (λ_=>zY (ai 1 rfl) aF))
   by_cases hb:gy jV w0=none\/(w0="meet"/\m<2)
   ·rw[qQ3 hb]
    refine df (dH (VT.to UC ?_) (bq (cn eK))) rfl
    rcases hb with hb|⟨h1,h2⟩
    ·rw[hb];rfl
    ·rw[qQ1 h1,qQ1 (show(m:Int)<2 by omega)];simp
   ·rw[qQ2 hb]
    have hk:gy jV w0=some ((rK w0).map Sh.tx):=(Fb w0).resolve_left λz=>hb (.inl z)
    have hsl:(rK w0).length<=2:=by unfold rK;(repeat' split)<;>simp
    refine aE (cv (VT.to UC ?_) bQ) ?_
    ·rw[hk]
     by_cases h1:w0="meet"
     ·rw[qQ0 (show ¬(m:Int)<2 from λz=>hb (.inr ⟨h1,by omega⟩))];simp
     ·rw[qQ0 h1];rfl
    refine aE (bV 3 (d:=ft (rK w0) ws) (bN C hr (av (VE.to (wQ q1 q2 (f7 (ai 0 rfl) aF a0) hk) (k:=tN (rK w0)) (by unfold tN;rw[bA];rfl)) (av (VE.to (VO.ve (eW (ai 0 rfl) (.yes aF) .no)) (k:=cU ws) (by show ko (L2.cutD (_::_) _ _)=_;rw[pq];rfl)) aX)) ⟨rK w0,ws,rfl,by omega,by omega,ows,rfl⟩) nd) ?_
    unfold ft;have hvl:(jA (rK w0) ws).length<=2:=by unfold jA;rw[aj,yR];omega
    cases iM (rK w0) ws with
    |true=>exact bq (cn (rg (k:=false) (VT.to (fN iK kL (ai 3 rfl) eK (fE _)) rfl) (λz=>by cases z) (λ_=>VE.to (uF (gf (av (f7 (ai 0 rfl) aF a0) aX)) (ai 3 rfl) (by simp) (small (by simp only[a9,ck];omega))) rfl)))
    |false=>exact bq (cn (rg (k:=true) (VT.to (fN iK kL (ai 3 rfl) eK (fE _)) rfl) (λ_=>eK) (λz=>by cases z)))
def UD(ds:List aq)(d:aq):Prop:=∃l:List Str,ds=[.tuple (l.map .str)]/\(∀x∈l,rq x)/\l.length<=1000/\d=.bool (wX l)
theorem UE(F:lq K "are_places" "are_places" (top 30) f fd)(n:Np mg w.params K)(C:bE P w K mg base 2 "is_name" ["word"] (hV K Rh)):eX P w K mg base kF 3 f fd ["names"] (hV K UD):=
 jz F Oc (λ_ _ h=>by obtain⟨_,rfl,_⟩:=h;rfl) λ_ _ h=>by
  obtain⟨l,rfl,ok,hl,rfl⟩:=h;intro h8 A outer s H E hr;obtain⟨t,m6⟩:=n.mp;have nc:(["name"]:List Str).Nodup:=by symm
  have uo:nW (l.map isName)=l.all isName:=by
   unfold nW;rw[vM];rfl
  refine bq (cn (VE.to (m9 (k1:=decide (1<=l.length)&&decide (l.length<=6)) (VE.to (yf zN zN (zj 1 l.length) (zj l.length 6) aF (VE.to (kG (ai 0 rfl) n.len) (by rw[aj])) (λ_=>CN m6)) ?_) (λ_=>m9 (k1:=l.all isName) (VE.to (iV (oY rfl) Ab (av (VO.ve (VO.to (gw (own:=["name"]) (cap:=[]) (N:=["name"]) (cl:=[]) (tgt:=.one 0) (F:=Ko) (ds:=l.map aQ) rfl ⟨rfl,by symm,by symm,rfl,rfl,by simp⟩ (vm (ai 0 rfl)) (λf s3 H3=>cp (i:=0) nc rfl (bB rfl)) rfl
   (small (by rw[aj];omega)) (λd hd=>?_)) (Ar _))) aX) n.all rfl) (by rw[uo])) (λ_=>j0 (VE.to (sJ hr (dg 20 _) (dg 20 _) (vS (ai 0 rfl) (by omega) rfl n.len n.set) (kG (ai 0 rfl) n.len)) (by rw[nZ,aj]))))) ?_))
  ·congr 1
   rw[fH];simp only[jH,decide_eq_true_eq];omega
  ·obtain⟨z,hz,rfl⟩:=aN.mp hd
   refine⟨_,rfl,λf s3 H3=>gv,λr kT f s3 H3=>?_⟩
   cases kT;exact bN C hr (av (ai 0 rfl) aX) ⟨z,rfl,(ok z hz).1,rfl⟩
  ·unfold wX
   congr 4
   exact propext ⟨λh=>by omega,λh=>by omega⟩
end
def eY(ws:List Str):Nat:=(ws.drop 6).findIdx λy=>decide (y=("from":Str))
def KH(ws:List Str):Bool:=!decide (ws.getD 5 ""="turns")||decide (1<=(ws.drop (eY ws+7)).length)
def BI(ws:List Str):Bool:=KH ws&&(
 !decide (("from":Str)∈ws.drop 6)||(!decide (ws.getD 2 ""="to")||(!decide (ws.getD 4 ""="by") ||
  (!iM [.name,.jf] [ws.getD 1 "",ws.getD 3 ""]||(Kd (Dq (ws.getD 5 "") ((ws.drop 6).take (eY ws)) (ws.drop (eY ws+7)).length) || !wX (ws.drop (eY ws+7)))))))
def yD(ws:List Str):Bool:=match jA [.name,.number,.number] ws with
 | [_,.int a,.int b]=>decide (b<=a)
 |_=>false
def Gw:List Str->Bool
 | []=>false
 |w0::ws=>if w0="desk" then BI (w0::ws) else(!(gy jU w0).isSome||(!iM (rL w0) ws||(decide (w0="open")&&yD ws)))
section
variable{P:bC}{w:cw}{K:ao}{mg:Str->Option ay}{base:c6}{f:aL}{k:Nat}
def UG(ds:List aq)(d:aq):Prop:=∃ws:List Str,ds=[cU ws]/\Nf ws/\BI ws=true/\d=.none
theorem getD_at{l:List Str}{j:Nat}(h:j<l.length):(l.map aQ)[j]?=some (.str (l.getD j "")):=by
 rw[aT,aI,ax h];rfl
theorem UH(F:lq K "desk_entry" "desk_entry" (top 28) f fd)(n:Np mg w.params K)(C1:bE P w K mg base 5 "values_of" MY (hV K Qx))(C2:bE P w K mg base 6 "rule_of" ["words","many"] (hV K Om))(C3:bE P w K mg base 3 "are_places" ["names"] (hV K UD)):eX P w K mg base kF 7 f fd ["words"] (hV K UG):=
 jz F Gm (λ_ _ h=>by obtain⟨_,rfl,_⟩:=h;rfl) λ_ _ h=>by
  obtain⟨ws,rfl,⟨m8,hl,hok⟩,sv,rfl⟩:=h;intro h8 A outer s H E hr;have nd:Ud.Nodup:=Gm.nd;have hlay:=uQ hok;have As:Lay 20 (.str "from"):=aZ;have Gn:L2.cutD (ws.map aQ) (some 6) none=(ws.drop 6).map aQ:=by rw[jh];exact jw _ 6
  have Gp:Lay 20 (.list ((ws.drop 6).map aQ)):=uQ λx hx=>hok x (cW hx)
  unfold BI at sv;obtain⟨Y3,sv⟩:=fh.mp sv;by_cases c1:("from":Str)∈ws.drop 6
  ·have hlen:7<=ws.length:=by have:=List.length_pos_of_mem c1;rw[b_]at this;omega
   have V1:eY ws<(ws.drop 6).length:=List.findIdx_lt_length_of_exists ⟨("from":Str),c1,qQ1 rfl⟩;have zdU:eY ws+6<ws.length:=by rw[b_]at V1;omega
   have UI:∀j,j<ws.length->rq (ws.getD j ""):=λj hj=>hok _ (by rw[aI,ax hj];exact dQ hj)
   have BD:∀j:Nat,j<ws.length->sG (ws.map aQ) (j:Int)=some (.str (ws.getD j "")):=λj h=>cz (getD_at h)
   have g1:=BD 1 (by omega)
   have g2:=BD 2 (by omega)
   have g3:=BD 3 (by omega)
   have g4:=BD 4 (by omega)
   have UC:VT (y_ kF P w K mg base Ud "desk_entry" (b9 (top 28)) f h8 A outer s H E).OV (ifC (jS (top 28)) 0) (rj Ud [cU ws]) (false||(!decide (ws.getD 2 ""="to") || !decide (ws.getD 4 ""="by"))):=
    xQ (VT.to (xP hr rfl As Gp aO (VE.to (VO.ve (eW (ai 0 rfl) (.yes aF) .no)) (by rw[Gn]))) (by rw[lA,qQ1 c1];rfl)) (λ_=>VT.to (mZ hr (bH (UI 2 (by omega)).2) aZ (f7 (ai 0 rfl) aF g2) aO) (by rw[bJ])) (λ_ _=>VT.to (mZ hr (bH (UI 4 (by omega)).2) aZ (f7 (ai 0 rfl) aF g4) aO) (by rw[bJ]))
   by_cases c2:(false||(!decide (ws.getD 2 ""="to") || !decide (ws.getD 4 ""="by")))=true
   ·exact df (dH (VT.to UC c2) (bq (cn eK))) rfl
   ·have c2:(!decide (ws.getD 2 ""="to") || !decide (ws.getD 4 ""="by"))=false:=by simpa using c2
    obtain⟨c3,c4⟩:=Bool.or_eq_false_iff.mp c2;rw[qQ1 c1,c3,c4]at sv;have sv:(!iM [.name,.jf] [ws.getD 1 "",ws.getD 3 ""]||(Kd (Dq (ws.getD 5 "") ((ws.drop 6).take (eY ws)) (ws.drop (eY ws+7)).length) || !wX (ws.drop (eY ws+7))))=true:=sv
    refine aE (cv (VT.to UC (by rw[c2];rfl)) bQ) ?_
    refine aE (bV 1 (d:=.int ((6+eY ws:Nat):Int)) (Ac (i:=6) (j:=6+eY ws) hr (ai 0 rfl) aO aF hlay As (by omega) ⟨by rw[aj];omega,?_⟩ (λj h j6 jr=>?_)) nd) ?_
    ·have h1:(ws.drop 6)[eY ws]'(V1)="from":=qQ4 (List.findIdx_getElem (p:=λy=>decide (y=("from":Str))) (w:=V1))
     have h2:(ws.drop 6)[eY ws]?=some ("from":Str):=by rw[ax V1,h1]
     rw[nH,ax (show 6+eY ws<ws.length by omega)]at h2
     rw[qo,bJ,di h2];exact qQ1 rfl
    ·rw[aj]at h
     rw[qo,bJ];refine qQ0 λz=>?_
     have hj:j-6<(ws.drop 6).length:=by rw[b_];omega
     have h1:decide ((ws.drop 6)[j-6]'hj="from")=false:=List.not_of_lt_findIdx (p:=λy=>decide (y=("from":Str))) (xs:=ws.drop 6) (i:=j-6) (by show j-6<eY ws;omega)
     have h2:(ws.drop 6)[j-6]?=some ("from":Str):=by
      rw[nH,show 6+(j-6)=j by omega,ax h,z]
     rw[ax hj]at h2;exact qQ5 h1 (di h2)
    refine aE (bV 2 (d:=ft [.name,.jf] [ws.getD 1 "",ws.getD 3 ""]) (bN C1 (hr.mono (by omega)) (av (VE.to (gf (av aO (av aO aX))) (k:=tN [.name,.jf]) rfl) (av (VE.to (VO.ve (gG (av (f7 (ai 0 rfl) aF g1) (av (f7 (ai 0 rfl) aF g3) aX)))) (k:=cU [ws.getD 1 "",ws.getD 3 ""]) rfl) aX)) ⟨_,_,rfl,by show 2<=1000;decide,by show 2<=100002;decide,λx hx=>?_,rfl⟩) nd) ?_
    ·simp only[aG,bP,or_false]at hx
     rcases hx with rfl|rfl
     ·exact UI 1 (by omega)
     ·exact UI 3 (by omega)
    have BF:L2.cutD (ws.map aQ) (some ((6+eY ws:Nat)+1:Int)) none=(ws.drop (eY ws+7)).map aQ:=by
     rw[show((6+eY ws:Nat)+1:Int)=((eY ws+7:Nat):Int)from by omega,jw,<-jh]
    have Kr:L2.cutD (ws.map aQ) (some 5) (some ((6+eY ws:Nat):Int))=(ws.getD 5 ""::(ws.drop 6).take (eY ws)).map aQ:=by
     rw[show(5:Int)=((5:Nat):Int)from rfl,Ue _ 5 (6+eY ws) (by omega) (by rw[aj];omega),<-jh,<-mh]
     congr 1
     have e5:ws.drop 5=ws.getD 5 ""::ws.drop 6:=by
      rw[List.drop_eq_getElem_cons (show 5<ws.length by omega),aI,ax (show 5<ws.length by omega)];rfl
     rw[e5,show 6+eY ws-5=eY ws+1 from by omega,List.take_succ_cons]
    have pF:(ws.drop (eY ws+7)).length<=60:=by rw[b_];omega
    have Im:∀x∈ws.drop (eY ws+7),rq x:=λx hx=>hok x (cW hx)
    have N4:∀x∈(ws.drop 6).take (eY ws),rq x:=λx hx=>hok x (cW (cG hx))
    have N8:((ws.drop 6).take (eY ws)).length<=60:=by rw[bS,b_];omega
    have ow5:=UI 5 (by omega)
    have ht5:ws.getD 5 ""="turns"->1<=(ws.drop (eY ws+7)).length:=λz=>by
     unfold KH at Y3;rw[qQ1 z]at Y3;exact qQ4 Y3
    generalize ws.drop (eY ws+7)=ps at *
    generalize(ws.drop 6).take (eY ws)=rs at *
    refine aE (bV 3 (d:=.tuple (ps.map .str)) (j9 jN uz (av (VE.to (VO.ve (eW (ai 0 rfl) (.yes (eL (ai 1 rfl) aF)) .no)) (by rw[BF])) aX) n.tup rfl) nd) ?_
    refine aE (bV 4 (d:=Dq (ws.getD 5 "") rs ps.length) (bN C2 hr (av (VE.to (VO.ve (eW (ai 0 rfl) (.yes aF) (.yes (ai 1 rfl)))) (k:=cU (ws.getD 5 ""::rs)) (by rw[Kr];rfl)) (av (VE.to (kG (ai 3 rfl) n.len) (by rw[aj])) aX)) ⟨_,rs,ps.length,rfl,ow5,N4,N8,pF,ht5,rfl⟩) nd) ?_
    have hnv:Kd (ft [.name,.jf] [ws.getD 1 "",ws.getD 3 ""])=!iM [.name,.jf] [ws.getD 1 "",ws.getD 3 ""]:=by
     unfold ft;cases iM [.name,.jf] [ws.getD 1 "",ws.getD 3 ""]<;>rfl
    refine df (dH (VT.to (xQ (VT.to (fN iK Km (ai 2 rfl) eK (fE _)) hnv) (λ_=>fN iK Km (ai 4 rfl) eK (fE _)) (λ_ _=>Be (pQ (bN C3 (hr.mono (by omega)) (av (ai 3 rfl) aX) ⟨ps,rfl,Im,by omega,rfl⟩) rfl))) sv) (bq (cn eK))) rfl
  ·exact df (dH (VT.to (xQ (k1:=true) (k2:=true) (k3:=true) (VT.to (xP hr rfl As Gp aO (VE.to (VO.ve (eW (ai 0 rfl) (.yes aF) .no)) (by rw[Gn]))) (by rw[lA,qQ0 c1];rfl)) (λz=>by cases z) (λz=>by cases z)) rfl) (bq (cn eK))) rfl
def UJ(ds:List aq)(d:aq):Prop:=∃ws:List Str,ds=[cU ws]/\Nf ws/\Gw ws=true/\d=.none
theorem UK(F:lq K "entry_of" "entry_of" (top 27) f fd)(n:Np mg w.params K)(C1:bE P w K mg base 5 "values_of" MY (hV K Qx))(C2:bE P w K mg base 7 "desk_entry" ["words"] (hV K UG)):eX P w K mg base kF 8 f fd ["words"] (hV K UJ):=
 jz F Gq (λ_ _ h=>by obtain⟨_,rfl,_⟩:=h;rfl) λ_ _ h=>by
  obtain⟨ws,rfl,ok,sv,rfl⟩:=h;intro h8 A outer s H E hr;have nd:Yv.Nodup:=Gq.nd;cases ws with
  |nil=>exact qQ7 rfl ok.ne
  |cons w0 ws=>
   have ow:=ok.ok w0 aP;have hl:=ok.len;rw[a9]at hl;refine aE (bV 1 (d:=.str w0) (f7 (ai 0 rfl) aF (cz (j:=0) rfl)) nd) ?_
   have sv:(if w0="desk" then BI (w0::ws) else(!(gy jU w0).isSome||(!iM (rL w0) ws||(decide (w0="open")&&yD ws))))=true:=sv
   by_cases hd:w0="desk"
   ·rw[qQ3 hd]at sv
    exact df (dH (VT.to (bU hr (bH ow.2) aZ (ai 1 rfl) aO) (by rw[bJ];exact qQ1 hd)) (bq (cn (bN C2 hr (av (ai 0 rfl) aX) ⟨_,rfl,ok,sv,rfl⟩)))) rfl
   ·rw[qQ2 hd]at sv
    obtain⟨g1,q1,q2⟩:=n.fo;refine aE (cv (VT.to (bU hr (bH ow.2) aZ (ai 1 rfl) aO) (by rw[bJ];exact qQ0 hd)) bQ) ?_
    rcases Fc w0 with hk|hk
    ·exact df (dH (VT.to (o7 q1 q2 (ai 1 rfl)) (by rw[hk];rfl)) (bq (cn eK))) rfl
    ·rw[hk]at sv
     have sv:(!iM (rL w0) ws||(decide (w0="open")&&yD ws))=true:=sv
     have hsl:(rL w0).length<=4:=by
      unfold rL
      split;· simp
      split;· simp
      split;· simp
      split;· simp
      split<;>simp
     refine aE (cv (VT.to (o7 q1 q2 (ai 1 rfl)) (by rw[hk];rfl)) bQ) ?_
     refine aE (bV 2 (d:=ft (rL w0) ws) (bN C1 (hr.mono (by omega)) (av (VE.to (wQ q1 q2 (ai 1 rfl) hk) (k:=tN (rL w0)) (by unfold tN;rw[bA];rfl)) (av (VE.to (VO.ve (eW (ai 0 rfl) (.yes aF) .no)) (k:=cU ws) (by show ko (L2.cutD (_::_) _ _)=_;rw[pq];rfl)) aX)) ⟨rL w0,ws,rfl,by omega,by omega,λx hx=>ok.ok x (aU _ hx),rfl⟩) nd) ?_
     unfold ft;cases hf:iM (rL w0) ws with
     |false=>exact df (dH (VT.to (ju (k1:=true) (k2:=true) (VT.to (fN iK kL (ai 2 rfl) eK (fE _)) rfl) (λz=>by cases z)) rfl) (bq (cn eK))) rfl
     |true=>
      rw[hf]at sv;obtain⟨ho,Ca⟩:=fh.mp (show(decide (w0="open")&&yD ws)=true from sv)
      have ho:=qQ4 ho;subst ho;unfold yD at Ca;have esh:rL "open"=[.name,.number,.number]:=rfl;rw[esh]
      split at Ca
      ·rename_i x a b hv
       rw[hv];exact df (dH (VT.to (ju (k1:=false) (k2:=true) (VT.to (fN iK kL (ai 2 rfl) eK (fE _)) rfl) (λ_=>VT.to (pP (k1:=true) (k2:=true) (VT.to (bU hr (bH ow.2) aZ (ai 1 rfl) aO) (by rw[bJ];exact qQ1 rfl)) (λ_=>VT.to (Jk (c0 (ds:=[x,.int a,.int b]) (ai 2 rfl) aF (cz (j:=1) rfl)) (c0 (ds:=[x,.int a,.int b]) (ai 2 rfl) aF (cz (j:=2) rfl))) Ca)) rfl)) rfl) (bq (cn eK))) rfl
      ·cases Ca
end
section
variable{P:bC}{w:cw}{K:ao}{mg:Str->Option ay}{base:c6}{f C fI:aL}{k:Nat}
def UL(ds:List aq)(d:aq):Prop:=∃p:Pl,ds=[rG p,.none]/\d=.str "row"
theorem UM(F:lq K "fault_of" "fault_of" (top 31) f fd):eX P w K mg base kF 3 f fd zt (hV K UL):=
 jz F Og (λ_ _ h=>by obtain⟨_,rfl,_⟩:=h;rfl) λ_ _ h=>by
  obtain⟨p,rfl,rfl⟩:=h;intro h8 A outer s H E hr;exact df (dH (VT.to (fN iK kL (ai 1 rfl) eK (fE _)) rfl) (bq (cn aO))) rfl
def QL(ds:List aq)(pl:Int)(wd:Str):Prop:=∃(x:Str)(es:List Ent)(pre post:List (Nat×List Str))(num:Nat)(ws:List Str),ds=[.str x]/\rq x/\rowsOf x=pre++(num,ws)::post/\pre.map (·.2)=es.map uO/\HZ es/\Nf ws/\Gw ws=true/\pl=num/\wd="row"
theorem UN{fdI: e9}(F:lq K "read_plant" "read_plant" (top 23) f fd)(n:Np mg w.params K)(T:YW P w K mg base)(C1:bE P w K mg base 2 "rows_of" ["text"] (FW K X7))(C2:bE P w K mg base 8 "entry_of" ["words"] (hV K Yw))(C2N:bE P w K mg base 8 "entry_of" ["words"] (hV K UJ))(C3:bE P w K mg base 3 "fault_of" zt (hV K YK))(C3N:bE P w K mg base 3 "fault_of" zt (hV K UL))(C4:bE P w K mg base 1 "add_entry" zt (F8 K Pl (sU K) Kx))(mC:mg "BadPlant"=some (.ref C))(M:Vn K C fI)(FI:eX P w K mg base kF 1 fI fdI QJ (Bn C))(bIX:Binds K fdI QJ []):
  eX P w K mg base (Vo P w) 9 f fd ["text"] (XU K C QL):=by
 obtain⟨oc,od,kV,doc,pm,an,h8,ct,FG,rfl,lk,qT⟩:=F.ex;refine NC lk qT Gv (λvs H Q E h=>?_) λA outer s H vs Q E hr h=>⟨_,my,?_⟩
 ·obtain⟨H0,ds,pl,wd,_,r,⟨x,es,pre,post,num,ws,rfl,_⟩,_⟩:=h
  exact r.length
 obtain⟨H0,ds,pl,wd,sm,r,⟨x,es,pre,post,num,ws,rfl,ox,Ax,D6,E7,okw,sv,rfl,rfl⟩,q⟩:=h;have nd:Rt.Nodup:=Gv.nd;obtain⟨C',fi,fdi,mC',cl,na,M',FI',bI⟩:=T.ex;have hlen:pre.length=es.length:=by have:=qQ6 gu D6;simpa using this
 have fr:hU K H0 H H0 H _ (rj Rt [.str x]):=.start sm r;refine eG (JH (X:=Vp P w K mg base Rt "read_plant" (b9 (top 23)) f h8 A outer s H E) 1 M' FI' (hr.mono (by omega)) mC' bI (λp dx E' hp YZ Ur=>?_) nd)
 refine⟨p,dx,rfl,bK,λak ag al ad at_ ah ap H' mid=>⟨rfl,?_⟩⟩
 have Fy:∀b,(upd (upd H dx (.own p)) p (.ins C' dx [])) b=none->H b=none:=λb hb=>by
  have h1:b≠p:=λz=>by rw[z,bK]at hb;cases hb
  rw[aS h1]at hb;have h2:b≠dx:=λz=>by rw[z,bK]at hb;cases hb
  rw[aS h2]at hb;exact hb
 have Dl:∀b o,H b=some o->H' b=some o:=λb o e=>by
  have h1:b≠p:=bj e hp;refine mid.old b o ?_ h1
  rw[aS h1,aS (bj e YZ)];exact e
 have G0:OF K H0 H (sU K p (oI es 0)) H0 H' ((start Rt vs).set 1 (some (.ref p))) [.val (.str x),.ref p,.un,.un,.un,.un]:=by
  have g:dU H0 H H0 H':=⟨Dl,ej.refl _,λb u e=>Dl b u (fr.sub b u e),λ_ z=>.inl z⟩
  refine⟨(fr.grow g).Cw (i:=1) (v:=.ref p) (sl:=.ref p) rfl rfl,rfl,[p,ak,ag,al,ad,at_,ah,ap],λa ha=>?_,C',dx,ak,ag,al,ad,at_,ah,ap,[],[],rfl,by simpa using mid.nd,?_⟩
  ·have yz:H a=none/\H' a≠none:=by
    rcases aG.mp ha with rfl|ha
    ·exact⟨hp,by rw[mid.ins];simp⟩
    ·have Y0:∃q∈[(ak,HO.dK []),(ag,.lst []),(al,.dK []),(ad,.lst []),(at_,.dT []),(ah,.dK []),(ap,.dK [])],q.1=a:=by
      simp only[aG,bP,or_false]at ha;rcases ha with rfl|rfl|rfl|rfl|rfl|rfl|rfl<;>simp
     obtain⟨q,hq,rfl⟩:=Y0;exact⟨Fy _ (mid.fresh q hq),by rw[mid.ob q hq];simp⟩
   exact⟨fr.sub.free yz.1,yz.1,yz.2⟩
  ·exact⟨mid.ins,cl,na,mid.ob (ak,.dK []) (by simp),mid.ob (ag,.lst []) (by simp),mid.ob (al,.dK []) (by simp),mid.ob (ad,.lst []) (by simp),.nil,mid.ob (at_,.dT []) (by simp),mid.ob (ah,.dK []) (by simp),rfl,mid.ob (ap,.dK []) (by simp),λi c q e1=>by simp at e1⟩
 refine eG (Qo (tgt:=.tup [2,3]) (ds:=(rowsOf x).map sN) (λi=>sU K p (oI es i)) (λi=>sU.mono) G0 AH.leaving rfl (je (VO.ve (nV C1 (hr.mono (by omega)) (av (ai 0 rfl) aX) ⟨x,rfl,ox,rfl⟩)))
  (iS rfl (cD (cp (i:=2) nd rfl (bB rfl)) (cD (cp (i:=3) nd rfl (bB rfl)) gN))) pre.length (by rw[aj,Ax,aV];simp) (λi d hi hd=>?_) (λd hd=>?_))
 ·obtain⟨r,V0,rfl⟩:∃r,pre[i]?=some r/\d=sN r:=by
   rw[aT,Ax,cC hi]at hd;rw[ax hi]at hd ⊢;cases hd;exact⟨_,rfl,rfl⟩
  have KZ:es[i]?=some es[i]:=ax (by omega)
  have hw:r.2=uO es[i]:=by
   have h1:(pre.map (·.2))[i]?=some r.2:=by rw[aT,V0];rfl
   rw[D6,aT,KZ]at h1;exact(di h1).symm
  have oe:=E7.ent _ (dQ (by omega:i<es.length))
  have oa:=E7.add i _ KZ;have op:=E7.pl i (by omega)
  have KD:=Aw KZ
  generalize es[i]=e at *
  refine⟨[.val (.str x),.ref p,.val (.int (r.1:Nat)),.val (.list (r.2.map .str)),.un,.un],rfl,rfl,λD C0 σ' eJ eC G q=>?_⟩
  refine eG (yb sU.mono G (bV 4 (d:=Dc e) (bN C2 hr (av (ai 3 rfl) aX) ⟨e,by rw[hw];rfl,oe,rfl⟩) nd) rfl λσ1 QC QD G1=>?_)
  refine eG (El sU.mono G1 1 5 (d:=.str "") rfl sU.rep (bN C3 (hr.mono (by omega)) (av (ai 1 rfl) (av (ai 4 rfl) aX)) ⟨oI es i,e,rfl,op,oe,oa,rfl⟩) rfl rfl (λσ2 Oi Oj G2=>?_) nd)
  refine eG (yb sU.mono G2 (cv (VT.to (mZ hr aZ aZ (ai 5 rfl) aO) (qQ6 (λb=>!b) (jb _))) bQ) rfl λσ3 Rq Rr G3=>?_)
  refine dR (NZ (s:=oI es i) (s':=oI es (i+1)) C4 (hr.mono (by omega)) G3 sU.mono 1 rfl (ai 4 rfl) ⟨e,rfl,op,oe,oa,KD⟩ λUv Uw G4=>?_)
  exact q _ _ _ (G4.forget sU.mono ⟨.inr rfl,.inr rfl,.inl rfl,.inl rfl,.inl rfl,.inl rfl,trivial⟩ rfl)
 ·obtain rfl:d=sN (num,ws):=by
   rw[aT,Ax,cy (aD _),DM]at hd;cases hd;rfl
  refine⟨[.val (.str x),.ref p,.val (.int (num:Nat)),.val (.list (ws.map .str)),.un,.un],rfl,rfl,λD' σ' Ha Hb G=>?_⟩
  refine eG (yb sU.mono G (bV 4 (d:=.none) (bN C2N hr (av (ai 3 rfl) aX) ⟨ws,rfl,okw,sv,rfl⟩) nd) rfl λσ1 QC QD G1=>?_)
  refine eG (El sU.mono G1 1 5 (d:=.str "row") rfl sU.rep (bN C3N (hr.mono (by omega)) (av (ai 1 rfl) (av (ai 4 rfl) aX)) ⟨_,rfl,rfl⟩) rfl rfl (λσ2 Oi Oj G2=>?_) nd)
  refine eG (yc G2.fr (VT.to (mZ hr aZ aZ (ai 5 rfl) aO) (by rw[bJ];symm)) λHg Hh g4=>?_)
  refine dR (Mw (G2.fr.grow g4) M FI (hr.mono (by omega)) bIX (by rfl) mC (ai 2 rfl) (ai 5 rfl) (by symm) (λpins σ H2 s2 e dx I2 ge se wi=>?_) (λpins σ H2 s2 I2=>(ye I2).2.1) hr.hd)
  exact JR I2 ge se λT nT ne=>q e T dx _ (wi.fly nT ne)
end
structure XKd(K:ao)(mg:Str->Option ay)(C:aL):Prop where
 own:mg "BadPlant"=some (.ref C)
 oth:∃M1 M2 M3,mg "BadBook"=some (.ref M1)/\mg "BadDay"=some (.ref M2)/\mg "NoBound"=some (.ref M3)/\xn K (.ref C) [.ref M1,.ref M2,.ref M3]=some false
 kc:du K (.ref C) (.ref C)=some true
 kv:du K (.ref C) (.type "ValueError")=some true
 ve:mg "ValueError"=none
 gt:HC K C
 np:fK K C "place"
 nw:fK K C "word"
abbrev Nlf:List Str:=["_law_text","_law_error","caught"]
section
variable{P:bC}{w:cw}{K:ao}{mg:Str->Option ay}{base:c6}{f C M:aL}{k:Nat}
theorem Oo:c9 Nlf ["_law_text"] (b9 (top 50)):=⟨rfl,rfl,rfl,by symm,rfl,by symm,by symm⟩
def Rlf(ds:List aq)(d:aq):Prop:=∃(pl:Int)(wd:Str),QL ds pl wd/\d=.tuple [.int pl,.str wd]
theorem Y4(F:lq K "_law_fault" "_law_fault" (top 50) f fd)(n:Na mg)(S:XKd K mg C)(me:mg "MergeError"=some (.ref M))(sub:Mx K C M)(CX:Am P w K mg base 9 "read_plant" ["text"] C QL):eX P w K mg base kF 10 f fd ["_law_text"] (hV K Rlf):=
 jz F Oo (λ_ _ h=>by obtain⟨_,_,⟨_,_,_,_,_,_,rfl,_⟩,_⟩:=h;rfl) λ_ _ h=>by
  obtain⟨pl,wd,hR,rfl⟩:=h;have hR0:=hR;obtain⟨x,es,pre,post,num,ws,rfl,ox,_⟩:=hR0;intro h8 A outer s H E hr;have nd:Nlf.Nodup:=Oo.nd;obtain⟨M1,M2,M3,o1,o2,o3,ka⟩:=S.oth;refine aE (bV 1 eK nd) ?_
  refine xZ λB0 B σ H0 Hh D fr YY=>?_
  obtain⟨fx,fdx,FX,mx,kx,bx⟩:=CX;refine eG (MG (jn:=2) (jc:=1) (M:=M) fr (λ_ _ z=>z) rfl rfl rfl (λ_=>hr.hd) FX hr bx (by rfl) mx kx (av (ai 0 rfl) aX) hR (by rfl) me sub nd rfl rfl rfl (bB rfl) (.inr rfl) (by decide) λe dx T σ9 Ha9 V2 f9 ge gd ae ad be bd m8=>?_)
  have c:oC K V2 e C pl wd:=⟨⟨dx,T,ge,gd,m8⟩,S.gt,S.np,S.nw⟩;have h1:σ9[1]?=some (some (.ref e)):=f9.slot 1 _ rfl;refine eG (λpins s1 I=>zK (PW.pt (pw_or (DS (DR (qX MD (by rfl) n.Xo rfl (dw (h7 (i:=1) rfl (bB rfl)) (dw (nM (v:=.ref C) (by rfl) S.own rfl) fM))))) (pw_or1 (DS (DR (qX Qm (by rfl) n.Xo rfl (dw (h7 (i:=1) rfl (bB rfl)) (dw (K8 (v:=.ty "ValueError") (by rfl) S.ve rfl rfl) fM)))))))) lj A2 pins s1 _ _ _ I ?_)
  refine⟨.ref e,h1,e,C,pl,wd,C,true,rfl,c,S.kc,true,rfl,IV ⟨.ref e,h1,e,C,pl,wd,"ValueError",true,rfl,c,S.kv,true,rfl,IV ?_⟩⟩
  refine eG (λpins s1 I=>zK (DR (qX MF (by rfl) n.Xo rfl (dw (h7 (i:=1) rfl (bB rfl)) (dw (xC (dw (nM (v:=.ref M1) (by rfl) o1 rfl) (dw (nM (v:=.ref M2) (by rfl) o2 rfl) (dw (nM (v:=.ref M3) (by rfl) o3 rfl) fM)))) fM)))) lj A2 pins s1 _ _ _ I ?_)
  refine⟨.ref e,h1,(by show 3<=sizeLine;rw[cL];decide),λt ht=>?_⟩
  have g1:dU Ha9 V2 Ha9 (upd V2 t (.tup [.ref M1,.ref M2,.ref M3])):=dU.loose f9.sub ht;have c1:=c.mono g1.big;refine⟨e,C,pl,wd,t,M1,M2,M3,false,rfl,c1,bK,ka,false,rfl,IV ?_⟩
  have f10:=f9.grow g1
  generalize upd V2 t (.tup [.ref M1,.ref M2,.ref M3])=Hb at *
  have lp:(uI pl wd).lookup ("place":Str)=some (.int pl):=rfl;have lw:(uI pl wd).lookup ("word":Str)=some (.str wd):=rfl;refine dR (λpins s1 I=>xr (xC (dw (Gc (i:=1) rfl (bB rfl) rfl) (dw (Gc (i:=1) rfl (bB rfl) rfl) fM))) pins s1 _ _ _ I ?_)
  refine⟨e,C,pl,wd,.int pl,h1,c1,S.np,lp,e,C,pl,wd,.str wd,h1,c1,S.nw,lw,(by show 2<=sizeLine;rw[cL];decide),λt2 Q5=>?_⟩
  have g2:=dU.laid f10.sub (o:=.tup [.int pl,.str wd]) Q5;exact YY _ _ _ (f10.ent.trans g2) (.tup (qp.of bK) (.cons (.int pl) (.cons (.str wd) .nil)))
end
end Mg
namespace L2
open PySem PySem.Spec PyProof.Rows
variable{δ:List Slot}
def litsOf:List cj->Option (List Str)
 | []=>some []
 | .Constant (.str x) _ _::r=>(litsOf r).map (x :: ·)
 |_=>none
theorem Gx{X:Cx}:∀{es:List cj}{l:List Str},litsOf es=some l->VA X es δ (l.map .str)
 | [],l,h=>by cases h;exact aX
 |e::es,l,h=>by
  unfold litsOf at h
  split at h
  ·rename_i e1;cases e1
  ·rename_i x j p r e1
   cases e1;cases hr:litsOf es with
   |none=>rw[hr]at h;cases h
   |some l2=>
    rw[hr]at h;cases h;exact av aO (Gx hr)
  ·cases h
theorem dO{X:Cx}{es:List cj}{pos:Pos}{l:List Str}(h:litsOf es=some l)(hz:l.length<=1000):VO X (.List es pos) δ (l.map .str):=gG (Gx h) (bZ (by rw[aj];exact hz) (by rw[cL];decide))
end L2
namespace Mg
open L2 PySem PyProof.Rows
seal L2.VE L2.VS L2.wB L2.VT L2.VO L2.L4
variable{fd:e9}{l:List Str}{c:Nat}{p:Pl}{x y:Str}
def iF:List (List Str):=[[("kind":Str),"kind a","kind a 0","kind a 01","kind a 1000000","kind a x","kind a 1 2"],[("kind aaaaaaaaa 3":Str),"kind a1 3","kind A 3","kind a -1","kind a --","gate"],[("gate a b":Str),"gate a1","gate -","gates a","line a","line a 0","line a -"],[("line a 1 2":Str),"line 1 1","line a 007","lines","x","Kind a -","desk a"],[("desk a to - by eldest from":Str),"desk a to - by eldest","desk a to - eldest from b"],[("desk a - by eldest from b":Str),"desk a to b c by eldest from d"],[("desk a to - by oldest from b":Str),"desk a to - by eldest 1 from b"],[("desk a to - by turns from b":Str),"desk a to - by turns 0 from b"],[("desk a to - by turns 10 from b":Str),"desk a to - by turns 1 from b c"],[("desk a to - by turns 1 2 from b":Str),"desk a to - by turns 1 - from b c"],[("desk a to - by rank from b":Str),"desk a to - by rank 01 from b"],[("desk a to - by rank 1 2 from b":Str),"desk a to - by rank x from b"],[("desk a to - by many from b":Str),"desk a to - by many 0 from b"],[("desk a to - by many - from b":Str),"desk a to - by many 1 2 from b"],[("desk a to - by gather 1 from b":Str),"desk a to - by gather 0 1 from b"],[("desk a to - by gather 1 - from b":Str),"desk a to - by gather 1 2 3 from b"],[("desk a to - by meet from b":Str),"desk a to - by meet 2 from b c"],[("desk a to - by eldest from b b":Str),"desk a to - by meet from b c b"],[("desk a to 1 by eldest from b":Str),"desk 1 to - by eldest from b"],[("desk a to - by eldest from b 1":Str),"desk a to - by eldest from b -"],[("desk a to - by eldest from b c d e f g h":Str),"desk a by eldest to - from b"],[("desk a to - by from b c":Str),"time","time a b","time a b 0","time a b 01"],[("time a b 1 2":Str),"time 1 b 1","time a 1 1","time a b -","open a","open a 1"],[("open a 1 1":Str),"open a 2 1","open a 1 2 3","open a 01 2","open a - 2","open 1 1 2"],[("pace a b 1":Str),"pace a b 0 1","pace a b 1 0","pace a b 1 1 1","pace 1 b 1 1"],[("pace a 1 1 1":Str),"pace a b 1 -","gate aaaaaaaaa","gate A","line aaaaaaaaa 3","line A 3"],[("desk aaaaaaaaa to - by eldest from b":Str),"desk a to aaaaaaaaa by eldest from b"],[("desk a to - by eldest from aaaaaaaaa":Str),"desk A to - by eldest from b"],[("desk a to - by many 01 from b":Str),"desk a to - by many 1000000 from b"],[("desk a to - by gather 01 1 from b":Str),"desk a to - by gather 1 01 from b"],[("desk a to - by gather 1 1000000 from b":Str),"desk a to - by rank 1000000 from b"],[("desk a to - by turns 01 from b":Str),"line a 1000000","time aaaaaaaaa b 1","time a aaaaaaaaa 1"],[("time a b 1000000":Str),"open aaaaaaaaa 1 2","open a 0 1000000","open a 1 02"],[("pace aaaaaaaaa b 1 1":Str),"pace a aaaaaaaaa 1 1","pace a b 01 1","pace a b 1 01"],[("pace a b 1000000 1":Str),"pace a b 1 1000000"]]
def eS(i:Nat):List Str:=(iF.take i).flatten
def wC:List Str:=iF.flatten
theorem wY:wC.length=114:=by symm
theorem QM(i:Nat):(eS i).length<=114:=by
 have h:(eS i++(iF.drop i).flatten)=wC:=by
  show(iF.take i).flatten++(iF.drop i).flatten=iF.flatten
  rw[<-tY,hZ]
 have:=qQ6 gu h;rw[aV,wY]at this;omega
theorem KJ{i:Nat}(h:iF[i]?=some l):eS (i+1)=eS i++l:=by
 unfold eS;rw[eu,h,tY];show _ ++ [l].flatten=_;rw[List.flatten_singleton]
def UO(x:Str):Bool:=decide (x.length<=60)&&cP (.str x)&&(decide (0<(bL x " ").length)&&decide ((bL x " ").length<=20)&&(bL x " ").all (λw=>!decide (w="") && !decide (32∈w.cps.toList) && !decide (10∈w.cps.toList)&&decide (w.length<=60)&&cP (.str w))&&Gw (bL x " "))
theorem Nh:wC.all UO=true:=by symm
section
variable{P:bC}{w:cw}{K:ao}{mg:Str->Option ay}{base:c6}{f:aL}{k:Nat}
theorem dS{X:Cx}{δ:List Slot}{a b:cj}{pos:Pos}(i:Nat)(h:iF[i]?=some l)(hl:l.length<=1000)(h1:VE X a δ (cU (eS i)))(h2:VO X b δ (l.map .str)):VE X (.BinOp a .Add b pos) δ (cU (eS (i+1))):=
 VE.to (VO.ve (jY (d1:=(eS i).map .str) (d2:=l.map .str) h1 (VO.ve h2) (small (by have:=QM i;simp only[aj];omega)))) (by unfold cU;rw[KJ h,bh])
end
section
variable{P:bC}{w:cw}{K:ao}{mg:Str->Option ay}{base:c6}{f:aL}{k:Nat}
abbrev Nod:List Str:=["_law_number","_law_some"]
theorem Oq:c9 Nod ["_law_number"] (b9 (top 51)):=⟨rfl,rfl,rfl,by symm,rfl,by symm,by symm⟩
def Y5(ds:List aq)(d:aq):Prop:=∃n:Int,ds=[.int n]/\d=.str (pickOf wC "" n)
theorem Y6(F:lq K "_law_odd" "_law_odd" (top 51) f fd)(n:Na mg):eX P w K mg base kF 1 f fd ["_law_number"] (hV K Y5):=
 jz F Oq (λ_ _ h=>by obtain⟨_,rfl,_⟩:=h;rfl) λ_ _ h=>by
  obtain⟨m,rfl,rfl⟩:=h;intro h8 A outer s H E hr;have nd:Nod.Nodup:=Oq.nd;refine aE (bV 1 (d:=cU (eS 1)) (VE.to (VO.ve (dO (l:=eS 1) rfl (by decide))) rfl) nd) ?_
  refine aE (δ':=[.val (.int m),.val (cU (eS 2))]) (bV 1 (dS 1 (l:=iF.getD 1 []) rfl (by decide) (ai 1 rfl) (dO rfl (by decide))) nd) ?_
  refine aE (δ':=[.val (.int m),.val (cU (eS 3))]) (bV 1 (dS 2 (l:=iF.getD 2 []) rfl (by decide) (ai 1 rfl) (dO rfl (by decide))) nd) ?_
  refine aE (δ':=[.val (.int m),.val (cU (eS 4))]) (bV 1 (dS 3 (l:=iF.getD 3 []) rfl (by decide) (ai 1 rfl) (dO rfl (by decide))) nd) ?_
  refine aE (δ':=[.val (.int m),.val (cU (eS 5))]) (bV 1 (dS 4 (l:=iF.getD 4 []) rfl (by decide) (ai 1 rfl) (dO rfl (by decide))) nd) ?_
  refine aE (δ':=[.val (.int m),.val (cU (eS 6))]) (bV 1 (dS 5 (l:=iF.getD 5 []) rfl (by decide) (ai 1 rfl) (dO rfl (by decide))) nd) ?_
  refine aE (δ':=[.val (.int m),.val (cU (eS 7))]) (bV 1 (dS 6 (l:=iF.getD 6 []) rfl (by decide) (ai 1 rfl) (dO rfl (by decide))) nd) ?_
  refine aE (δ':=[.val (.int m),.val (cU (eS 8))]) (bV 1 (dS 7 (l:=iF.getD 7 []) rfl (by decide) (ai 1 rfl) (dO rfl (by decide))) nd) ?_
  refine aE (δ':=[.val (.int m),.val (cU (eS 9))]) (bV 1 (dS 8 (l:=iF.getD 8 []) rfl (by decide) (ai 1 rfl) (dO rfl (by decide))) nd) ?_
  refine aE (δ':=[.val (.int m),.val (cU (eS 10))]) (bV 1 (dS 9 (l:=iF.getD 9 []) rfl (by decide) (ai 1 rfl) (dO rfl (by decide))) nd) ?_
  refine aE (δ':=[.val (.int m),.val (cU (eS 11))]) (bV 1 (dS 10 (l:=iF.getD 10 []) rfl (by decide) (ai 1 rfl) (dO rfl (by decide))) nd) ?_
  refine aE (δ':=[.val (.int m),.val (cU (eS 12))]) (bV 1 (dS 11 (l:=iF.getD 11 []) rfl (by decide) (ai 1 rfl) (dO rfl (by decide))) nd) ?_
  refine aE (δ':=[.val (.int m),.val (cU (eS 13))]) (bV 1 (dS 12 (l:=iF.getD 12 []) rfl (by decide) (ai 1 rfl) (dO rfl (by decide))) nd) ?_
  refine aE (δ':=[.val (.int m),.val (cU (eS 14))]) (bV 1 (dS 13 (l:=iF.getD 13 []) rfl (by decide) (ai 1 rfl) (dO rfl (by decide))) nd) ?_
  refine aE (δ':=[.val (.int m),.val (cU (eS 15))]) (bV 1 (dS 14 (l:=iF.getD 14 []) rfl (by decide) (ai 1 rfl) (dO rfl (by decide))) nd) ?_
  refine aE (δ':=[.val (.int m),.val (cU (eS 16))]) (bV 1 (dS 15 (l:=iF.getD 15 []) rfl (by decide) (ai 1 rfl) (dO rfl (by decide))) nd) ?_
  refine aE (δ':=[.val (.int m),.val (cU (eS 17))]) (bV 1 (dS 16 (l:=iF.getD 16 []) rfl (by decide) (ai 1 rfl) (dO rfl (by decide))) nd) ?_
  refine aE (δ':=[.val (.int m),.val (cU (eS 18))]) (bV 1 (dS 17 (l:=iF.getD 17 []) rfl (by decide) (ai 1 rfl) (dO rfl (by decide))) nd) ?_
  refine aE (δ':=[.val (.int m),.val (cU (eS 19))]) (bV 1 (dS 18 (l:=iF.getD 18 []) rfl (by decide) (ai 1 rfl) (dO rfl (by decide))) nd) ?_
  refine aE (δ':=[.val (.int m),.val (cU (eS 20))]) (bV 1 (dS 19 (l:=iF.getD 19 []) rfl (by decide) (ai 1 rfl) (dO rfl (by decide))) nd) ?_
  refine aE (δ':=[.val (.int m),.val (cU (eS 21))]) (bV 1 (dS 20 (l:=iF.getD 20 []) rfl (by decide) (ai 1 rfl) (dO rfl (by decide))) nd) ?_
  refine aE (δ':=[.val (.int m),.val (cU (eS 22))]) (bV 1 (dS 21 (l:=iF.getD 21 []) rfl (by decide) (ai 1 rfl) (dO rfl (by decide))) nd) ?_
  refine aE (δ':=[.val (.int m),.val (cU (eS 23))]) (bV 1 (dS 22 (l:=iF.getD 22 []) rfl (by decide) (ai 1 rfl) (dO rfl (by decide))) nd) ?_
  refine aE (δ':=[.val (.int m),.val (cU (eS 24))]) (bV 1 (dS 23 (l:=iF.getD 23 []) rfl (by decide) (ai 1 rfl) (dO rfl (by decide))) nd) ?_
  refine aE (δ':=[.val (.int m),.val (cU (eS 25))]) (bV 1 (dS 24 (l:=iF.getD 24 []) rfl (by decide) (ai 1 rfl) (dO rfl (by decide))) nd) ?_
  refine aE (δ':=[.val (.int m),.val (cU (eS 26))]) (bV 1 (dS 25 (l:=iF.getD 25 []) rfl (by decide) (ai 1 rfl) (dO rfl (by decide))) nd) ?_
  refine aE (δ':=[.val (.int m),.val (cU (eS 27))]) (bV 1 (dS 26 (l:=iF.getD 26 []) rfl (by decide) (ai 1 rfl) (dO rfl (by decide))) nd) ?_
  refine aE (δ':=[.val (.int m),.val (cU (eS 28))]) (bV 1 (dS 27 (l:=iF.getD 27 []) rfl (by decide) (ai 1 rfl) (dO rfl (by decide))) nd) ?_
  refine aE (δ':=[.val (.int m),.val (cU (eS 29))]) (bV 1 (dS 28 (l:=iF.getD 28 []) rfl (by decide) (ai 1 rfl) (dO rfl (by decide))) nd) ?_
  refine aE (δ':=[.val (.int m),.val (cU (eS 30))]) (bV 1 (dS 29 (l:=iF.getD 29 []) rfl (by decide) (ai 1 rfl) (dO rfl (by decide))) nd) ?_
  refine aE (δ':=[.val (.int m),.val (cU (eS 31))]) (bV 1 (dS 30 (l:=iF.getD 30 []) rfl (by decide) (ai 1 rfl) (dO rfl (by decide))) nd) ?_
  refine aE (δ':=[.val (.int m),.val (cU (eS 32))]) (bV 1 (dS 31 (l:=iF.getD 31 []) rfl (by decide) (ai 1 rfl) (dO rfl (by decide))) nd) ?_
  refine aE (δ':=[.val (.int m),.val (cU (eS 33))]) (bV 1 (dS 32 (l:=iF.getD 32 []) rfl (by decide) (ai 1 rfl) (dO rfl (by decide))) nd) ?_
  refine aE (δ':=[.val (.int m),.val (cU (eS 34))]) (bV 1 (dS 33 (l:=iF.getD 33 []) rfl (by decide) (ai 1 rfl) (dO rfl (by decide))) nd) ?_
  refine aE (δ':=[.val (.int m),.val (cU (eS 35))]) (bV 1 (dS 34 (l:=iF.getD 34 []) rfl (by decide) (ai 1 rfl) (dO rfl (by decide))) nd) ?_
  have e:eS 35=wC:=rfl;rw[e];obtain⟨pk,_⟩:=Bs (l:=wC) (d:="") (F:=aQ) (by rw[wY];decide) m
  exact bq (cn (f7 (ds:=wC.map .str) (ai 1 rfl) (VE.to (cZ (ai 0 rfl) (jE (ds:=wC.map .str) (ai 1 rfl) n.len) (by rw[aj,wY];decide)) (by rw[aj])) pk))
end
theorem KL{b:Nat}:∀{l:List Str},(∀x∈l,x.length<=b)->(l.map (·.length)).sum<=l.length*b
 | [],_=>by simp
 |x::l,h=>by
  have h1:=h x aP;have h2:=KL (l:=l) λu hu=>h u (aU _ hu)
  rw[aR,ui,a9,qJ];omega
theorem yE{y:Str}{b:Nat}:∀{l:List Str},(∀x∈l,x.length<=b)->(cK y l).length<=l.length*(b+y.length)
 | [],_=>by show 0<=_;exact bu _
 | [x],h=>by
  have:=h x aP;show x.length<=1*(b+y.length);omega
 |x::z::l,h=>by
  have h1:=h x aP;have h2:=yE (y:=y) (l:=z::l) λu hu=>h u (aU _ hu)
  show(x++y++cK y (z::l)).length<=(z::l).length.succ*(b+y.length)
  rw[b0,b0,qJ];omega
theorem BJ(h1:c∉x.cps.toList)(h2:c∉y.cps.toList):c∉(x++y).cps.toList:=λh=>by
 rw[add_list]at h;rcases bX.mp h with h|h
 ·exact h1 h
 ·exact h2 h
theorem Gy(hy:c∉y.cps.toList):∀{l:List Str},(∀x∈l,c∉x.cps.toList)->c∉(cK y l).cps.toList
 | [],_=>λh=>by cases h
 | [x],h=>h x aP
 |x::z::l,h=>BJ (BJ (h x aP) hy) (Gy hy λu hu=>h u (aU _ hu))
theorem Fd(hy:c∉y.cps.toList):∀n,c∉(gi y n).cps.toList
 |0=>λh=>by cases h
 |n+1=>BJ hy (Fd hy n)
theorem BK(hy:ng y):∀n,ng (gi y n)
 |0=>(lD _).mpr λc hc=>by cases hc
 |n+1=>g8 hy (BK hy n)
theorem HZ.take{es:List Ent}(h:HZ es)(a:Nat):HZ (es.take a):=by
 have e:∀i,oI (es.take a) i=oI es (min i a):=λi=>by unfold oI;rw[List.take_take]
 refine⟨λx hx=>h.ent x (cG hx),λi hi=>?_,λi x hx=>?_⟩
 ·rw[e]
  exact h.pl _ (by rw[bS]at hi;omega)
 ·rw[List.getElem?_take]at hx
  split at hx
  ·rw[e,ky (by omega)]
   exact h.add i x hx
  ·cases hx
def zu(p:Str×Nat):Option (Nat×List Str):=if(wordsOf p.1).isEmpty then none else some (p.2,wordsOf p.1)
theorem tT:∀(l:List Str)(k:Nat),((l.zipIdx k).filterMap zu).map (·.2)=(l.map wordsOf).filter λw=>!w.isEmpty
 | [],_=>rfl
 |x::l,k=>by
  rw[lS,aR,lV];cases h:(wordsOf x).isEmpty with
  |true=>rw[gk (f:=zu) (by unfold zu;rw[h];rfl),tT l (k+1)];rfl
  |false=>rw[dB (f:=zu) (b:=(k,wordsOf x)) (by unfold zu;rw[h];rfl),aR,tT l (k+1)];rfl
theorem KN(e:Ent):(uO e).isEmpty=false:=by cases e<;>rfl
theorem KP(ok:mK p){a: Nat}(ha:a<=(cO p).length){bl r:Str}{ws:List Str}{C:List Str}(hb:wordsOf bl=[])(hr:wordsOf r=ws)(hw:ws≠[])(Yg:∀x∈(cO p).take a++aH c bl++r::C,10∉x.cps.toList):
  ∃pre post,rowsOf (cK "\n" ((cO p).take a++aH c bl++r::C))=pre++(a+c,ws)::post/\pre.map (·.2)=((vE p).take a).map uO:=by
 have hl:((cO p).take a++aH c bl).length=a+c:=by rw[aV,bS,cu];omega
 refine⟨((cO p).take a++aH c bl).zipIdx.filterMap zu,(C.zipIdx (a+c+1)).filterMap zu,?_,?_⟩
 ·rw[Aq (by simp) Yg]
  show List.filterMap zu _=_;rw[List.zipIdx_append,lI,lS,hl,qP]
  congr 1
  rw[dB (f:=zu) (b:=(a+c,ws)) ?_]
  unfold zu;rw[hr];cases ws with
  |nil=>exact qQ7 rfl hw
  |cons _ _=>rfl
 ·rw[tT,bh,List.filter_append,kz,hb,mh,(qm ok).2,<-mh]
  have e1:(((vE p).take a).map uO).filter (λw=>!w.isEmpty)=((vE p).take a).map uO:=by
   rw[List.filter_eq_self];intro w hw;obtain⟨e,_,rfl⟩:=aN.mp hw;rw[KN];rfl
  have e2:(aH c ([]:List Str)).filter (λw=>!w.isEmpty)=[]:=by
   rw[DB];intro w hw;rw[(fY.mp hw).2]
   decide
  rw[e1,e2,dC]
structure QN(x:Str):Prop where
 ln:x.length<=60
 ok:ng x
 ws:Nf (bL x " ")
 wd:∀w∈bL x " ",w≠""/\32∉w.cps.toList/\10∉w.cps.toList/\w.length<=60/\ng w
 few:(bL x " ").length<=20
 no:Gw (bL x " ")=true
theorem UQ(h:x∈wC):QN x:=by
 have hb:=ef.mp Nh x h;unfold UO at hb;simp only[jH,decide_eq_true_eq,ef,Bool.not_eq_true',decide_eq_false_iff_not]at hb;obtain⟨⟨h1,h2⟩,⟨⟨h3,h4⟩,h5⟩,h6⟩:=hb;have hw:∀w∈bL x " ",w≠""/\32∉w.cps.toList/\10∉w.cps.toList/\w.length<=60/\ng w:=λw hw=>by
  obtain⟨⟨⟨⟨q1,q2⟩,q3⟩,q4⟩,q5⟩:=h5 w hw;exact⟨q1,q2,q3,q4,q5⟩
 exact⟨h1,h2,⟨λz=>by rw[z]at h3;exact qQ7 h3 (by decide),by omega,λw h=>⟨by have:=(hw w h).2.2.2.1;omega,(hw w h).2.2.2.2⟩⟩,hw,h4,h6⟩
def vH(x:Str)(n z:Nat):Str:=gi " " z++sY x " " (gi " " n)
theorem Dr(x:Str)(y:Str):sY x " " y=cK y (bL x " "):=by
 rw[rX];exact StrLaws.replace_one x y 32
theorem Ds:(10:Nat)∉(" ":Str).cps.toList:=by symm
theorem pA:(" ":Str).length=1:=by symm
theorem UR(h:QN x){n z:Nat}(hn:n<=2)(hz:z<=2):wordsOf (vH x (n+1) z)=bL x " "/\10∉(vH x (n+1) z).cps.toList/\ng (vH x (n+1) z)/\(vH x (n+1) z).length<=1400:=by
 unfold vH;rw[Dr];refine⟨?_,BJ (Fd Ds _) (Gy (Fd Ds _) λw hw=>(h.wd w hw).2.2.1),g8 (BK fu _) (lQ (BK fu _) λw hw=>(h.wd w hw).2.2.2.2),?_⟩
 ·rw[yl,tK n λw hw=>⟨(h.wd w hw).1,(h.wd w hw).2.1⟩]
 ·have h1:=yE (y:=gi " " (n+1)) (b:=60) (l:=bL x " ") λw hw=>(h.wd w hw).2.2.2.1
  rw[b0,rT,pA];rw[rT,pA]at h1;have h2:(bL x " ").length*(60+(n+1)*1)<=20*63:=eD h.few (by omega)
  omega
theorem Ni(h:QN x){n:Nat}(hn:n<=2):(sY x " " (gi " " (n+1))).length<=1400:=by
 rw[Dr];have h1:=yE (y:=gi " " (n+1)) (b:=60) (l:=bL x " ") λw hw=>(h.wd w hw).2.2.2.1
 rw[rT,pA]at h1;have h2:(bL x " ").length*(60+(n+1)*1)<=20*63:=eD h.few (by omega)
 omega
structure vI(l:List Str):Prop where
 len:l.length<=60
 no:∀x∈l,10∉x.cps.toList
 ok:∀x∈l,ng x
 ln:∀x∈l,x.length<=1400
theorem vI.text(h:vI l):rq (cK "\n" l):=by
 refine⟨?_,lQ fu h.ok⟩
 have:=g7 (y:=("\n":Str)) (by decide) h.ln
 have h2:l.length*(1400+1)<=60*1401:=eD h.len (aD _);omega
theorem vI.fits(h:vI l):(l.map (·.length)).sum+l.length*("\n":Str).length<=16777216:=by
 have h1:=KL h.ln;have h2:l.length*1400<=60*1400:=eD h.len (aD _);have h3:=h.len;have h4:("\n":Str).length=1:=by decide
 rw[h4];omega
theorem BL(ok:mK p)(h:(cO p).length<=44):vI (cO p):=⟨by omega,(qm ok).1,λx hx=>(vG ok x hx).1,λx hx=>(vG ok x hx).2⟩
theorem Fe(ok:mK p)(hk:p.kinds≠[]):bL (oj p) "\n"=cO p:=by
 unfold oj;rw[Ke];refine qe (λz=>?_) (qm ok).1
 have:=qQ6 gu z;unfold cO mD at this;simp only[aV,aj,ck]at this;cases hq:p.kinds with
 |nil=>exact hk hq
 |cons _ _=>rw[hq]at this;simp at this
theorem QO{α:Type}(l:List α)(lo hi:Option Int):(L2.cutD l lo hi).length<=l.length:=by
 unfold L2.cutD;rw[bS,b_];omega
structure LawC(P:bC)(w:cw)(K:ao)(mg:Str->Option ay)(base:c6)(C M:aL):Prop where
 n:Na mg
 nb:NB K
 mx:bE P w K mg base 1 "_law_mix" ["_law_cell","_law_k"] (hV K HG)
 pl:bE P w K mg base 4 "_law_plant" ["_law_script"] (hV K Rpl)
 pt:bE P w K mg base 3 "_law_plant_text" ["_law_h"] (hV K Rpt)
 rp:bE P w K mg base 9 "read_plant" ["text"] (hV K Rrp)
 od:bE P w K mg base 1 "_law_odd" ["_law_number"] (hV K Y5)
 lf:bE P w K mg base 10 "_law_fault" ["_law_text"] (hV K Rlf)
def blanks:List Str:=[("":Str),"   "]
theorem Ig(h:x∈blanks):wordsOf x=[]/\10∉x.cps.toList/\ng x/\x.length<=1400:=by
 simp only[blanks,aG,bP,or_false]at h;rcases h with rfl|rfl
 ·exact⟨by symm,by symm,fu,by symm⟩
 ·exact⟨by symm,by symm,fu,by symm⟩
def rM:List Str:=[("kind":Str),"gate 1"]
theorem yF(h:x∈rM):10∉x.cps.toList/\ng x/\x.length<=1400:=by
 simp only[rM,aG,bP,or_false]at h;rcases h with rfl|rfl
 ·exact⟨by symm,fu,by symm⟩
 ·exact⟨by symm,fu,by symm⟩
section
variable{P:bC}{w:cw}{K:ao}{mg:Str->Option ay}{base:c6}{f C M:aL}{k:Nat}
abbrev QP:List Str:=["_law_script","_law_h","_law_rows","_law_k","_law_cell","_law_m","_law_at","_law_told","_law_place","_law_odd_here"]
theorem KQ:c9 QP ["_law_script"] (b9 (top 52)):=⟨rfl,rfl,rfl,by symm,rfl,by symm,by symm⟩
theorem UT(C0:LawC P w K mg base C M){ns:List Int}(hn:ns.length<=63):z8 P w K mg base QP "law" (top 52) f 10 [n_ ns] (.rt (.bool true)):=by
 intro h8 A outer s H E hr;have n:=C0.n;have nd:QP.Nodup:=KQ.nd;have pY:fF 1 _:=hr.mono (by omega)
 have hr3:fF 3 _:=hr.mono (by omega)
 have hr4:fF 4 _:=hr.mono (by omega)
 have hr9:fF 9 _:=hr.mono (by omega)
 refine aE (bV 1 (d:=oF (gD ns)) (bN C0.pl hr4 (av (ai 0 rfl) aX) ⟨ns,rfl,rfl⟩) nd) ?_
 have Im:=Gk ns;have Y7:=Ib ns;obtain⟨Vc,hg0⟩:=E_ ns;have otx:=Ie ns;have MZ:=Ay ns
 generalize gD ns=p at *
 have QQ:=BL Im MZ;refine aE (bV 2 (d:=cU (cO p)) (VE.to (VO.ve (oZ (bN C0.pt hr3 (av (ai 1 rfl) aX) ⟨p,rfl,Im,rfl⟩) aO rfl (small (by have:=otx.1;omega)))) (by rw[Fe Im Vc];rfl)) nd) ?_
 have Ik:=QO ns (some 3) (some 40);have Y8:L2.cutD (ns.map iU) (some 3) (some 40)=(L2.cutD ns (some 3) (some 40)).map .int:=og _ _ _ _
 generalize L2.cutD ns (some 3) (some 40)=cs at *
 refine aE (pS (tgt:=.tup [3,4]) (o:=.nx [.val (n_ ns),.val (oF p),.val (cU (cO p)),.un,.un,.un,.un,.un,.un,.un]) eV rfl (nR (ds:=((7:Int)::cs).map .int) (VE.to (VO.ve (jY (d1:=[.int 7]) (d2:=cs.map .int) (VO.ve (gG (av aF aX))) (VE.to (VO.ve (eW (ds:=ns.map iU) (ai 0 rfl) (.yes aF) (.yes aF))) (by rw[Y8])) (small (by simp only[aj,a9,ck];omega)))) rfl) n.L6)
   (iS rfl (cD (cp (i:=3) nd rfl (bB rfl)) (cD (cp (i:=4) nd rfl (bB rfl)) gN))) (λ_=>[.val (n_ ns),.val (oF p),.val (cU (cO p)),.un,.un,.un,.un,.un,.un,.un]) (((7:Int)::cs).map iU).length rfl (by rw[dN];exact aD _) (λi d hi hd=>?_) (.inl ⟨by rw[dN],rfl⟩)) ?_
 ·obtain⟨x,hx,rfl⟩:=jy hd
  obtain⟨c,_,rfl⟩:=aN.mp (bO hx);have zd9:i<64:=by rw[aj,a9]at hi;omega
  refine⟨_,rfl,?_⟩
  refine aE (bV 5 (d:=.int (cV c (400+i))) (bN C0.mx pY (av (ai 4 rfl) (av (eL aF (ai 3 rfl)) aX)) ⟨c,400+i,rfl,by omega,by omega,rfl⟩) nd) ?_
  have m0:=wU c (400+i);have m1:=Ge c (400+i)
  generalize cV c (400+i)=m at *
  have N8:=MZ
  generalize hR:cO p=rows at *
  obtain⟨a,ha⟩:∃a:Nat,m%((rows.length:Int)+1)=a:=⟨(m%((rows.length:Int)+1)).toNat,by have:=bw m (show((rows.length:Int)+1)≠0 by omega);omega⟩
  have Ub:a<=rows.length:=by have:=bG m (show(0:Int)<(rows.length:Int)+1 by omega);omega
  refine aE (bV 6 (d:=.int (a:Nat)) (VE.to (cZ (ai 5 rfl) (eL (jE (ds:=rows.map .str) (ai 2 rfl) n.len) aF) (by rw[aj];omega)) (by rw[aj,ha])) nd) ?_
  obtain⟨cc,QY,R9⟩:∃cc:Nat,m/40%3=cc/\cc<=2:=⟨(m/40%3).toNat,by omega,by omega⟩
  obtain⟨pk,pm⟩:=Bs (l:=blanks) (d:="") (F:=aQ) (by decide) (m/20)
  obtain⟨b1,b2,b3,b4⟩:=Ig pm
  generalize pickOf blanks "" (m/20)=bl at *
  refine aE (bV 7 (d:=cU (rows.take a++aH cc bl)) (VE.to (VO.ve (jY (d1:=(rows.take a).map .str) (d2:=(aH cc bl).map .str) (VE.to (VO.ve (eW (ds:=rows.map .str) (ai 2 rfl) .no (.yes (ai 6 rfl)))) (by rw[og,uA])) (VE.to (VO.ve (PJ (ds:=[.str bl]) (gG (av (f7 (ds:=[.str "",.str "   "]) (VO.ve (gG (av aO (av aO aX)))) (cZ (gO (ai 5 rfl) aF ⟨by decide,by decide⟩) aF (by decide)) pk) aX)) (cZ (gO (ai 5 rfl) aF ⟨by decide,by decide⟩) aF (by decide)) ⟨by omega,by omega⟩ (by show 1<=100;decide))) (by rw[QY,eA,uN,kz])) (small (by simp only[aj,bS,cu];omega)))) (by unfold cU;rw[bh])) nd) ?_
  have Rk:(rows.take a++aH cc bl).length=a+cc:=by rw[aV,bS,cu];omega
  refine aE (bV 8 (d:=.int ((a+cc:Nat):Int)) (VE.to (jE (ds:=(rows.take a++aH cc bl).map .str) (ai 7 rfl) n.len) (by rw[aj,Rk])) nd) ?_
  obtain⟨n7,hn7,Ca⟩:∃n7:Nat,m/7%2=n7/\n7<=1:=⟨(m/7%2).toNat,by omega,by omega⟩
  have Ru:=UQ (Bs (l:=wC) (d:="") (F:=aQ) (by rw[wY];decide) (m/120)).2
  have rod:Y5 [.int (m/120)] (.str (pickOf wC "" (m/120))):=⟨_,rfl,rfl⟩
  generalize pickOf wC "" (m/120)=x at *
  refine aE (bV 9 (d:=.str (sY x " " (gi " " (n7+1)))) (VE.to (MJ C0.nb (JW C0.od pY (MH (ai 5 rfl) ⟨by decide,by decide⟩) rod) (eL aF (cZ (gO (ai 5 rfl) aF ⟨by decide,by decide⟩) aF (by decide))) (by omega) (by omega) pA (by have:=Ru.ln;omega)) (by rw[hn7,show(1+(n7:Int)).toNat=n7+1 by omega])) nd) ?_
  obtain⟨z,hz,hz2⟩:∃z:Nat,m/11%3=z/\z<=2:=⟨(m/11%3).toNat,by omega,by omega⟩
  obtain⟨t,ht,Q5⟩:∃t:Nat,m/13%3=t/\t<=2:=⟨(m/13%3).toNat,by omega,by omega⟩
  obtain⟨o1,o2,o3,o4⟩:=UR Ru (show n7<=2 by omega) hz2
  have o5:=Ni Ru (show n7<=2 by omega)
  have U3:(rM.take t).length<=2:=by rw[bS];show min t 2<=2;omega
  refine aE (bV 7 (d:=cU (rows.take a++aH cc bl++vH x (n7+1) z::(rows.drop a++rM.take t))) (VE.to (VO.ve (jY (d1:=(rows.take a++aH cc bl).map .str ++ [.str (vH x (n7+1) z)]++(rows.drop a).map .str) (d2:=(rM.take t).map .str)
    (VO.ve (jY (d1:=(rows.take a++aH cc bl).map .str ++ [.str (vH x (n7+1) z)]) (d2:=(rows.drop a).map .str) (VO.ve (jY (d1:=(rows.take a++aH cc bl).map .str) (d2:=[.str (vH x (n7+1) z)]) (ai 7 rfl) (VO.ve (gG (av (VE.to (iw (Bh aO (cZ (gO (ai 5 rfl) aF ⟨by decide,by decide⟩) aF (by decide)) (by omega) (by omega) (by decide)) (ai 9 rfl) (small (by rw[rT,pA];omega))) (by rw[hz,eA];rfl)) aX))) (small (by rw[aj,Rk];simp only[a9,ck];omega)))) (VE.to (VO.ve (eW (ds:=rows.map .str) (ai 2 rfl) (.yes (ai 6 rfl)) .no)) (by rw[og,jw])) (small (by simp only[aV,aj,Rk,a9,ck,b_,bS,cu];omega))))
    (VE.to (VO.ve (eW (ds:=[.str "kind",.str "gate 1"]) (VO.ve (gG (av aO (av aO aX)))) .no (.yes (VE.to (cZ (gO (ai 5 rfl) aF ⟨by decide,by decide⟩) aF (by decide)) (by rw[ht]))))) (by show ko (L2.cutD (rM.map aQ) none (some (t:Int)))=_;rw[og,uA])) (small (by simp only[aV,aj,a9,ck,b_,bS,cu];have:rM.length=2:=rfl;omega)))) (by unfold cU;simp[bh])) nd) ?_
  have uo:vI (rows.take a++aH cc bl++vH x (n7+1) z::(rows.drop a++rM.take t)):=by
   refine⟨?_,λy hy=>?_,λy hy=>?_,λy hy=>?_⟩
   ·rw[aV,Rk,a9,aV,b_];omega
   all_goals
    rcases bX.mp hy with hy|hy
    ·rcases bX.mp hy with hy|hy
     ·first|exact QQ.no y (cG hy)|exact QQ.ok y (cG hy)|exact QQ.ln y (cG hy)
     ·rw[(fY.mp hy).2];assumption
    ·rcases aG.mp hy with rfl|hy
     ·assumption
     ·rcases bX.mp hy with hy|hy
      ·first|exact QQ.no y (cW hy)|exact QQ.ok y (cW hy)|exact QQ.ln y (cW hy)
      ·first|exact(yF (cG hy)).1|exact(yF (cG hy)).2.1|exact(yF (cG hy)).2.2
  obtain⟨pre,post,e1,e2⟩:∃pre post,rowsOf (cK "\n" (rows.take a++aH cc bl++vH x (n7+1) z::(rows.drop a++rM.take t)))=pre++(a+cc,bL x " ")::post/\pre.map (·.2)=((vE p).take a).map uO:=by
   have:=KP Im (a:=a) (c:=cc) (bl:=bl) (r:=vH x (n7+1) z) (C:=rows.drop a++rM.take t) (by rw[hR];exact Ub) b1 o1 Ru.ws.ne (by rw[hR];exact uo.no)
   rw[hR]at this;exact this
  have htx:=uo.text;have hft:=uo.fits
  generalize hL:rows.take a++aH cc bl++vH x (n7+1) z::(rows.drop a++rM.take t)=told at *
  have QR:Lay 20 (.tuple [.int ((a+cc:Nat):Int),.str "row"]):=F0 (n:=19) λd hd=>by
   simp only[aG,bP,or_false]at hd;rcases hd with rfl|rfl
   ·exact dg 19 _
   ·exact bH (by symm)
  exact kH (bq (cv (VT.to (mZ hr QR QR (bN C0.lf hr (av (nX (zs:=told) aO (ai 7 rfl) hft) aX) ⟨((a+cc:Nat):Int),"row",⟨_,(vE p).take a,pre,post,a+cc,bL x " ",rfl,htx,e1,e2,(Ol Im Y7).take a,Ru.ws,Ru.no,rfl,rfl⟩,rfl⟩) (gf (av (ai 8 rfl) (av aO aX)))) (by rw[SeqAt.eqv_refl _ QR.1];rfl)) bQ)) ⟨.inr rfl,.inr rfl,.inr rfl,.inl rfl,.inl rfl,.inl rfl,.inl rfl,.inl rfl,.inl rfl,.inl rfl,trivial⟩
 ·exact aE (Ms (bN C0.rp hr9 (av (nX (zs:=cO p) aO (ai 2 rfl) QQ.fits) aX) ⟨oj p,vE p,rfl,otx,Dn Im Vc,Ol Im Y7,by rw[(KG Im Y7).2]⟩)) (bq (cn Jg))
def Ot(K:ao):Sp:=λvs H Q _=>∃(a:aL)(ns:List Int),vs=[.ref a]/\lg K H a (ns.map V.int)/\ns.length<=63/\∀H',Q (.bl true) H'
theorem Az{K:ao}{H:Hp}:∀ns:List Int,dq K H (ns.map V.int) (ns.map iU)
 | []=>.nil
 |n::ns=>.cons (.int n) (Az ns)
theorem UU(F:lq K "law" "law" (top 52) f fd)(C0:LawC P w K mg base C M):eX P w K mg base kF 11 f fd ["_law_script"] (Ot K):=by
 refine F.ok KQ (λvs H Q E h=>?_) (λh8 A outer s H vs Q E hr h=>?_)
 ·obtain⟨a,ns,rfl,_⟩:=h
  rfl
 ·obtain⟨a,ns,rfl,hS,hn,q⟩:=h
  exact⟨_,my,Qd (UT C0 hn h8 A outer s H E hr) (.start (ej.refl _) (.cons (.lst hS (Az ns)) .nil)) λv eJ H' g r=>by cases r;exact q H'⟩
end
end Mg
namespace Mg
open L2 PySem PyProof.Rows
variable{f g:aL}{FG:Array (Option ay)}{h:c6}{ps:List Str}{an od:Option aL}{st:iH}{oc:ay}
structure fD(K:ao)(mg:Str->Option ay)(g x:Str)(st:iH)(ps:List Str):Prop where
 ex:∃f fd,lq K x x st f fd/\mg g=some (.ref f)/\∀us:List ay,us.length=ps.length->bindArgs fd ⟨us,[]⟩=pure (ps.zip us)
theorem Ff{K:ao}{mg:Str->Option ay}{g x:Str}{kV doc pm h8 ct:ay}(X:K.In h)(G:h.Ns mainGlobals mg)
  (hb:∀(kV doc pm:ay)(an:Option aL)(h8 ct:ay)(us:List ay),us.length=ps.length->bindArgs (il x x (nO st) (jS st) (b9 st) .none kV doc pm an h8 ct) ⟨us,[]⟩=pure (ps.zip us))
  (a:iq K mainGlobals g=some (some (.ref f)))(l:K.lookup f=some ⟨oc,od,.func (il x x (nO st) (jS st) (b9 st) .none kV doc pm an h8 ct),FG⟩)
  (c:kD K h8 x=true)(k:eO K (.ref f)=true):fD K mg g x st ps:=
 ⟨f,_,D8 l c k,gR X G a,hb kV doc pm an h8 ct⟩
section
variable{P:bC}{w:cw}{K:ao}{mg:Str->Option ay}{base:c6}{f:aL}{k:Nat}
theorem fD.call{g x:Str}{sp:Sp}(D:fD K mg g x st ps)(h:∀f fd,lq K x x st f fd->eX P w K mg base kF k f fd ps sp):bE P w K mg base k g ps sp:=by
 obtain⟨f,fd,F,hm,hb⟩:=D.ex;exact⟨f,fd,h f fd F,hm,F.kp,.all hb⟩
theorem kP{ws:List Str}{its:Array ay}{n:Nat}{sl:Array (Option ay)}(l:K.lookup g=some ⟨.type "tuple",od,.seq its n,sl⟩)(hs:its.size<=100)(hv:ez (ws.map V.str) its.toList):JB K g ws:=
 ⟨_,_,_,l,rfl,rfl,small (by omega),hv⟩
theorem Ou{pr:AU}{kvs:List (Str×List Str)}{es:Array AV}{ep:Nat}(nm:(g==sysModules)=false)(nd:(kvs.map (·.1)).Nodup)(l:K.lookup g=some ⟨.type "dict",none,.dict es ep,#[]⟩)(ge:GE pr K es.toList kvs):GD pr K g kvs:=
 ⟨nm,nd,_,es,ep,l,⟨rfl,rfl,rfl⟩,rfl,ge⟩
structure Nj(K:ao)(mg:Str->Option ay):Prop where
 ex:∃C fi fd,mg "Plant"=some (.ref C)/\Cb K C/\(∀f∈VR,fK K C f)/\Mk K C fi/\lq K "__init__" "Plant.__init__" yw fi fd/\Binds K fd ["self"] []
theorem UW{C: aL}{kV doc pm h8 ct:ay}(X:K.In h)(G:h.Ns mainGlobals mg)(aC:iq K mainGlobals "Plant"=some (some (.ref C)))
  (a1:bY K (.ref C) "__init__"=some (some (.ref f)))(i1:uc K (.ref f)=true)(l:K.lookup f=some ⟨oc,od,.func (il "__init__" "Plant.__init__" (nO yw) (jS yw) (b9 yw) .none kV doc pm an h8 ct),FG⟩)(c:kD K h8 "Plant.__init__"=true)(k:eO K (.ref f)=true)
  (pg:oN K C ei=true)(hd:gq K C=true)(po:ua K C=true)(sa:bY K (.ref C) "__setattr__"=some (some (.builtin "object.__setattr__")))(mk:wm K C=true)(kc:eO K (.ref C)=true)
  (z1:bY K (.ref C) "kinds"=some none)(z2:bY K (.ref C) "gates"=some none)(z3:bY K (.ref C) "lines"=some none)(z4:bY K (.ref C) "desks"=some none)(z5:bY K (.ref C) "times"=some none)(z6:bY K (.ref C) "hours"=some none)(z7:bY K (.ref C) "paces"=some none):Nj K mg:=by
 have F:=D8 (st:=yw) l c k;refine⟨C,f,_,gR X G aC,⟨pg,hd,po,sa⟩,λf hf=>?_,⟨mk,a1,i1,kc⟩,F,F.binds (ps:=["self"]) λ_ _ _ _ _ _ us hl=>match us,hl with | [_],_=>rfl⟩
 simp only[aG,bP,or_false]at hf;rcases hf with rfl|rfl|rfl|rfl|rfl|rfl|rfl
 ·exact z1
 ·exact z2
 ·exact z3
 ·exact z4
 ·exact z5
 ·exact z6
 ·exact z7
theorem Nj.pc(T:Nj K mg):YW P w K mg base:=by
 obtain⟨C,fi,fd,h1,h2,h3,h4,h5,h6⟩:=T.ex;exact⟨C,fi,fd,h1,h2,h3,h4,YM h5 h2 h3,h6⟩
structure XAt(K:ao)(mg:Str->Option ay):Prop where
 ex:∃C M fi fd,Vn K C fi/\lq K "__init__" "BadPlant.__init__" QI fi fd/\Binds K fd QJ []/\UA K mg M/\XKd K mg C/\Mx K C M
theorem QS{C M M1 M2 M3: aL}{kV doc pm h8 ct:ay}{nm q N bs bm hdct sn sub ab col dd k0 k1 k2 k3 k5 Vr q' N' Vs Rg Gb Vt My Vu Mz D_ Vv Vw Vx Vy Vz}(X:K.In h)(G:h.Ns mainGlobals mg)
  (aC:iq K mainGlobals "BadPlant"=some (some (.ref C)))(aM:iq K mainGlobals "MergeError"=some (some (.ref M)))(b1:iq K mainGlobals "BadBook"=some (some (.ref M1)))(b2:iq K mainGlobals "BadDay"=some (some (.ref M2)))(b3:iq K mainGlobals "NoBound"=some (some (.ref M3)))(bv:iq K mainGlobals "ValueError"=some none)
  (a1:bY K (.ref C) "__init__"=some (some (.ref f)))(i1:uc K (.ref f)=true)(l:K.lookup f=some ⟨oc,od,.func (il "__init__" "BadPlant.__init__" (nO QI) (jS QI) (b9 QI) .none kV doc pm an h8 ct),FG⟩)(c:kD K h8 "BadPlant.__init__"=true)(k:eO K (.ref f)=true)
  (lC:K.lookup C=some (excClassObj nm q C N bs bm hdct sn sub ab col dd k0 k1 k2 k3 k5 "ValueError.__new__"))(lM:K.lookup M=some (excClassObj Vr q' M N' Vs Rg Gb Vt My Vu Mz D_ Vv Vw Vx Vy Vz "ValueError.__new__"))
  (e1:(bf C::bm).contains (.type "ValueError")=true)(e2:(bf C::bm).contains (.type "AttributeError")=false)(e3:(bf C::bm).contains (.type "NameError")=false)(e4:(bf C::bm).contains (.type "BaseException")=true)(e5:(bf C::bm).contains (.ref M)=true)(e6:(bf M::Rg).contains (.type "BaseException")=true)
  (sa:bY K (.ref C) "__setattr__"=some (some (.builtin "object.__setattr__")))(po:rm bm=Ag)(hd:gq K C=true)(kp:eO K (.ref C)=true)(z1:bY K (.ref C) "place"=some none)(z2:bY K (.ref C) "word"=some none)
  (rd:wu K M (.type "type")=true)(fc:wx K (.ref M) (.type "type") "__init__"=some (.val (.builtin "ValueError.__init__")))(sp:kC K (.ref M) "__getattribute__"=some (some (.builtin "type.__getattribute__")))
  (ka:xn K (.ref C) [.ref M1,.ref M2,.ref M3]=some false)(kc:du K (.ref C) (.ref C)=some true)(kv:du K (.ref C) (.type "ValueError")=some true)
  (ga:bY K (.ref C) "__getattribute__"=some (some (.builtin "BaseException.__getattribute__")))(gh:bY K (.ref C) "__getattr__"=some none)(mb:sC K C (.type "BaseException")=some true)(cl:bY K (.ref C) "__class__"=some (some (.builtin "object.__class__")))(cg:kC K (.builtin "object.__class__") "__get__"=some (some (.builtin "getset_descriptor.__get__")))(ct':PySem.W.takesIn K (.builtin "object.__class__")=some true)(mo:sC K C (.type "object")=some true):XAt K mg:=by
 have F:=D8 (st:=QI) l c k;exact⟨C,M,f,_,⟨⟨⟨_,_,_,_,_,_,_,_,_,_,_,_,_,_,_,_,lC,e1,e2,e3,e4⟩,sa,⟨_,by unfold PySem.W.clsIn;rw[lC],po⟩,hd,kp⟩,a1,i1⟩,F,F.binds (ps:=QJ) (λ_ _ _ _ _ _ us hl=>match us,hl with | [_,_,_],_=>rfl),⟨gR X G aM,rd,fc,sp⟩,⟨gR X G aC,⟨M1,M2,M3,gR X G b1,gR X G b2,gR X G b3,ka⟩,kc,kv,DN X G bv,⟨ga,gh,mb,hd,cl,cg,ct',mo⟩,z1,z2⟩,
  ⟨_,_,_,_,_,_,_,_,_,_,_,_,_,_,_,_,_,_,_,_,_,_,_,_,_,_,_,_,_,_,_,_,lC,lM,e5,e6⟩⟩
structure Defs(K:ao)(mg:Str->Option ay)(pr:AU):Prop where
 n:Np mg pr K
 nw:Nw mg
 kt:Ka K
 pa:Nj K mg
 xa:XAt K mg
 nb:NB K
 d0:fD K mg "is_made_of" "is_made_of" (top 13) ["signs","longest","word"]
 d1:fD K mg "is_name" "is_name" (top 14) ["word"]
 d2:fD K mg "is_number" "is_number" (top 15) ["word"]
 d3:fD K mg "words_of" "words_of" (top 16) ["row"]
 d4:fD K mg "rows_of" "rows_of" (top 17) ["text"]
 d5:fD K mg "greatest_load" "greatest_load" (top 7) ["rule","many"]
 d6:fD K mg "read_plant" "read_plant" (top 23) ["text"]
 d7:fD K mg "fits" "fits" (top 24) ["shape","word"]
 d8:fD K mg "value_of" "value_of" (top 25) ["shape","word"]
 d9:fD K mg "values_of" "values_of" (top 26) ["shapes","words"]
 V3:fD K mg "entry_of" "entry_of" (top 27) ["words"]
 V4:fD K mg "desk_entry" "desk_entry" (top 28) ["words"]
 V5:fD K mg "rule_of" "rule_of" (top 29) ["words","many"]
 V6:fD K mg "are_places" "are_places" (top 30) ["names"]
 V7:fD K mg "fault_of" "fault_of" (top 31) ["plant","entry"]
 Y9:fD K mg "tells_twice" "tells_twice" (top 32) ["plant","entry"]
 Y_:fD K mg "lacks_name" "lacks_name" (top 33) ["plant","entry"]
 Y':fD K mg "lacks_room" "lacks_room" (top 34) ["plant","entry"]
 Za:fD K mg "is_place" "is_place" (top 35) ["plant","name"]
 Zb:fD K mg "is_desk" "is_desk" (top 36) ["plant","name"]
 Zc:fD K mg "takers_of" "takers_of" (top 37) ["plant","place"]
 Zd:fD K mg "add_entry" "add_entry" (top 38) ["plant","entry"]
 Ze:fD K mg "_law_cell_at" "_law_cell_at" (top 40) ["_law_script","_law_k"]
 Zf:fD K mg "_law_mix" "_law_mix" (top 41) ["_law_cell","_law_k"]
 Zg:fD K mg "_law_names" "_law_names" (top 42) ["_law_cell","_law_many"]
 Zh:fD K mg "_law_rule" "_law_rule" (top 43) ["_law_m","_law_many"]
 Zi:fD K mg "_law_greatest" "_law_greatest" (top 44) ["_law_rule_here","_law_many"]
 Zj:fD K mg "_law_desks" "_law_desks" (top 45) ["_law_cell","_law_places","_law_lines"]
 Zk:fD K mg "_law_plant" "_law_plant" (top 46) ["_law_script"]
 Zm:fD K mg "_law_dash" "_law_dash" (top 47) ["_law_thing"]
 Zn:fD K mg "_law_rule_text" "_law_rule_text" (top 48) ["_law_rule_here"]
 Zo:fD K mg "_law_plant_text" "_law_plant_text" (top 49) ["_law_h"]
 Zq:fD K mg "_law_fault" "_law_fault" (top 50) ["_law_text"]
 Zr:fD K mg "_law_odd" "_law_odd" (top 51) ["_law_number"]
theorem Defs.all(D:Defs K mg w.params):∃C M,LawC P w K mg base C M:=by
 have n:=D.n;have nw:=D.nw;have pc:=D.pa.pc (P:=P) (w:=w) (base:=base);obtain⟨C,M,fi,fdi,mk,Fi,bI,S,xk,sub⟩:=D.xa.ex;have FI:=Y2 (P:=P) (w:=w) (base:=base) Fi mk.toEw xk.np xk.nw S;have uW:=D.d0.call (P:=P) (w:=w) (base:=base) λ_ _ F=>X3 F nw
 have sj:=D.d1.call (P:=P) (w:=w) (base:=base) λ_ _ F=>X4 F nw uW
 have wa:=D.d2.call (P:=P) (w:=w) (base:=base) λ_ _ F=>X5 F nw uW
 have Fg:=D.d3.call (P:=P) (w:=w) (base:=base) λ_ _ F=>X6 F
 have AA:=D.d4.call (P:=P) (w:=w) (base:=base) λ_ _ F=>X8 F nw Fg
 have wD:=D.d5.call (P:=P) (w:=w) (base:=base) λ_ _ F=>YG F
 have Nk:=D.d7.call (P:=P) (w:=w) (base:=base) λ_ _ F=>T6 F n.toNa sj wa
 have QT:=D.d7.call (P:=P) (w:=w) (base:=base) λ_ _ F=>Yl F n.toNa sj wa Nk
 have Fh:=D.d8.call (P:=P) (w:=w) (base:=base) λ_ _ F=>Ym F n.toNa
 have kb:=D.d9.call (P:=P) (w:=w) (base:=base) λ_ _ F=>Yn F n.toNa n.zip QT Fh
 have Ih:=D.V5.call (P:=P) (w:=w) (base:=base) λ_ _ F=>Ua F n kb
 have BM:=D.V6.call (P:=P) (w:=w) (base:=base) λ_ _ F=>Yo F n sj
 have BO:=D.V4.call (P:=P) (w:=w) (base:=base) λ_ _ F=>Yp F n kb Ih BM
 have yG:=D.V3.call (P:=P) (w:=w) (base:=base) λ_ _ F=>Yy F n kb BO
 have yH:=D.Za.call (P:=P) (w:=w) (base:=base) λ_ _ F=>YC F
 have AF:=D.Zb.call (P:=P) (w:=w) (base:=base) λ_ _ F=>YD F
 have Dt:=D.Zc.call (P:=P) (w:=w) (base:=base) λ_ _ F=>YF F
 have zv:=D.Y9.call (P:=P) (w:=w) (base:=base) λ_ _ F=>YH F n yH AF Dt
 have BP:=D.Y_.call (P:=P) (w:=w) (base:=base) λ_ _ F=>YJ F n yH AF
 have BQ:=D.Y'.call (P:=P) (w:=w) (base:=base) λ_ _ F=>Up F n wD
 have yI:=D.V7.call (P:=P) (w:=w) (base:=base) λ_ _ F=>YL F zv BP BQ
 have wc:=D.Zd.call (P:=P) (w:=w) (base:=base) λ_ _ F=>YQ F
 have BR:=D.d6.call (P:=P) (w:=w) (base:=base) λ_ _ F=>YX F n pc AA yG yI wc
 have Fj:=D.V5.call (P:=P) (w:=w) (base:=base) λ_ _ F=>QK F n kb
 have zx:=D.V6.call (P:=P) (w:=w) (base:=base) λ_ _ F=>UE F n sj
 have zy:=D.V4.call (P:=P) (w:=w) (base:=base) λ_ _ F=>UH F n kb Fj zx
 have Du:=D.V3.call (P:=P) (w:=w) (base:=base) λ_ _ F=>UK F n kb zy
 have Dv:=D.V7.call (P:=P) (w:=w) (base:=base) λ_ _ F=>UM F
 have zz:=D.Ze.call (P:=P) (w:=w) (base:=base) λ_ _ F=>Qs F n.len
 have sk:=D.Zf.call (P:=P) (w:=w) (base:=base) λ_ _ F=>TY F
 have wg:=D.Zg.call (P:=P) (w:=w) (base:=base) λ_ _ F=>X_ F n.toNm sk
 have Fk:=D.Zh.call (P:=P) (w:=w) (base:=base) λ_ _ F=>X' F n.toNm
 have yJ:=D.Zi.call (P:=P) (w:=w) (base:=base) λ_ _ F=>Ya F
 have Dw:=D.Zj.call (P:=P) (w:=w) (base:=base) λ_ _ F=>Yb F n.toNm sk wg Fk
 have Dx:=D.Zk.call (P:=P) (w:=w) (base:=base) λ_ _ F=>Yd F n.toNm zz sk wg yJ Dw
 have yK:=D.Zm.call (P:=P) (w:=w) (base:=base) λ_ _ F=>Yi F n.toNa
 have wF:=D.Zn.call (P:=P) (w:=w) (base:=base) λ_ _ F=>Yj F n.toNa yK
 have vJ:=D.Zo.call (P:=P) (w:=w) (base:=base) λ_ _ F=>Yk F n.toNa yK wF
 have Ii:=D.Zr.call (P:=P) (w:=w) (base:=base) λ_ _ F=>Y6 F n.toNa
 obtain⟨frx,zeg,F,Zt,Zu⟩:=D.d6.ex;have rx:Am P w K mg base _ "read_plant" ["text"] C _:=⟨_,_,UN F n pc AA yG Du yI Dv wc xk.own mk FI bI,Zt,F.kp,.all Zu⟩;exact⟨C,M,n.toNa,D.nb,sk,Dx,vJ,BR,Ii,D.Zq.call (P:=P) (w:=w) (base:=base) λ_ _ F=>Y4 F n.toNa xk S.mg sub rx⟩
end
theorem walk{l:PySem.W.OpenLaw}{q:bC}{loose:List Str}{XP:(Str->Option ay)->c6->Prop}{YP:cw->c6->Prop}{d:DefRec}{K:AU->ao}(hn:l.most=some 63)(Sr:d.params.defaults=[])(XW:d.name="law")
  (hY:∀(w:cw)(h:c6),YP w h->(K w.params).In h)
  (F:∀(w:cw)(mg:Str->Option ay)(h:c6),(K w.params).In h->h.Ns mainGlobals mg->Defs (K w.params) mg w.params/\fD (K w.params) mg "law" "law" (top 52) ["_law_script"]):
  PySem.W.WalkO q loose XP YP l.row.toRowW d [] (λf vs=>PySem.call f vs):=
 L2.Lv (n:=63) (k:=11) (x:="_law_script") (CX:=λ_=>kF) (sp:=λw=>Ot (K w.params)) hn (by decide) Sr ⟨rfl,by decide,by decide⟩ hY (λw mg fa h X G KY=>by
  obtain⟨D,L⟩:=F w mg h X G;obtain⟨f,fd,Fl,hm,hb⟩:=L.ex;rw[XW]at KY;rw[hm]at KY;cases KY;exact⟨fd,λs v=>.of_eq (hb [v] rfl),λbase _ _=>(by obtain⟨_,_,L0⟩:=D.all (base:=base);exact UU Fl L0)⟩) (λ_ _ a ns hl _ hS=>⟨a,ns,rfl,hS,hl,λ_=>rfl⟩) λ_ _ _ _ _ z=>z
end Mg
namespace PySem.W.Fast
def tw10039626044966574269:=()
def tw10080121550203290364:=()
def tw1008570392652271624:=()
def tw10194155927451872884:=()
def tw10199723307266898190:=()
def tw10218315747874728646:=()
def tw10218483389553501189:=()
def tw1044336127630205122:=()
def tw10455410098575770472:=()
def tw10503605466284846869:=()
def tw10522626794439471163:=()
def tw10525060158059571235:=()
def tw10530470552976865026:=()
def tw10534131924936662914:=()
def tw10587830806901565999:=()
def tw10590951364783001027:=()
def tw10610487979775311058:=()
def tw10649213274585850732:=()
def tw10721425435039540195:=()
def tw10757952474906679570:=()
def tw10815264747209959305:=()
def tw10907294191578827364:=()
def tw10922243122463180121:=()
def tw10953580086956172702:=()
def tw10982689663527553636:=()
def tw11005677388519309522:=()
def tw11013518487481028512:=()
def tw11028301911155549197:=()
def tw11071125427336110389:=()
def tw11109714744059863054:=()
def tw1115653562715312632:=()
def tw11181783846865391592:=()
def tw11332285207325065389:=()
def tw11347647039203714662:=()
def tw11376827733573386650:=()
def tw11511239033589154493:=()
def tw11522099016724881405:=()
def tw11530915492658551943:=()
def tw11576306961601042740:=()
def tw1165546758277797023:=()
def tw1167026521664132103:=()
def tw11943948296139294812:=()
def tw12210546001055325723:=()
def tw12317135639621839246:=()
def tw12385887555405653879:=()
def tw1238611059180338727:=()
def tw12392547377073612899:=()
def tw12499064515660141622:=()
def tw12539841879677193824:=()
def tw12545624506450230651:=()
def tw12570589981859571077:=()
def tw12649652641822578370:=()
def tw12667765731212422828:=()
def tw12674383961398987949:=()
def tw12679103899446121454:=()
def tw12724683411215469849:=()
def tw12725872363841992282:=()
def tw12817638965027516808:=()
def tw12823733513178695123:=()
def tw12836448793600702468:=()
def tw12889741872937115565:=()
def tw1296490695082289845:=()
def tw13087502218601956602:=()
def tw13090238718717837907:=()
def tw13090989314628878332:=()
def tw130994837308770740:=()
def tw13176802688245489012:=()
def tw1318865377709400560:=()
def tw13190872174551934919:=()
def tw13230715205898178972:=()
def tw1338503229719088013:=()
def tw13417960365492223341:=()
def tw13427453078841580974:=()
def tw13505230617817998894:=()
def tw13517283849941875505:=()
def tw1353592255591701094:=()
def tw13543799207449802849:=()
def tw13546661260900826567:=()
def tw13576552387630132757:=()
def tw13627864999747526599:=()
def tw13713353710004060964:=()
def tw13765978124872096743:=()
def tw13781371194202429508:=()
def tw13922347405309029943:=()
def tw13944730536901142449:=()
def tw13989328092263300711:=()
def tw14086101161349176732:=()
def tw14125850378946673069:=()
def tw14267949885091412400:=()
def tw14292951792748038716:=()
def tw14316078230155067492:=()
def tw14372906157933955401:=()
def tw143827664116343430:=()
def tw14425405468970830210:=()
def tw14440080542950909506:=()
def tw14455939945002290353:=()
def tw14497231507170998652:=()
def tw14643521381334243534:=()
def tw14718880920330730450:=()
def tw1477407190040354401:=()
def tw14786111956995863907:=()
def tw14809765615467461605:=()
def tw14927567186593531790:=()
def tw14985077218882457610:=()
def tw15001213945127378533:=()
def tw15011955414416577465:=()
def tw15118244581474037938:=()
def tw15142426200386426445:=()
def tw15182578950252999249:=()
def tw15213010656336634415:=()
def tw15214152175453275226:=()
def tw15234181642135567845:=()
def tw15263762768160248334:=()
def tw1531953346060248396:=()
def tw15329072910351855952:=()
def tw15534484133416143430:=()
def tw1559490108305850695:=()
def tw156549800351307157:=()
def tw15684547531043174221:=()
def tw15701885935956411010:=()
def tw15716140269603987996:=()
def tw15761263235320866074:=()
def tw15847467960669866242:=()
def tw15872586978413834558:=()
def tw15886645885648626285:=()
def tw15976199747602071420:=()
def tw16106072397659349400:=()
def tw16111734610772317314:=()
def tw16151537021651738394:=()
def tw16152213245311322165:=()
def tw16219695826984167697:=()
def tw16309404585326974612:=()
def tw16328835605029114017:=()
def tw16337502675031631948:=()
def tw16481907185957942493:=()
def tw16503142773631548388:=()
def tw1653584006096999509:=()
def tw16595758901498774681:=()
def tw1660275141853640469:=()
def tw16624470425275359882:=()
def tw16627455095285304852:=()
def tw16651066551152799100:=()
def tw16657988135193240636:=()
def tw16775547133501371645:=()
def tw16819732848517932968:=()
def tw16827368645972892990:=()
def tw16841049399202533872:=()
def tw17151607875618225223:=()
def tw17229072165529181323:=()
def tw17314895123308340616:=()
def tw17357539695683931527:=()
def tw17374850183809240421:=()
def tw17383382497284703219:=()
def tw17466824336670320876:=()
def tw17515511527884625676:=()
def tw17553449530959275497:=()
def tw17701252176619930877:=()
def tw17788717496437728127:=()
def tw17789366826471948883:=()
def tw17810303253465787096:=()
def tw17813849670999881167:=()
def tw18302847250782921131:=()
def tw18340504113730533877:=()
def tw1868753726230860622:=()
def tw1886628980437178614:=()
def tw1899798997526298993:=()
def tw192267924141836786:=()
def tw1946473843683691599:=()
def tw1972650743862825990:=()
def tw2027713357690743763:=()
def tw2034085480037662415:=()
def tw2067927059467722716:=()
def tw2181134391574733543:=()
def tw22541731259277569:=()
def tw2317000246853512463:=()
def tw234940932858480414:=()
def tw2359524292737061466:=()
def tw2418745776245724281:=()
def tw2468898094479159050:=()
def tw2761915536858951999:=()
def tw2786487899759955004:=()
def tw2787634456520482518:=()
def tw2801090374079598235:=()
def tw2860067162163427569:=()
def tw2865684282799311432:=()
def tw2941370582419823433:=()
def tw2955920073067385764:=()
def tw3159049776091466393:=()
def tw3194196421046238231:=()
def tw3198498349799879906:=()
def tw3220732412185332875:=()
def tw3243639274775368049:=()
def tw3269076459961283105:=()
def tw3287008058771426322:=()
def tw3300562370787724797:=()
def tw3311616314607605582:=()
def tw3343484744725250632:=()
def tw3364874946255717049:=()
def tw3408533668327049111:=()
def tw3425100634578492049:=()
def tw3462893733350103473:=()
def tw3470180884623410165:=()
def tw3544153525998895436:=()
def tw3595263651245932639:=()
def tw362737975915807556:=()
def tw3746176927747544421:=()
def tw3756266428676887218:=()
def tw3817698600917864425:=()
def tw3825112464221903542:=()
def tw3829122266377753075:=()
def tw3919018184543869136:=()
def tw3957788275905360481:=()
def tw4000865079246272961:=()
def tw4065788372095249932:=()
def tw4089215384082482884:=()
def tw4174405704747693737:=()
def tw4232674156601702467:=()
def tw4270148287775758752:=()
def tw4275742124853756350:=()
def tw4637286908756556993:=()
def tw4805308333607877498:=()
def tw4816607014044820632:=()
def tw4883428421809134013:=()
def tw489270438744474749:=()
def tw4919769649492061957:=()
def tw4955319321428668731:=()
def tw495736451454688575:=()
def tw4969232122800555651:=()
def tw4979735220724605726:=()
def tw5021534044595774405:=()
def tw5035228803216313171:=()
def tw5040104741842761344:=()
def tw5040351754649864278:=()
def tw5045376891047842214:=()
def tw505760937252221742:=()
def tw513442044243939173:=()
def tw5160142932747194903:=()
def tw5190573856356705179:=()
def tw523257375808643836:=()
def tw523679872137122423:=()
def tw5301648195401978353:=()
def tw5302637227968898408:=()
def tw5326045583869689707:=()
def tw5355509793709451544:=()
def tw5360568640793620936:=()
def tw5488089665780176354:=()
def tw5588892938158375816:=()
def tw5602408997878723429:=()
def tw5640446738124180632:=()
def tw5661321978081857846:=()
def tw5948737742176763094:=()
def tw5949585825865163903:=()
def tw5973703983696318813:=()
def tw5974608050186266651:=()
def tw6017969945178918280:=()
def tw6024186447983005756:=()
def tw6026083136865612804:=()
def tw6081183549918413486:=()
def tw6098786525126517603:=()
def tw6280709260438536348:=()
def tw6282078805975869149:=()
def tw633601988978226568:=()
def tw6385727069950769507:=()
def tw6387601152707291537:=()
def tw6448057338733070156:=()
def tw6465877299547422286:=()
def tw6531504953430954784:=()
def tw6560506752410641806:=()
def tw6581614695819636724:=()
def tw6590486416500376462:=()
def tw6605833832775981314:=()
def tw6627306890648704560:=()
def tw6658697816508912568:=()
def tw6710485580234559527:=()
def tw6720681483224317794:=()
def tw6751725025248154940:=()
def tw68036300413848071:=()
def tw6821501880934713869:=()
def tw6865575048337033521:=()
def tw7049695477633963458:=()
def tw7116989693648009404:=()
def tw7119480993741644179:=()
def tw7140126865173250495:=()
def tw7189554088059593108:=()
def tw7225597806820041821:=()
def tw7243929296600586320:=()
def tw7414259013820936296:=()
def tw7422737014699861149:=()
def tw7491634930621359990:=()
def tw7512917022291086009:=()
def tw7578488347796333953:=()
def tw7682162694889725129:=()
def tw7855390052250430454:=()
def tw7912035540256259720:=()
def tw8073267017267510015:=()
def tw8103788128156893604:=()
def tw8219783240856432722:=()
def tw8221513996522050785:=()
def tw8269003965650658810:=()
def tw835756082273480949:=()
def tw8379240500743083538:=()
def tw8495883230770156202:=()
def tw8543701605775146531:=()
def tw8561638736559424727:=()
def tw8686314406887734036:=()
def tw8695761032423567751:=()
def tw8742662332746652389:=()
def tw8761235009947283371:=()
def tw8792534996996150280:=()
def tw8799761595932924724:=()
def tw8824734392277448233:=()
def tw8833669571548448578:=()
def tw8887327590702867194:=()
def tw8894785598247745269:=()
def tw8918158532547719888:=()
def tw8936476924166278256:=()
def tw8939767131514875993:=()
def tw896534664432967198:=()
def tw9020876435118907268:=()
def tw9062945068835598313:=()
def tw9218424658809183349:=()
def tw9240153520810308674:=()
def tw924626157615322667:=()
def tw9266426815786358042:=()
def tw9328431010796577396:=()
def tw9385355017048514859:=()
def tw9453144613129876549:=()
def tw9470367450002991917:=()
def tw9551645822671347679:=()
def tw9580768372746609346:=()
def tw9621728642048352971:=()
def tw9671087038528949678:=()
def tw9814949356578102219:=()
def tw9818175844555060737:=()
def tw9839786821032026351:=()
def tw9917067516069368562:=()
end PySem.W.Fast
open PySem PySem.W PyProof.Rows
theorem PySem.Challenge.cw_mergeline_k03_rows_of_no_form_holds : PySem.Challenge.rw_mergeline_k03_rows_of_no_form.Holds := by
 w_on;o_law;k_head;(case hw=>w_witness2)
 k_fill
 refine Mg.walk (l:=PySem.Challenge.rw_mergeline_k03_rows_of_no_form) rfl rfl rfl (λw h Y=>PySem.W.kIn_of Y) ?F
 case F=>
  intro w mg h KX G;refine⟨⟨⟨⟨⟨?n1,?n2,?n3,?n4,?n5,?n6,?n7,?n8,?n9,?n10,?n11,?n12⟩,?n13,?n14⟩,?y1,?y2,?y3,?ymp,?yfo,?yru⟩,⟨?w1,?w2,?w3,?xa,?xb,?xc,?xd⟩,⟨?t0,?t1,?t2,?t3,?t4,?t5,?t6,?t7,?t8,?t9,?t10,?t11⟩,?ypl,?yxa,?nb,?d0,?d1,?d2,?d3,?d4,?d5,?d6,?d7,?d8,?d9,?V3,?V4,?V5,?V6,?V7,?Y9,?Y_,?Y',?Za,?Zb,?Zc,?Zd,?Ze,?Zf,?Zg,?Zh,?Zi,?Zj,?Zk,?Zm,?Zn,?Zo,?Zq,?Zr⟩,?law⟩
  case n1|n2|n3|n4|n5|n6|n7|n8|n9|n10|n11|n12|n13|n14|y1|y2|y3|w1|w2|w3=>exact DN KX G (by k_is)
  case ymp|xa|xb|xc|xd=>exact⟨_,gR KX G (by k_is)⟩
  case yfo=>refine⟨_,gR KX G (by k_is),Mg.Ou (by decide) (by symm) (by k_is) (.cons rfl (Mg.kP (by k_is) (by decide) (.cons ⟨_,rfl⟩ (.cons ⟨_,rfl⟩ .nil))) (.cons rfl (Mg.kP (by k_is) (by decide) (.cons ⟨_,rfl⟩ .nil)) (.cons rfl (Mg.kP (by k_is) (by decide) (.cons ⟨_,rfl⟩ (.cons ⟨_,rfl⟩ .nil))) (.cons rfl (Mg.kP (by k_is) (by decide) (.cons ⟨_,rfl⟩ (.cons ⟨_,rfl⟩ (.cons ⟨_,rfl⟩ .nil)))) (.cons rfl (Mg.kP (by k_is) (by decide) (.cons ⟨_,rfl⟩ (.cons ⟨_,rfl⟩ (.cons ⟨_,rfl⟩ .nil)))) (.cons rfl (Mg.kP (by k_is) (by decide) (.cons ⟨_,rfl⟩ (.cons ⟨_,rfl⟩ (.cons ⟨_,rfl⟩ (.cons ⟨_,rfl⟩ .nil))))) .nil))))))⟩
  case yru=>refine⟨_,gR KX G (by k_is),Mg.Ou (by decide) (by symm) (by k_is) (.cons rfl (Mg.kP (by k_is) (by decide) .nil) (.cons rfl (Mg.kP (by k_is) (by decide) (.cons ⟨_,rfl⟩ .nil)) (.cons rfl (Mg.kP (by k_is) (by decide) (.cons ⟨_,rfl⟩ .nil)) (.cons rfl (Mg.kP (by k_is) (by decide) (.cons ⟨_,rfl⟩ (.cons ⟨_,rfl⟩ .nil))) (.cons rfl (Mg.kP (by k_is) (by decide) .nil) .nil)))))⟩
  case nb=>exact L2.TK (by k_is)
  case t0|t1|t2|t3|t4|t5|t6|t7|t8|t9|t10|t11=>kit_is
  case ypl=>refine' Mg.UW KX G ?aC ?a1 ?i1 ?l ?c ?k ?pg ?hd ?po ?sa ?mk ?kc ?z1 ?z2 ?z3 ?z4 ?z5 ?z6 ?z7;(case aC|a1|i1|l|c|k|pg|hd|po|sa|mk|kc|z1|z2|z3|z4|z5|z6|z7=>k_is)
  case yxa=>refine' Mg.QS KX G ?xaC ?xaM ?xb1 ?xb2 ?xb3 ?xbv ?xa1 ?xi1 ?xl ?xc ?xk ?xlC ?xlM ?xe1 ?xe2 ?xe3 ?xe4 ?xe5 ?xe6 ?xsa ?xpo ?xhd ?xkp ?xz1 ?xz2 ?xrd ?xfc ?xsp ?xka ?xkc ?xkv ?xga ?xgh ?xmb ?xcl ?xcg ?Zv ?xmo;(case xaC|xaM|xb1|xb2|xb3|xbv|xa1|xi1|xl|xc|xk|xlC|xlM=>k_is);(case xe1|xe2|xe3|xe4|xe5|xe6=>rfl);(case xsa=>k_is);(case xpo=>rfl);(case xhd|xkp|xz1|xz2|xrd|xfc|xsp=>k_is);(case xka|xkc|xkv=>kit_is);(case xga|xgh|xmb|xcl|xcg|Zv|xmo=>k_is)
  case d1|d2|d3|d4|d6|V3|V4|V6|Zk|Zm|Zn|Zo|Zq|Zr|law=>refine' Mg.Ff KX G (λ_ _ _ _ _ _ us hl=>match us,hl with | [_],_=>rfl) ?a ?l ?c ?k;(case a|l|c|k=>k_is)
  case d5|d7|d8|d9|V5|V7|Y9|Y_|Y'|Za|Zb|Zc|Zd|Ze|Zf|Zg|Zh|Zi=>refine' Mg.Ff KX G (λ_ _ _ _ _ _ us hl=>match us,hl with | [_,_],_=>rfl) ?a ?l ?c ?k;(case a|l|c|k=>k_is)
  case d0|Zj=>refine' Mg.Ff KX G (λ_ _ _ _ _ _ us hl=>match us,hl with | [_,_,_],_=>rfl) ?a ?l ?c ?k;(case a|l|c|k=>k_is)
