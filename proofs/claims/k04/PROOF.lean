import PyProof.Rows.All
import Wide.All
import OpenK.AllK
import Wide.FinOn
import Lean
import PyProof.EqAt
import PyProof.EqKinds
import PyProof.TupleCall
import PyProof.Rows.SetFrom
import PyProof.TupleKey
import KE.KSortTup
import PyProof.ListRange
import PyProof.ConsumeS
import KE.KIntText
import PyProof.StrCalls2
import PyProof.StrOps2
import PyProof.SliceStr2
import PyProof.StrWalks
import PyProof.Rows.StrJoin2
import PyProof.ZipIter
import PyProof.TupleIter
import PyProof.ListMulRoad
import PyProof.WalksMore
import KE.KDictLaws
import KE.KDictList
import PyProof.IsiH_list
import PyProof.AttrMiss
import KE.KDictOf
import PyProof.StationsW
import PyProof.ExcInit
import PyProof.ExcClass2
import PyProof.ExcBaseAll.ValueError
import OpenK.KMake
import OpenK.KCls
import PyProof.Rows.FStr
import PyProof.LayNew
import PyProof.RulesAs
import PyProof.NsDelKeeps
import PyProof.ExcAttrAll.ValueError
import KE.KIsAll
import PyProof.CollectIter
import PyProof.TupleOfStr
import PySem.Challenge.RW_mergeline_k04_twice_lacking_and_room
set_option Elab.async false
set_option linter.all false
set_option maxRecDepth 100000
set_option maxHeartbeats 4000000
open Array renaming getElem?_eq_some_iff→iR,length_toList→df,toList_append→HC
open Bool renaming and_eq_false_iff→FD,and_eq_true_iff→jh,and_eq_true→kP,and_false→uD,eq_iff_iff→gN,false_ne_true→cQ,false_or→DI,not_eq_true→nF,or_eq_true→jf,or_true→rY,true_and→ly
open False renaming elim→fu
open ForInStep renaming yield→qD
open Int renaming emod_lt_of_pos→bG,emod_nonneg→bE,eq_ofNat_of_zero_le→lY,toNat_natCast→fN
open List renaming all_eq_true→dU,all_map→rZ,any_cons→nH,any_eq_false→j7,any_eq_true→nD,any_map→xB,append_assoc→c6,append_nil→cF,drop_eq_nil_of_le→r9,drop_succ_cons→vz,drop_zero→my,eq_nil_of_length_eq_zero→nU,ext_getElem?→kf,filterMap_append→jZ,filterMap_cons_none→fU,filterMap_cons_some→eA,filterMap_cons→iz,filterMap_map→cw,filter_append→o9,filter_cons→e8,filter_eq_nil_iff→sf,find?_cons→fz,flatten_cons→dX,foldl_append→gF,foldl_cons→lG,foldl→A4,forIn_cons→Aq,fst_mem_of_mem_zipIdx→kI,getD_eq_getElem?_getD→aJ,getElem?_append_left→cO,getElem?_append_right→cJ,getElem?_eq_getElem→ax,getElem?_eq_none→iW,getElem?_eq_some_iff→aP,getElem?_map→aW,getElem?_range→oA,getElem?_replicate→eK,getElem?_set_ne→bh,getElem?_set_self→bo,getElem?_zipIdx→kH,getElem_cons_drop→Fp,getElem_mem→dv,getElem_range→o_,getElem_toArray→Hz,length_append→aH,length_cons→aX,length_drop→cW,length_filterMap_le→hX,length_map→aj,length_nil→cz,length_range→dZ,length_replicate→c9,length_set→Ar,length_singleton→gS,length_take→bK,length_zip→Au,length→iG,lookup_cons→ei,lookup→lJ,map_append→aV,map_congr_left→gG,map_cons→aN,map_drop→qF,map_map→bf,map_nil→fX,map_replicate→wB,map_singleton→f7,map_take→DN,map→A8,mem_append_left→cq,mem_append_right→bX,mem_append→bp,mem_cons_of_mem→aZ,mem_cons_self→aS,mem_cons→aE,mem_filterMap→iT,mem_filter→om,mem_flatMap→yo,mem_flatten→yp,mem_iff_getElem?→tU,mem_map→aA,mem_of_getElem?→bF,mem_of_mem_drop→er,mem_of_mem_take→dR,mem_range→dB,mem_replicate→iU,mem_singleton→aK,nil_append→oq,nodup_append→dY,nodup_cons→eW,nodup_nil→uB,not_mem_nil→bB,of_mem_zip→su,pairwise_iff_getElem→je,pairwise_singleton→DV,range_succ→sF,range→cv,replicate_succ→dJ,replicate→aT,set_comm→vD,size_toArray→bD,sum_cons→qG,sum_nil→Fo,take_add_one→ej,take_append_drop→j3,take_length→fF,take_of_length_le→dO,take_zero→A7,zipIdx_cons→rE,zip_cons_cons→iV
open List.cons renaming inj→kM
open Nat renaming add_lt_add_left→jB,eq_zero_or_pos→wI,le_add_right→gi,le_of_ble_eq_true→aO,le_of_lt→oZ,le_of_not_lt→hG,le_refl→ay,le_succ→jL,le_trans→cj,lt_add_of_pos_right→rO,lt_irrefl→jt,lt_of_lt_of_le→bW,lt_succ_of_lt→mI,lt_succ_self→kS,min_eq_left→oB,min_le_right→yQ,mul_comm→Fy,mul_le_mul→ic,ne_of_gt→fG,ne_of_lt→bu,sub_self→FC,succ_le_succ→yS,succ_mul→x8,toDigits_of_lt_base→lZ,toDigits→ji,zero_add→sC,zero_le→bj
open Ne renaming symm→bY
open Option renaming isSome_iff_exists→A2,isSome_map→wz,map_eq_some_iff→rD,map_some→nV,toList_some→oV
open Option.some renaming injEq→iQ,inj→dC
open Or renaming inl→bq,inr→di
open PyProof.Rows renaming AllBare→rW,IntsAre→AA,assignInOrder_cons→j5,assignInOrder_nil→Ay,callWith_type1→jD,slot_tuple_getitem→lu
open PyProof.Rows.F renaming entry_set_update_loop→Hw,plain_set_update_loop→sv
open PyProof.Rows.IsTup renaming new→uy
open PySem renaming Addr→aR,Around→ef,Builtin→qf,CmpOp→Fw,DictEntry→Cj,ExcBaseFacts→qg,Expr→cx,FuncData→gf,GenState→uo,Heap→dw,IsPair→sx,IsPart→Cg,IsZip→DL,Keyword→jz,NameKind→oY,Paired→Fv,Params→Ci,PassesOwn→B_,Program→bL,PyData→ao,Result→uU,Scope→mn,Shared→aU,Spec→gA,Stmt→jq,Value→aG,Within→mq,World→cH,boot_len→ur,call_meets→j_,codeAny_builtin→vy,codeAny_call_builtin→o5,codeAny_mono→lF,length_partsBetween→x9,mem_of_lookup→jy,pastItsLine_dict→Cb,plainObj_wpAny_Assign_Attribute→nZ,sizeLine_eq→du,tupleKind_room_in1→mH,typeIs_int→yR,typeIs_str→uW,wpAny_Call_Name_kw→j8,wpAny_attempt→yn,wpAny_binaryOp_repeat_ref→Hv,wpAny_bindName→qH,wpAny_bind→av,wpAny_callSpecial?_slot→jN,wpAny_call_entry→oy,wpAny_call→mG,wpAny_execs_cons→B9,wpAny_execs_nil→DS,wpAny_field→eN,wpAny_holding→mr,wpAny_isSubtype_exc→iS,wpAny_ite_false→mB,wpAny_letGo→DM,wpAny_loadPart'→g7,wpAny_loadPart_at→fy,wpAny_loadPart→wG,wpAny_lookBehind→Ca,wpAny_mono→fq,wpAny_newObj_type→fw,wpAny_onRaise→sy,wpAny_passesOwn→pO,wpAny_pure→a_,wpAny_pyIter_list→rX,wpAny_pyIter_tuple→yO,wpAny_rule→yN,wpAny_seqItems→jO,wpAny_setField_rec→kb,wpAny_setField→nI,wpAny_standAt→oU,wpAny_truthy_bool→fW,wpAny_updateSeq_pair→wJ
open PySem.Around renaming under_plainId→tT,under→DH
open PySem.AutoSeq1 renaming idx_int→HB,sub_tuple_tuple→As
open PySem.Builtin.List renaming listFitsIndex→nB,listTooLong→oo
open PySem.Builtin.Slice renaming sliceAdjust→nG,sliceApplied→vH,slicePlaces→jS
open PySem.Builtin.SmallTypes renaming nextOf→dA,ownedTupleHandOut→o8,ownedTupleIsFree→gY
open PySem.Builtin.Tuple renaming tupleExact→j9,tupleTooMany→vI
open PySem.Calls renaming Name_function_global→Ax,callWith_builtin→rM,evalArgs_plain→uq,spliced_cons→lE,spliced_nil→wH
open PySem.Code renaming isFrame→Fn,quiet_builtin→wA
open PySem.EntryCells renaming newEntry→Cq
open PySem.F renaming args_dict_get_3→A5,args_str_split_2→yb,args_tuple_add_2→Az,args_tuple_iterator_next_1→Cp,attr_ValueError→A9,called_set→la,entry_dict_get→Ck,entry_str_split→yT,entry_tuple_add→A3,entry_tuple_iterator_next→DK,excBase_ValueError→yU,plainAttrs_dict→A6,plainAttrs_list→ju,plainAttrs_str→Cm,slot_dict_getitem→Ap,slot_dict_get→rN,slot_dict_setdefault→yc,slot_int_rmul→uA,slot_list_append→pQ,slot_str_split→AF,slot_tuple_add→Ce,slot_tuple_iterator_next→kT,slot_tuple_mul→sD,slot_zip_next→uC,type_list_append→pR
open PySem.Flow renaming next→DT
open PySem.Heap renaming SameBut→kO,get?_none_of_le→ux,get?_push_of_some→aF,get?_push_size→bN,get?_update_other→dN,get?_update_self→gU,lt_size→a9,size_after_update→mD,size_push→gE
open PySem.Heap.FunFrames renaming cons→yV
open PySem.Heap.Ns1 renaming of_empty→Fx
open PySem.Heap.SameBut renaming update→AG
open PySem.MeetsSeq renaming plain_index_loop→sA
open PySem.NameKind renaming cell→kQ,free→eJ
open PySem.Obj renaming data_mapFields→hU,isFreed_of_fields→j',mapFields→lH
open PySem.Paired renaming length→uT
open PySem.PassesOwn renaming never→dP
open PySem.PyData renaming bool→jE,canLay0→cX,canLayAll0→pP,eqv→dF,int→iO,list→yf,str→aQ,tuple→fS
open PySem.SeqAt renaming readOf→wK
open PySem.Str renaming empty→eS,join→cL,length_append→bJ,ofString→o4
open PySem.StrLaws renaming found_one→vJ,join_split→oC,occ_length_le→DJ,sliceText_from→Cr,sliceText_to→DU,split_free→oE
open PySem.Txt renaming slice_le→Fz,slice→kU,split→cR
open PySem.Value renaming builtin→nE,int→DF,isStrOf→vw,none→fe,ref→bA,str→DG,type→m_
open PySem.W renaming Frag→au,InstAt→ow,Looks→AH,any_some→wF,callWith_K→uV,cellsFrom_some→Cd,codeIn→lL,emptyDict→gk,findCls→ye,findIn→cp,findObj_own→Fm,fnOf→iZ,hasDictIn→hZ,instObj→iX,isFn→vG,keepIn→ft,kitAny→yW,kitOne→dH,lookIn→sk,looks_clsIn→nS,looks_findIn→sr,makesIn→x6,methodObj→vC,mg_none_of→FE,mg_of→iA,mroIn→uz,nsIn→kC,plainGet→qe,plainOver→vE,readsIn→yd,set_plain→vF,specialIn→lK,takerIn→k7,typeIn→yP
open PySem.W.InstAt renaming type→qE
open PySem.W.Looks renaming andThen→pS,here→gB,now→sE
open PySem.Within renaming cons→nY
open Sum renaming inl→x5,inr→b9
open Sum.inr renaming inj→xA
open True renaming intro→gD
def qQ0:=@decide_eq_false
def qQ1:=@decide_eq_true
def qQ2:=@if_neg
def qQ3:=@if_pos
def qQ4:=@of_decide_eq_true
def qQ5:=@of_decide_eq_false
def qQ6:=@congrArg
def qQ7:=@absurd
local macro_rules|`(tactic|symm)=>`(tactic|decide +kernel)
namespace L2
open PySem PySem.Spec PyProof.Rows
variable{C a it:aR}{A:ef}{g':Array uo}{d':Drawn}{c e tg:cx}{fd:gf}{base h:dw}{g:Int->Int->Int}{pins:List (aR×Obj)}{kw:List (Str×aG)}{ch fp:List aR}{outer:List Env}{es:List cx}{body:List jq}{N ps:List Str}{us:List aG}{M:Model}{k t':Nat}{o:Obj}{P:bL}{K:au}{scope:mn}{s s':aU}{kindOf:Str->Option oY}{mA mg:Str->Option aG}{u:aG}{E Q:aG->aU->Prop}{f:aG->aG->Sem aG}{w:cH}
abbrev Key:=Sum Int Str
def A_:Key->aG->Bool
 | .inl k,v=>aG.isInt k v
 | .inr x,v=>vw x v
def YH(w:cH):Key->Int
 | .inl k=>hashInt k
 | .inr x=>hashStr w x
theorem i_:∀{k:Key}{v:aG},A_ k v=true->(∃i t,k=x5 i/\v=DF i t)\/(∃x t,k=b9 x/\v=DG x t)
 | .inl i,v,h=>by
  obtain⟨t,e⟩:=aG.isInt_shape (k:=i) (v:=v) h;exact .inl ⟨i,t,rfl,e⟩
 | .inr x,v,h=>by
  obtain⟨t,e⟩:=aG.isStrOf_shape (x:=x) (v:=v) h;exact .inr ⟨x,t,rfl,e⟩
theorem I0(i:Int)(t:Tok):A_ (.inl i) (.int i t)=true:=by simp[A_,aG.isInt]
theorem I_(x:Str)(t:Tok):A_ (.inr x) (.str x t)=true:=by simp[A_,vw]
theorem Rj(a b:Int):decide ((x5 a:Key)=x5 b)=(a==b):=by
 by_cases e:a=b
 ·subst e;simp
 ·have h:¬(x5 a:Key)=x5 b:=λq=>e (x5.inj q)
  rw[qQ0 h];exact(beq_eq_false_iff_ne.mpr e).symm
theorem Rk(a b:Str):decide ((b9 a:Key)=b9 b)=decide (a=b):=by
 by_cases e:a=b
 ·subst e;simp
 ·have h:¬(b9 a:Key)=b9 b:=λq=>e (xA q)
  rw[qQ0 h,qQ0 e]
theorem Rm(a:Int)(b:Str):decide ((x5 a:Key)=b9 b)=false:=qQ0 (λq=>nomatch q)
theorem Rn(a:Str)(b:Int):decide ((b9 a:Key)=x5 b)=false:=qQ0 (λq=>nomatch q)
def gq(prog:bL)(w:cH):PySem.KeyKind prog w Key where
 is:=A_
 hash:=YH w
 inj:=λv a b ha hb=>by
  rcases i_ ha with⟨i,t,rfl,rfl⟩|⟨x,t,rfl,rfl⟩
  ·rcases i_ hb with⟨j,u,rfl,e⟩|⟨y,u,rfl,e⟩
   ·injection e with e1 _;rw[e1]
   ·exact nomatch e
  ·rcases i_ hb with⟨j,u,rfl,e⟩|⟨y,u,rfl,e⟩
   ·exact nomatch e
   ·injection e with e1 _;rw[e1]
 byValue:=λk v h=>by
  rcases i_ h with⟨i,t,rfl,rfl⟩|⟨x,t,rfl,rfl⟩<;>rfl
 pyHash:=λhv h=>by
  rcases i_ hv with⟨i,t,rfl,rfl⟩|⟨x,t,rfl,rfl⟩
  ·exact wpAny_pyHash_int h
  ·exact wpAny_pyHash_str h
 eqBool:=λhu hv h=>by
  rcases i_ hu with⟨i,t,rfl,rfl⟩|⟨x,t,rfl,rfl⟩
  ·rcases i_ hv with⟨j,u,rfl,rfl⟩|⟨y,u,rfl,rfl⟩
   ·rw[Rj]at h;exact wpAny_eqBool_int h
   ·rw[Rm]at h;exact SeqAt.EqAt.int_str i t y u _ _ _ _ h
  ·rcases i_ hv with⟨j,u,rfl,rfl⟩|⟨y,u,rfl,rfl⟩
   ·rw[Rn]at h;exact SeqAt.EqAt.str_int x t j u _ _ _ _ h
   ·rw[Rk]at h;exact wpAny_eqBool_str h
 «strs»:=λk x t v h=>by
  rcases i_ h with⟨i,u,rfl,e⟩|⟨y,u,rfl,e⟩
  ·exact nomatch e
  ·injection e with e1 _
   subst e1;cases v<;>rfl
theorem DW(prog:bL)(w:cH)(i:Int)(t:Tok):(gq prog w).is (.inl i) (.int i t)=true:=I0 i t
theorem sG(prog:bL)(w:cH)(x:Str)(t:Tok):(gq prog w).is (.inr x) (.str x t)=true:=I_ x t
inductive V where
 |non|bl (b:Bool)|int (i:Int)|str (x:Str)|T8 (b:Array UInt8)|flt (b:UInt64)|ref (a:aR)|ty (n:String)
 deriving DecidableEq
variable{vs xs:List V}
def RelV:V->aG->Prop
 | .non,u=>u=fe
 | .bl b,u=>u=aG.bool b
 | .int i,u=>∃t,u=DF i t
 | .str x,u=>∃t,u=DG x t
 | .T8 b,u=>∃t,u=aG.bytes b t
 | .flt b,u=>∃t,u=aG.float b t
 | .ref a,u=>u=bA a
 | .ty n,u=>u=m_ n
abbrev eO:List V->List aG->Prop:=Fv RelV
theorem eO.length(r:eO xs us):xs.length=us.length:=uT r
theorem eO.get:∀{xs:List V}{us:List aG}{i:Nat}{x:V},eO xs us->xs[i]?=some x->∃u,us[i]?=some u/\RelV x u
 |_,_,_,_,.nil,e=>by simp at e
 |_,_,0,_,.cons r _,e=>by simp at e;subst e;exact⟨_,rfl,r⟩
 |_,_,i+1,x,.cons _ t,e=>by
  obtain⟨u,h1,h2⟩:=eO.get (i:=i) (x:=x) t (by simpa using e)
  exact⟨u,by simpa using h1,h2⟩
theorem eO.append:∀{xs ys:List V}{us ws:List aG},eO xs us->eO ys ws->eO (xs++ys) (us++ws)
 |_,_,_,_,.nil,s=>s
 |_,_,_,_,.cons r t,s=>.cons r (eO.append t s)
theorem eO.take:∀{xs:List V}{us:List aG}(n:Nat),eO xs us->eO (xs.take n) (us.take n)
 |_,_,0,_=>.nil
 |_,_,_+1,.nil=>.nil
 |_,_,n+1,.cons r t=>.cons r (eO.take n t)
theorem eO.drop:∀{xs:List V}{us:List aG}(n:Nat),eO xs us->eO (xs.drop n) (us.drop n)
 |_,_,0,r=>r
 |_,_,_+1,.nil=>.nil
 |_,_,n+1,.cons _ t=>eO.drop n t
def oF:Option V->Option aG->Prop
 |some v,some u=>RelV v u
 |none,none=>True
 |_,_=>False
def KV{κ:Type}:List (κ×V)->List (κ×aG)->Prop:=Fv λ(p:κ×V)(q:κ×aG)=>p.1=q.1/\RelV p.2 q.2
def kV:Key->V
 | .inl i=>.int i
 | .inr x=>.str x
inductive HO where
 |lst (xs:List V)
 |tup (xs:List V)
 |dK (kvs:List (Key×V))|dT (kvs:List (List Key×V))
 |set (S:Int->Bool) (n:Nat)
 |ins (C dx:aR) (fs:List (Str×V))
 |own (x:aR)
 |xd (fs:List (Str×V))
 |met (f x:aR)
 |rng (lo hi:Int)
 |Ja (o:Obj) (u:HO)
 |Ro (ps:Array aG)
 |ext (φ:dw->Prop)
abbrev Hp:=aR->Option HO
variable{H:Hp}{R:V->V->Hp->Prop}
def upd(H:Hp)(a:aR)(o:HO):Hp:=λb=>if b=a then some o else H b
theorem bQ{o:HO}:upd H a o a=some o:=by unfold upd;rw[qQ3 rfl]
theorem aY{b: aR}{o:HO}(h:b≠a):upd H a o b=H b:=by unfold upd;rw[qQ2 h]
theorem UC{b: aR}{o u:HO}(h:H a=some o)(h':H b=some u)(d:o≠u):a≠b:=by
 intro e;subst e;rw[h]at h';exact d (dC h')
theorem bC{b: aR}{o:HO}(h:H a=some o)(h':H b=none):a≠b:=by
 intro e;subst e;rw[h]at h';cases h'
section
variable(P:bL)(w:cH)
def iB(H:Hp)(h:dw)(a:aR):HO->Prop
 | .lst xs=>xs.length<=sizeLine/\∃(its:List aG)(n:Nat),eO xs its/\h.get? a=some { cls:=.type "list",data:=.seq its.toArray n }
 | .tup xs=>xs.length<=sizeLine/\∃its:List aG,eO xs its/\IsTup h a its.toArray
 | .dK kvs=>kvs.length<=sizeLine/\(a==sysModules)=false/\∃vs,KV kvs vs/\h.DictOf (gq P w) a vs
 | .dT kvs=>kvs.length<=sizeLine/\(a==sysModules)=false/\∃xs:List (List Key×aR×aG),
   Fv (λ(p:List Key×V)(q:List Key×aR×aG)=>p.1=q.1/\H q.2.1=some (.tup (p.1.map kV))/\RelV p.2 q.2.2) kvs xs/\
   ∃o es ep,h.get? a=some o/\o.ExactDict/\o.data=.dict es ep/\es.toList=xs.map (entryOfKey (tupleKind (gq P w)))/\(xs.map (·.1)).Nodup
 | .set S n=>h.SetOf (intKind P w) a S n
 | .ins C dx fs=>H dx=some (.own a)/\fs.length<=1000/\dx≠a/\h.get? a=some (iX C dx)/\
   ∃mA,h.Ns1 dx mA/\(∀f,oF (fs.lookup f) (mA f))/\mq mA (fs.map (·.1))
 | .own _=>∃o,h.get? a=some o
 | .xd fs=>∃mA,h.Ns1 a mA/\∀f,oF (fs.lookup f) (mA f)
 | .rng lo hi=>∃t u v,h.get? a=some { cls:=.type "range",data:=.fields #[.int lo t,.int hi u,.int 1 v] }
 | .Ja o u=>h.get? a=some o/\iB H h a u
 | .Ro ps=>h.get? a=some { cls:=.none,data:=.fields ps }
 | .met f x=>h.get? a=some (vC (.ref f) (.ref x))
 | .ext φ=>φ h/\(∃o,h.get? a=some o)/\∀h1 h2:dw,φ h1->(∀o,h1.get? a=some o->h2.get? a=some o)->φ h2
def sj(H:Hp)(h:dw):Prop:=∀a o,H a=some o->iB P w H h a o
end
section
variable{P:bL}{w:cH}{H H':Hp}{h h':dw}{a:aR}{o:HO}
theorem iB.lt(x:iB P w H h a o):a<h.objs.size:=by
 cases o with
 |lst xs=>obtain⟨_,_,_,_,e⟩:=x;exact a9 e
 |tup xs=>obtain⟨_,_,_,p⟩:=x;exact p.lt
 |dK kvs=>obtain⟨_,_,_,_,o,_,_,e,_⟩:=x;exact a9 e
 |dT kvs=>obtain⟨_,_,_,_,o,_,_,e,_⟩:=x;exact a9 e
 |set S n=>obtain⟨o,_,_,_,e,_⟩:=x;exact a9 e
 |ins C dx fs=>obtain⟨_,_,_,e,_⟩:=x;exact a9 e
 |own y=>obtain⟨_,e⟩:=x;exact a9 e
 |xd fs=>obtain⟨_,⟨_,_,_,e,_⟩,_⟩:=x;exact a9 e
 |rng lo hi=>obtain⟨_,_,_,e⟩:=x;exact a9 e
 |Ja ob u=>obtain⟨e,_⟩:=x;exact a9 e
 |Ro ps=>exact a9 (show h.get? a=some _ from x)
 |met f y=>exact a9 (show h.get? a=some _ from x)
 |ext φ=>obtain⟨_,⟨_,e⟩,_⟩:=x;exact a9 e
theorem Fv.Rp{α β:Type}{F G:α->β->Prop}:∀{l₁:List α}{l₂:List β},Fv F l₁ l₂->(∀a b,F a b->G a b)->Fv G l₁ l₂
 |_,_,.nil,_=>.nil
 |_,_,.cons r t,f=>.cons (f _ _ r) (Fv.Rp t f)
theorem iB.stay(x:iB P w H h a o)(k:∀b u,(b=a\/H b=some (.own a))->h.get? b=some u->h'.get? b=some u)
  (ho:∀b,H b=some (.own a)->H' b=some (.own a))(ht:∀b xs,H b=some (.tup xs)->H' b=some (.tup xs)):iB P w H' h' a o:=by
 induction o with
 |lst xs=>obtain⟨z,its,n,r,e⟩:=x;exact⟨z,its,n,r,k _ _ (.inl rfl) e⟩
 |tup xs=>obtain⟨z,its,r,ob,e,c⟩:=x;exact⟨z,its,r,ob,k _ _ (.inl rfl) e,c⟩
 |dK kvs=>obtain⟨z,y,vs,r,ob,es,ep,e,c⟩:=x;exact⟨z,y,vs,r,ob,es,ep,k _ _ (.inl rfl) e,c⟩
 |dT kvs=>
  obtain⟨z,y,xs,r,ob,es,ep,e,c⟩:=x;exact⟨z,y,xs,Fv.Rp r λp q z=>⟨z.1,ht _ _ z.2.1,z.2.2⟩,ob,es,ep,k _ _ (.inl rfl) e,c⟩
 |set S n=>obtain⟨ob,es,ep,t,e,c⟩:=x;exact⟨ob,es,ep,t,k _ _ (.inl rfl) e,c⟩
 |ins C dx fs=>
  obtain⟨d,z,ne,e,mA,⟨od,es,ep,e2,c⟩,r⟩:=x;exact⟨ho _ d,z,ne,k _ _ (.inl rfl) e,mA,⟨od,es,ep,k _ _ (.inr d) e2,c⟩,r⟩
 |own y=>obtain⟨ob,e⟩:=x;exact⟨ob,k _ _ (.inl rfl) e⟩
 |xd fs=>obtain⟨mA,⟨od,es,ep,e,c⟩,r⟩:=x;exact⟨mA,⟨od,es,ep,k _ _ (.inl rfl) e,c⟩,r⟩
 |rng lo hi=>obtain⟨t,u,v,e⟩:=x;exact⟨t,u,v,k _ _ (.inl rfl) e⟩
 |Ja ob u ih=>obtain⟨e,q⟩:=x;exact⟨k _ _ (.inl rfl) e,ih q⟩
 |Ro ps=>
  have e:h.get? a=some { cls:=.none,data:=.fields ps }:=x;show h'.get? a=some { cls:=.none,data:=.fields ps };exact k a _ (.inl rfl) e
 |met f y=>
  have e:h.get? a=some (vC (.ref f) (.ref y)):=x;show h'.get? a=some (vC (.ref f) (.ref y));exact k a _ (.inl rfl) e
 |ext φ=>obtain⟨p,⟨o,e⟩,st⟩:=x;exact⟨st _ _ p λo q=>k _ _ (.inl rfl) q,⟨o,k _ _ (.inl rfl) e⟩,st⟩
theorem sj.lt(x:sj P w H h)(e:H a=some o):a<h.objs.size:=(x a o e).lt
theorem sj.fresh(x:sj P w H h)(e:h.objs.size<=a):H a=none:=by
 cases q:H a with
 |none=>rfl
 |some u=>exact qQ7 (bW (x.lt q) e) (jt _)
theorem sj.kept(x:sj P w H h)(k:∀b u,h.get? b=some u->h'.get? b=some u):sj P w H h':=λa o e=>
 (x a o e).stay (λb u _ q=>k b u q) (λ_ q=>q) λ_ _ q=>q
theorem sj.laid(x:sj P w H h)(k:∀b u,h.get? b=some u->h'.get? b=some u)(hp:h.objs.size<=a)(new:iB P w (upd H a o) h' a o):sj P w (upd H a o) h':=λb u e=>by
 have hn:=x.fresh hp;by_cases hb:b=a
 ·subst hb;rw[bQ]at e;cases e;exact new
 ·rw[aY hb]at e
  exact(x b u e).stay (λc v _ q=>k c v q) (λc q=>by rw[aY (bC q hn)];exact q) λc xs q=>by rw[aY (bC q hn)];exact q
end
def Rd(H:Hp)(a:aR)(u:HO):Prop:=H a=some u\/∃o,H a=some (.Ja o u)
theorem Rd.of{u:HO}(h:H a=some u):Rd H a u:=.inl h
theorem Rd.ok{u:HO}(r:Rd H a u)(x:sj P w H h):iB P w H h a u:=by
 rcases r with r|⟨o,r⟩
 ·exact x a u r
 ·obtain⟨_,q⟩:=x a _ r
  exact q
def UD:Option HO->Prop
 |some (.lst _)=>True
 |some (.dK _)=>True
 |some (.dT _)=>True
 |some (.set _ _)=>True
 |some (.ins _ _ _)=>True
 |some (.ext _)=>True
 |_=>False
section
variable{P:bL}{w:cH}{H:Hp}{h h':dw}{x e:aR}{o':HO}
theorem sj.write(ok:sj P w H h)(mu:UD (H x))(he:e=x\/H e=some (.own x))(k:∀b u,b≠e->h.get? b=some u->h'.get? b=some u)(Qd:∃u,h'.get? e=some u)
  (new:iB P w (upd H x o') h' x o'):sj P w (upd H x o') h':=λb u q=>by
 have UE:∀c y,H c=some (.own y)->c≠x:=λc y r z=>by subst z;rw[r]at mu;exact mu
 have YJ:∀c xs,H c=some (.tup xs)->c≠x:=λc xs r z=>by subst z;rw[r]at mu;exact mu
 by_cases hb:b=x
 ·subst hb;rw[bQ]at q;cases q;exact new
 ·rw[aY hb]at q
  by_cases Rq:b=e
  ·have q':H b=some (.own x):=by
    rcases he with z|z
    ·exact qQ7 (Rq.trans z) hb
    ·rw[Rq];exact z
   rw[q]at q';cases q';obtain⟨v,hv⟩:=Qd;exact⟨v,by rw[Rq];exact hv⟩
  ·refine(ok b u q).stay (λc v hc r=>k c v ?_ r) (λc r=>by rw[aY (UE c b r)];exact r) λc xs r=>by rw[aY (YJ c xs r)];exact r
   rcases hc with rfl|hc
   ·exact Rq
   ·rintro rfl
    rcases he with z|z
    ·exact UE c b hc z
    ·rw[hc]at z;cases z;exact hb rfl
end
structure Un(fs ex:List aR)(H H':Hp)(h h':dw):Prop where
 keep:∀b o,h.get? b=some o->H b=none->b∉fs->b∉ex->h'.get? b=some o
 slot:∀b o,h.get? b=some o->H b=none->b∈fs->b∉ex->∃sl,h'.get? b=some { o with slots:=sl }
 free:∀b o,h.get? b=some o->H b=none->b∉ex->H' b=none
 there:∀b o,h.get? b=some o->b∉ex->∃o',h'.get? b=some o'
 tups:∀b xs,H b=some (.tup xs)->H' b=some (.tup xs)
 wL:∀b o u,H b=some (.Ja o u)->H' b=some (.Ja o u)
 yg:∀b ps,H b=some (.Ro ps)->∃more,H' b=some (.Ro (ps++more))
section
variable{fs fs' ex ex':List aR}{H H1 H2:Hp}{h h1 h2 h':dw}{a x e:aR}{o:HO}
theorem Un.any(u:Un fs ex H H1 h h1){b:aR}{ob:Obj}(q:h.get? b=some ob)(n:H b=none)(hx:b∉ex):∃sl,h1.get? b=some { ob with slots:=sl }:=by
 by_cases hb:b∈fs
 ·exact u.slot b ob q n hb hx
 ·exact⟨ob.slots,u.keep b ob q n hb hx⟩
theorem Un.kept(k:∀b u,h.get? b=some u->h'.get? b=some u):Un fs ex H H h h':=
 ⟨λb ob q _ _ _=>k b ob q,λb ob q _ _ _=>⟨ob.slots,k b ob q⟩,λ_ _ _ n _=>n,λb ob q _=>⟨ob,k b ob q⟩,λ_ _ q=>q,λ_ _ _ q=>q,λ_ ps q=>⟨#[],by rw[q];simp⟩⟩
theorem Un.refl:Un fs ex H H h h:=Un.kept λ_ _ q=>q
theorem Un.laid(k:∀b u,h.get? b=some u->h'.get? b=some u)(hp:h.objs.size<=a)(hn:H a=none):Un fs ex H (upd H a o) h h' where
 keep:=λb u q _ _ _=>k b u q
 slot:=λb u q _ _ _=>⟨u.slots,k b u q⟩
 free:=λb u q n _=>by rw[aY (bu (bW (a9 q) hp))];exact n
 there:=λb u q _=>⟨u,k b u q⟩
 tups:=λb xs q=>by rw[aY (bC q hn)];exact q
 wL:=λb u xs q=>by rw[aY (bC q hn)];exact q
 yg:=λb ps q=>⟨#[],by rw[aY (bC q hn),q];simp⟩
theorem Un.write(mu:UD (H x))(he:e=x\/H e=some (.own x))(k:∀b u,b≠e->h.get? b=some u->h'.get? b=some u)(Qd:∃u,h'.get? e=some u):Un fs ex H (upd H x o) h h':=by
 have hx:∀b,H b=none->b≠x:=λb n z=>by subst z;rw[n]at mu;exact mu
 have hb:∀b,H b=none->b≠e:=λb n z=>by
  subst z;rcases he with r|r
  ·exact hx b n r
  ·rw[n]at r;cases r
 have hm:∀b u,H b=some u->¬UD (some u)->b≠x:=λb u q nm z=>by subst z;rw[q]at mu;exact nm mu
 refine⟨λb u q n _ _=>k b u (hb b n) q,λb u q n _ _=>⟨u.slots,k b u (hb b n) q⟩,λb u q n _=>by rw[aY (hx b n)];exact n,λb u q _=>?_,
  λb xs q=>by rw[aY (hm b _ q λz=>z)];exact q,λb u xs q=>by rw[aY (hm b _ q λz=>z)];exact q,λb ps q=>⟨#[],by rw[aY (hm b _ q λz=>z),q];simp⟩⟩
 by_cases Rq:b=e
 ·subst Rq;exact Qd
 ·exact⟨u,k b u Rq q⟩
end
def XD(h:dw)(H:Hp):List aR:=(cv h.objs.size).filter λa=>(H a).isSome
def Ct(h:dw)(H:Hp):dw:=PySem.W.hideAll h (XD h H)
theorem Jb(h:dw)(H:Hp):(Ct h H).objs.size=h.objs.size:=PySem.W.hideAll_size _ _
theorem Kt{b:aR}(e:h.get? b=some o)(n:H b=none):(Ct h H).get? b=some o:=
 PySem.W.hideAll_get _ e λhm=>by
  have q:(H b).isSome=true:=(om.mp hm).2;rw[n]at q;simp at q
theorem NP{b:aR}(e:(Ct h H).get? b=some o):h.get? b=some o/\H b=none:=by
 have e':h.get? b=some o:=PySem.W.of_hideAll (XD h H) e;refine⟨e',?_⟩
 cases q:H b with
 |none=>rfl
 |some x=>
  have hm:b∈XD h H:=om.mpr ⟨dB.mpr (a9 e'),by simp[q]⟩
  have z:(Ct h H).get? b=none:=PySem.W.hideAll_none (XD h H) hm;rw[z]at e;cases e
structure Mod(K:au)(mg:Str->Option aG)(base:dw):Prop where
 Rr:K.In base
 glob:base.Ns mainGlobals mg
 blt:∃mb,base.Ns builtinsNs mb/\∀x:Str,x≠"__name__"->mb x=bootBuiltins x
 nolimit:base.NoLimit
structure Cx where
 prog:bL
 w:cH
 K:au
 mg:Str->Option aG
 base:dw
 A:ef
 N:List Str
 s₀:aU
 H₀:Hp
 env:Env
 outer:List Env
 stack:List Env
 ex:List aR
 fn:Str->Bool
 calm:Bool
 pn:List (aR×Obj)
 xe:aG->aU->Prop
variable{X:Cx}
def DP(l:List Env):List aR:=l.filterMap (·.frame)
abbrev Cx.fs(X:Cx):List aR:=DP X.outer
def FG(sc:mn)(x:Str):Prop:=sc.names.lookup x=some .local\/sc.names.lookup x=some .cell\/sc.names.lookup x=some .free
def Loc(sc:mn)(x:Str):Prop:=sc.names.lookup x=some .local\/sc.names.lookup x=some .cell
def Look(env:Env)(h:dw)(m:Str->Option aG)(x:Str)(u:aG):Prop:=
 (env.kindOf x=some .local/\m x=some u)\/((env.kindOf x=some .cell\/env.kindOf x=some .free)/\∃c,env.cells.lookup x=some c/\h.IsCell c (some u))
structure Cx.Ok(X:Cx):Prop where
 mod:Mod X.K X.mg X.base
 kind:X.env.scope.kind=.function
 glob:X.env.globals=mainGlobals
 blt:X.env.builtins=builtinsNs
 above:X.s₀.heap.objs.size<=X.env.locals
 inj:∀x y c,X.env.cells.lookup x=some c->X.env.cells.lookup y=some c->x=y
 has:∀x,(X.env.kindOf x=some .cell\/X.env.kindOf x=some .free)->∃c,X.env.cells.lookup x=some c
 cab:∀x c,X.fn x=true->X.env.cells.lookup x=some c->X.s₀.heap.objs.size<=c
 hd:X.calm=true->X.A.handled=none
 frames:X.A.frames=some X.stack
 stk:X.stack=X.outer\/(X.stack=X.env::X.outer/\X.env.frame=some X.env.locals)
 XE:∀b∈X.ex,b≠X.env.locals/\∀x c,X.env.cells.lookup x=some c->c≠b
 bs:∀b o,X.base.get? b=some o->X.s₀.heap.get? b=some o/\X.H₀ b=none
 Ni:X.base.objs.size<=X.s₀.heap.objs.size
 FH:∀b o,X.base.get? b=some o->b∉X.ex
 Jc:∀b∈X.ex,b∉X.fs
 rP:X.s₀.heap.FunFrames X.base X.outer
 Ku:∀b∈X.fs,X.H₀ b=none
structure Inv(X:Cx)(pins:List (aR×Obj))(σ:List (Option V))(H:Hp)(s:aU):Prop where
 ok:X.Ok
 os:s.os=X.s₀.os
 bare:rW s.gens
 base:Un X.fs X.ex X.H₀ H X.s₀.heap s.heap
 loc:∃m,s.heap.Ns X.env.locals m/\∀(i:Nat)(x:Str)(v:V),X.N[i]?=some x->σ[i]?=some (some v)->FG X.env.scope x->∃u,RelV v u/\Look X.env s.heap m x u
 cell:∀x c,X.env.cells.lookup x=some c->∃v,s.heap.IsCell c v
 free:H X.env.locals=none
 pj:∀x c,X.env.cells.lookup x=some c->H c=none
 pin:∀p∈X.pn++pins,s.heap.get? p.1=some p.2/\H p.1=none/\p.1≠X.env.locals/\p.1∉X.fs/\∀v,p.2.data≠.cell v
 hok:sj X.prog X.w H s.heap
 len:σ.length=X.N.length
section
variable{X:Cx}{pins:List (aR×Obj)}{σ:List (Option V)}{H H':Hp}{s:aU}{h':dw}
theorem Cx.Ok.YK(ok:X.Ok){b:aR}(e:X.base.get? b=some o):b∉X.fs:=λhb=>by
 have:=(ok.rP.mem hb).1;rw[e]at this;cases this
theorem Inv.bs(I:Inv X pins σ H s):∀b o,X.base.get? b=some o->s.heap.get? b=some o/\H b=none:=λb o e=>
 ⟨I.base.keep b o (I.ok.bs b o e).1 (I.ok.bs b o e).2 (I.ok.YK e) (I.ok.FH b o e),I.base.free b o (I.ok.bs b o e).1 (I.ok.bs b o e).2 (I.ok.FH b o e)⟩
theorem Inv.bk(I:Inv X pins σ H s):∀b o,X.base.get? b=some o->s.heap.get? b=some o:=λb o e=>(I.bs b o e).1
theorem Inv.mod(I:Inv X pins σ H s):Mod X.K X.mg X.base:=I.ok.mod
theorem Inv.vA(I:Inv X pins σ H s):X.K.In s.heap:=I.ok.mod.Rr.keeps I.bk
theorem Inv.lt(I:Inv X pins σ H s):X.env.locals<s.heap.objs.size:=let⟨_,hn,_⟩:=I.loc;hn.lt
theorem Inv.sz(I:Inv X pins σ H s):X.s₀.heap.objs.size<=s.heap.objs.size:=cj I.ok.above (oZ I.lt)
theorem Inv.YL(I:Inv X pins σ H s)(h:s.heap.objs.size<=a):a∉X.fs:=λhb=>by
 obtain⟨_,o,ho,_⟩:=I.ok.rP.mem hb;exact qQ7 (bW (a9 ho) (cj I.sz h)) (jt _)
theorem Inv.Kv(I:Inv X pins σ H s):∀x c,X.env.cells.lookup x=some c->c≠X.env.locals:=λx c e z=>by
 obtain⟨v,o,ho,hd⟩:=I.cell x c e;obtain⟨m,⟨o',es,ep,HD,AI,_⟩,_⟩:=I.loc;rw[z,HD]at ho;cases ho;rw[AI]at hd;cases hd
theorem Inv.rP(I:Inv X pins σ H s):s.heap.FunFrames X.base X.outer:=by
 have all:∀(l:List Env),(∀b∈DP l,b∈X.fs)->X.s₀.heap.FunFrames X.base l->s.heap.FunFrames X.base l:=by
  intro l
  induction l with
  |nil=>intro _ _;trivial
  |cons env r ih=>
   intro hs hl;obtain⟨hk,⟨L,o,hf,hn,ho,hd⟩,hr⟩:=hl;have hL:L∈X.fs:=hs L (by unfold DP;rw[iz,hf];exact aS)
   obtain⟨sl,e⟩:=I.base.slot L o ho (I.ok.Ku L hL) hL λz=>I.ok.Jc L z hL
   exact⟨hk,⟨L,_,hf,hn,e,hd⟩,ih (λb hb=>hs b (by unfold DP;rw[iz,hf];exact aZ _ hb)) hr⟩
 exact all X.outer (λ_ hb=>hb) I.ok.rP
theorem Inv.stack(I:Inv X pins σ H s):s.heap.FunFrames X.base X.stack:=by
 rcases I.ok.stk with e|⟨e,hf⟩
 ·rw[e];exact I.rP
 ·rw[e]
  obtain⟨m,hn,_⟩:=I.loc;refine .cons (by rw[I.ok.kind];decide) hf hn ?_ I.rP
  exact ux (cj I.ok.Ni I.ok.above)
theorem Inv.Cu(I:Inv X pins σ H s):∀b∈DP X.stack,b∈X.env.locals::X.fs:=λb hb=>by
 rcases I.ok.stk with e|⟨e,hf⟩
 ·rw[e]at hb;exact aZ _ hb
 ·rw[e]at hb
  unfold DP at hb;rw[iz,hf]at hb;exact hb
theorem Inv.HF(I:Inv X pins σ H s):∀b∈DP X.stack,H b=none:=λb hb=>by
 rcases aE.mp (I.Cu b hb)with e|hb
 ·rw[e];exact I.free
 ·obtain⟨_,o,ho,_⟩:=I.ok.rP.mem hb
  exact I.base.free b o ho (I.ok.Ku b hb) λz=>I.ok.Jc b z hb
theorem Inv.step(I:Inv X pins σ H s)
  (Kl:∀b∈ch,(b∈X.ex\/X.s₀.heap.objs.size<=b)/\b≠X.env.locals/\(∀x c,X.env.cells.lookup x=some c->c≠b)/\∀p∈X.pn++pins,p.1≠b)
  (keep:∀b o,b≠X.env.locals->b∉X.fs->b∉ch->s.heap.get? b=some o->H b=none->h'.get? b=some o)
  (slot:∀b o,b≠X.env.locals->b∈X.fs->b∉ch->s.heap.get? b=some o->H b=none->∃sl,h'.get? b=some { o with slots:=sl })(free:∀b o,b∉ch->s.heap.get? b=some o->H b=none->H' b=none)
  (there:∀b o,b∉ch->s.heap.get? b=some o->∃o',h'.get? b=some o')
  (tups:∀b xs,H b=some (.tup xs)->H' b=some (.tup xs))(wL:∀b o u,H b=some (.Ja o u)->H' b=some (.Ja o u))(yg:∀b ps,H b=some (.Ro ps)->∃more,H' b=some (.Ro (ps++more)))
  (ns:∀m,s.heap.Ns X.env.locals m->h'.Ns X.env.locals m)(hok:sj X.prog X.w H' h')(hg:rW g'):
  Inv X pins σ H' { s with heap:=h',gens:=g',drawn:=d',toks:=t' }:=by
 have neL:∀b o,X.s₀.heap.get? b=some o->b≠X.env.locals:=λb o e=>bu (bW (a9 e) I.ok.above)
 have T9:∀b o,X.s₀.heap.get? b=some o->b∉X.ex->b∉ch:=λb o e hx hb=>by
  rcases(Kl b hb).1 with z|z
  ·exact hx z
  ·exact qQ7 (bW (a9 e) z) (jt _)
 have cellK:∀x c,X.env.cells.lookup x=some c->∀v,s.heap.IsCell c v->h'.IsCell c v:=λx c e v ⟨o,ho,hd⟩=>by
  have UG:c∉ch:=λz=>(Kl c z).2.2.1 x c e rfl
  by_cases hc:c∈X.fs
  ·obtain⟨sl,q⟩:=slot c o (I.Kv x c e) hc UG ho (I.pj x c e)
   exact⟨_,q,hd⟩
  ·exact⟨o,keep c o (I.Kv x c e) hc UG ho (I.pj x c e),hd⟩
 refine⟨I.ok,I.os,hg,⟨λb o e n hb hx=>?_,λb o e n hb hx=>?_,λb o e n hx=>?_,λb o e hx=>?_,λb xs e=>tups b xs (I.base.tups b xs e),λb o xs e=>wL b o xs (I.base.wL b o xs e),λb ps e=>?_⟩,?_,λx c e=>?_,?_,λx c e=>?_,λp hp=>?_,hok,I.len⟩
 ·exact keep b o (neL b o e) hb (T9 b o e hx) (I.base.keep b o e n hb hx) (I.base.free b o e n hx)
 ·obtain⟨sl,e1⟩:=I.base.slot b o e n hb hx
  obtain⟨Rt,e2⟩:=slot b _ (neL b o e) hb (T9 b o e hx) e1 (I.base.free b o e n hx);exact⟨Rt,e2⟩
 ·obtain⟨o',e1⟩:=I.base.there b o e hx
  exact free b o' (T9 b o e hx) e1 (I.base.free b o e n hx)
 ·obtain⟨o',e1⟩:=I.base.there b o e hx
  exact there b o' (T9 b o e hx) e1
 ·obtain⟨m1,e1⟩:=I.base.yg b ps e
  obtain⟨m2,e2⟩:=yg b _ e1;exact⟨m1++m2,by rw[e2,Array.append_assoc]⟩
 ·obtain⟨m,hn,hl⟩:=I.loc
  refine⟨m,ns m hn,λi x v e1 e2 e3=>?_⟩
  obtain⟨u,r,l⟩:=hl i x v e1 e2 e3;refine⟨u,r,?_⟩
  rcases l with l|⟨k,c,e,z⟩
  ·exact .inl l
  ·exact .inr ⟨k,c,e,cellK x c e _ z⟩
 ·obtain⟨v,z⟩:=I.cell x c e
  exact⟨v,cellK x c e v z⟩
 ·obtain⟨m,⟨o,_,_,ho,_⟩,_⟩:=I.loc
  exact free _ o (λz=>(Kl _ z).2.1 rfl) ho I.free
 ·obtain⟨v,o,ho,hd⟩:=I.cell x c e
  exact free c o (λz=>(Kl c z).2.2.1 x c e rfl) ho (I.pj x c e)
 ·obtain⟨e,n,ne,nf,d⟩:=I.pin p hp
  have UG:p.1∉ch:=λz=>(Kl p.1 z).2.2.2 p hp rfl
  exact⟨keep p.1 p.2 ne nf UG e n,free p.1 p.2 UG e n,ne,nf,d⟩
theorem Inv.un(I:Inv X pins σ H s)(u:Un X.fs [] H H' s.heap h')(hok:sj X.prog X.w H' h'):Inv X pins σ H' { s with heap:=h',toks:=t' }:=by
 obtain⟨m,⟨o,es,ep,ho,r⟩,_⟩:=id I.loc;obtain⟨sl,hL⟩:=u.any ho I.free (by simp)
 exact I.step (g':=s.gens) (d':=s.drawn) (ch:=[]) (λ_ z=>nomatch z) (λb o _ hb _ e n=>u.keep b o e n hb (by simp)) (λb o _ hb _ e n=>u.slot b o e n hb (by simp)) (λb o _ e n=>u.free b o e n (by simp)) (λb o _ e=>u.there b o e (by simp)) u.tups u.wL u.yg (λm' hm=>by
  obtain⟨o',YM,YN,HD,r'⟩:=hm;rw[ho]at HD;cases HD;exact⟨_,YM,YN,hL,r'⟩) hok I.bare
theorem Inv.call(I:Inv X pins σ H s)(u:Un (DP X.stack) ch H H' s.heap h')(hok:sj X.prog X.w H' h')(hg:rW g')
  (Kl:∀b∈ch,(b∈X.ex\/X.s₀.heap.objs.size<=b)/\b≠X.env.locals/\(∀x c,X.env.cells.lookup x=some c->c≠b)/\∀p∈X.pn++pins,p.1≠b):
  Inv X pins σ H' { s with heap:=h',gens:=g',drawn:=d',toks:=t' }:=by
 obtain⟨m,⟨o,es,ep,ho,r⟩,_⟩:=id I.loc;obtain⟨sl,hL⟩:=u.any ho I.free λz=>(Kl _ z).2.1 rfl
 exact I.step (ch:=ch) Kl (λb o hL hb hc e n=>u.keep b o e n (λz=>(aE.mp (I.Cu b z)).elim hL hb) hc) (λb o _ _ hc e n=>u.any e n hc) (λb o hc e n=>u.free b o e n hc) (λb o hc e=>u.there b o e hc) u.tups u.wL u.yg (λm' hm=>by
  obtain⟨o',YM,YN,HD,r'⟩:=hm;rw[ho]at HD;cases HD;exact⟨_,YM,YN,hL,r'⟩) hok hg
theorem Inv.turned(I:Inv X pins σ H s)(k:∀b o,b≠it->s.heap.get? b=some o->h'.get? b=some o)(hn:H it=none)(hL:it≠X.env.locals)
  (h1:it∈X.ex\/X.s₀.heap.objs.size<=it)(h2:∀x c,X.env.cells.lookup x=some c->c≠it)(h3:∀p∈X.pn++pins,p.1≠it):Inv X pins σ H { s with heap:=h',toks:=t' }:=by
 have UH:∀b u,H b=some u->b≠it:=λb u e z=>by rw[z,hn]at e;cases e
 refine I.step (g':=s.gens) (d':=s.drawn) (ch:=[it]) (λb hb=>?_) (λb o _ _ hc e _=>k b o (λz=>hc (by simp[z])) e) (λb o _ _ hc e _=>⟨o.slots,k b o (λz=>hc (by simp[z])) e⟩) (λ_ _ _ _ n=>n)
  (λb o hc e=>⟨o,k b o (λz=>hc (by simp[z])) e⟩) (λ_ _ e=>e) (λ_ _ _ e=>e) (λb ps e=>⟨#[],by rw[e];simp⟩) (λm hm=>?_) (λb u e=>?_) I.bare
 ·have e:b=it:=by simpa using hb
  subst e;exact⟨h1,hL,h2,h3⟩
 ·obtain⟨o,es,ep,ho,r⟩:=hm
  exact⟨o,es,ep,k _ o (bY hL) ho,r⟩
 ·refine(I.hok b u e).stay (λc v hc q=>k c v ?_ q) (λ_ q=>q) λ_ _ q=>q
  rcases hc with z|z
  ·rw[z];exact UH b u e
  ·exact UH c _ z
theorem Inv.tok(I:Inv X pins σ H s)(t:Nat):Inv X pins σ H { s with toks:=t }:=I.un (h':=s.heap) (t':=t) Un.refl I.hok
theorem Inv.kept(I:Inv X pins σ H s)(k:∀b u,s.heap.get? b=some u->h'.get? b=some u):Inv X pins σ H { s with heap:=h',toks:=t' }:=I.un (Un.kept k) (I.hok.kept k)
theorem Inv.laid{o:HO}(I:Inv X pins σ H s)(k:∀b u,s.heap.get? b=some u->h'.get? b=some u)(hp:s.heap.objs.size<=a)(new:iB X.prog X.w (upd H a o) h' a o):
  Inv X pins σ (upd H a o) { s with heap:=h',toks:=t' }:=I.un (Un.laid k hp (I.hok.fresh hp)) (I.hok.laid k hp new)
theorem Inv.write{x e:aR}{o:HO}(I:Inv X pins σ H s)(mu:UD (H x))(he:e=x\/H e=some (.own x))(k:∀b u,b≠e->s.heap.get? b=some u->h'.get? b=some u)(Qd:∃u,h'.get? e=some u)
  (new:iB X.prog X.w (upd H x o) h' x o):Inv X pins σ (upd H x o) { s with heap:=h',toks:=t' }:=I.un (Un.write mu he k Qd) (I.hok.write mu he k Qd new)
theorem Inv.HG{Qe:List (aR×Obj)}(I:Inv X pins σ H s)(h:∀p∈Qe,s.heap.get? p.1=some p.2/\H p.1=none/\p.1≠X.env.locals/\p.1∉X.fs/\∀v,p.2.data≠.cell v):Inv X Qe σ H s:=
 ⟨I.ok,I.os,I.bare,I.base,I.loc,I.cell,I.free,I.pj,λp hp=>(bp.mp hp).elim (λz=>I.pin p (cq _ z)) (h p),I.hok,I.len⟩
theorem yX(hN:N.Nodup){i j:Nat}{x:Str}(a:N[i]?=some x)(b:N[j]?=some x):i=j:=by
 obtain⟨h1,e1⟩:=aP.mp a;obtain⟨h2,e2⟩:=aP.mp b;exact(List.getElem_inj hN).mp (e1.trans e2.symm)
theorem Ba{i:Nat}{x:Str}{v:V}{Q:Unit->aU->Prop}(I:Inv X pins σ H s)(hN:X.N.Nodup)(hi:X.N[i]?=some x)(hx:Loc X.env.scope x)(r:RelV v u)
  (h:∀s',Inv X pins (σ.set i (some v)) H s'->(∃a,kO a s.heap s'.heap/\(a=X.env.locals\/X.env.cells.lookup x=some a))->Q () s')(hf:X.fn x=true\/X.env.scope.names.lookup x=some .local:=by first|exact .inl rfl|exact .inr rfl|assumption):wpAny M A (storeName X.env x u) Q E s:=by
 obtain⟨m,hn,hl⟩:=id I.loc;have Ru:(X.env.scope.kind == .class||(X.env.scope.kind == .module&&X.env.locals != X.env.globals))=false:=by rw[I.ok.kind];rfl
 have hiσ:i < σ.length:=by rw[I.len];exact(aP.mp hi).1
 have Kv:=I.Kv;have tracked:∀{a:aR}{h':dw},(∃o,s.heap.get? a=some o/\H a=none)->kO a s.heap h'->sj X.prog X.w H h':=λ{a h'}ha hs b ob e=>by
  obtain⟨_,_,Qf⟩:=ha;refine(I.hok b ob e).stay (λc w' hc q=>(hs.2 c ?_).trans q) (λ_ q=>q) λ_ _ q=>q
  rintro rfl
  rcases hc with rfl|hc
  ·rw[Qf]at e;cases e
  ·rw[Qf]at hc;cases hc
 rcases hx with hk|hk
 ·refine wpAny_storeName_local hk hn (λh' YQ hs=>?_) Ru
  obtain⟨oL,_,_,hoL,_⟩:=id hn;refine h _ ⟨I.ok,I.os,I.bare,⟨λb o e n hb hx=>?_,λb o e n hb hx=>?_,I.base.free,λb o e hx=>?_,I.base.tups,I.base.wL,I.base.yg⟩,⟨_,YQ,λj y v' e1 e2 e3=>?_⟩,λy c e=>?_,I.free,I.pj,λp hp=>?_,tracked ⟨oL,hoL,I.free⟩ hs,by simpa using I.len⟩ ⟨_,hs,.inl rfl⟩
  ·exact(hs.2 b (bu (bW (a9 e) I.ok.above))).trans (I.base.keep b o e n hb hx)
  ·obtain⟨sl,e1⟩:=I.base.slot b o e n hb hx
   exact⟨sl,(hs.2 b (bu (bW (a9 e) I.ok.above))).trans e1⟩
  ·obtain⟨o',e1⟩:=I.base.there b o e hx
   exact⟨o',(hs.2 b (bu (bW (a9 e) I.ok.above))).trans e1⟩
  ·by_cases hj:j=i
   ·subst hj
    rw[hi]at e1;cases e1;rw[bo hiσ]at e2;cases e2;exact⟨u,r,.inl ⟨hk,by simp⟩⟩
   ·rw[bh (bY hj)]at e2
    obtain⟨u',r',q⟩:=hl j y v' e1 e2 e3;refine⟨u',r',?_⟩
    rcases q with⟨k,e⟩|⟨k,c,e,z⟩
    ·refine .inl ⟨k,?_⟩
     have:y≠x:=λe=>hj (yX hN e1 (e▸hi))
     simp[this,e]
    ·exact .inr ⟨k,c,e,z.sameBut hs (Kv y c e)⟩
  ·obtain⟨w',z⟩:=I.cell y c e
   exact⟨w',z.sameBut hs (Kv y c e)⟩
  ·obtain⟨e,n,ne,nf,d⟩:=I.pin p hp
   exact⟨(hs.2 p.1 ne).trans e,n,ne,nf,d⟩
 ·have YR:X.fn x=true:=by
   rcases hf with z|z
   ·exact z
   ·rw[z]at hk;cases hk
  obtain⟨c,hc⟩:=I.ok.has x (.inl hk);obtain⟨w',z⟩:=I.cell x c hc;refine wpAny_storeName_cell I.ok.kind hk hc z (λh' T_ hs=>?_)
  obtain⟨oc,hoc,YS⟩:=id z;refine h { s with heap:=h' } ⟨I.ok,I.os,I.bare,⟨λb o e n hb hx=>?_,λb o e n hb hx=>?_,I.base.free,λb o e hx=>?_,I.base.tups,I.base.wL,I.base.yg⟩,⟨m,hn.sameBut hs (bY (Kv x c hc)),λj y v' e1 e2 e3=>?_⟩,λy c' e=>?_,I.free,I.pj,λp hp=>?_,tracked ⟨oc,hoc,I.pj x c hc⟩ hs,by simpa using I.len⟩ ⟨c,hs,.inr hc⟩
  ·exact(hs.2 b (bu (bW (a9 e) (I.ok.cab x c YR hc)))).trans (I.base.keep b o e n hb hx)
  ·obtain⟨sl,e1⟩:=I.base.slot b o e n hb hx
   exact⟨sl,(hs.2 b (bu (bW (a9 e) (I.ok.cab x c YR hc)))).trans e1⟩
  ·obtain⟨o',e1⟩:=I.base.there b o e hx
   exact⟨o',(hs.2 b (bu (bW (a9 e) (I.ok.cab x c YR hc)))).trans e1⟩
  ·by_cases hj:j=i
   ·subst hj
    rw[hi]at e1;cases e1;rw[bo hiσ]at e2;cases e2;exact⟨u,r,.inr ⟨.inl hk,c,hc,T_⟩⟩
   ·rw[bh (bY hj)]at e2
    obtain⟨u',r',q⟩:=hl j y v' e1 e2 e3;refine⟨u',r',?_⟩
    rcases q with q|⟨k,c',e,z'⟩
    ·exact .inl q
    ·refine .inr ⟨k,c',e,z'.sameBut hs ?_⟩
     rintro rfl
     exact hj (yX hN e1 (I.ok.inj _ _ _ e hc▸hi))
  ·by_cases XF:c'=c
   ·subst XF;exact⟨_,T_⟩
   ·obtain⟨w2,z2⟩:=I.cell y c' e
    exact⟨w2,z2.sameBut hs XF⟩
  ·obtain⟨e,n,ne,nf,d⟩:=I.pin p hp
   refine⟨(hs.2 p.1 ?_).trans e,n,ne,nf,d⟩
   intro q;rw[q,hoc]at e;have q':oc=p.2:=dC e;exact d w' (by rw[<-q'];exact YS)
theorem ng{i:Nat}{x:Str}{v:V}{Q:Unit->aU->Prop}(I:Inv X pins σ H s)(hN:X.N.Nodup)(hi:X.N[i]?=some x)(hx:Loc X.env.scope x)(r:RelV v u)
  (h:∀s',Inv X pins (σ.set i (some v)) H s'->Q () s')(hf:X.fn x=true\/X.env.scope.names.lookup x=some .local:=by first|exact .inl rfl|exact .inr rfl|assumption):wpAny M A (storeName X.env x u) Q E s:=
 Ba I hN hi hx r (λs' I' _=>h s' I') hf
theorem Inv.call'(I:Inv X pins σ H s)(ho:s'.os=s.os)(u:Un (DP X.stack) ch H H' s.heap s'.heap)(hok:sj X.prog X.w H' s'.heap)(hg:rW s'.gens)
  (Kl:∀b∈ch,(b∈X.ex\/X.s₀.heap.objs.size<=b)/\b≠X.env.locals/\(∀x c,X.env.cells.lookup x=some c->c≠b)/\∀p∈X.pn++pins,p.1≠b):Inv X pins σ H' s':=by
 obtain⟨h',g',d',t',o'⟩:=s';have e:o'=s.os:=ho;subst e;exact I.call (g':=g') (t':=t') (d':=d') u hok hg Kl
end
abbrev XK:=aG->Option aR->Hp->Prop
abbrev St:=List (Option V)
variable{σ:St}
abbrev VK:=V->Hp->Prop
abbrev TE:=St->Hp->VK->Prop
variable{t:TE}
abbrev TT:=St->Hp->(Bool->Hp->Prop)->Prop
abbrev TA:=St->Hp->(List V->Hp->Prop)->Prop
structure Ends where
 nx:St->Hp->Prop
 rt:VK
 bk:St->Hp->Prop:=λ_ _=>False
 ct:St->Hp->Prop:=λ_ _=>False
abbrev TS:=Ends->St->Hp->Prop
def EP(X:Cx)(pins:List (aR×Obj))(σ:St)(Q:VK)(u:aG)(s':aU):Prop:=∃v H',Inv X pins σ H' s'/\RelV v u/\Q v H'
def TP(X:Cx)(pins:List (aR×Obj))(σ:St)(Q:Bool->Hp->Prop)(b:Bool)(s':aU):Prop:=∃H',Inv X pins σ H' s'/\Q b H'
def AP(X:Cx)(pins:List (aR×Obj))(σ:St)(Q:List V->Hp->Prop)(us:List aG)(s':aU):Prop:=∃vs H',Inv X pins σ H' s'/\eO vs us/\Q vs H'
def SP(X:Cx)(pins:List (aR×Obj))(D:Ends)(f:Flow)(s':aU):Prop:=
 match f with
 | .next=>∃σ' H',Inv X pins σ' H' s'/\D.nx σ' H'
 | .brk=>∃σ' H',Inv X pins σ' H' s'/\D.bk σ' H'
 | .cont=>∃σ' H',Inv X pins σ' H' s'/\D.ct σ' H'
 | .ret u=>∃v σ' H',Inv X pins σ' H' s'/\RelV v u/\D.rt v H'
def PE(X:Cx)(e:cx)(t:TE):Prop:=
 ∀(pins:List (aR×Obj))(s:aU)(σ:St)(H:Hp)(Q:VK),Inv X pins σ H s->t σ H Q->wpAny (model X.prog X.w) X.A (eval e X.env) (EP X pins σ Q) X.xe s
def PT(X:Cx)(e:cx)(t:TT):Prop:=
 ∀(pins:List (aR×Obj))(s:aU)(σ:St)(H:Hp)(Q:Bool->Hp->Prop),Inv X pins σ H s->t σ H Q->wpAny (model X.prog X.w) X.A (isTrue e X.env (eval e X.env)) (TP X pins σ Q) X.xe s
def PW(X:Cx)(e:cx)(t:TT):Prop:=
 ∀(whole:Sem aG)(pins:List (aR×Obj))(s:aU)(σ:St)(H:Hp)(Q:Bool->Hp->Prop),Inv X pins σ H s->t σ H Q->wpAny (model X.prog X.w) X.A (isTrue e X.env whole) (TP X pins σ Q) X.xe s
theorem PW.pt{t:TT}(h:PW X e t):PT X e t:=h _
def PA(X:Cx)(es:List cx)(t:TA):Prop:=
 ∀(pos:Pos)(pins:List (aR×Obj))(s:aU)(σ:St)(H:Hp)(Q:List V->Hp->Prop),Inv X pins σ H s->t σ H Q->wpAny (model X.prog X.w) X.A (spliced (backTo pos (starEach es X.env))) (AP X pins σ Q) X.xe s
def PS(X:Cx)(st:jq)(t:TS):Prop:=
 ∀(pins:List (aR×Obj))(s:aU)(σ:St)(H:Hp)(D:Ends),Inv X pins σ H s->t D σ H->wpAny (model X.prog X.w) X.A (exec st X.env) (SP X pins D) X.xe s
def HJ(X:Cx)(st:List jq)(t:TS):Prop:=
 ∀(pins:List (aR×Obj))(s:aU)(σ:St)(H:Hp)(D:Ends),Inv X pins σ H s->t D σ H->wpAny (model X.prog X.w) X.A (execs st X.env) (SP X pins D) X.xe s
theorem g8{α:Type}{t:Sem α}{Q Q':α->aU->Prop}(h:wpAny M A t Q E s)(hQ:∀a s,Q a s->Q' a s):wpAny M A t Q' E s:=fq h hQ λ_ _ x=>x
section
variable{X:Cx}
theorem bin{a b:cx}{ta tb:TE}(ha:PE X a ta)(hb:PE X b tb)(I:Inv X pins σ H s)(h:ta σ H λx H1=>tb σ H1 λy H2=>R x y H2)
  {α:Type}{Q:α->aU->Prop}{f:aG->aG->Sem α}
  (hf:∀v u s2 x y H2,Inv X pins σ H2 s2->RelV x v->RelV y u->R x y H2->wpAny (model X.prog X.w) X.A (f v u) Q X.xe s2):
  wpAny (model X.prog X.w) X.A (eval a X.env) (λv s₁=>wpAny (model X.prog X.w) X.A (eval b X.env) (λu s₂=>wpAny (model X.prog X.w) X.A (f v u) Q X.xe s₂) X.xe s₁) X.xe s:=by
 refine g8 (ha pins s σ H _ I h) λv s1 ⟨x,H1,I1,r1,q1⟩=>?_
 refine g8 (hb pins s1 σ H1 _ I1 q1) λu s2 ⟨y,H2,I2,r2,q2⟩=>?_
 exact hf v u s2 x y H2 I2 r1 r2 q2
def UI(i:Nat):TE:=λσ H Q=>∃v,σ[i]?=some (some v)/\Q v H
def tC(v:V):TE:=λ_ H Q=>Q v H
theorem iH{i:Nat}{x:Str}{pos:Pos}(hN:X.N[i]?=some x)(hv:FG X.env.scope x)(hd:(x==("__debug__":Str))=false:=by decide)(rQ:(x==("__classdict__":Str))=false:=by decide):PE X (.Name x pos) (UI i):=by
 intro pins s σ H Q I h;obtain⟨v,e,h⟩:=h;obtain⟨m,hn,hl⟩:=I.loc;obtain⟨u,r,l⟩:=hl i x v hN e hv;have fin:EP X pins σ Q u s:=⟨v,H,I,r,h⟩;rcases l with⟨hk,hm⟩|⟨hk,c,hc,Qg⟩
 ·exact wpAny_Name (wpAny_loadName_local I.ok.kind hk hn hm fin) hd
 ·rcases hk with hk|hk
  ·exact wpAny_Name (wpAny_loadName_cell I.ok.kind hk hc Qg fin) hd
  ·exact wpAny_Name (wpAny_loadName_free I.ok.kind hk hc Qg fin rQ) hd
theorem Rv{i j pos}:PE X (.Constant (.int i) j pos) (tC (.int i)):=λ_ _ _ H _ I h=>wpAny_Constant_int ⟨.int i,H,I.tok _,⟨_,rfl⟩,h⟩
theorem UJ{b j pos}:PE X (.Constant (.bool b) j pos) (tC (.bl b)):=λ_ _ _ H _ I h=>Constant_bool ⟨.bl b,H,I,rfl,h⟩
theorem Rw{j pos}:PE X (.Constant .none j pos) (tC .non):=λ_ _ _ H _ I h=>Constant_none ⟨.non,H,I,rfl,h⟩
theorem Rx{x j pos}:PE X (.Constant (.str x) j pos) (tC (.str x)):=λ_ _ _ H _ I h=>Calls.Constant_str ⟨.str x,H,I.tok _,⟨_,rfl⟩,h⟩
def Gl(X:Cx)(x:Str):Prop:=X.env.kindOf x=some .globalImplicit
theorem qI{x:Str}{pos:Pos}(I:Inv X pins σ H s)(hg:Gl X x)(hm:X.mg x=some u)(h:Q u s)
  (hd:(x==("__debug__":Str))=false:=by decide):wpAny (model X.prog X.w) X.A (eval (.Name x pos) X.env) Q E s:=
 Ax I.ok.kind hg (Calls.loadGlobal_global (by rw[I.ok.glob];exact I.mod.glob.keeps I.bk) hm h) hd
theorem wM{x:Str}{pos:Pos}(I:Inv X pins σ H s)(hg:Gl X x)(hm:X.mg x=none)(hv:bootBuiltins x=some u)(h:Q u s)
  (hn:x≠"__name__":=by decide)(hd:(x==("__debug__":Str))=false:=by decide):wpAny (model X.prog X.w) X.A (eval (.Name x pos) X.env) Q E s:=by
 obtain⟨mb,h1,h2⟩:=I.mod.blt;exact Ax I.ok.kind hg (Calls.loadGlobal_builtin (by rw[I.ok.glob];exact I.mod.glob.keeps I.bk) hm (by rw[I.ok.blt];exact h1.keeps I.bk) ((h2 x hn).trans hv) h) hd
theorem pq{x:Str}{v:V}{pos:Pos}(hg:Gl X x)(hm:X.mg x=some u)(r:RelV v u)(hd:(x==("__debug__":Str))=false:=by decide):PE X (.Name x pos) (tC v):=
 λ_ _ _ H _ I h=>qI I hg hm ⟨v,H,I,r,h⟩ hd
theorem NQ{x:Str}{v:V}{pos:Pos}(hg:Gl X x)(hm:X.mg x=none)(hv:bootBuiltins x=some u)(r:RelV v u)(hn:x≠"__name__":=by decide)(hd:(x==("__debug__":Str))=false:=by decide):PE X (.Name x pos) (tC v):=
 λ_ _ _ H _ I h=>wM I hg hm hv ⟨v,H,I,r,h⟩ hn hd
variable{a b:cx}{ta tb:TE}{pos:Pos}
def PC(X:Cx)(op:Fw)(a b:cx)(t:TE):Prop:=
 ∀(pins:List (aR×Obj))(s:aU)(σ:St)(H:Hp)(Q:VK),Inv X pins σ H s->t σ H Q->
  wpAny (model X.prog X.w) X.A (eval a X.env) (λv s₁=>wpAny (model X.prog X.w) X.A (eval b X.env) (λu s₂=>wpAny (model X.prog X.w) X.A (compareOp op v u) (EP X pins σ Q) X.xe s₂) X.xe s₁) X.xe s
def tB(t:TE):TT:=λσ H Q=>t σ H λx H1=>∃c,x=.bl c/\Q c H1
theorem FJ{op:Fw}(h:PC X op a b t)(h1:behindInMarks op b=false:=by first|exact Kw _ (by decide) (by decide)|rfl):PE X (.Compare a [op] [b] pos) t:=λpins s σ H Q I hw=>wpAny_Compare1 (h pins s σ H Q I hw) h1
theorem Ry{op:Fw}(h:PC X op a b t)(h1:behindInMarks op b=false:=by first|exact Kw _ (by decide) (by decide)|rfl):PT X (.Compare a [op] [b] pos) (tB t):=by
 intro pins s σ H Q I hw;refine wpAny_isTrue_Compare1 (g8 (h pins s σ H _ I hw) λv s1 h1=>g8 h1 λu s2 h2=>g8 h2 λc s3 ⟨x,H1,I1,r1,q1⟩=>?_) h1
 obtain⟨d,rfl,q⟩:=q1;cases r1;exact fW ⟨H1,I1,q⟩
theorem FK(h:PE X e t)(he:∀whole,isTrue e X.env whole=(do let v <-whole;standAt e.pos;holding [v] (truthy v)):=by intro _;rfl):PT X e (tB t):=by
 intro pins s σ H Q I hw;refine isTrue_plain (g8 (h pins s σ H _ I hw) λv s1 ⟨x,H1,I1,r1,q1⟩=>?_) (he _)
 obtain⟨d,rfl,q⟩:=q1;cases r1;exact fW ⟨H1,I1,q⟩
variable{tA XG:TT}{rest:List cx}
def YT(t u:TT):TT:=λσ H Q=>t σ H λc H1=>if c=true then u σ H1 Q else Q false H1
def tOr(t u:TT):TT:=λσ H Q=>t σ H λc H1=>if c=true then Q true H1 else u σ H1 Q
def YV(t:TT):TT:=λσ H Q=>t σ H λc H1=>Q (!c) H1
theorem pw_and1(ha:PT X a tA):PW X (.BoolOp .And [a] pos) tA:=by
 intro wh pins s σ H Q I h;refine isTrue_and (g8 (ha pins s σ H Q I h) λc s1 e=>?_)
 cases c with
 |true=>exact isTrue_and_nil e
 |false=>exact e
theorem pw_or1(ha:PT X a tA):PW X (.BoolOp .Or [a] pos) tA:=by
 intro wh pins s σ H Q I h;refine isTrue_or (g8 (ha pins s σ H Q I h) λc s1 e=>?_)
 cases c with
 |false=>exact isTrue_or_nil e
 |true=>exact e
theorem pw_and(ha:PT X a tA)(hb:PW X (.BoolOp .And (b::rest) pos) XG):PW X (.BoolOp .And (a::b::rest) pos) (YT tA XG):=by
 intro wh pins s σ H Q I h;refine isTrue_and (g8 (ha pins s σ H _ I h) λc s1 ⟨H1,I1,q1⟩=>?_)
 cases c with
 |true=>exact hb wh pins s1 σ H1 Q I1 q1
 |false=>exact⟨H1,I1,q1⟩
theorem pw_or(ha:PT X a tA)(hb:PW X (.BoolOp .Or (b::rest) pos) XG):PW X (.BoolOp .Or (a::b::rest) pos) (tOr tA XG):=by
 intro wh pins s σ H Q I h;refine isTrue_or (g8 (ha pins s σ H _ I h) λc s1 ⟨H1,I1,q1⟩=>?_)
 cases c with
 |true=>exact⟨H1,I1,q1⟩
 |false=>exact hb wh pins s1 σ H1 Q I1 q1
theorem FL(ha:PT X a tA):PT X (.UnaryOp .Not a pos) (YV tA):=by
 intro pins s σ H Q I h;exact isTrue_not (ha pins s σ H (λc H1=>Q (!c) H1) I h)
def UK(ta tb:TE):TE:=λσ H Q=>ta σ H λx H1=>∃c,x=.bl c/\if c=true then tb σ H1 Q else Q (.bl false) H1
def YW(ta tb:TE):TE:=λσ H Q=>ta σ H λx H1=>∃c,x=.bl c/\if c=true then Q (.bl true) H1 else tb σ H1 Q
def UL(ta:TE):TE:=λσ H Q=>ta σ H λx H1=>∃c,x=.bl c/\Q (.bl (!c)) H1
theorem Rz{op}(h:PE X a t):PE X (.BoolOp op [a] pos) t:=λpins s σ H Q I hw=>BoolOp_one (h pins s σ H Q I hw)
theorem Kx(ha:PE X a ta)(hb:PE X (.BoolOp .And (b::rest) pos) tb):PE X (.BoolOp .And (a::b::rest) pos) (UK ta tb):=by
 intro pins s σ H Q I h;refine BoolOp_and (g8 (ha pins s σ H _ I h) λv s1 ⟨x,H1,I1,r1,q1⟩=>?_)
 obtain⟨c,rfl,q1⟩:=q1;cases r1;refine fW ?_
 cases c with
 |true=>exact hb pins s1 σ H1 Q I1 q1
 |false=>exact⟨.bl false,H1,I1,rfl,q1⟩
theorem Qh(ha:PE X a ta)(hb:PE X (.BoolOp .Or (b::rest) pos) tb):PE X (.BoolOp .Or (a::b::rest) pos) (YW ta tb):=by
 intro pins s σ H Q I h;refine BoolOp_or (g8 (ha pins s σ H _ I h) λv s1 ⟨x,H1,I1,r1,q1⟩=>?_)
 obtain⟨c,rfl,q1⟩:=q1;cases r1;refine fW ?_
 cases c with
 |false=>exact hb pins s1 σ H1 Q I1 q1
 |true=>exact⟨.bl true,H1,I1,rfl,q1⟩
theorem RA(ha:PE X a ta):PE X (.UnaryOp .Not a pos) (UL ta):=by
 intro pins s σ H Q I h;refine UnaryOp_ (g8 (ha pins s σ H _ I h) λv s1 ⟨x,H1,I1,r1,q1⟩=>?_)
 obtain⟨c,rfl,q1⟩:=q1;cases r1;exact not_of (fW ⟨.bl (!c),H1,I1,rfl,q1⟩)
def tIf(t:TT)(ta tb:TE):TE:=λσ H Q=>t σ H λc H1=>if c=true then ta σ H1 Q else tb σ H1 Q
theorem Ky(hc:PT X c tA)(ha:PE X a ta)(hb:PE X b tb):PE X (.IfExp c a b pos) (tIf tA ta tb):=by
 intro pins s σ H Q I h;refine wpAny_IfExp (g8 (hc pins s σ H _ I h) λd s1 ⟨H1,I1,q1⟩=>?_)
 cases d with
 |true=>exact ha pins s1 σ H1 Q I1 q1
 |false=>exact hb pins s1 σ H1 Q I1 q1
end
def mJ(K:au)(H:Hp)(a:aR)(xs:List V):Prop:=
 Rd H a (.lst xs)\/
  ∃(o:Obj)(its:Array aG)(n:Nat),K.lookup a=some o/\o.cls=.type "list"/\o.dict=none/\o.data=.seq its n/\its.size<=sizeLine/\eO xs its.toList
def rF(K:au)(H:Hp)(a:aR)(xs:List V):Prop:=
 Rd H a (.tup xs)\/
  ∃(o:Obj)(its:Array aG)(n:Nat),K.lookup a=some o/\o.cls=.type "tuple"/\o.data=.seq its n/\its.size<=sizeLine/\eO xs its.toList
def YX:aG->Option V
 | .none=>some .non
 | .bool b=>some (.bl b)
 | .int i _=>some (.int i)
 | .str x _=>some (.str x)
 | .bytes b _=>some (.T8 b)
 | .float b _=>some (.flt b)
 | .ref a=>some (.ref a)
 | .type n=>some (.ty n)
 |_=>none
theorem RelV.abs{x:V}(r:RelV x u):YX u=some x:=by
 cases x with
 |non=>cases r;rfl
 |bl _=>cases r;rfl
 |int _=>obtain⟨t,rfl⟩:=r;rfl
 |str _=>obtain⟨t,rfl⟩:=r;rfl
 |T8 _=>obtain⟨t,rfl⟩:=r;rfl
 |flt _=>obtain⟨t,rfl⟩:=r;rfl
 |ref _=>cases r;rfl
 |ty _=>cases r;rfl
theorem RelV.inj{x y:V}(r:RelV x u)(q:RelV y u):x=y:=dC (r.abs.symm.trans q.abs)
theorem eO.inj:∀{xs ys:List V}{us:List aG},eO xs us->eO ys us->xs=ys
 |_,_,_,.nil,.nil=>rfl
 |_,_,_,.cons r t,.cons r' t'=>by rw[r.inj r',eO.inj t t']
section
variable{X:Cx}{pins:List (aR×Obj)}{σ:St}{H:Hp}{s:aU}{a:aR}{xs ys:List V}
theorem mJ.of(h:H a=some (.lst xs)):mJ K H a xs:=.inl (.inl h)
theorem rF.of(h:H a=some (.tup xs)):rF K H a xs:=.inl (.inl h)
theorem Inv.list(I:Inv X pins σ H s)(h:mJ X.K H a xs):∃its:List aG,eO xs its/\PlainL s.heap a its.toArray/\xs.length<=sizeLine:=by
 rcases h with h|⟨o,its,n,hk,hc,hd,hs,hz,r⟩
 ·obtain⟨z,its,n,r,e⟩:=h.ok I.hok
  exact⟨its,r,⟨_,n,e,rfl,rfl,rfl⟩,z⟩
 ·refine⟨its.toList,r,⟨o,n,I.vA a o hk,hc,hd,by simpa using hs⟩,?_⟩
  have e:=r.length;simp only[df]at e;omega
theorem Inv.tuple(I:Inv X pins σ H s)(h:rF X.K H a xs):∃its:List aG,eO xs its/\IsTup s.heap a its.toArray/\xs.length<=sizeLine:=by
 rcases h with h|⟨o,its,n,hk,hc,hs,hz,r⟩
 ·obtain⟨z,its,r,p⟩:=h.ok I.hok
  exact⟨its,r,p,z⟩
 ·refine⟨its.toList,r,⟨o,I.vA a o hk,hc,n,by simpa using hs⟩,?_⟩
  have e:=r.length;simp only[df]at e;omega
theorem Inv.yZ(I:Inv X pins σ H s)(h:mJ X.K H a xs)(h':mJ X.K H a ys):xs=ys:=by
 obtain⟨its,r,⟨o,n,e,_,_,d⟩,_⟩:=I.list h;obtain⟨its',r',⟨o',n',e',_,_,d'⟩,_⟩:=I.list h';rw[e]at e';cases e';rw[d]at d'
 injection d' with d1 _
 have:its=its':=by simpa using qQ6 Array.toList d1
 subst this;exact r.inj r'
theorem Inv.Bb(I:Inv X pins σ H s)(h:rF X.K H a xs)(h':rF X.K H a ys):xs=ys:=by
 obtain⟨its,r,⟨o,e,_,n,d⟩,_⟩:=I.tuple h;obtain⟨its',r',⟨o',e',_,n',d'⟩,_⟩:=I.tuple h';rw[e]at e';cases e';rw[d]at d'
 injection d' with d1 _
 have:its=its':=by simpa using qQ6 Array.toList d1
 subst this;exact r.inj r'
end
abbrev Cx.wish(X:Cx)(E:aG->aU->Prop):Cx:={ X with xe:=E }
abbrev Cx.Km(X:Cx):Cx:=X.wish λ_ _=>False
theorem Cx.Ok.wish(ok:X.Ok)(E:aG->aU->Prop):(X.wish E).Ok:=
 ⟨ok.mod,ok.kind,ok.glob,ok.blt,ok.above,ok.inj,ok.has,ok.cab,ok.hd,ok.frames,ok.stk,ok.XE,ok.bs,ok.Ni,ok.FH,ok.Jc,ok.rP,ok.Ku⟩
theorem Cx.Ok.sH(ok:(X.wish E).Ok):X.Ok:=
 ⟨ok.mod,ok.kind,ok.glob,ok.blt,ok.above,ok.inj,ok.has,ok.cab,ok.hd,ok.frames,ok.stk,ok.XE,ok.bs,ok.Ni,ok.FH,ok.Jc,ok.rP,ok.Ku⟩
section
variable{X:Cx}{pins:List (aR×Obj)}{σ:St}{H:Hp}{s:aU}{E:aG->aU->Prop}
theorem Inv.wish(I:Inv X pins σ H s)(E:aG->aU->Prop):Inv (X.wish E) pins σ H s:=⟨I.ok.wish E,I.os,I.bare,I.base,I.loc,I.cell,I.free,I.pj,I.pin,I.hok,I.len⟩
theorem Inv.sH(I:Inv (X.wish E) pins σ H s):Inv X pins σ H s:=⟨I.ok.sH,I.os,I.bare,I.base,I.loc,I.cell,I.free,I.pj,I.pin,I.hok,I.len⟩
theorem SP.sH{D:Ends}{f:Flow}(h:SP (X.wish E) pins D f s'):SP X pins D f s':=by
 cases f with
 |next=>obtain⟨σ',H',I,q⟩:=h;exact⟨σ',H',I.sH,q⟩
 |brk=>obtain⟨σ',H',I,q⟩:=h;exact⟨σ',H',I.sH,q⟩
 |cont=>obtain⟨σ',H',I,q⟩:=h;exact⟨σ',H',I.sH,q⟩
 |ret u=>obtain⟨v,σ',H',I,r,q⟩:=h;exact⟨v,σ',H',I.sH,r,q⟩
theorem HJ.Km{st:List jq}{t:TS}(h:HJ X.Km st t):HJ X st t:=λpins s σ H D I hw=>
 fq (h pins s σ H D (I.wish _) hw) (λ_ _ q=>q.sH) λ_ _ z=>fu z
end
section
variable{X:Cx}{st:jq}{rest:List jq}{t u:TS}{e:cx}{te:TE}{pos:Pos}
def UM:TS:=λD σ H=>D.nx σ H
def YY(t u:TS):TS:=λD σ H=>t { D with nx:=u D } σ H
theorem Cv:HJ X [] UM:=λ_ _ σ H _ I h=>DS ⟨σ,H,I,h⟩
theorem lN(h1:PS X st t)(h2:HJ X rest u):HJ X (st::rest) (YY t u):=by
 intro pins s σ H D I h;refine B9 (g8 (h1 pins s σ H { D with nx:=u D } I h) λf s1 q=>?_)
 cases f with
 |next=>
  obtain⟨σ',H',I',q⟩:=q;exact h2 pins s1 σ' H' D I' q
 |ret v=>exact q
 |brk=>exact q
 |cont=>exact q
theorem yq(h1:PS X st t):HJ X [st] t:=by
 intro pins s σ H D I h;refine B9 (g8 (h1 pins s σ H D I h) λf s1 q=>?_)
 cases f with
 |next=>exact DS q
 |ret v=>exact q
 |brk=>exact q
 |cont=>exact q
theorem Inv.quiet(I:Inv X pins σ H s):interactive X.env=false:=by simp[interactive,I.ok.kind]
def UN(te:TE):TS:=λD σ H=>te σ H λ_ H1=>D.nx σ H1
theorem qJ(he:PE X e te)(hs:swapsWith e none pos.line X.env=pure false:=by rfl):PS X (.Expr e pos) (UN te):=by
 intro pins s σ H D I h;exact wpAny_Expr_any (g8 (he pins s σ H _ I h) λv s1 ⟨x,H1,I1,r1,q1⟩=>⟨σ,H1,I1,q1⟩) I.quiet hs
def YZ(te:TE):TS:=λD σ H=>te σ H D.rt
theorem y0(he:PE X e te):PS X (.Return (some e) pos) (YZ te):=by
 intro pins s σ H D I h;exact wpAny_Return_some (g8 (he pins s σ H _ I h) λv s1 ⟨x,H1,I1,r1,q1⟩=>⟨x,σ,H1,I1,r1,q1⟩)
def Y0(c:TT)(t u:TS):TS:=λD σ H=>c σ H λb H1=>if b=true then t D σ H1 else u D σ H1
theorem Bc{a b:List jq}{tc:TT}(hc:PT X c tc)(ha:HJ X a t)(hb:HJ X b u):PS X (.If c a b pos) (Y0 tc t u):=by
 intro pins s σ H D I h;refine wpAny_If (g8 (hc pins s σ H _ I h) λd s1 ⟨H1,I1,q1⟩=>?_)
 cases d with
 |true=>exact ha pins s1 σ H1 D I1 q1
 |false=>exact hb pins s1 σ H1 D I1 q1
def RB:TS:=λ_ _ _=>False
theorem mK{sts:List jq}:HJ X sts RB:=λ_ _ _ _ _ _ h=>h.elim
end
abbrev TG:=V->St->Hp->(St->Hp->Prop)->Prop
abbrev Qi:=List V->St->Hp->(St->Hp->Prop)->Prop
def PG(X:Cx)(target:cx)(t:TG):Prop:=
 ∀(pins:List (aR×Obj))(s:aU)(σ:St)(H:Hp)(v:V)(u:aG)(Q:St->Hp->Prop),Inv X pins σ H s->RelV v u->t v σ H Q->
  wpAny (model X.prog X.w) X.A (assign target X.env u) (λ_ s'=>∃σ' H',Inv X pins σ' H' s'/\Q σ' H') X.xe s
def XH(X:Cx)(ts:List cx)(t:Qi):Prop:=
 ∀(pins:List (aR×Obj))(s:aU)(σ:St)(H:Hp)(vs:List V)(us:List aG)(Q:St->Hp->Prop),Inv X pins σ H s->eO vs us->t vs σ H Q->
  wpAny (model X.prog X.w) X.A (assignInOrder ((assignEach ts X.env).map (·.2)) us) (λ_ s'=>∃σ' H',Inv X pins σ' H' s'/\Q σ' H') X.xe s
section
variable{X:Cx}{pos:Pos}
def Bd(i:Nat):TG:=λv σ H Q=>Q (σ.set i (some v)) H
theorem bP{i:Nat}{x:Str}(hN:X.N.Nodup)(hi:X.N[i]?=some x)(hx:Loc X.env.scope x)(hf:X.fn x=true\/X.env.scope.names.lookup x=some .local:=by first|exact .inl rfl|exact .inr rfl|assumption):PG X (.Name x pos) (Bd i):=by
 intro pins s σ H v u Q I r h;exact wpAny_assign_Name (ng I hN hi hx r (λs' I'=>⟨_,H,I',h⟩) hf)
def UO:Qi:=λvs σ H Q=>vs=[]/\Q σ H
def Qj(t:TG)(u:Qi):Qi:=λvs σ H Q=>∃v r,vs=v::r/\t v σ H λσ' H'=>u r σ' H' Q
theorem fP:XH X [] UO:=by
 intro pins s σ H vs us Q I r h;obtain⟨e,h⟩:=h;subst e;cases r;exact Ay ⟨σ,H,I,h⟩
theorem b_{t:TG}{u:Qi}(h1:PG X e t)(h2:XH X es u)
  (hs:(assignEach (e::es) X.env).map (·.2)=assign e X.env::(assignEach es X.env).map (·.2):=by rfl):XH X (e::es) (Qj t u):=by
 intro pins s σ H vs us Q I r h;obtain⟨v,vr,e1,h⟩:=h;subst e1;cases r with
 |cons r rr=>
  rw[hs];refine j5 (g8 (h1 pins s σ H _ _ _ I r h) λ_ s1 ⟨σ1,H1,I1,q1⟩=>?_)
  exact h2 pins s1 σ1 H1 _ _ Q I1 rr q1
def UQ(K:au)(n:Nat)(t:Qi):TG:=λv σ H Q=>∃a xs,v=.ref a/\rF K H a xs/\xs.length=n/\t xs σ H Q
theorem ik{t:Qi}{n:Nat}(hc:X.calm=true)(h:XH X es t)
  (hn:(assignEach es X.env).length=n:=by rfl)(Fq:(assignEach es X.env).findIdx? (·.1)=none:=by rfl):PG X (.Tuple es k pos) (UQ X.K n t):=by
 intro pins s σ H v u Q I r hw;obtain⟨a,xs,e1,hq,hl,hw⟩:=hw;subst e1;cases r;obtain⟨its,rv,ht,hz⟩:=I.tuple hq;refine assign_Tuple_tuple (I.ok.hd hc) ht (by simp[hn,<-hl,rv.length]) Fq λh' hx=>?_
 have I1:Inv X pins σ H { s with heap:=h' }:=I.kept (t':=s.toks) λb o e=>hx b o (bu (a9 e)) e
 exact h pins _ σ H xs _ Q I1 (by simpa using rv) hw
def RC(te:TE)(g:TG):TS:=λD σ H=>te σ H λx H1=>g x σ H1 D.nx
theorem RD{te:TE}{g:TG}(he:PE X e te)(hg:PG X tg g)(hs:swapsWithSole [tg] e pos.line X.env=pure false:=by rfl)(hw:swappedStores [tg] e X.env=pure none:=by rfl)
  (h1:(assignEach [tg] X.env).map (·.2)=[assign tg X.env]:=by rfl):PS X (.Assign [tg] e pos) (RC te g):=by
 intro pins s σ H D I h;refine wpAny_Assign_stores (g8 (he pins s σ H _ I h) λv s1 ⟨x,H1,I1,r1,q1⟩=>?_) hs hw
 rw[h1];exact g8 (hg pins s1 σ H1 x v _ I1 r1 q1) λ_ s2 q=>q
theorem wN{i:Nat}{x:Str}{te:TE}{pos':Pos}(hN:X.N.Nodup)(hi:X.N[i]?=some x)(hx:Loc X.env.scope x)(he:PE X e te)(hs:swapsWith e (some (.Name x pos')) pos.line X.env=pure false:=by rfl)(hf:X.fn x=true\/X.env.scope.names.lookup x=some .local:=by first|exact .inl rfl|exact .inr rfl|assumption):
  PS X (.Assign [.Name x pos'] e pos) (RC te (Bd i)):=by
 intro pins s σ H D I h;refine wpAny_Assign_Name (g8 (he pins s σ H _ I h) λv s1 ⟨y,H1,I1,r1,q1⟩=>?_) hs
 exact ng I1 hN hi hx r1 (λs2 I2=>⟨_,H1,I2,q1⟩) hf
def Y1(i j:Nat)(ta:TA):TS:=λD σ H=>ta σ H λvs H1=>∃v w,vs=[v,w]/\D.nx ((σ.set i (some v)).set j (some w)) H1
theorem Kz{i j:Nat}{x y:Str}{a b:cx}{ta:TA}{px py pt:Pos}{kt k2 FN}(hc:X.calm=true)(hN:X.N.Nodup)(hi:X.N[i]?=some x)(hj:X.N[j]?=some y)(yr:i≠j)
  (hx:X.env.scope.names.lookup x=some .local)(hy:X.env.scope.names.lookup y=some .local)(ha:PA X [a,b] ta)
  (hw:swappedStores [.Tuple [.Name x px,.Name y py] kt pt] (.Tuple [a,b] k2 FN) X.env=pure (some [x,y]))
  (hs:swapsWithSole [.Tuple [.Name x px,.Name y py] kt pt] (.Tuple [a,b] k2 FN) pos.line X.env=pure false:=by rfl):
  PS X (.Assign [.Tuple [.Name x px,.Name y py] kt pt] (.Tuple [a,b] k2 FN) pos) (Y1 i j ta):=by
 intro pins s σ H D I h;rw[exec_Assign_arm];refine av (oU ?_)
 rw[hs];refine av (a_ ?_)
 rw[qQ2 (by decide)]
 refine av (Tuple_ (g8 (ha _ pins s σ H _ I h) λus s1 ⟨vs,H1,I1,r1,q1⟩=>?_))
 obtain⟨v,w,e1,q1⟩:=q1;subst e1;obtain⟨u1,u2,rfl,rv,rR⟩:∃u1 u2,us=[u1,u2]/\RelV v u1/\RelV w u2:=by
  cases r1 with
  |cons p q=>
   cases q with
   |cons p' q'=>
    cases q';exact⟨_,_,rfl,p,p'⟩
 refine fw ?_ (by show 2<=sizeLine;decide)
 have I2:Inv X pins σ H1 { s1 with heap:=s1.heap.push { cls:=.type "tuple",data:=.seq [u1,u2].toArray } }:=I1.kept (t':=s1.toks) λb o e=>aF _ e
 rw[hw];refine av (a_ ?_)
 show wpAny (model X.prog X.w) X.A (do rule "assign.swapped-stores";let items <-unpackItems (.ref s1.heap.objs.size) 2 none;assignInOrder [λv=>bindName X.env y v,λv=>bindName X.env x v] items.reverse;pure DT) _ _ _
 refine av (yN (av (unpackItems_tuple (items:=#[u1,u2]) (I.ok.hd hc) (uy s1.heap _) λh' Y2=>?_)))
 have I3:=I2.kept (h':=h') (t':=s1.toks) λb o e=>Y2 b o (bu (a9 e)) e
 show wpAny _ _ (assignInOrder [λv=>bindName X.env y v,λv=>bindName X.env x v] [u2,u1] >>= λ_=>pure DT) _ _ _
 refine av (j5 (qH (ng I3 hN hj (.inl hy) rR (λs2 I4=>?_) (.inr hy))))
 refine j5 (qH (ng I4 hN hi (.inl hx) rv (λs3 I5=>Ay (a_ ?_)) (.inr hx)))
 rw[vD _ _ (bY yr)]at I5;exact⟨_,H1,I5,q1⟩
end
section
variable{X:Cx}{pos:Pos}
end
structure It where
 go:Nat->Hp->Prop
 UR:Nat->Hp->V->Hp->Prop
 stop:Nat->Hp->Prop
def vK(X:Cx)(pins:List (aR×Obj))(H:Hp)(b:aR):Prop:=
 H b=none/\b≠X.env.locals/\b∉X.fs/\(b∈X.ex\/X.s₀.heap.objs.size<=b)/\(∀x c,X.env.cells.lookup x=some c->c≠b)/\∀p∈X.pn++pins,p.1≠b
theorem Inv.AJ{H': Hp}{b:aR}(I:Inv X pins σ H s)(hb:s.heap.objs.size<=b)(hn:H' b=none):vK X pins H' b:=by
 refine⟨hn,fG (bW I.lt hb),I.YL hb,.inr (cj I.sz hb),λx c e z=>?_,λp hp z=>?_⟩
 ·obtain⟨v,q⟩:=I.cell x c e
  exact qQ7 (bW q.lt (by rw[z];exact hb)) (jt _)
 ·exact qQ7 (bW (a9 (I.pin p hp).1) (by rw[z];exact hb)) (jt _)
structure Turn(P:bL)(w:cH)(K:au)(tg:cx)(J:It)(fp:List aR)(it:aR)(tn:Nat->dw->Prop):Prop where
 mem:it∈fp
 obj:∀i h,tn i h->∀b∈fp,∃o,h.get? b=some o/\∀v,o.data≠.cell v
 keep:∀i h h',tn i h->(∀b∈fp,∀o,h.get? b=some o->h'.get? b=some o)->tn i h'
 item:∀(X:Cx),X.prog=P->X.w=w->X.K=K->X.calm=true->∀(i:Nat)(pins:List (aR×Obj))(s:aU)(σ:St)(H:Hp)(E:aG->aU->Prop),Inv X pins σ H s->(∀b∈fp,vK X pins H b)->tn i s.heap->J.go i H->
  wpAny (model P w) X.A (pyNext (.ref it)) (λr s1=>∃u,r=some u/\
   wpAny (model P w) X.A (letOwnedTupleGo tg (.ref it) u) (λ_ s2=>∃x H',Inv X pins σ H' s2/\RelV x u/\J.UR i H x H'/\tn (i+1) s2.heap/\∀b∈fp,H' b=none) E s1) E s
 done:∀(X:Cx),X.prog=P->X.w=w->X.K=K->X.calm=true->∀(i:Nat)(pins:List (aR×Obj))(s:aU)(σ:St)(H:Hp)(E:aG->aU->Prop),Inv X pins σ H s->(∀b∈fp,vK X pins H b)->tn i s.heap->J.stop i H->
  wpAny (model P w) X.A (pyNext (.ref it)) (λr s1=>r=none/\Inv X pins σ H s1) E s
 self:∀(A:ef)(i:Nat)(s:aU)(Q:aG->aU->Prop)(E:aG->aU->Prop),tn i s.heap->Q (.ref it) s->wpAny (model P w) A (pyIter (.ref it)) Q E s
abbrev TI:=St->Hp->(It->Hp->Prop)->Prop
def Y3(X:Cx)(pins:List (aR×Obj))(σ:St)(tg:cx)(R:It->Hp->Prop)(XI:aG)(s2:aU):Prop:=
 ∃(it:aR)(fp:List aR)(tn:Nat->dw->Prop)(J:It)(H':Hp),XI=.ref it/\Inv X pins σ H' s2/\Turn X.prog X.w X.K tg J fp it tn/\tn 0 s2.heap/\(∀b∈fp,vK X pins H' b)/\R J H'
def PI(X:Cx)(tg iter:cx)(wi:TI):Prop:=
 ∀(pins:List (aR×Obj))(s:aU)(σ:St)(H:Hp)(R:It->Hp->Prop),Inv X pins σ H s->wi σ H R->
  wpAny (model X.prog X.w) X.A (eval iter X.env) (λv s1=>wpAny (model X.prog X.w) X.A (pyIter v) (Y3 X pins σ tg R) X.xe s1) X.xe s
theorem HK{n:String}{vs:Array aG}{Q:Unit->aU->Prop}(ho:s.heap.get? it=some o)(hc:o.cls=.type n)(hd:o.data=.fields vs)
    (hn:["enumerate","zip","dict_itemiterator","dict_reverseitemiterator","odict_iterator","itertools.zip_longest","itertools.pairwise"].contains n=false)(hQ:Q () s):wpAny M A (letOwnedTupleGo tg (.ref it) u) Q E s:=by
  unfold letOwnedTupleGo;cases tg<;>first
    | exact a_ hQ
    | (cases u<;>first
        | exact a_ hQ
        | (refine av (wpAny_load ho ?_)
           rw[hc,hd];show wpAny M A (if(["enumerate","zip","dict_itemiterator","dict_reverseitemiterator","odict_iterator","itertools.zip_longest","itertools.pairwise"].contains n&&vs[0]?==some (rawInt _))=true then _ else _) Q E s
           rw[qQ2 (by intro h;rw[hn,Bool.false_and]at h;cases h)]
           exact a_ hQ))
def Itl(K:au)(a:aR):It:=
 ⟨λi H=>∃xs x,mJ K H a xs/\xs[i]?=some x,λi H x H'=>H'=H/\∀xs,mJ K H a xs->xs[i]?=some x,λi H=>∃xs,mJ K H a xs/\xs.length<=i⟩
def Itt(K:au)(a:aR):It:=
 ⟨λi H=>∃xs x,rF K H a xs/\xs[i]?=some x,λi H x H'=>H'=H/\∀xs,rF K H a xs->xs[i]?=some x,λi H=>∃xs,rF K H a xs/\xs.length<=i⟩
def Y4(lo:Int)(n:Nat):It:=⟨λi _=>i<n,λi H x H'=>H'=H/\x=.int (lo+i),λi _=>n<=i⟩
theorem Jd(a it:aR):Turn P w K tg (Itl K a) [it] it (λi h=>h.IsListIter it a i) where
 mem:=by simp
 obj:=λi h st b hb=>by
  have e:b=it:=by simpa using hb
  subst e;obtain⟨o,e,c,d⟩:=st;exact⟨o,e,λv z=>by rw[d]at z;cases z⟩
 keep:=λi h h' st k=>st.at λo e=>k it (by simp) o e
 item:=by
  intro X hP hw hK hc i pins s σ H E I hf st hg;subst hP hw hK;obtain⟨xs,x,hq,hx⟩:=hg;obtain⟨its,rv,p,hz⟩:=I.list hq;obtain⟨u,hu,ru⟩:=rv.get hx;obtain⟨f0,f1,f2,f3,f4,f5⟩:=hf it (by simp)
  refine wpAny_pyNext_list_item st p.isList (x:=u) (by simpa using hu) λh' AK sb=>?_
  have I1:Inv X pins σ H { s with heap:=h' }:=I.turned (t':=s.toks) (λb o hb e=>(sb.2 b hb).trans e) f0 f1 f3 f4 f5
  obtain⟨o,e,c,d⟩:=id AK;exact⟨u,rfl,HK (s:={ s with heap:=h' }) e c d (by decide) ⟨x,H,I1,ru,⟨rfl,λys hy=>by rw[I.yZ hy hq];exact hx⟩,AK,λb hb=>(hf b hb).1⟩⟩
 done:=by
  intro X hP hw hK hc i pins s σ H E I hf st hg;subst hP hw hK;obtain⟨xs,hq,hx⟩:=hg;obtain⟨its,rv,p,hz⟩:=I.list hq;obtain⟨f0,f1,f2,f3,f4,f5⟩:=hf it (by simp)
  have hl:=rv.length;exact wpAny_pyNext_list_end (I.ok.hd hc) st p.isList (by simp;omega) λh' eb=>⟨rfl,I.turned (t':=s.toks) (λb o hb e=>eb b o hb e) f0 f1 f3 f4 f5⟩
 self:=λ_ _ _ _ _ st h=>wpAny_pyIter_listiter st h
theorem FP(a it:aR):Turn P w K tg (Itt K a) [it] it (λi h=>h.IsTupleIter it a i) where
 mem:=by simp
 obj:=λi h st b hb=>by
  have e:b=it:=by simpa using hb
  subst e;obtain⟨o,e,c,d⟩:=st;exact⟨o,e,λv z=>by rw[d]at z;cases z⟩
 keep:=λi h h' st k=>st.at λo e=>k it (by simp) o e
 item:=by
  intro X hP hw hK hc i pins s σ H E I hf st hg;subst hP hw hK;obtain⟨xs,x,hq,hx⟩:=hg;obtain⟨its,rv,p,hz⟩:=I.tuple hq;obtain⟨u,hu,ru⟩:=rv.get hx;obtain⟨f0,f1,f2,f3,f4,f5⟩:=hf it (by simp)
  refine wpAny_pyNext_tuple_item st (show s.heap.IsTuple a its.toArray from p) (x:=u) (by simpa using hu) λh' AK sb=>?_
  have I1:Inv X pins σ H { s with heap:=h' }:=I.turned (t':=s.toks) (λb o hb e=>(sb.2 b hb).trans e) f0 f1 f3 f4 f5
  obtain⟨o,e,c,d⟩:=id AK;exact⟨u,rfl,HK (s:={ s with heap:=h' }) e c d (by decide) ⟨x,H,I1,ru,⟨rfl,λys hy=>by rw[I.Bb hy hq];exact hx⟩,AK,λb hb=>(hf b hb).1⟩⟩
 done:=by
  intro X hP hw hK hc i pins s σ H E I hf st hg;subst hP hw hK;obtain⟨xs,hq,hx⟩:=hg;obtain⟨its,rv,p,hz⟩:=I.tuple hq;obtain⟨f0,f1,f2,f3,f4,f5⟩:=hf it (by simp)
  have hl:=rv.length;exact wpAny_pyNext_tuple_end (I.ok.hd hc) st (show s.heap.IsTuple a its.toArray from p) (by simp;omega) λh' eb=>⟨rfl,I.turned (t':=s.toks) (λb o hb e=>eb b o hb e) f0 f1 f3 f4 f5⟩
 self:=λ_ _ _ _ _ st h=>wpAny_pyIter_tupleiter st h
theorem FQ(it:aR)(lo:Int)(n:Nat):Turn P w K tg (Y4 lo n) [it] it (λi h=>IsRangeIter h it (lo+(i:Nat)*1) ((n:Int)-(i:Nat)) 1) where
 mem:=by simp
 obj:=λi h st b hb=>by
  have e:b=it:=by simpa using hb
  subst e;exact⟨_,st,λv z=>by
   have z':Data.fields _=Data.cell v:=z;cases z'⟩
 keep:=λi h h' st k=>k it (by simp) _ st
 item:=by
  intro X hP hw hK hc i pins s σ H E I hf st hg;subst hP hw hK;obtain⟨f0,f1,f2,f3,f4,f5⟩:=hf it (by simp)
  have W:=Walks.range (prog:=X.prog) (w:=X.w) (I.ok.hd hc) it lo 1 n;refine W.item i s _ _ hg st λv h' tk hv AK kk=>?_
  obtain⟨t,rfl⟩:=hv;have I1:Inv X pins σ H { s with heap:=h',toks:=tk }:=I.turned (λb o hb e=>kk b o (by simpa using hb) e) f0 f1 f3 f4 f5
  refine⟨_,rfl,HK (s:={ s with heap:=h',toks:=tk }) (n:="range_iterator") AK rfl rfl (by decide) ⟨.int (lo+i),H,I1,⟨t,?_⟩,⟨rfl,rfl⟩,AK,λb hb=>(hf b hb).1⟩⟩
  rw[Int.mul_one]
 done:=by
  intro X hP hw hK hc i pins s σ H E I hf st hg;subst hP hw hK;obtain⟨f0,f1,f2,f3,f4,f5⟩:=hf it (by simp)
  exact wpAny_pyNext_range_end (I.ok.hd hc) st (by have:n<=i:=hg;omega) λh' eb=>⟨rfl,I.turned (t':=s.toks) (λb o hb e=>eb b o hb e) f0 f1 f3 f4 f5⟩
 self:=λ_ _ _ _ _ st h=>wpAny_pyIter_rangeiter st h
section
variable{X:Cx}{tg:cx}
def UT(K:au)(tl:TE):TI:=λσ H R=>tl σ H λx H1=>∃a,x=.ref a/\(∃xs,mJ K H1 a xs)/\R (Itl K a) H1
def Y5(K:au)(tl:TE):TI:=λσ H R=>tl σ H λx H1=>∃a,x=.ref a/\(∃xs,rF K H1 a xs)/\R (Itt K a) H1
theorem NR{l:cx}{tl:TE}(hl:PE X l tl):PI X tg l (UT X.K tl):=by
 intro pins s σ H R I h;refine g8 (hl pins s σ H _ I h) λv s1 ⟨x,H1,I1,r1,q1⟩=>?_
 obtain⟨a,e,⟨xs,hq⟩,q⟩:=q1;subst e;cases r1;obtain⟨its,rv,p,hz⟩:=I1.list hq;refine rX p.isList ?_
 refine⟨s1.heap.objs.size,[s1.heap.objs.size],_,_,H1,rfl,I1.kept (t':=s1.toks) λb o e=>aF _ e,Jd a _,⟨_,bN _ rfl,rfl,rfl⟩,λb hb=>?_,q⟩
 have e:b=s1.heap.objs.size:=by simpa using hb
 subst e;exact I1.AJ (ay _) (I1.hok.fresh (ay _))
theorem RG{l:cx}{tl:TE}(hl:PE X l tl):PI X tg l (Y5 X.K tl):=by
 intro pins s σ H R I h;refine g8 (hl pins s σ H _ I h) λv s1 ⟨x,H1,I1,r1,q1⟩=>?_
 obtain⟨a,e,⟨xs,hq⟩,q⟩:=q1;subst e;cases r1;obtain⟨its,rv,p,hz⟩:=I1.tuple hq;refine yO (show s1.heap.IsTuple a its.toArray from p) ?_
 refine⟨s1.heap.objs.size,[s1.heap.objs.size],_,_,H1,rfl,I1.kept (t':=s1.toks) λb o e=>aF _ e,FP a _,⟨_,bN _ rfl,rfl,rfl⟩,λb hb=>?_,q⟩
 have e:b=s1.heap.objs.size:=by simpa using hb
 subst e;exact I1.AJ (ay _) (I1.hok.fresh (ay _))
theorem KC{R:It->Hp->Prop}{lo hi:Int}{t u v:Tok}{tk:Nat}(I:Inv X pins σ H s)(h1:-(2^62)<=lo)(h2:lo<2^62)(h3:-(2^62)<=hi)(h4:hi<2^62)
  (q:R (Y4 lo (hi-lo).toNat) H):wpAny (model X.prog X.w) X.A (pyIter (.ref s.heap.objs.size)) (Y3 X pins σ tg R) E { s with heap:=s.heap.push { cls:=.type "range",data:=.fields #[.int lo t,.int hi u,.int 1 v] },toks:=tk }:=by
 refine wpAny_pyIter_range (IsRange.new ..) (small_one h1 h2 h3 h4) ?_
 have I1:Inv X pins σ H { s with heap:=s.heap.push { cls:=.type "range",data:=.fields #[.int lo t,.int hi u,.int 1 v] },toks:=tk }:=I.kept λb o e=>aF _ e
 refine⟨(s.heap.push { cls:=.type "range",data:=.fields #[.int lo t,.int hi u,.int 1 v] }).objs.size,[(s.heap.push { cls:=.type "range",data:=.fields #[.int lo t,.int hi u,.int 1 v] }).objs.size],_,_,H,rfl,
  I1.kept (t':=tk) λb o e=>aF _ e,FQ _ lo (hi-lo).toNat,?_,λb hb=>?_,q⟩
 ·have e1:lo+((0:Nat):Int)*1=lo:=by simp
  have e2:(((hi-lo).toNat:Nat):Int)-((0:Nat):Int)=qf.Range.rangeSize lo hi 1:=by rw[rangeSize_one];split<;>omega
  show IsRangeIter _ _ (lo+((0:Nat):Int)*1) ((((hi-lo).toNat:Nat):Int)-((0:Nat):Int)) 1;rw[e1,e2];exact bN _ rfl
 ·have e:b=(s.heap.push { cls:=.type "range",data:=.fields #[.int lo t,.int hi u,.int 1 v] }).objs.size:=by simpa using hb
  subst e;exact I1.AJ (ay _) (I1.hok.fresh (ay _))
def UU(ta:TA):TI:=λσ H R=>ta σ H λvs H1=>∃j:Int,vs=[.int j]/\-(2^62)<=j/\j<2^62/\R (Y4 0 j.toNat) H1
theorem Je{a:cx}{ta:TA}{p pos:Pos}(hg:Gl X "range")(hm:X.mg "range"=none)(ha:PA X [a] ta)(hs:starEach [a] X.env=[(false,eval a X.env)]:=by rfl):PI X tg (.Call (.Name "range" p) [a] [] pos) (UU ta):=by
 intro pins s σ H R I h;refine Call_ (wM I hg hm boot_range (jD (g8 (ha pos pins s σ H _ I h) λus s1 ⟨vs,H1,I1,r1,q1⟩=>?_) hs rfl))
 obtain⟨j,e,q1,q2,q⟩:=q1;subst e;cases r1 with
 |cons r rr=>
  cases rr;obtain⟨t,rfl⟩:=r;exact call_range_1 (KC I1 (by omega) (by omega) q1 q2 (by simpa using q))
def Y6(wi:TI)(g:TG)(tb:TS):TS:=λD σ H=>wi σ H λJ H1=>∃W:Nat->Nat->St->Hp->Prop,(∃m,W 0 m σ H1)/\∀i m σ H,W i m σ H->
 (J.stop i H/\D.nx σ H)\/(J.go i H/\∃N:St->Hp->Prop,(∀σ' H',N σ' H'->∃m',m'<m/\W (i+1) m' σ' H')/\∀x H',J.UR i H x H'->g x σ H' λσ2 H2=>tb { D with nx:=N,ct:=N,bk:=D.nx } σ2 H2)
def y4(fp:List aR)(h:dw):List (aR×Obj):=fp.filterMap λb=>(h.get? b).map λo=>(b,o)
theorem qK{b:aR}(hb:b∈fp)(e:h.get? b=some o):(b,o)∈y4 fp h:=iT.mpr ⟨b,hb,by rw[e];rfl⟩
theorem Jf{p:aR×Obj}(hp:p∈y4 fp h):p.1∈fp/\h.get? p.1=some p.2:=by
 obtain⟨b,hb,e⟩:=iT.mp hp;cases q:h.get? b with
 |none=>rw[q]at e;cases e
 |some o=>
  rw[q]at e;have e':(b,o)=p:=dC e;subst e';exact⟨hb,q⟩
theorem Inv.pinned(I:Inv X pins σ H s)(hf:∀b∈fp,vK X pins H b)(ho:∀b∈fp,∃o,s.heap.get? b=some o/\∀v,o.data≠.cell v):Inv X (pins++y4 fp s.heap) σ H s:=
 I.HG λp hp=>(bp.mp hp).elim (λz=>I.pin p (bX _ z)) λz=>by
  obtain⟨hb,e⟩:=Jf z;obtain⟨f0,f1,f2,_⟩:=hf p.1 hb;obtain⟨o,e',d⟩:=ho p.1 hb;rw[e]at e';cases e';exact⟨e,f0,f1,f2,d⟩
theorem Inv.sI{pl: List (aR×Obj)}(I:Inv X (pins++pl) σ H s):Inv X pins σ H s:=I.HG λp hp=>I.pin p (bX _ (cq _ hp))
theorem Cw{iter:cx}{wi:TI}{g:TG}{tb:TS}{pos:Pos}(hp:B_ (model X.prog X.w) X.A X.env X.xe)(hc:X.calm=true)(hi:PI X tg iter wi)(hg:PG X tg g)(hb:HJ X body tb)
  (hs:∀x,foldedSetIterable iter X.env x=pure x:=by intro _;rfl):PS X (.For tg iter body [] pos) (Y6 wi g tb):=by
 intro pins s σ H D I h;refine wpAny_For (g8 (hi pins s σ H _ I h) λv s1 h1=>g8 h1 λXI s2 h2=>?_) hs
 obtain⟨it,fp,tn,J,H2,e,I2,T,UW,f2,W,⟨m0,w0⟩,turn⟩:=h2;subst e;have stat:∀{H':Hp},(∀b∈fp,H' b=none)->∀b∈fp,vK X pins H' b:=λhn b hb=>⟨hn b hb,(f2 b hb).2⟩
 refine codeAny_forLoop_any (λn s'=>∃i σ' H',Inv X pins σ' H' s'/\tn i s'.heap/\(∀b∈fp,H' b=none)/\W i n σ' H') ?_ m0 ⟨0,σ,H2,I2,UW,λb hb=>(f2 b hb).1,w0⟩
 rintro n s3 ⟨i,σ3,H3,I3,st3,XJ,w3⟩
 rcases turn i n σ3 H3 w3 with⟨stop,qn⟩|⟨go,N,hN,step⟩
 ·refine pO hp (g8 (T.done X rfl rfl rfl hc i pins s3 σ3 H3 X.xe I3 (stat XJ) st3 stop) λr s4 ⟨hr,I4⟩=>?_)
  subst hr;exact DS ⟨σ3,H3,I4,qn⟩
 ·refine pO hp (g8 (T.item X rfl rfl rfl hc i pins s3 σ3 H3 X.xe I3 (stat XJ) st3 go) λr s4 ⟨u,hr,h4⟩=>?_)
  subst hr;refine pO hp (g8 h4 λ_ s5 ⟨x,H5,I5,r5,y5,Y7,fr5⟩=>?_)
  have I5':=I5.pinned (stat fr5) (T.obj _ _ Y7);refine pO hp (g8 (hg _ s5 σ3 H5 x u _ I5' r5 (step x H5 y5)) λ_ s6 ⟨σ6,H6,I6,q6⟩=>?_)
  refine pO hp (g8 (hb _ s6 σ6 H6 _ I6 q6) λf s7 q7=>?_)
  have again:∀{σ7:St}{H7:Hp},Inv X (pins++y4 fp s5.heap) σ7 H7 s7->N σ7 H7->∃m,m<n/\∃i σ' H',Inv X pins σ' H' s7/\tn i s7.heap/\(∀b∈fp,H' b=none)/\W i m σ' H':=λ{σ7 H7}I7 n7=>by
   obtain⟨m',hm,w7⟩:=hN σ7 H7 n7;refine⟨m',hm,i+1,σ7,H7,I7.sI,T.keep _ _ _ Y7 λb hb o e=>(I7.pin (b,o) (bX _ (bX _ (qK hb e)))).1,λb hb=>?_,w7⟩
   obtain⟨o,e,d⟩:=T.obj _ _ Y7 b hb;exact(I7.pin (b,o) (bX _ (bX _ (qK hb e)))).2.1
  cases f with
  |next=>obtain⟨σ7,H7,I7,n7⟩:=q7;exact again I7 n7
  |cont=>obtain⟨σ7,H7,I7,n7⟩:=q7;exact again I7 n7
  |brk=>obtain⟨σ7,H7,I7,q7⟩:=q7;exact⟨σ7,H7,I7.sI,q7⟩
  |ret v=>obtain⟨x7,σ7,H7,I7,r7,q7⟩:=q7;exact⟨x7,σ7,H7,I7.sI,r7,q7⟩
end
abbrev R2:=V->V->Hp->VK->Prop
variable{r:R2}
def tV(X:Cx)(f:aG->aG->Sem aG)(r:R2):Prop:=
 ∀(pins:List (aR×Obj))(s:aU)(σ:St)(H:Hp)(x y:V)(v u:aG)(Q:VK),Inv X pins σ H s->RelV x v->RelV y u->r x y H Q->
  wpAny (model X.prog X.w) X.A (f v u) (EP X pins σ Q) X.xe s
def kJ(X:Cx)(f:aG)(r:List V->Hp->VK->Prop):Prop:=
 ∀(pins:List (aR×Obj))(s:aU)(σ:St)(H:Hp)(xs:List V)(us:List aG)(Q:VK),Inv X pins σ H s->eO xs us->r xs H Q->
  wpAny (model X.prog X.w) X.A (call f us) (EP X pins σ Q) X.xe s
def Y8(X:Cx)(r:V->Hp->(Bool->Hp->Prop)->Prop):Prop:=
 ∀(pins:List (aR×Obj))(s:aU)(σ:St)(H:Hp)(x:V)(v:aG)(Q:Bool->Hp->Prop),Inv X pins σ H s->RelV x v->r x H Q->
  wpAny (model X.prog X.w) X.A (truthy v) (TP X pins σ Q) X.xe s
def UX(r:R2)(ta tb:TE):TE:=λσ H Q=>ta σ H λx H1=>tb σ H1 λy H2=>r x y H2 Q
def rI(C:Int->Int->Prop)(g:Int->Int->V):R2:=λx y H Q=>∃i j,x=.int i/\y=.int j/\C i j/\Q (g i j) H
def Nj(g:Int->Int->V):R2:=λx y H Q=>∃i j,x=.int i/\y=.int j/\Q (g i j) H
section
variable{X:Cx}{a b c:cx}{ta tb tc:TE}{pos:Pos}
theorem RH(ha:PE X a ta)(hb:PE X b tb)(I:Inv X pins σ H s)
  (h:ta σ H λx H1=>tb σ H1 λy H2=>R x y H2)
  (hf:∀v u s2 x y H2,Inv X pins σ H2 s2->RelV x v->RelV y u->R x y H2->wpAny (model X.prog X.w) X.A (f v u) Q X.xe s2):
  wpAny (model X.prog X.w) X.A (eval a X.env) (λv s₁=>wpAny (model X.prog X.w) X.A (eval b X.env) (λu s₂=>wpAny (model X.prog X.w) X.A (f v u) Q X.xe s₂) X.xe s₁) X.xe s:=by
 refine g8 (ha pins s σ H _ I h) λv s1 ⟨x,H1,I1,r1,q1⟩=>?_
 refine g8 (hb pins s1 σ H1 _ I1 q1) λu s2 ⟨y,H2,I2,r2,q2⟩=>?_
 exact hf v u s2 x y H2 I2 r1 r2 q2
theorem DX{op:Operator}(ho:tV X (binaryOp op) r)(ha:PE X a ta)(hb:PE X b tb):PE X (.BinOp a op b pos) (UX r ta tb):=by
 intro pins s σ H Q I h;exact wpAny_BinOp (RH ha hb I h λv u s2 x y H2 I2 rx ry q=>ho pins s2 σ H2 x y v u Q I2 rx ry q)
theorem Y9{C:Int->Int->Prop}
  (rule:∀(i j:Int)(t u:Tok)(s:aU)(Q:aG->aU->Prop)(E:aG->aU->Prop),C i j->Q (.int (g i j) s.toks) { s with toks:=s.toks+1 }->wpAny (model X.prog X.w) X.A (f (.int i t) (.int j u)) Q E s):
  tV X f (rI C λi j=>.int (g i j)):=by
 intro pins s σ H x y v u Q I rx ry h;obtain⟨i,j,rfl,rfl,hc,q⟩:=h;obtain⟨t,rfl⟩:=rx;obtain⟨t',rfl⟩:=ry;exact rule i j t t' s _ _ hc ⟨.int (g i j),H,I.tok _,⟨_,rfl⟩,q⟩
theorem UY
  (rule:∀(i j:Int)(t u:Tok)(s:aU)(Q:aG->aU->Prop)(E:aG->aU->Prop),Q (.int (g i j) s.toks) { s with toks:=s.toks+1 }->wpAny (model X.prog X.w) X.A (f (.int i t) (.int j u)) Q E s):
  tV X f (Nj λi j=>.int (g i j)):=by
 intro pins s σ H x y v u Q I rx ry h;obtain⟨i,j,rfl,rfl,q⟩:=h;obtain⟨t,rfl⟩:=rx;obtain⟨t',rfl⟩:=ry;exact rule i j t t' s _ _ ⟨.int (g i j),H,I.tok _,⟨_,rfl⟩,q⟩
theorem NS{g:Int->Int->Bool}
  (rule:∀(i j:Int)(t u:Tok)(s:aU)(Q:aG->aU->Prop)(E:aG->aU->Prop),Q (.bool (g i j)) s->wpAny (model X.prog X.w) X.A (f (.int i t) (.int j u)) Q E s):
  tV X f (Nj λi j=>.bl (g i j)):=by
 intro pins s σ H x y v u Q I rx ry h;obtain⟨i,j,rfl,rfl,q⟩:=h;obtain⟨t,rfl⟩:=rx;obtain⟨t',rfl⟩:=ry;exact rule i j t t' s _ _ ⟨.bl (g i j),H,I,rfl,q⟩
def UZ(i j:Int):Prop:=0<j/\j<1073741824
def NT(i j:Int):Prop:=(-(2^64)<i/\i<2^64)\/(-(2^64)<j/\j<2^64)
theorem NT.ok{i j:Int}(h:NT i j):IntMulOk i j:=by
 rcases h with⟨h1,h2⟩|⟨h1,h2⟩
 ·exact .of_left (intBits_le_64 h1 h2)
 ·exact .of_right (intBits_le_64 h1 h2)
theorem RJ:tV X (binaryOp .Add) (Nj λi j=>.int (i+j)):=UY λ_ _ _ _ _ _ _ q=>add_int q
theorem RK:tV X (binaryOp .Sub) (Nj λi j=>.int (i-j)):=UY λ_ _ _ _ _ _ _ q=>sub_int q
theorem RL:tV X (binaryOp .Mult) (rI NT λi j=>.int (i*j)):=Y9 λ_ _ _ _ _ _ _ hc q=>mul_int q hc.ok
theorem NV:tV X (binaryOp .FloorDiv) (rI UZ λi j=>.int (i/j)):=Y9 λi j _ _ _ _ _ hc q=>by
 have h1:(0:Int)<j:=hc.1;have h2:j<1073741824:=hc.2;exact floordiv_int (by omega) (by rw[Int.fdiv_eq_ediv_of_nonneg i (by omega)];exact q) (.inl (PyProof.noPylong_small (by omega)))
theorem RM:tV X (binaryOp .Mod) (rI (λ_ j=>0<j) λi j=>.int (i%j)):=Y9 λi j _ _ _ _ _ hc q=>by
 have h1:(0:Int)<j:=hc;exact mod_int' (by omega) (by rw[Int.fmod_eq_emod_of_nonneg i (by omega)];exact q)
end
section
variable{X:Cx}{a b c:cx}{ta tb tc:TE}{pos:Pos}
theorem KD{Q:VK}{k k':Bool}(I:Inv X pins σ H s)(q:Q (.bl k) H)(e:k=k'):EP X pins σ Q (.bool k') s:=by
 subst e;exact⟨.bl k,H,I,rfl,q⟩
theorem U0:tV X (compareOp .Lt) (Nj λi j=>.bl (decide (i<j))):=NS λ_ _ _ _ _ _ _ q=>lt_int q
theorem HM:tV X (compareOp .LtE) (Nj λi j=>.bl (decide (i<=j))):=NS λ_ _ _ _ _ _ _ q=>le_int q
theorem Qk:tV X (compareOp .Gt) (Nj λi j=>.bl (decide (j<i))):=NS λ_ _ _ _ _ _ _ q=>gt_int q
theorem U1:tV X (compareOp .GtE) (Nj λi j=>.bl (decide (j<=i))):=NS λ_ _ _ _ _ _ _ q=>ge_int q
theorem Jg:tV X (compareOp .In) (λx y H Q=>∃i j,x=.str i/\y=.str j/\Q (.bl (!(qf.Str.occurrences j i 0 j.length 1).isEmpty)) H):=by
 intro pins s σ H x y v u Q I rx ry h;obtain⟨i,j,rfl,rfl,q⟩:=h;obtain⟨t,rfl⟩:=rx;obtain⟨t',rfl⟩:=ry;exact in_str (KD I q rfl)
theorem oG:tV X (compareOp .Is) (λx y H Q=>y=.non/\Q (.bl (decide (x=.non))) H):=by
 intro pins s σ H x y v u Q I rx ry h;obtain⟨rfl,q⟩:=h;cases ry;refine is_none_gen (KD I q ?_)
 cases x<;>first
  |(cases rx;rfl)
  |(obtain⟨t,rfl⟩:=rx;rfl)
theorem jF(b:cx){op:Fw}(h:op≠.In:=by decide)(h2:op≠.NotIn:=by decide):behindInMarks op b=false:=by
 have e1:(op==Fw.In)=false:=by cases op<;>first|rfl|exact qQ7 rfl h
 have e2:(op==Fw.NotIn)=false:=by cases op<;>first|rfl|exact qQ7 rfl h2
 cases b<;>simp[behindInMarks,e1,e2]
theorem NW{op:Fw}(ho:tV X (compareOp op) r)(ha:PE X a ta)(hb:PE X b tb)(hm:behindInMarks op b=false):PE X (.Compare a [op] [b] pos) (UX r ta tb):=by
 intro pins s σ H Q I h;exact wpAny_Compare1 (RH ha hb I h λv u s2 x y H2 I2 rx ry q=>ho pins s2 σ H2 x y v u Q I2 rx ry q) hm
def U2(t:TE):TT:=λσ H Q=>t σ H λx H'=>∃k,x=.bl k/\Q k H'
theorem NX{op:Fw}(ho:tV X (compareOp op) r)(ha:PE X a ta)(hb:PE X b tb)(hm:behindInMarks op b=false):PT X (.Compare a [op] [b] pos) (U2 (UX r ta tb)):=by
 intro pins s σ H Q I h;refine wpAny_isTrue_Compare1 (g8 (ha pins s σ H _ I h) λv s1 ⟨x,H1,I1,r1,q1⟩=>g8 (hb pins s1 σ H1 _ I1 q1) λu s2 ⟨y,H2,I2,r2,q2⟩=>
  g8 (ho pins s2 σ H2 x y v u _ I2 r1 r2 q2) λc s3 ⟨z,H3,I3,r3,k,e,q3⟩=>?_) hm
 subst e;cases r3;exact fW ⟨H3,I3,q3⟩
def RN(r r':R2)(ta tb tc:TE):TE:=λσ H Q=>ta σ H λx H1=>tb σ H1 λy H2=>r x y H2 λz H3=>∃k,z=.bl k/\
 (if k=true then tc σ H3 λw' H4=>r' y w' H4 Q else Q (.bl false) H3)
theorem DY{op op':Fw}{r': R2}(ho:tV X (compareOp op) r)(HD:tV X (compareOp op') r')(ha:PE X a ta)(hb:PE X b tb)(hc:PE X c tc)
  (hm:lastMarks [op,op'] [b,c]=false:=by with_unfolding_all rfl):PE X (.Compare a [op,op'] [b,c] pos) (RN r r' ta tb tc):=by
 intro pins s σ H Q I h;refine Compare_chain (g8 (ha pins s σ H _ I h) λv s1 ⟨x,H1,I1,r1,q1⟩=>chain_link (g8 (hb pins s1 σ H1 _ I1 q1) λu s2 ⟨y,H2,I2,r2,q2⟩=>
  g8 (ho pins s2 σ H2 x y v u _ I2 r1 r2 q2) λd s3 ⟨z,H3,I3,r3,k,e,q3⟩=>?_)) hm
 subst e;cases r3;refine fW ?_
 cases k with
 |false=>exact ite_ff ⟨.bl false,H3,I3,rfl,q3⟩
 |true=>exact ite_tt (chain_last (g8 (hc pins s3 σ H3 _ I3 q3) λw' s4 ⟨z',H4,I4,r4,q4⟩=>HD pins s4 σ H4 y z' u w' Q I4 r2 r4 q4))
def U3(K:au)(x:V)(H:Hp)(k:Bool):Prop:=
 match x with
 | .non=>k=false
 | .bl b=>k=b
 | .int i=>k=(i != 0)
 | .str y=>y.length<=sizeLine/\k=((y.length:Int) != 0)
 | .T8 y=>y.size<=sizeLine/\k=((y.size:Int) != 0)
 | .ref p=>(∃xs,mJ K H p xs/\k=!xs.isEmpty)\/(∃xs,rF K H p xs/\k=!xs.isEmpty)\/∃kvs,H p=some (.dK kvs)/\k=!kvs.isEmpty
 |_=>False
theorem FT{κ:Type}{kvs:List (κ×V)}{vs:List (κ×aG)}(r:KV kvs vs):(!vs.isEmpty)=!kvs.isEmpty:=by
 cases r<;>rfl
theorem y6{its:List aG}(r:eO xs its):(!its.toArray.isEmpty)=!xs.isEmpty:=by
 cases r<;>simp
theorem uX:(sizeLine:Nat)<2^63:=by rw[du];decide
theorem RP:Y8 X (λx H Q=>∃k,U3 X.K x H k/\Q k H):=by
 intro pins s σ H x v Q I rx h;obtain⟨k,e,q⟩:=h;have hl:=uX;have hs:sizeLine=16777216:=du;cases x with
 |non=>
  cases rx;have e':k=false:=e;subst e';exact truthy_none ⟨H,I,q⟩
 |bl b=>
  cases rx;have e':k=b:=e;subst e';exact fW ⟨H,I,q⟩
 |int i=>
  obtain⟨t,rfl⟩:=rx;have e':k=(i != 0):=e;subst e';exact PySem.P.truthy_int ⟨H,I,q⟩
 |str y=>
  obtain⟨t,rfl⟩:=rx;obtain⟨hy,e'⟩:y.length<=sizeLine/\k=((y.length:Int) != 0):=e;subst e';exact PySem.P.truthy_str (by omega) ⟨H,I.tok _,q⟩
 |T8 y=>
  obtain⟨t,rfl⟩:=rx;obtain⟨hy,e'⟩:y.size<=sizeLine/\k=((y.size:Int) != 0):=e;subst e';exact PySem.W.truthy_bytes (by omega) ⟨H,I.tok _,q⟩
 |ref p=>
  cases rx;have e':(∃xs,mJ X.K H p xs/\k=!xs.isEmpty)\/(∃xs,rF X.K H p xs/\k=!xs.isEmpty)\/∃kvs,H p=some (.dK kvs)/\k=!kvs.isEmpty:=e;rcases e' with⟨xs,hx,e'⟩|⟨xs,hx,e'⟩|⟨kvs,hx,e'⟩
  ·subst e'
   obtain⟨its,r,pl,hz⟩:=I.list hx;have hlen:=r.length;exact wpAny_truthy_list pl.isList (by simp only[bD];omega) ⟨H,I.tok _,by rw[y6 r];exact q⟩
  ·subst e'
   obtain⟨its,r,pl,hz⟩:=I.tuple hx;have hlen:=r.length;exact truthy_tuple pl (by simp only[bD];omega) ⟨H,I.tok _,by rw[y6 r];exact q⟩
  ·subst e'
   obtain⟨hz,hS,vs,r,m⟩:kvs.length<=sizeLine/\(p==sysModules)=false/\∃vs,KV kvs vs/\s.heap.DictOf (gq X.prog X.w) p vs:=I.hok p _ hx;have hlen:kvs.length=vs.length:=uT r;exact wpAny_truthy_dict hS m (by omega) ⟨H,I.tok _,by rw[FT r];exact q⟩
 |_=>exact(show False from e).elim
theorem KG(ha:PE X a ta)(he:∀whole,isTrue a X.env whole=(do let v <-whole;standAt a.pos;holding [v] (truthy v))):
  PT X a (λσ H Q=>ta σ H λx H'=>∃k,U3 X.K x H' k/\Q k H'):=by
 intro pins s σ H Q I h;exact isTrue_plain (g8 (ha pins s σ H _ I h) λv s1 ⟨x,H1,I1,r1,q1⟩=>RP pins s1 σ H1 x v Q I1 r1 q1) (he _)
theorem FU:tV X (binaryOp .Add) (λx y H Q=>∃i j,x=.str i/\y=.str j/\i.length+j.length<=sizeLine/\Q (.str (i++j)) H):=by
 intro pins s σ H x y v u Q I rx ry h;obtain⟨i,j,rfl,rfl,hz,q⟩:=h;obtain⟨t,rfl⟩:=rx;obtain⟨t',rfl⟩:=ry;exact add_str (λt' tk=>⟨.str (i++j),H,I.tok _,⟨_,rfl⟩,q⟩) hz
theorem vals1{x:V}(r:eO [x] us):∃u,us=[u]/\RelV x u:=by
 cases r with
 |cons r1 r2=>cases r2;exact⟨_,rfl,r1⟩
theorem vals2{x y:V}(r:eO [x,y] us):∃u w',us=[u,w']/\RelV x u/\RelV y w':=by
 cases r with
 |cons r1 r2=>
  cases r2 with
  |cons r3 r4=>cases r4;exact⟨_,_,rfl,r1,r3⟩
theorem Jh(hc:X.calm=true):kJ X (.builtin "min") (λxs H Q=>∃i j,xs=[.int i,.int j]/\Q (.int (if j<i then j else i)) H):=by
 intro pins s σ H xs us Q I r h;obtain⟨i,j,rfl,q⟩:=h;obtain⟨u,w',rfl,⟨t,rfl⟩,⟨t',rfl⟩⟩:=vals2 r;refine min_two_ints (I.ok.hd hc) λh' tk k=>⟨_,H,I.kept k,?_,q⟩
 by_cases hj:j<i
 ·rw[qQ3 hj,qQ3 hj];exact⟨_,rfl⟩
 ·rw[qQ2 hj,qQ2 hj];exact⟨_,rfl⟩
theorem Cy:kJ X (.type "str") (λxs H Q=>∃i,xs=[.int i]/\i.natAbs.log2<1920/\Q (.str (toString i)) H):=by
 intro pins s σ H xs us Q I r h;obtain⟨i,rfl,hz,q⟩:=h;obtain⟨u,rfl,t,rfl⟩:=vals1 r;exact PySem.P.str_of_int hz ⟨.str _,H,I.tok _,⟨_,rfl⟩,q⟩
end
structure Ji(h:dw)(x dx C:aR)(mA:Str->Option aG):Prop where
 obj:h.get? x=some (iX C dx)
 ns:h.Ns1 dx mA
 ne:dx≠x
theorem wO{dx:aR}(n:h.Ns1 dx mA):∃od,h.get? dx=some od/\∀name,sk name od=some (mA name):=by
 obtain⟨o,es,ep,ho,hd,hk,_,hm⟩:=n;refine⟨o,ho,λname=>?_⟩
 have e:=hm name;unfold nsFind findBy at e;rw[<-Array.find?_toList]at e
 unfold sk;rw[hd]
 dsimp only
 split
 ·rename_i y q
  rw[q]at e;exact qQ6 some e
 ·rename_i q
  rw[q]at e;have a:es.toList.any (·.refKey)=false:=by
   rw[j7];intro y hy;obtain⟨z,t,Y_⟩:=hk y (Array.mem_toList_iff.mp hy);simp[Cj.refKey,Y_]
  have a':¬es.toList.any (·.refKey)=true:=by rw[a];exact cQ
  rw[qQ2 a'];exact qQ6 some e
theorem Ji.look{x dx: aR}(I:Ji h x dx C mA):∃od,ow h x (iX C dx) C (some od)/\∀name,sk name od=some (mA name):=
 let⟨od,ho,hl⟩:=wO I.ns
 ⟨od,⟨I.obj,rfl,rfl,ho⟩,hl⟩
section
variable{prog:bL}{w:cH}{A:ef}{E:aG->aU->Prop}{s:aU}{K:au}{x dx C f:aR}{mA:Str->Option aG}{name:Str}{v:aG}
theorem get_map{expr:Bool}(X:K.In s.heap)(I:Ji s.heap x dx C mA)(hg:qe K C name=true)(hh:hZ K C=true)
  (ha:cp K (.ref C) name=some none)(hv:mA name=some v)(NZ:PySem.W.handedIn v=true)(h:Q v { s with toks:=s.toks+1 }):
  wpAny (model prog w) A (getAttr (.ref x) name expr) Q E s:=by
 obtain⟨od,J,hl⟩:=I.look;exact PySem.W.get_value X J (PySem.W.plainGet_of hg).1 (Fm hh ha rfl (by rw[hl,hv])) NZ h
theorem N0{ns:List Str}{Q:Unit->aU->Prop}(X:K.In s.heap)(I:Ji s.heap x dx C mA)
  (hs:cp K (.ref C) "__setattr__"=some (some (.builtin "object.__setattr__")))(hp:vE K C=true)(ht:k7 K C name=some none)(hh:hZ K C=true)
  (hw:mq mA ns)(hsz:ns.length<=sizeLine)
  (h:∀h',Ji h' x dx C (λy=>if y=name then some v else mA y)->kO dx s.heap h'->Q () { s with heap:=h',toks:=s.toks+2 }):
  wpAny (model prog w) A (setAttr (.ref x) name v) Q E s:=by
 obtain⟨od,J,hl⟩:=I.look;refine vF X J hs (PySem.W.osa_open (s:={ s with toks:=s.toks+1 }) (r:=none) X J hp ht λb=>?_)
 obtain⟨cd,hc,AI⟩:=wF hh;have hx:s.heap.get? x=some ⟨.ref C,some dx,.plain,#[]⟩:=I.obj;refine av (a_ (av (av (wG hx (av (gB (s:={ s with toks:=s.toks+1 }) (nS X hc) ?_))))))
 rw[AI];refine a_ (a:=some dx) (av (a_ (av ?_)))
 refine wpAny_nsSet1 (s:={ s with toks:=s.toks+1 }) I.ns λh' KH rG=>?_
 obtain⟨oD,esD,epD,U4,U5,Jj⟩:=KH.count (nY name v hw);refine av (Ca U4 (by rw[U5];exact Cb (cj Jj (by rw[aX];omega))) ?_)
 exact a_ (h _ ⟨(rG.2 _ (bY I.ne)).trans I.obj,KH,I.ne⟩ rG)
theorem KJ{R:uU->aU->Prop}{vs:List aG}(X:K.In s.heap)(hm:x6 K C=true)
  (hi:cp K (.ref C) "__init__"=some (some (.ref f)))(hf:yP K (.ref f)=some (.type "function"))
  (h:codeAny (model prog w) (A.under (.builtin "type.__call__" ⟨.ref C::vs,kw⟩)) (.call (.ref f) ⟨.ref (s.heap.objs.size+1)::vs,kw⟩) (PySem.W.InitBack (s.heap.objs.size+1) R)
   { s with heap:=(s.heap.push gk).push (iX C s.heap.objs.size) }) :
  codeAny (model prog w) A (.call (.ref C) ⟨vs,kw⟩) R s:=by
 obtain⟨hh,g,d,t,os⟩:=s;exact PySem.W.make_core (PySem.W.makes_of X hm) (sr X hi) (λself=>PySem.W.bind_fn X self hf) (.inl rfl) h
end
def lI(f:Str)(v:V):List (Str×V)->List (Str×V)
 | []=>[(f,v)]
 |(g,x)::r=>if g=f then(g,v)::r else(g,x)::lI f v r
theorem sJ(f g:Str)(v:V):∀fs:List (Str×V),(lI f v fs).lookup g=if g=f then some v else fs.lookup g
 | []=>by
  show lJ g [(f,v)]=_;by_cases h:g=f
  ·have hb:(g==f)=true:=beq_iff_eq.mpr h
   simp only[lJ,hb,qQ3 h]
  ·have hb:(g==f)=false:=beq_eq_false_iff_ne.mpr h
   simp only[lJ,hb,qQ2 h]
 |(k,x)::r=>by
  have ih:=sJ f g v r;rw[show lI f v ((k,x)::r)=(if k=f then(k,v)::r else(k,x)::lI f v r)from rfl]
  by_cases hk:k=f
  ·rw[qQ3 hk]
   by_cases h:g=k
   ·have hb:(g==k)=true:=beq_iff_eq.mpr h
    simp only[lJ,hb,qQ3 (h.trans hk)]
   ·have hb:(g==k)=false:=beq_eq_false_iff_ne.mpr h
    simp only[lJ,hb,qQ2 (λe:g=f=>h (e.trans hk.symm))]
  ·rw[qQ2 hk]
   by_cases h:g=k
   ·have hb:(g==k)=true:=beq_iff_eq.mpr h
    simp only[lJ,hb,qQ2 (λe:g=f=>hk (h.symm.trans e))]
   ·have hb:(g==k)=false:=beq_eq_false_iff_ne.mpr h
    simp only[lJ,hb];exact ih
theorem qk(f:Str)(v:V):∀fs:List (Str×V),f∈(lI f v fs).map (·.1)/\∀g,g∈fs.map (·.1)->g∈(lI f v fs).map (·.1)
 | []=>⟨by simp[lI],λg h=>by simp at h⟩
 |(k,x)::r=>by
  obtain⟨i1,i2⟩:=qk f v r;rw[show lI f v ((k,x)::r)=(if k=f then(k,v)::r else(k,x)::lI f v r)from rfl]
  by_cases hk:k=f
  ·rw[qQ3 hk]
   subst hk;exact⟨by simp,λg h=>by simpa using h⟩
  ·rw[qQ2 hk]
   refine⟨?_,λg h=>?_⟩
   ·rw[aN]
    exact aZ _ i1
   ·rw[aN]at h ⊢
    rcases aE.mp h with e|e
    ·exact aE.mpr (.inl e)
    ·exact aZ _ (i2 g e)
theorem xC(f:Str)(v:V):∀fs:List (Str×V),(lI f v fs).length<=fs.length+1
 | []=>by simp[lI]
 |(k,x)::r=>by
  have ih:=xC f v r;rw[show lI f v ((k,x)::r)=(if k=f then(k,v)::r else(k,x)::lI f v r)from rfl]
  by_cases hk:k=f
  ·rw[qQ3 hk,aX,aX];omega
  ·rw[qQ2 hk,aX,aX];omega
theorem oF.some_of{v:V}{o:Option aG}(r:oF (some v) o):∃u,o=some u/\RelV v u:=by
 cases o with
 |none=>exact(show False from r).elim
 |some u=>exact⟨u,rfl,r⟩
theorem Be{v:V}(r:RelV v u):PySem.W.handedIn u=true:=by
 cases v with
 |non=>cases(show u=fe from r);rfl
 |bl b=>cases(show u=aG.bool b from r);rfl
 |int i=>obtain⟨t,e⟩:=(show ∃t,u=DF i t from r);cases e;rfl
 |str x=>obtain⟨t,e⟩:=(show ∃t,u=DG x t from r);cases e;rfl
 |T8 b=>obtain⟨t,e⟩:=(show ∃t,u=aG.bytes b t from r);cases e;rfl
 |flt b=>obtain⟨t,e⟩:=(show ∃t,u=aG.float b t from r);cases e;rfl
 |ref a=>cases(show u=bA a from r);rfl
 |ty n=>cases(show u=m_ n from r);rfl
section
variable{P:bL}{w:cH}{H H':Hp}{h h':dw}{a C dx:aR}{fs fs':List (Str×V)}
theorem HN(hok:sj P w H h)(e:H a=some (.ins C dx fs)):∃mA,Ji h a dx C mA/\(∀f,oF (fs.lookup f) (mA f))/\mq mA (fs.map (·.1))/\fs.length<=1000/\H dx=some (.own a):=by
 obtain⟨d,z,ne,ob,mA,n,r,q⟩:=(show iB P w H h a (.ins C dx fs)from hok a _ e)
 exact⟨mA,⟨ob,n,ne⟩,r,q,z,d⟩
end
structure DZ(K:au)(C:aR):Prop where
 pg:qe K C eS=true
 hd:hZ K C=true
 po:vE K C=true
 sa:cp K (.ref C) "__setattr__"=some (some (.builtin "object.__setattr__"))
theorem DZ.get(c:DZ K C)(f:Str):qe K C f=true:=c.pg
def gP(K:au)(C:aR)(f:Str):Prop:=cp K (.ref C) f=some none
theorem gP.taker{f:Str}(n:gP K C f):k7 K C f=some none:=by
 unfold k7;rw[show cp K (.ref C) f=some none from n]
 rfl
section
variable{X:Cx}{pins:List (aR×Obj)}{σ:St}{H:Hp}{s:aU}{a C dx:aR}{fs:List (Str×V)}{f:Str}{v:V}{A:ef}{E:aG->aU->Prop}
theorem FV{b:Bool}(I:Inv X pins σ H s)(e:H a=some (.ins C dx fs))(c:DZ X.K C)(n:gP X.K C f)(l:fs.lookup f=some v)
  (h:∀u s',Inv X pins σ H s'->RelV v u->Q u s'):wpAny (model X.prog X.w) A (getAttr (.ref a) f b) Q E s:=by
 obtain⟨mA,O,r,_,_,_⟩:=HN I.hok e;obtain⟨u,hu,ru⟩:=oF.some_of (v:=v) (o:=mA f) (by rw[<-l];exact r f)
 exact get_map I.vA O (c.get f) c.hd n hu (Be ru) (h u _ (I.tok _) ru)
theorem FW{y:V}{Q:Unit->aU->Prop}(I:Inv X pins σ H s)(e:H a=some (.ins C dx fs))(c:DZ X.K C)(n:gP X.K C f)(hl:fs.length<1000)(ry:RelV y u)
  (h:∀s',Inv X pins σ (upd H a (.ins C dx (lI f y fs))) s'->Q () s'):wpAny (model X.prog X.w) A (setAttr (.ref a) f u) Q E s:=by
 obtain⟨mA,O,r,wi,_,ho⟩:=HN I.hok e;have hz:(fs.map (·.1)).length<=sizeLine:=by rw[aj,du];omega
 refine N0 I.vA O c.sa c.po n.taker c.hd wi hz λh' O' sb=>h _ ?_
 have hd:∃o,h'.get? dx=some o:=let⟨o,_,_,e',_⟩:=O'.ns;⟨o,e'⟩;refine I.write (x:=a) (e:=dx) (by rw[e];exact gD) (.inr ho) (λb q hb z=>(sb.2 b hb).trans z) hd ?_
 refine⟨by rw[aY O.ne];exact ho,?_,O.ne,O'.obj,_,O'.ns,λg=>?_,λg hg=>?_⟩
 ·have:=xC f y fs;omega
 ·show oF ((lI f y fs).lookup g) (if g=f then some u else mA g)
  rw[sJ];by_cases q:g=f
  ·rw[qQ3 q,qQ3 q];exact ry
  ·rw[qQ2 q,qQ2 q];exact r g
 ·by_cases q:g=f
  ·rw[q];exact(qk f y fs).1
  ·refine(qk f y fs).2 g (wi g λz=>hg ?_)
   show(if g=f then some u else mA g)=none
   rw[qQ2 q];exact z
theorem Inv.made(I:Inv X pins σ H s):Inv X pins σ (upd (upd H s.heap.objs.size (.own (s.heap.objs.size+1))) (s.heap.objs.size+1) (.ins C s.heap.objs.size []))
  { s with heap:=(s.heap.push gk).push (iX C s.heap.objs.size) }:=by
 have e1:(s.heap.push gk).get? s.heap.objs.size=some gk:=bN s.heap rfl;have e2:((s.heap.push gk).push (iX C s.heap.objs.size)).get? (s.heap.objs.size+1)=some (iX C s.heap.objs.size):=by
  have:=bN (s.heap.push gk) (o:=iX C s.heap.objs.size) rfl
  rwa [gE]at this
 have e3:(s.heap.push gk).Ns s.heap.objs.size (λ_=>none):=⟨gk,#[],_,e1,rfl,(λe he=>qQ7 he (by simp)),λ_=>rfl⟩
 have I1:=I.laid (a:=s.heap.objs.size) (o:=.own (s.heap.objs.size+1)) (h':=s.heap.push gk) (t':=s.toks) (λb u q=>aF _ q) (ay _) ⟨_,e1⟩
 refine I1.laid (a:=s.heap.objs.size+1) (o:=.ins C s.heap.objs.size []) (t':=s.toks) (λb u q=>aF _ q) (Nat.le_of_eq (gE _ _)) ?_
 have ne:s.heap.objs.size≠s.heap.objs.size+1:=bu (kS _);refine⟨by rw[aY ne,bQ],bj _,ne,e2,λ_=>none,(Fx e3).at λo q=>aF _ q,λ_=>gD,λy hy=>qQ7 rfl hy⟩
theorem HP{prog:bL}{env:Env}{f:Str}{pos:Pos}(hb:attributeBase e f env (eval e env)=eval e env)
  (h:wpAny (model prog w) A (eval e env) (λo s₁=>wpAny (model prog w) A (getAttr o f true) Q E s₁) E s):wpAny (model prog w) A (eval (.Attribute e f pos) env) Q E s:=
 Attribute_any_ h (by rw[arm_eval_Attribute,hb])
end
def Y'(K:au)(ta:TE)(f:Str):TE:=λσ H Q=>ta σ H λx H1=>∃a C dx fs v,x=.ref a/\H1 a=some (.ins C dx fs)/\DZ K C/\gP K C f/\fs.lookup f=some v/\Q v H1
def Za(K:au)(ta tv:TE)(f:Str):TS:=λD σ H=>tv σ H λy H1=>ta σ H1 λx H2=>∃a C dx fs,x=.ref a/\H2 a=some (.ins C dx fs)/\DZ K C/\gP K C f/\fs.length<1000/\
 D.nx σ (upd H2 a (.ins C dx (lI f y fs)))
section
variable{X:Cx}{o e value:cx}{f:Str}{pos pos' Zb:Pos}{ta tv:TE}
theorem y8(he:PE X e ta)(hb:attributeBase e f X.env (eval e X.env)=eval e X.env):PE X (.Attribute e f pos) (Y' X.K ta f):=by
 intro pins s σ H Q I h;refine HP hb (g8 (he pins s σ H _ I h) λu s1 ⟨x,H1,I1,rx,a,C,dx,fs,v,ex,ea,c,n,l,q⟩=>?_)
 subst ex;obtain rfl:u=bA a:=rx;exact FV I1 ea c n l λu' s2 I2 ru=>⟨v,H1,I2,ru,q⟩
theorem uY(ha:PE X o ta)(hv:PE X value tv)(hs:swapsWith value (some (.Attribute o f pos')) pos.line X.env=pure false):PS X (.Assign [.Attribute o f pos'] value pos) (Za X.K ta tv f):=by
 intro pins s σ H D I h;refine nZ (g8 (hv pins s σ H _ I h) λu s1 ⟨y,H1,I1,ry,q⟩=>g8 (ha pins s1 σ H1 _ I1 q) λov s2 ⟨x,H2,I2,rx,a,C,dx,fs,ex,ea,c,n,l,q2⟩=>?_) hs
 subst ex;obtain rfl:ov=bA a:=rx;exact FW I2 ea c n l ry λs3 I3=>⟨σ,_,I3,q2⟩
end
section
variable{X:Cx}{pins:List (aR×Obj)}{σ:St}{H:Hp}{s:aU}{A:ef}{E:aG->aU->Prop}{Q:aG->aU->Prop}{c:aG}{b:Bool}
inductive y9(K:au)(H:Hp):V->aG->Prop where
 |non:y9 K H .non (.type "NoneType")
 |bl (x:Bool):y9 K H (.bl x) (.type "bool")
 |int (i:Int):y9 K H (.int i) (.type "int")
 |str (x:Str):y9 K H (.str x) (.type "str")
 |flt (x:UInt64):y9 K H (.flt x) (.type "float")
 |lst {a:aR} {xs:List V} (e:H a=some (.lst xs)):y9 K H (.ref a) (.type "list")
 |Ja {a:aR} {o:Obj} {xs:List V} (e:H a=some (.Ja o (.lst xs))):y9 K H (.ref a) (.type "list")
 |tup {a:aR} {xs:List V} (e:H a=some (.tup xs)):y9 K H (.ref a) (.type "tuple")
 |dK {a:aR} {kvs:List (Key×V)} (e:H a=some (.dK kvs)):y9 K H (.ref a) (.type "dict")
 |dT {a:aR} {kvs:List (List Key×V)} (e:H a=some (.dT kvs)):y9 K H (.ref a) (.type "dict")
 |ins {a C dx:aR} {fs:List (Str×V)} (e:H a=some (.ins C dx fs)) (cl:DZ K C) (ha:cp K (.ref C) "__class__"=some (some (.builtin "object.__class__")))
   (hn:lK K (.builtin "object.__class__") "__get__"=some (some (.builtin "getset_descriptor.__get__"))) (U6:PySem.W.takesIn K (.builtin "object.__class__")=some true)
   (hm:uz K C (.type "object")=some true):y9 K H (.ref a) (.ref C)
end
structure gj(k:Nat)(A:ef):Prop where
 hd:A.handled=none
 dp:A.depth+3*k+5<recursionLimit
 un:A.units+16*k+200<cLine
theorem gj.mono{j: Nat}(r:gj k A)(h:j<=k):gj j A:=⟨r.hd,by have:=r.dp;omega,by have:=r.un;omega⟩
theorem gj.deeper(r:gj (k+1) A)(env:Env):gj k (A.deeper env):=
 ⟨r.hd,by have:=r.dp;show A.depth+1+3*k+5<_;omega,by have:=r.un;show A.units+3+16*k+200<_;omega⟩
theorem FY:(A.under (.builtin "type.__call__" ⟨.ref C::us,kw⟩)).depth=A.depth+1:=by
 first|rfl|simp[DH,Code.weight,Code.isCreation,Code.isGuard,Code.isCaller,Code.frames,Fn,guardIds]
theorem FZ:(A.under (.builtin "type.__call__" ⟨.ref C::us,kw⟩)).units=A.units+1:=by
 first|rfl|simp[DH,Code.cUnits,Code.frames,Fn]
theorem gj.make(r:gj (k+1) A)(C:aR)(us:List aG)(kw:List (Str×aG)):gj k (A.under (.builtin "type.__call__" ⟨.ref C::us,kw⟩)):=
 ⟨r.hd,by have:=r.dp;rw[FY];omega,by have:=r.un;rw[FZ];omega⟩
theorem gj.depth(r:gj k A):A.depth<recursionLimit:=by have:=r.dp;omega
def U7:TA:=λ_ H Q=>Q [] H
def U8(ta:TE)(tr:TA):TA:=λσ H Q=>ta σ H λx H1=>tr σ H1 λxs H2=>Q (x::xs) H2
section
variable{X:Cx}{e:cx}{es:List cx}{te:TE}{t:TA}{pos:Pos}
theorem gI:PA X [] U7:=λ_ _ _ _ H Q I h=>wH ⟨[],H,I,.nil,h⟩
theorem dG(ha:PE X e te)(hr:PA X es t)(hs:starEach (e::es) X.env=(false,eval e X.env)::starEach es X.env:=by rfl):PA X (e::es) (U8 te t):=by
 intro pos pins s σ H Q I h;rw[hs];show wpAny _ _ (spliced ((false,eval e X.env)::backTo pos (starEach es X.env))) _ _ s;refine lE (g8 (ha pins s σ H _ I h) λu s1 ⟨x,H1,I1,r1,q1⟩=>?_)
 exact g8 (hr pos pins s1 σ H1 _ I1 q1) λus s2 ⟨xs,H2,I2,r2,q2⟩=>⟨x::xs,H2,I2,.cons r1 r2,q2⟩
def Zc(t:TA):TE:=λσ H Q=>t σ H λxs H1=>xs.length<=sizeLine/\∀p,H1 p=none->Q (.ref p) (upd H1 p (.tup xs))
def Zd(t:TA):TE:=λσ H Q=>t σ H λxs H1=>xs.length<=sizeLine/\∀p,H1 p=none->Q (.ref p) (upd H1 p (.lst xs))
theorem y_{x1}(h:PA X es t):PE X (.Tuple es x1 pos) (Zc t):=by
 intro pins s σ H Q I hq;refine wpAny_Tuple_spliced (g8 (h pos pins s σ H _ I hq) λus s1 ⟨xs,H1,I1,r,z,q⟩=>⟨by rw[<-r.length];exact z,?_⟩)
 have hf:H1 s1.heap.objs.size=none:=I1.hok.fresh (ay _);refine⟨.ref s1.heap.objs.size,upd H1 s1.heap.objs.size (.tup xs),I1.laid (t':=s1.toks) (λb u e=>aF _ e) (ay _) ?_,rfl,q _ hf⟩
 exact⟨z,us,r,⟨_,bN _ rfl,rfl,_,rfl⟩⟩
theorem Cz(h:PA X es t):PE X (.List es pos) (Zd t):=by
 intro pins s σ H Q I hq;refine wpAny_List_spliced (g8 (h pos pins s σ H _ I hq) λus s1 ⟨xs,H1,I1,r,z,q⟩=>⟨by rw[<-r.length];exact z,?_⟩)
 have hf:H1 s1.heap.objs.size=none:=I1.hok.fresh (ay _);refine⟨.ref s1.heap.objs.size,upd H1 s1.heap.objs.size (.lst xs),I1.laid (t':=s1.toks) (λb u e=>aF _ e) (ay _) ?_,rfl,q _ hf⟩
 exact⟨z,us,0,r,bN _ rfl⟩
end
abbrev Sp:=List V->Hp->VK->XK->Prop
abbrev Jk:=List Env->Hp->aU->XK->aG->aU->Prop
variable{CX:Jk}
structure F0(P:bL)(w:cH)(K:au)(mg:Str->Option aG)(base:dw)(A:ef)(outer:List Env)(s:aU)(H:Hp):Prop where
 frames:A.frames=some outer
 mod:Mod K mg base
 bs:∀b o,base.get? b=some o->s.heap.get? b=some o/\H b=none
 Ni:base.objs.size<=s.heap.objs.size
 rP:s.heap.FunFrames base outer
 Ku:∀b∈DP outer,H b=none
 hok:sj P w H s.heap
 bare:rW s.gens
def CE(outer:List Env)(P:bL)(w:cH)(H:Hp)(s:aU)(Q:VK)(u:aG)(s':aU):Prop:=
 ∃v H',s'.os=s.os/\rW s'.gens/\Un (DP outer) [] H H' s.heap s'.heap/\sj P w H' s'.heap/\RelV v u/\Q v H'
def CR(CX:Jk)(outer:List Env)(P:bL)(w:cH)(H:Hp)(s:aU)(Q:VK)(E:XK)(r:uU)(s':aU):Prop:=
 match r with
 | .ok (.ret u)=>CE outer P w H s Q u s'
 | .ok _=>False
 | .error e=>CX outer H s E e s'
structure fA(P:bL)(w:cH)(K:au)(mg:Str->Option aG)(base:dw)(CX:Jk)(k:Nat)(f:aR)(fd:gf)(ps:List Str)(sp:Sp):Prop where
 len:∀vs H Q E,sp vs H Q E->vs.length=ps.length
 run:∀(A:ef)(outer:List Env)(s:aU)(H:Hp)(args:Args)(us:List aG)(vs:List V)(Q:VK)(E:XK),gj k A->F0 P w K mg base A outer s H->BindsTo s fd args (ps.zip us)->eO vs us->sp vs H Q E->
  codeAny (model P w) A (.call (.ref f) args) (CR CX outer P w H s Q E) s
theorem fA.imp{f:aR}{sp sp':Sp}(F:fA P w K mg base CX k f fd ps sp)
  (h:∀vs H Q E,sp' vs H Q E->sp vs H Q E):fA P w K mg base CX k f fd ps sp':=
 ⟨λvs H Q E q=>F.len vs H Q E (h _ _ _ _ q),λA outer s H args us vs Q E hr he hb hv hs=>F.run A outer s H args us vs Q E hr he hb hv (h _ _ _ _ hs)⟩
theorem F0.make(e:F0 P w K mg base A outer s H)(C:aR)(us:List aG)(kw:List (Str×aG)):
  F0 P w K mg base (A.under (.builtin "type.__call__" ⟨.ref C::us,kw⟩)) outer s H:=⟨by first|exact e.frames|(simpa[DH,Code.envs,Fn,pushEnvs]using e.frames),e.mod,e.bs,e.Ni,e.rP,e.Ku,e.hok,e.bare⟩
section
variable{X:Cx}{pins:List (aR×Obj)}{σ:St}{H:Hp}{s s':aU}
theorem Inv.env0(I:Inv X pins σ H s):F0 X.prog X.w X.K X.mg X.base X.A X.stack s H:=
 ⟨I.ok.frames,I.ok.mod,I.bs,cj I.ok.Ni I.sz,I.stack,I.HF,I.hok,I.bare⟩
theorem Inv.after{Q:VK}(I:Inv X pins σ H s)(h:CE X.stack X.prog X.w H s Q u s'):EP X pins σ Q u s':=by
 obtain⟨v,H',os,bare,un,hok,r,q⟩:=h;obtain⟨hh,g,d,t,N1⟩:=s';obtain rfl:N1=s.os:=os;exact⟨v,H',I.call (h':=hh) (g':=g) (d':=d) (t':=t) (ch:=[]) un hok bare (λb z=>qQ7 z (by simp)),r,q⟩
end
def U9(sp:Sp)(F1:List V)(E:XK)(t:TA):TE:=λσ H Q=>t σ H λvs H1=>sp (vs++F1) H1 Q E
def U_(C:aR)(sp:Sp)(F1:List V)(E:XK)(t:TA):TE:=λσ H Q=>t σ H λvs H1=>∀x dx,H1 x=none->H1 dx=none->dx≠x->
 sp (.ref x::(vs++F1)) (upd (upd H1 dx (.own x)) x (.ins C dx [])) (λv H2=>v=.non/\Q (.ref x) H2) E
def Binds(K:au)(fd:gf)(ps:List Str)(ds:List aG):Prop:=
 ∀(s:aU)(us:List aG),K.In s.heap->(us++ds).length=ps.length->BindsTo s fd ⟨us,[]⟩ (ps.zip (us++ds))
theorem Binds.all(h:∀us:List aG,us.length=ps.length->bindArgs fd ⟨us,[]⟩=pure (ps.zip us)):Binds K fd ps []:=λs us _ hl=>by
 rw[cF]at hl ⊢;exact .of_eq (h us hl)
def wQ(CX:Jk)(X:Cx)(E:XK):Prop:=∀(pins:List (aR×Obj))(σ:St)(H:Hp)(s:aU)(e:aG)(s':aU),Inv X pins σ H s->CX X.stack H s E e s'->X.xe e s'
section
variable{X:Cx}{CX:Jk}{k:Nat}{f C:aR}{fd:gf}{ps:List Str}{sp:Sp}{F1:List V}{ds:List aG}{E:XK}{x m:Str}{p pos apos:Pos}{e o:cx}{es:List cx}{ta:TE}{t:TA}
theorem RQ{Q:VK}(F:fA X.prog X.w X.K X.mg X.base CX k f fd ps sp)(hr:gj k X.A)(hb:Binds X.K fd ps ds)(hd:eO F1 ds)(hx:wQ CX X E)
  (I:Inv X pins σ H s)(r:eO vs us)(h:sp (vs++F1) H Q E):wpAny (model X.prog X.w) X.A (call (.ref f) us) (EP X pins σ Q) X.xe s:=by
 have r2:eO (vs++F1) (us++ds):=r.append hd;have hl:(us++ds).length=ps.length:=by rw[<-r2.length];exact F.len _ _ _ _ h
 refine mG (lF (F.run X.A X.stack s H ⟨us,[]⟩ (us++ds) (vs++F1) Q E hr I.env0 (hb s us I.vA hl) r2 h) λr s' hq=>?_)
 cases r with
 |error e=>exact hx pins σ H s e s' I hq
 |ok fl=>
  cases fl with
  |ret u=>exact I.after hq
  |next=>exact fu hq
  |brk=>exact fu hq
  |cont=>exact fu hq
theorem CB(F:fA X.prog X.w X.K X.mg X.base CX k f fd ps sp)(hr:gj k X.A)(hg:Gl X x)(hm:X.mg x=some (.ref f))(hk:ft X.K (.ref f)=true)(hb:Binds X.K fd ps ds)(hd:eO F1 ds)(hx:wQ CX X E)
  (ha:PA X (e::es) t)(rS:(x==("__debug__":Str))=false:=by decide)(he:starEach (e::es) X.env=(false,eval e X.env)::starEach es X.env:=by rfl)(pT:(backTo pos (starEach es X.env)).any (·.1)=false:=by rfl):
  PE X (.Call (.Name x p) (e::es) [] pos) (U9 sp F1 E t):=by
 intro pins s σ H Q I h;refine j8 (qI I hg hm ?_ rS)
 refine uV (h₀:=X.base) I.ok.mod.Rr hk (g8 (ha pos pins s σ H _ I h) λus s1 ⟨vs,H1,I1,r,q⟩=>⟨I1.vA,?_⟩) he pT
 exact RQ F hr hb hd hx I1 r q
structure Mk(K:au)(C f:aR):Prop where
 makes:x6 K C=true
 init:cp K (.ref C) "__init__"=some (some (.ref f))
 fn:vG K (.ref f)=true
 kp:ft K (.ref C)=true
theorem KL{Q:VK}(M:Mk X.K C f)(F:fA X.prog X.w X.K X.mg X.base CX k f fd ps sp)(hr:gj (k+1) X.A)(hb:Binds X.K fd ps ds)(hd:eO F1 ds)
  (hx:wQ CX X E)(I:Inv X pins σ H s)(r:eO vs us)
  (h:∀x dx,H x=none->H dx=none->dx≠x->sp (.ref x::(vs++F1)) (upd (upd H dx (.own x)) x (.ins C dx [])) (λv H2=>v=.non/\Q (.ref x) H2) E):
  wpAny (model X.prog X.w) X.A (call (.ref C) us) (EP X pins σ Q) X.xe s:=by
 have hq:=h (s.heap.objs.size+1) s.heap.objs.size (I.hok.fresh (jL _)) (I.hok.fresh (ay _)) (bu (kS _));have I2:=Inv.made (C:=C) I;have r2:eO (V.ref (s.heap.objs.size+1)::(vs++F1)) (bA (s.heap.objs.size+1)::(us++ds)):=.cons rfl (r.append hd);have hl:(bA (s.heap.objs.size+1)::us++ds).length=ps.length:=by
  have e:=r2.length;rw[F.len _ _ _ _ hq]at e;exact e.symm
 refine mG (KJ (f:=f) I.vA M.makes M.init (beq_iff_eq.mp M.fn) (lF (F.run _ X.stack _ _ ⟨bA (s.heap.objs.size+1)::us,[]⟩ (bA (s.heap.objs.size+1)::(us++ds)) _ _ E (hr.make C us [])
  (I2.env0.make C us []) (hb _ (bA (s.heap.objs.size+1)::us) I2.vA hl) r2 hq) λr s' CD=>?_))
 cases r with
 |error e=>exact hx pins σ _ _ e s' I2 CD
 |ok fl=>
  cases fl with
  |ret u=>
   obtain⟨v,H',I3,rv,ev,q3⟩:=I2.after CD;subst ev;exact⟨rv,⟨V.ref (s.heap.objs.size+1),H',I3,rfl,q3⟩⟩
  |next=>exact fu CD
  |brk=>exact fu CD
  |cont=>exact fu CD
theorem KN(M:Mk X.K C f)(F:fA X.prog X.w X.K X.mg X.base CX k f fd ps sp)(hr:gj (k+1) X.A)(hg:Gl X x)(hm:X.mg x=some (.ref C))(hb:Binds X.K fd ps ds)(hd:eO F1 ds)(hx:wQ CX X E)
  (rS:(x==("__debug__":Str))=false:=by decide):PE X (.Call (.Name x p) [] [] pos) (U_ C sp F1 E U7):=by
 intro pins s σ H Q I h;refine j8 (qI I hg hm ?_ rS)
 exact PySem.W.callWith_K0 I.vA M.kp (KL (us:=[]) M F hr hb hd hx I .nil h)
end
section
variable{X:Cx}{CX:Jk}{k:Nat}{f C:aR}{fd:gf}{ps ks:List Str}{sp:Sp}{E:XK}{x m:Str}{p pos apos zeJ:Pos}{e o:cx}{es:List cx}{kws:List jz}{te ta:TE}{t tk:TA}{nm:Option Str}
variable{g:List aG->List aG->List aG}{gV:List V->List V->List V}
end
structure c7(N P:List Str)(sc:mn):Prop where
 kind:sc.kind=.function
 co:sc.isCoroutine=false
 gen:sc.isGenerator=false
 nd:N.Nodup
 pre:N.take P.length=P
 par:∀x∈P,sc.names.lookup x=some .local\/sc.names.lookup x=some .cell
 RT:∀y∈sc.names,y.2≠.free
theorem Bf{x:Str}:∀{binds:List (Str×aG)}{m:Str->Option aG},(∀v,(x,v)∉binds)->bindL kindOf binds m x=m x
 | [],_,_=>rfl
 |(n,v)::r,m,h=>by
  unfold bindL;rw[Bf λw hw=>h w (aZ _ hw)]
  split
  ·have:x≠n:=by rintro rfl;exact h v aS
   simp[this]
  ·rfl
theorem Bg{x:Str}:∀{binds:List (Str×aG)}{m:Str->Option aG},(∀v,(x,v)∉binds)->bindC kindOf binds m x=m x
 | [],_,_=>rfl
 |(n,v)::r,m,h=>by
  unfold bindC;rw[Bg λw hw=>h w (aZ _ hw)]
  split
  ·rfl
  ·have:x≠n:=by rintro rfl;exact h v aS
   simp[this]
theorem Bh{kindOf:Str->Option oY}{x:Str}{v:aG}:∀{P:List Str}{vs:List aG}{i:Nat}{m:Str->Option aG},P.Nodup->P[i]?=some x->vs[i]?=some v->kindOf x=some .local->
  bindL kindOf (P.zip vs) m x=some v
 | [],_,_,_,_,h,_,_=>by simp at h
 |_::_,[],_,_,_,_,h,_=>by simp at h
 |p::P,w::vs,0,m,nd,h1,h2,hk=>by
  simp at h1 h2;subst h1;subst h2;show bindL kindOf ((p,w)::P.zip vs) m p=_;unfold bindL;rw[Bf λv hv=>(eW.mp nd).1 (su hv).1,qQ3 hk]
  simp
 |p::P,w::vs,i+1,m,nd,h1,h2,hk=>by
  show bindL kindOf ((p,w)::P.zip vs) m x=_;unfold bindL;exact Bh (i:=i) (eW.mp nd).2 (by simpa using h1) (by simpa using h2) hk
theorem Bi{kindOf:Str->Option oY}{x:Str}{v:aG}:∀{P:List Str}{vs:List aG}{i:Nat}{m:Str->Option aG},P.Nodup->P[i]?=some x->vs[i]?=some v->kindOf x≠some .local->
  bindC kindOf (P.zip vs) m x=some v
 | [],_,_,_,_,h,_,_=>by simp at h
 |_::_,[],_,_,_,_,h,_=>by simp at h
 |p::P,w::vs,0,m,nd,h1,h2,hk=>by
  simp at h1 h2;subst h1;subst h2;show bindC kindOf ((p,w)::P.zip vs) m p=_;unfold bindC;rw[Bg λv hv=>(eW.mp nd).1 (su hv).1,qQ2 hk]
  simp
 |p::P,w::vs,i+1,m,nd,h1,h2,hk=>by
  show bindC kindOf ((p,w)::P.zip vs) m x=_;unfold bindC;exact Bi (i:=i) (eW.mp nd).2 (by simpa using h1) (by simpa using h2) hk
def start(N:List Str)(vs:List V):St:=vs.map some++aT (N.length-vs.length) none
def uZ(CX:Jk)(P:bL)(w:cH)(K:au)(mg:Str->Option aG)(base:dw)(N:List Str)(qual:Str)(scope:mn)(f:aR)(cd:aG)(A:ef)(outer:List Env)(s:aU)(H:Hp)(E:XK):Cx where
 prog:=P
 w:=w
 K:=K
 mg:=mg
 base:=base
 A:=A.deeper (envOfC qual scope s.heap.objs.size f cd)
 N:=N
 s₀:=s
 H₀:=H
 env:=envOfC qual scope s.heap.objs.size f cd
 outer:=outer
 stack:=envOfC qual scope s.heap.objs.size f cd::outer
 ex:=[]
 calm:=true
 fn:=λ_=>true
 pn:=[]
 xe:=λe s'=>wpAny (model P w) (A.deeper (envOfC qual scope s.heap.objs.size f cd)) (leaving (envOfC qual scope s.heap.objs.size f cd) e) (λ_ RV=>CX outer H s E e RV) (λe' RV=>CX outer H s E e' RV) s'
theorem D0{sc:mn}{n:Nat}{x:Str}(h:sc.names.lookup x=some .cell):∃c,(cellsFrom n sc.names []).lookup x=some c:=by
 have q:=Cd sc.names n [] (.inl h);exact A2.mp q
theorem Jl{qual:Str}{f:aR}{cd:aG}{s1: aU}{E:XK}
  (S:c7 N ps scope)(hd:A.handled=none)(e0:F0 P w K mg base A outer s H)(hl:vs.length=ps.length)(r:eO vs us)
  (x:InCallC s s.heap.objs.size (bindL (envOfC qual scope s.heap.objs.size f cd).kindOf (ps.zip us) λ_=>none) (cellsFrom (s.heap.objs.size+1) scope.names []) (bindC (envOfC qual scope s.heap.objs.size f cd).kindOf (ps.zip us) λ_=>none) s1):
  Inv (uZ CX P w K mg base N qual scope f cd A outer s H E) [] (start N vs) H s1:=by
 have pT:ps.length<=N.length:=by have:=qQ6 iG S.pre;rw[bK]at this;omega
 obtain⟨h1,tk,rfl,hk⟩:=x.done;have Va:∀b:aR,b∉(uZ CX P w K mg base N qual scope f cd A outer s H E).ex:=λb z=>qQ7 (show b∈([]:List aR)from z) (by simp)
 refine⟨⟨e0.mod,S.kind,rfl,rfl,ay _,λy z c h1 h2=>?_,λy hy=>?_,λy c _ h=>?_,λ_=>hd,ef.frames_deeper e0.frames,.inr ⟨rfl,rfl⟩,λb z=>qQ7 z (Va b),e0.bs,e0.Ni,λb _ _=>Va b,λb z=>qQ7 z (Va b),e0.rP,e0.Ku⟩,
  rfl,e0.bare,Un.kept hk,⟨_,x.toInCall.ns,λi y v h1 h2 h3=>?_⟩,λy c h=>⟨_,x.cell y c h⟩,e0.hok.fresh (ay _),λy c h=>?_,λp hp=>qQ7 (show p∈([]:List (aR×Obj))from hp) (by simp),e0.hok.kept hk,?_⟩
 ·exact name_of_addr x.apart (jy h1) (jy h2)
 ·have hy:scope.names.lookup y=some .cell\/scope.names.lookup y=some .free:=hy
  rcases hy with hy|hy
  ·exact D0 hy
  ·exact qQ7 rfl (S.RT _ (jy hy))
 ·exact oZ (x.above y c (jy h))
 ·have hi:i<vs.length:=by
   unfold start at h2;by_cases hi:i<vs.length
   ·exact hi
   ·rw[cJ (by simpa using hi)]at h2
    rw[eK]at h2
    split at h2<;>cases h2
  have ha:vs[i]?=some v:=by
   unfold start at h2;rw[cO (by simpa using hi),aW]at h2
   cases e:vs[i]? with
   |none=>rw[e]at h2;cases h2
   |some a=>rw[e]at h2;cases h2;rfl
  obtain⟨u,hu,rv⟩:=r.get ha;have hp:ps[i]?=some y:=by
   rw[<-S.pre,List.getElem?_take_of_lt (by omega)];exact h1
  have ndP:ps.Nodup:=by rw[<-S.pre];exact S.nd.sublist (List.take_sublist _ _)
  refine⟨u,rv,?_⟩
  rcases S.par y (bF hp)with k|k
  ·exact .inl ⟨k,Bh ndP hp hu k⟩
  ·obtain⟨c,e⟩:=D0 (n:=s.heap.objs.size+1) k
   refine .inr ⟨.inl k,c,e,?_⟩
   have q:=x.cell y c e;rw[Bi ndP hp hu (by show scope.names.lookup y≠_;rw[k];decide)]at q
   exact q
 ·exact e0.hok.fresh (oZ (x.above y c (jy h)))
 ·unfold start
  show _=N.length;rw[aH,aj,c9];omega
theorem Ql{f:aR}{name qual:Str}{params:Arguments}{dV kV doc pm iD ct oc:aG}{an od:Option aR}
  {HQ:Array (Option aG)}{sp:Sp}(lk:K.lookup f=some ⟨oc,od,.func (iZ name qual params body scope dV kV doc pm an iD ct),HQ⟩)(rQ:lL K iD qual=true)(S:c7 N ps scope)
  (len:∀vs H Q E,sp vs H Q E->vs.length=ps.length)
  (KP:∀(A:ef)(outer:List Env)(s:aU)(H:Hp)(vs:List V)(Q:VK)(E:XK),gj k (A.deeper (envOfC qual scope s.heap.objs.size f iD))->sp vs H Q E->
   ∃t,HJ (uZ CX P w K mg base N qual scope f iD A outer s H E) body t/\t { nx:=λ_ H'=>Q .non H',rt:=Q } (start N vs) H) :
  fA P w K mg base CX (k+1) f (iZ name qual params body scope dV kV doc pm an iD ct) ps sp:=by
 refine⟨len,λA outer s H args us vs Q E hr e0 hb r AO=>?_⟩
 have hl:=len _ _ _ _ AO;have KX:K.In s.heap:=e0.mod.Rr.keeps λb o e=>(e0.bs b o e).1
 have lim:s.heap.NoLimit:=e0.mod.nolimit.keeps λb o e=>(e0.bs b o e).1
 have D1:∀y∈ps.zip us,scope.names.lookup y.1=some .local\/(scope.names.lookup y.1=some .cell/\((cellsFrom (s.heap.objs.size+1) scope.names []).lookup y.1).isSome=true):=λ⟨n,v⟩ hy=>by
  rcases S.par n (su hy).1 with q|q
  ·exact .inl q
  ·exact .inr ⟨q,Cd _ _ _ (.inl q)⟩
 refine codeAny_call_function hr.depth (KX _ _ lk) rfl S.co S.gen rfl (PySem.W.codeRec_of KX rQ) (hb _ _ _ _ ?_)
 refine wpAny_newFunctionEnv_cells S.kind D1 λenv he s1 x=>?_
 subst he;refine⟨lim.keeps x.toInCall.keep,codeAny_func ?_⟩
 obtain⟨t,ht,hq⟩:=KP A outer s H vs Q E (hr.deeper _) AO;have I:Inv (uZ CX P w K mg base N qual scope f iD A outer s H E) [] (start N vs) H s1:=Jl S hr.hd e0 hl r x;refine fq (ht [] s1 (start N vs) H _ I hq) (λfl s' hs=>?_) λe s' hs=>hs
 have fin:∀{σ':St}{H':Hp}{v:V}{u:aG},Inv (uZ CX P w K mg base N qual scope f iD A outer s H E) [] σ' H' s'->RelV v u->Q v H'->CE outer P w H s Q u s':=
  λ{σ' H' v u}J rv q=>⟨v,H',J.os,J.bare,J.base,J.hok,rv,q⟩
 cases fl with
 |ret u=>
  obtain⟨v,σ',H',J,rv,q⟩:=hs;exact fin J rv q
 |next=>
  obtain⟨σ',H',J,q⟩:=hs;exact fin (v:=V.non) (u:=fe) J rfl q
 |brk=>
  obtain⟨_,_,_,q⟩:=hs;exact fu q
 |cont=>
  obtain⟨_,_,_,q⟩:=hs;exact fu q
section
variable{X:Cx}{x:Str}{p pos:Pos}{e:cx}{es:List cx}{t:TA}{id T:String}{r:List V->Hp->VK->Prop}
def tCB(r:List V->Hp->VK->Prop)(t:TA):TE:=λσ H Q=>t σ H λvs H1=>r vs H1 Q
theorem sL(hc:kJ X (.builtin id) r)(hg:Gl X x)(hm:X.mg x=none)(hv:bootBuiltins x=some (.builtin id))(ha:PA X (e::es) t)(hn:x≠"__name__":=by decide)(rS:(x==("__debug__":Str))=false:=by decide)
  (he:starEach (e::es) X.env=(false,eval e X.env)::starEach es X.env:=by rfl)(pT:(backTo pos (starEach es X.env)).any (·.1)=false:=by rfl):PE X (.Call (.Name x p) (e::es) [] pos) (tCB r t):=by
 intro pins s σ H Q I h;refine j8 (wM I hg hm hv ?_ hn rS)
 exact PyProof.Rows.callWith_builtin1 (g8 (ha pos pins s σ H _ I h) λus s1 ⟨vs,H1,I1,r1,q1⟩=>hc pins s1 σ H1 vs us Q I1 r1 q1) he pT
theorem tW(hc:kJ X (.type T) r)(hg:Gl X x)(hm:X.mg x=none)(hv:bootBuiltins x=some (.type T))(ha:PA X (e::es) t)(hn:x≠"__name__":=by decide)(rS:(x==("__debug__":Str))=false:=by decide)
  (he:starEach (e::es) X.env=(false,eval e X.env)::starEach es X.env:=by rfl)(pT:(backTo pos (starEach es X.env)).any (·.1)=false:=by rfl):PE X (.Call (.Name x p) (e::es) [] pos) (tCB r t):=by
 intro pins s σ H Q I h;refine j8 (wM I hg hm hv ?_ hn rS)
 exact jD (g8 (ha pos pins s σ H _ I h) λus s1 ⟨vs,H1,I1,r1,q1⟩=>hc pins s1 σ H1 vs us Q I1 r1 q1) he pT
end
end L2
namespace HT
open PySem PyProof.Rows
variable{Q:aG->aU->Prop}
section
open PySem.SeqAt
open PySem.AutoSeq1 (wpAny_loadPart')
open PySem.MeetsSeq PySem.MeetsSeq2 PySem.MeetsSeq3
end
section
variable{prog:bL}{w:cH}{A:ef}{E:aG->aU->Prop}{s:aU}
theorem N2{t b:aR}{vs ws:List aG}(ht:IsTup s.heap t vs.toArray)(hb:IsTup s.heap b ws.toArray)(hv:vs≠[])
  (h1:ws=[]->Q (.ref t) s)(h2:ws≠[]->Q (.ref s.heap.objs.size) { s with heap:=s.heap.push { cls:=.type "tuple",data:=.seq (vs++ws).toArray } })
  (hsz:vs.length+ws.length<=sizeLine):wpAny (model prog w) A (binaryOp .Add (.ref t) (.ref b)) Q E s:=by
 obtain⟨⟨cls,dd,data,sl⟩,ho,hc,n,hd⟩:=id ht;obtain⟨⟨Ze,XM,data2,Ua⟩,XO,XQ,n2,hd2⟩:=id hb;simp only at hc hd XQ hd2;subst hc hd XQ hd2;have e:vs.toArray++ws.toArray=(vs++ws).toArray:=by simp
 by_cases hw:ws=[]
 ·exact concat_meets ⟨_,ho,rfl⟩ ⟨_,XO,rfl⟩ noFill_tuple_add seq_tuple_add Ce A3 (Az _ _)
   (tuple_addW1 t b vs.toArray ws.toArray n n2 dd XM sl Ua (by simpa using hv) (by simp[hw])) ⟨ho,XO,h1 hw⟩
 ·refine concat_meets ⟨_,ho,rfl⟩ ⟨_,XO,rfl⟩ noFill_tuple_add seq_tuple_add Ce A3 (Az _ _)
   (tuple_addW2 t b vs.toArray ws.toArray n n2 dd XM sl Ua (by simpa using hv) (by simpa using hw) (by rw[bD,bD];exact hsz)) ⟨ho,XO,?_⟩
  rw[e];exact h2 hw
def mh(n d:Nat):Option Int->Nat
 |none=>d
 |some v=>if v<0 then(v+(n:Int)).toNat else min v.toNat n
theorem D2(n d:Nat):mh n d none=d:=rfl
theorem pw(n d k:Nat):mh n d (some (k:Int))=min k n:=by
 show(if(k:Int)<0 then((k:Int)+(n:Int)).toNat else min (k:Int).toNat n)=min k n
 rw[qQ2 (by omega),fN]
theorem RW(n d:Nat)(hd:d<=n)(o:Option Int):mh n d o<=n:=by
 cases o with
 |none=>exact hd
 |some v=>
  show(if v<0 then(v+(n:Int)).toNat else min v.toNat n)<=n
  by_cases hv:v<0
  ·rw[qQ3 hv];omega
  ·rw[qQ2 hv];exact yQ _ _
theorem HR(v:Int)(n d:Nat):(if v<0 then max (v+(n:Int)) 0 else min v (n:Int))=((mh n d (some v):Nat):Int):=by
 show(if v<0 then max (v+(n:Int)) 0 else min v (n:Int))=(((if v<0 then(v+(n:Int)).toNat else min v.toNat n):Nat):Int)
 by_cases hv:v<0
 ·simp only[qQ3 hv];omega
 ·simp only[qQ2 hv];omega
theorem F2(lo hi:Option Int)(n:Nat):nG lo hi 1 (n:Int)=(((mh n 0 lo:Nat):Int),((mh n n hi:Nat):Int)):=by
 have h1:¬((1:Int)<0):=by omega
 unfold nG;simp only[h1,if_false];refine Prod.ext ?_ ?_
 ·cases lo with
  |none=>rfl
  |some v=>exact HR v n 0
 ·cases hi with
  |none=>rfl
  |some v=>exact HR v n n
theorem F3(i j:Nat):jS (i:Int) (j:Int) 1=j-i:=by
 unfold jS;have h1:(1:Int)>0:=by omega
 simp only[h1,if_true,Int.ediv_one]
 split<;>omega
theorem za{v:aG}{o:Option Int}{Q:Option Int->aU->Prop}(p:Cg v o)(h:Q o s):wpAny (model prog w) A (qf.Slice.slicePartIndex v) Q E s:=by
 cases p with
 |none=>exact slicePart_none h
 |int i t=>exact slicePart_int h
theorem wR{sl:aR}{vl vu:aG}{lo hi:Option Int}{n:Nat}{Q:Int×Int×Nat->aU->Prop}(hs:s.heap.IsSliceOf sl vl vu .none)(pl:Cg vl lo)(pu:Cg vu hi)
  (h:Q (((mh n 0 lo:Nat):Int),1,mh n n hi-mh n 0 lo) s):wpAny (model prog w) A (vH (.ref sl) (pure (n:Int))) Q E s:=by
 obtain⟨os,Vb,Vc,RX⟩:=id hs;unfold vH qf.Slice.sliceFields;refine av (av (eN Vb RX (x:=vl) rfl (av (eN Vb RX (x:=vu) rfl (av (eN Vb RX (x:=.none) rfl (a_ ?_)))))))
 refine av (slicePart_none ?_)
 show wpAny _ _ (if((1:Int)==0)=true then _ else _) _ _ s
 rw[qQ2 (by decide)]
 refine av (za pl (av (za pu (av (a_ ?_)))))
 show wpAny _ _ (match nG lo hi 1 (n:Int)with|(lo,hi)=>pure (lo,(1:Int),jS lo hi 1)) _ _ s
 rw[F2 lo hi n];show wpAny _ _ (pure (((mh n 0 lo:Nat):Int),(1:Int),jS ((mh n 0 lo:Nat):Int) ((mh n n hi:Nat):Int) 1)) _ _ s;rw[F3];exact a_ h
theorem KQ(xs:Array aG)(i k:Nat):((cv k).filterMap λ(m:Nat)=>xs[((i:Int)+(m:Int)*1).toNat]?).toArray=((xs.toList.drop i).take k).toArray:=by
 have e:(λ(m:Nat)=>xs[((i:Int)+(m:Int)*1).toNat]?)=λm=>xs[i+m]?:=by
  funext m
  have:((i:Int)+(m:Int)*1).toNat=i+m:=by omega
  rw[this]
 rw[e];have:=pick_run xs i k;rw[cw]at this;have e2:((λx=>xs[x]?)∘λx=>i+x)=λm=>xs[i+m]?:=rfl
 rw[e2]at this;rw[this]
theorem vL{t sl:aR}{items:Array aG}{vl vu:aG}{lo hi:Option Int}(ht:IsTup s.heap t items)(hs:s.heap.IsSliceOf sl vl vu .none)(pl:Cg vl lo)(pu:Cg vu hi)
  (hw:¬(mh items.size 0 lo=0/\mh items.size items.size hi=items.size))
  (h:Q (.ref s.heap.objs.size) { s with heap:=s.heap.push { cls:=.type "tuple",data:=.seq ((items.toList.drop (mh items.size 0 lo)).take (mh items.size items.size hi-mh items.size 0 lo)).toArray } })
  (hsz:items.size<=sizeLine):wpAny (model prog w) A (getItem (.ref t) (.ref sl)) Q E s:=by
 have HS:sizeOk (.seq ((items.toList.drop (mh items.size 0 lo)).take (mh items.size items.size hi-mh items.size 0 lo)).toArray):=by
  show((items.toList.drop (mh items.size 0 lo)).take (mh items.size items.size hi-mh items.size 0 lo)).toArray.size<=sizeLine
  rw[bD,bK,cW,df];omega
 have hj:mh items.size items.size hi<=items.size:=RW _ _ (ay _) hi;obtain⟨os,Vb,Vc,RX⟩:=id hs;have hTs:s.TypeIs (.ref sl) "slice":=⟨os,Vb,Vc⟩;unfold getItem
 try with_reducible refine mr ?_
 first|refine av (a_ ?_)|skip
 refine av (wpAny_sequenceKey ht.typeIs (by decide) ?_)
 refine av (jN (name:=o4 "__getitem__") ht.typeIs lu
  (oy lu ht.typeIs entry_tuple_getitem ?_ (args_tuple_getitem _ _)))
 show wpAny _ _ (qf.Tuple.tupleItemsOf (.ref t) >>= _) _ _ s;refine av (tupleItemsOf_ ht ?_)
 refine av (wpAny_typeOf hTs ?_)
 rw[qQ3 (by decide)]
 refine av (wR hs pl pu ?_)
 have Kn:¬((((mh items.size 0 lo:Nat):Int)==0&&(1:Int)==1&&(mh items.size items.size hi-mh items.size 0 lo)==items.size)=true):=by
  intro q;rw[kP,kP]at q;have q1:((mh items.size 0 lo:Nat):Int)=0:=eq_of_beq q.1.1;have q2:mh items.size items.size hi-mh items.size 0 lo=items.size:=eq_of_beq q.2;exact hw ⟨by omega,by omega⟩
 show wpAny _ _ (if(((mh items.size 0 lo:Nat):Int)==0&&(1:Int)==1&&(mh items.size items.size hi-mh items.size 0 lo)==items.size)=true then _ else _) _ _ s
 rw[qQ2 Kn,KQ]
 first
  |exact av (m:=j9 _) (fw (a_ ⟨_,rfl,a_ h⟩) HS)
  |exact av (m:=j9 _) (fw (av (a_ (a_ ⟨_,rfl,a_ h⟩))) HS)
  |exact av (av (m:=j9 _) (fw (a_ (a_ ⟨_,rfl,a_ h⟩)) HS))
  |exact av (av (m:=j9 _) (fw (a_ ⟨_,rfl,a_ h⟩) HS))
end
end HT
namespace L2
open PySem PySem.Spec PyProof.Rows
variable{xs:List V}{its us:List aG}{n t':Nat}
abbrev TO:=St->Hp->(Option Int->Hp->Prop)->Prop
def PO(X:Cx)(e:Option cx)(t:TO):Prop:=
 ∀(pins:List (aR×Obj))(s:aU)(σ:St)(H:Hp)(Q:Option Int->Hp->Prop),Inv X pins σ H s->t σ H Q->
  wpAny (model X.prog X.w) X.A (evalPart e X.env) (λu s'=>∃o H',Inv X pins σ H' s'/\Cg u o/\Q o H') X.xe s
def N3:TO:=λ_ H Q=>Q none H
def Vd(t:TE):TO:=λσ H Q=>t σ H λx H1=>∃i,x=.int i/\Q (some i) H1
theorem intsAre_of{ns:List Int}:∀{us:List aG},eO (ns.map V.int) us->AA us ns:=by
 induction ns with
 |nil=>intro us r;rw[fX]at r;cases r;exact .nil
 |cons n ns ih=>
  intro us r;rw[aN]at r;cases r with
  |cons r1 r2=>
   obtain⟨t,e⟩:=r1;subst e;exact .cons n t (ih r2)
section
variable{X:Cx}{e:cx}{te:TE}{lo hi:Option cx}{tl th:TO}{pos p2:Pos}
theorem N4:PO X none N3:=by
 intro pins s σ H Q I h;rw[evalPart_none];exact a_ ⟨none,H,I,.none,h⟩
theorem N5(h:PE X e te):PO X (some e) (Vd te):=by
 intro pins s σ H Q I hw;rw[evalPart_some];refine g8 (h pins s σ H _ I hw) λu s1 ⟨x,H1,I1,r1,q1⟩=>?_
 obtain⟨i,rfl,q⟩:=q1;obtain⟨t,rfl⟩:=r1;exact⟨some i,H1,I1,.int i t,q⟩
def XR(X:Cx)(r:V->Option Int->Option Int->Hp->VK->Prop):Prop:=
 ∀(pins:List (aR×Obj))(s:aU)(σ:St)(H:Hp)(x:V)(v vl vu:aG)(lo hi:Option Int)(sl:aR)(Q:VK),Inv X pins σ H s->RelV x v->s.heap.IsSliceOf sl vl vu .none->Cg vl lo->Cg vu hi->r x lo hi H Q->
  ∃T id,typeLookup (.type T) "__getitem__"=pure (some (.builtin id))/\s.TypeIs v T/\wpAny (model X.prog X.w) X.A (getItem v (.ref sl)) (EP X pins σ Q) X.xe s
def tSl(r:V->Option Int->Option Int->Hp->VK->Prop)(te:TE)(tl th:TO):TE:=λσ H Q=>te σ H λx H1=>tl σ H1 λl H2=>th σ H2 λu H3=>r x l u H3 Q
theorem zc{r:V->Option Int->Option Int->Hp->VK->Prop}(hr:XR X r)(he:PE X e te)(hl:PO X lo tl)(hu:PO X hi th):PE X (.Subscript e (.Slice lo hi none p2) pos) (tSl r te tl th):=by
 intro pins s σ H Q I h;refine Subscript_ (g8 (he pins s σ H _ I h) λv s1 ⟨x,H1,I1,r1,q1⟩=>?_)
 refine wpAny_Slice (g8 (hl pins s1 σ H1 _ I1 q1) λvl s2 ⟨l,H2,I2,pl,q2⟩=>g8 (hu pins s2 σ H2 _ I2 q2) λvu s3 ⟨u,H3,I3,pu,q3⟩=>?_)
 rw[evalPart_none];refine a_ ?_
 have I4:Inv X pins σ H3 { s3 with heap:=s3.heap.push { cls:=.type "slice",data:=.fields #[vl,vu,.none] } }:=I3.kept (t':=s3.toks) λb ob q=>aF _ q
 obtain⟨T,id,hT,ht,hg⟩:=hr pins { s3 with heap:=s3.heap.push { cls:=.type "slice",data:=.fields #[vl,vu,.none] } } σ H3 x v vl vu l u s3.heap.objs.size Q I4 r1 (dw.IsSliceOf.new ..) pl pu q3
 show wpAny (model X.prog X.w) X.A (subscriptTail e (.Slice lo hi none p2) v (.ref s3.heap.objs.size)) (EP X pins σ Q) X.xe { s3 with heap:=s3.heap.push { cls:=.type "slice",data:=.fields #[vl,vu,.none] } }
 exact tail_any (ops:=[.ref s3.heap.objs.size,v]) ht hT hg (by with_unfolding_all rfl)
def D3(xs:List V)(lo hi:Option Int):List V:=(xs.drop (HT.mh xs.length 0 lo)).take (HT.mh xs.length xs.length hi-HT.mh xs.length 0 lo)
theorem xD(xs:List V)(lo hi:Option Int):(D3 xs lo hi).length<=xs.length:=by
 unfold D3;rw[bK,cW];omega
def Zf(K:au):V->Option Int->Option Int->Hp->VK->Prop:=λx lo hi H Q=>∃a xs,x=.ref a/\rF K H a xs/\
 ¬(HT.mh xs.length 0 lo=0/\HT.mh xs.length xs.length hi=xs.length)/\∀p,H p=none->Q (.ref p) (upd H p (.tup (D3 xs lo hi)))
theorem RZ:XR X (Zf X.K):=by
 intro pins s σ H x v vl vu lo hi sl Q I rx hs pl pu h;obtain⟨a,xs,rfl,hx,hw,q⟩:=h;cases rx;obtain⟨its,r,ht,hz⟩:=I.tuple hx;have hlen:its.toArray.size=xs.length:=by rw[bD];exact r.length.symm
 refine⟨"tuple",_,lu.lookup,ht.typeIs,?_⟩
 refine HT.vL ht hs pl pu (by rw[hlen];exact hw) ?_ (by rw[hlen];exact hz)
 rw[hlen];refine⟨.ref s.heap.objs.size,_,I.laid (t':=s.toks) (o:=.tup (D3 xs lo hi)) (λb ob q=>aF _ q) (ay _) ?_,rfl,q _ (I.hok.fresh (ay _))⟩
 exact⟨cj (xD xs lo hi) hz,_,(r.drop (HT.mh xs.length 0 lo)).take (HT.mh xs.length xs.length hi-HT.mh xs.length 0 lo),uy _ _⟩
def Ve(K:au):R2:=λx y H Q=>∃a b xs ys,x=.ref a/\y=.ref b/\rF K H a xs/\rF K H b ys/\xs≠[]/\xs.length+ys.length<=sizeLine/\
 (ys=[]->Q (.ref a) H)/\(ys≠[]->∀p,H p=none->Q (.ref p) (upd H p (.tup (xs++ys))))
theorem eO.yt(r:eO xs us):us=[]↔xs=[]:=by
 cases r with
 |nil=>simp
 |cons _ _=>simp
theorem N6:tV X (binaryOp .Add) (Ve X.K):=by
 intro pins s σ H x y v u Q I rx ry h;obtain⟨a,b,xs,ys,rfl,rfl,ha,hb,hx,hz,q1,q2⟩:=h;cases rx;cases ry;obtain⟨its,r1,p1,_⟩:=I.tuple ha;obtain⟨N7,r2,p2,_⟩:=I.tuple hb;refine HT.N2 p1 p2 (λz=>hx (r1.yt.mp z)) (λz=>⟨.ref a,H,I,rfl,q1 (r2.yt.mp z)⟩) (λz=>?_) (by rw[<-r1.length,<-r2.length];exact hz)
 refine⟨.ref s.heap.objs.size,_,I.laid (t':=s.toks) (o:=.tup (xs++ys)) (λb ob q=>aF _ q) (ay _) ?_,rfl,q2 (λw=>z (r2.yt.mpr w)) _ (I.hok.fresh (ay _))⟩
 exact⟨by rw[aH];exact hz,_,r1.append r2,uy _ _⟩
end
def Qm(n:Nat)(i:Int):Option Nat:=if 0<=i then(if i<n then some i.toNat else none)else if -(n:Int)<=i then some (i+n).toNat else none
def tX{α:Type}(xs:List α)(i:Int):Option α:=(Qm xs.length i).bind λj=>xs[j]?
theorem N8{i:Int}{j:Nat}(h:Qm n i=some j):seqIndex? i n=some j/\j<n/\-(n:Int)<=i/\i<n:=by
 unfold Qm at h;by_cases h0:0<=i
 ·rw[qQ3 h0]at h
  by_cases h1:i<n
  ·rw[qQ3 h1]at h
   have e:i.toNat=j:=dC h;exact⟨by rw[seqIndex_of h0 h1,e],by omega,by omega,h1⟩
  ·rw[qQ2 h1]at h;cases h
 ·rw[qQ2 h0]at h
  by_cases h1:-(n:Int)<=i
  ·rw[qQ3 h1]at h
   have e:(i+n).toNat=j:=dC h;exact⟨by rw[seqIndex_neg (by omega) h1,e],by omega,h1,by omega⟩
  ·rw[qQ2 h1]at h;cases h
theorem CF{α:Type}{xs:List α}{i:Int}{v:α}(h:tX xs i=some v):∃j,seqIndex? i xs.length=some j/\xs[j]?=some v/\j<xs.length/\-(xs.length:Int)<=i/\i<xs.length:=by
 unfold tX at h;cases e:Qm xs.length i with
 |none=>rw[e]at h;cases h
 |some j=>
  rw[e]at h;obtain⟨h1,h2,h3,h4⟩:=N8 e;exact⟨j,h1,h,h2,h3,h4⟩
theorem ck{α:Type}{xs:List α}{j:Nat}{v:α}(h:xs[j]?=some v):tX xs (j:Int)=some v:=by
 have hj:j<xs.length:=(aP.mp h).1;have e:Qm xs.length (j:Int)=some j:=by
  unfold Qm;rw[qQ3 (by omega),qQ3 (by omega)];simp
 unfold tX;rw[e];exact h
def tY(b:cx):Prop:=∀o i,subscripted b false o i=operate [o,i] (getItem o i)
def Nk(X:Cx)(r:R2):Prop:=
 ∀(value slice:cx)(pins:List (aR×Obj))(s:aU)(σ:St)(H:Hp)(x y:V)(v u:aG)(Q:VK),Inv X pins σ H s->RelV x v->RelV y u->r x y H Q->
  subscripted slice false v u=operate [v,u] (getItem v u)->wpAny (model X.prog X.w) X.A (subscriptTail value slice v u) (EP X pins σ Q) X.xe s
def MtR(X:Cx)(id:String)(r:V->List V->Hp->VK->Prop):Prop:=
 ∀(pins:List (aR×Obj))(s:aU)(σ:St)(H:Hp)(x:V)(xs:List V)(v:aG)(us:List aG)(Q:VK),Inv X pins σ H s->RelV x v->eO xs us->r x xs H Q->
  wpAny (model X.prog X.w) X.A (call (.builtin id) (v::us)) (EP X pins σ Q) X.xe s
section
variable{X:Cx}{a b:cx}{ta tb:TE}{pos:Pos}
theorem Nk.or{r r':R2}(h:Nk X r)(h':Nk X r'):Nk X (λx y H Q=>r x y H Q\/r' x y H Q):=by
 intro value slice pins s σ H x y v u Q I rx ry q hs;rcases q with q|q
 ·exact h value slice pins s σ H x y v u Q I rx ry q hs
 ·exact h' value slice pins s σ H x y v u Q I rx ry q hs
theorem Qn{r:R2}(hr:Nk X r)(ha:PE X a ta)(hb:PE X b tb)(hs:tY b):PE X (.Subscript a b pos) (UX r ta tb):=by
 intro pins s σ H Q I h;exact Subscript_ (RH ha hb I h λv u s2 x y H2 I2 rx ry q=>hr a b pins s2 σ H2 x y v u Q I2 rx ry q (hs _ _))
def Vf(K:au):R2:=λx y H Q=>∃p xs i v,x=.ref p/\y=.int i/\mJ K H p xs/\tX xs i=some v/\Q v H
def Vg(K:au):R2:=λx y H Q=>∃p xs i v,x=.ref p/\y=.int i/\rF K H p xs/\tX xs i=some v/\Q v H
def Vh:R2:=λx y H Q=>∃z i c,x=.str z/\y=.int i/\z.length<=sizeLine/\tX z.cps.toList i=some c/\Q (.str ⟨#[c]⟩) H
theorem N9:Nk X (Vf X.K):=by
 intro value slice pins s σ H x y v u Q I rx ry h hs;obtain⟨p,xs,i,z,rfl,rfl,hq,he,q⟩:=h;cases rx;obtain⟨t,rfl⟩:=ry;obtain⟨its,r,pl,hz⟩:=I.list hq;obtain⟨j,h1,h2,h3,h4,h5⟩:=CF he;obtain⟨w,ew,rR⟩:=r.get h2;have hl:=r.length;have hn:=uX;have fin:EP X pins σ Q w s:=⟨z,H,I,rR,q⟩;by_cases h0:0<=i
 ·have hj:i.toNat=j:=by
   rw[seqIndex_of h0 h5]at h1;exact dC h1
  exact item_listR pl.isList h0 (by omega) (by rw[hj];simpa using ew) fin hs
 ·have hj:(i+(its.toArray.size:Int)).toNat=j:=by
   rw[seqIndex_neg (by omega) h4]at h1
   rw[bD,<-hl];exact dC h1
  exact subscriptTail_builtinR (x:=w) pl.isList.typeIs slot_list_getitem.lookup
   (wpAny_getItem_list_neg (Q:=λr s'=>r=w/\EP X pins σ Q r s') pl.isList (by omega) (by rw[bD]<;>omega) (by omega) (by rw[hj];simpa using ew) ⟨rfl,fin⟩) hs
theorem R0:Nk X (Vg X.K):=by
 intro value slice pins s σ H x y v u Q I rx ry h hs;obtain⟨p,xs,i,z,rfl,rfl,hq,he,q⟩:=h;cases rx;obtain⟨t,rfl⟩:=ry;obtain⟨its,r,pl,hz⟩:=I.tuple hq;obtain⟨j,h1,h2,h3,h4,h5⟩:=CF he;obtain⟨w,ew,rR⟩:=r.get h2;have hl:=r.length;have hn:=uX;have fin:EP X pins σ Q w s:=⟨z,H,I,rR,q⟩;exact subscriptTail_builtinR (x:=w) pl.typeIs slot_tuple_getitem.lookup
  (getItem_tuple (j:=j) (Q:=λr s'=>r=w/\EP X pins σ Q r s') pl (by omega) (by omega) (by rw[bD,<-hl];exact h1) (by simpa using ew) ⟨rfl,fin⟩) hs
theorem R1:Nk X Vh:=by
 intro value slice pins s σ H x y v u Q I rx ry h hs;obtain⟨z,i,c,rfl,rfl,hz,he,q⟩:=h;obtain⟨t,rfl⟩:=rx;obtain⟨t',rfl⟩:=ry;obtain⟨j,h1,h2,h3,h4,h5⟩:=CF he;have hl:z.cps.toList.length=z.length:=by simp[Str.length]
 rw[hl]at h1 h4 h5;have hn:=uX;exact tail_any (uW s z t) slot_str_getitem.lookup (getItem_str (c:=c) (by
  have e1:decide (i < -(2^63:Int))=false:=qQ0 (by omega)
  have e2:decide (i>=2^63)=false:=qQ0 (by omega)
  rw[e1,e2,Bool.or_false]) (by rw[h1];simpa using h2) ⟨.str ⟨#[c]⟩,H,I.tok _,⟨_,rfl⟩,q⟩) hs
def XS(K:au):R2:=λx y H Q=>Vf K x y H Q\/Vg K x y H Q\/Vh x y H Q
theorem CG:Nk X (XS X.K):=N9.or (R0.or R1)
theorem CH(lo hi:Option Int)(n:Nat):(sliceBounds lo hi none n).1=((HT.mh n 0 lo:Nat):Int)/\(sliceBounds lo hi none n).2.1=((HT.mh n n hi:Nat):Int)/\(sliceBounds lo hi none n).2.2=1:=by
 refine⟨?_,?_,rfl⟩
 ·cases lo with
  |none=>simp[sliceBounds,HT.mh]
  |some i=>
   simp only[sliceBounds,HT.mh,Option.getD_none,show(1:Int)>0 by decide,if_true]
   by_cases h:i<0
   ·simp only[h,if_true]<;>omega
   ·simp only[h,if_false]<;>omega
 ·cases hi with
  |none=>simp[sliceBounds,HT.mh]
  |some i=>
   simp only[sliceBounds,HT.mh,Option.getD_none,show(1:Int)>0 by decide,if_true]
   by_cases h:i<0
   ·simp only[h,if_true]<;>omega
   ·simp only[h,if_false]<;>omega
theorem AQ(its:List aG)(lo hi:Option Int):slicePick its.toArray lo hi none=((its.drop (HT.mh its.length 0 lo)).take (HT.mh its.length its.length hi-HT.mh its.length 0 lo)).toArray:=by
 obtain⟨h1,h2,h3⟩:=CH lo hi its.toArray.size;unfold slicePick;rw[h1,h2,h3];simp only[sliceRange_one,pick_run,bD]<;>rfl
def Zg(K:au):V->Option Int->Option Int->Hp->VK->Prop:=λx lo hi H Q=>∃a xs,x=.ref a/\mJ K H a xs/\∀p,H p=none->Q (.ref p) (upd H p (.lst (D3 xs lo hi)))
theorem N_:XR X (Zg X.K):=by
 intro pins s σ H x v vl vu lo hi sl Q I rx hs pl pu h;obtain⟨a,xs,rfl,hx,q⟩:=h;cases rx;obtain⟨its,r,ht,hz⟩:=I.list hx;have hlen:=r.length;refine⟨"list",_,slot_list_getitem.lookup,ht.isList.typeIs,?_⟩
 refine wpAny_getItem_list_slice ht.isList hs pl pu .none (by simp) ?_ (by rw[bD]<;>omega)
 rw[AQ,<-hlen];refine⟨.ref s.heap.objs.size,_,I.laid (t':=s.toks) (o:=.lst (D3 xs lo hi)) (λb ob q=>aF _ q) (ay _) ?_,rfl,q _ (I.hok.fresh (ay _))⟩
 exact⟨cj (xD xs lo hi) hz,_,0,(r.drop (HT.mh xs.length 0 lo)).take (HT.mh xs.length xs.length hi-HT.mh xs.length 0 lo),bN _ rfl⟩
theorem vM:kJ X (.builtin "len") (λxs H Q=>∃p ys,xs=[.ref p]/\(mJ X.K H p ys\/rF X.K H p ys)/\Q (.int ys.length) H):=by
 intro pins s σ H xs us Q I r h;obtain⟨p,ys,rfl,hq,q⟩:=h;obtain⟨u,rfl,rx⟩:=vals1 r;cases rx;have hn:=uX;rcases hq with hq|hq
 ·obtain⟨its,r',pl,hz⟩:=I.list hq
  have hlen:=r'.length;exact Calls.call_len_list pl.isList (by simp only[bD]<;>omega) ⟨.int ys.length,H,I.tok _,⟨s.toks+1,by rw[bD,hlen]⟩,q⟩
 ·obtain⟨its,r',pl,hz⟩:=I.tuple hq
  have hlen:=r'.length;exact len_tuple pl (by simp only[bD]<;>omega) ⟨.int ys.length,H,I.tok _,⟨s.toks+1,by rw[bD,hlen]⟩,q⟩
theorem CJ:kJ X (.builtin "len") (λxs H Q=>∃z,xs=[.str z]/\z.length<=sizeLine/\Q (.int z.length) H):=by
 intro pins s σ H xs us Q I r h;obtain⟨z,rfl,hz,q⟩:=h;obtain⟨u,rfl,t,rfl⟩:=vals1 r;have hn:=uX;exact len_str (by omega) ⟨.int z.length,H,I.tok _,⟨_,rfl⟩,q⟩
theorem CK:kJ X (.type "list") (λxs H Q=>∃p ys,xs=[.ref p]/\(mJ X.K H p ys\/rF X.K H p ys)/\∀l,H l=none->Q (.ref l) (upd H l (.lst ys))):=by
 intro pins s σ H xs us Q I r h;obtain⟨p,ys,rfl,hq,q⟩:=h;obtain⟨u,rfl,rx⟩:=vals1 r;cases rx;have fin:∀(its:List aG),eO ys its->ys.length<=sizeLine->∀(h':dw)(c':Nat),(∀b o',s.heap.get? b=some o'->h'.get? b=some o')->
   h'.get? s.heap.objs.size=some { cls:=.type "list",dict:=none,data:=.seq its.toArray c',slots:=#[] }->EP X pins σ Q (.ref s.heap.objs.size) { s with heap:=h' }:=λits r' hz h' c' kp e=>
  ⟨.ref s.heap.objs.size,_,I.laid (t':=s.toks) kp (ay _) (show iB X.prog X.w _ h' _ (.lst ys) from⟨hz,its,c',r',e⟩),rfl,q _ (I.hok.fresh (ay _))⟩
 rcases hq with hq|hq
 ·obtain⟨its,r',pl,hz⟩:=I.list hq
  have hlen:=r'.length;obtain⟨o,ho,hc,n,hd⟩:=pl.isList;exact call_list_seq p (.inl rfl) ho hc hd (λh' c' kp e=>fin its r' hz h' c' kp e) (by simp only[bD]<;>omega)
 ·obtain⟨its,r',pl,hz⟩:=I.tuple hq
  have hlen:=r'.length;obtain⟨o,ho,hc,n,hd⟩:=pl;exact call_list_seq p (.inr rfl) ho hc hd (λh' c' kp e=>fin its r' hz h' c' kp e) (by simp only[bD]<;>omega)
theorem mU:kJ X (.type "tuple") (λxs H Q=>∃p ys,xs=[.ref p]/\((mJ X.K H p ys/\∀l,H l=none->Q (.ref l) (upd H l (.tup ys)))\/(rF X.K H p ys/\Q (.ref p) H))):=by
 intro pins s σ H xs us Q I r h;obtain⟨p,ys,rfl,h⟩:=h;obtain⟨u,rfl,rx⟩:=vals1 r;cases rx;rcases h with⟨hq,q⟩|⟨hq,q⟩
 ·obtain⟨its,r',pl,hz⟩:=I.list hq
  have hlen:=r'.length;refine call_tuple_list pl.isList (λh' kp=>?_) (by simp only[bD]<;>omega)
  have I1:Inv X pins σ H { s with heap:=h' }:=I.kept (t':=s.toks) kp
  have I2:Inv X pins σ (upd H h'.objs.size (.tup ys)) { s with heap:=h'.push { cls:=.type "tuple",data:=.seq its.toArray } }:=
   I1.laid (t':=s.toks) (λb o e=>aF _ e) (ay _) (show iB X.prog X.w _ _ _ (.tup ys) from⟨hz,its,r',uy _ _⟩)
  exact⟨.ref h'.objs.size,_,I2,rfl,q _ (I1.hok.fresh (ay _))⟩
 ·obtain⟨its,r',pl,hz⟩:=I.tuple hq
  exact call_tuple_same pl ⟨.ref p,H,I,rfl,q⟩
def tyV(K:au)(T:String)(x:V)(H:Hp):Prop:=match x with
 | .str _=>T="str"
 | .int _=>T="int"
 | .ref p=>(T="list"/\∃xs,mJ K H p xs)\/(T="tuple"/\∃o,K.lookup p=some o/\o.cls=.type "tuple"/\o.dict=none)\/
   (T="dict"/\((∃kvs,H p=some (.dK kvs))\/∃kvs,H p=some (.dT kvs)))\/(T="set"/\∃S n,H p=some (.set S n))
 |_=>False
theorem R3{pins:List (aR×Obj)}{σ:St}{H:Hp}{s:aU}{T:String}{x:V}{v:aG}(I:Inv X pins σ H s)(r:RelV x v)(ty:tyV X.K T x H):
  s.TypeIs v T/\∀a,v=.ref a->∃ob,s.heap.get? a=some ob/\ob.dict=none:=by
 cases x with
 |str z=>
  obtain⟨t,rfl⟩:=r
  cases(show T="str" from ty)
  exact⟨uW s z t,λ_ e=>nomatch e⟩
 |int i=>
  obtain⟨t,rfl⟩:=r
  cases(show T="int" from ty)
  exact⟨yR s i t,λ_ e=>nomatch e⟩
 |ref p=>
  cases r;rcases ty with⟨rfl,xs,hq⟩|⟨rfl,o,hk,hc,hd⟩|⟨rfl,hk⟩|⟨rfl,S,n,hk⟩
  ·obtain⟨its,_,pl,_⟩:=I.list hq
   refine⟨pl.isList.typeIs,λa e=>?_⟩
   cases e;obtain⟨o,n,e,c,hd,_⟩:=pl;exact⟨o,e,hd⟩
  ·refine⟨⟨o,I.vA p o hk,hc⟩,λa e=>?_⟩
   cases e;exact⟨o,I.vA _ o hk,hd⟩
  ·have z:∃o,s.heap.get? p=some o/\o.ExactDict:=by
    rcases hk with⟨kvs,hk⟩|⟨kvs,hk⟩
    ·obtain⟨_,_,_,_,o,_,_,e,ex,_⟩:=I.hok p _ hk
     exact⟨o,e,ex⟩
    ·obtain⟨_,_,_,_,o,_,_,e,ex,_⟩:=I.hok p _ hk
     exact⟨o,e,ex⟩
   obtain⟨o,e,ex⟩:=z;refine⟨⟨o,e,ex.1⟩,λa e2=>?_⟩
   cases e2;exact⟨o,e,ex.2.1⟩
  ·obtain⟨o,_,_,_,e,ex,_⟩:=I.hok p _ hk
   refine⟨⟨o,e,ex.1⟩,λa e2=>?_⟩
   cases e2;exact⟨o,e,ex.2.1⟩
 |_=>exact fu ty
def tBM(K:au)(T:String)(r:V->List V->Hp->VK->Prop)(to:TE)(t:TA):TE:=λσ H Q=>to σ H λx H1=>tyV K T x H1/\t σ H1 λxs H2=>r x xs H2 Q
variable{o e:cx}{es:List cx}{to:TE}{t:TA}{name:Str}{apos oH:Pos}{T id:String}{r:V->List V->Hp->VK->Prop}
theorem zh(pa:PlainAttrs T)(slot:Slot T name id)(hty:typeOf (.builtin id)=pure (.type "method_descriptor"))(hm:MtR X id r)(ho:PE X o to)(ha:PA X (e::es) t)
  (oI:attributeBase o name X.env (eval o X.env)=eval o X.env:=by rfl)
  (u0:((backTo oH (starEach (e::es) X.env)).all (λx=>!x.1)&&(backToKw oH (keywordEach [] X.env)).all (λx=>x.1.isSome)
   && decide ((e::es).length+([]:List jz).length+(if([]:List jz).isEmpty then 0 else 1)<30))=true:=by rfl)
  (hline:(apos.endLine==oH.line)=true:=by rfl) (hs:starEach (e::es) X.env=(false,eval e X.env)::starEach es X.env:=by rfl) (lb:(backTo oH (starEach es X.env)).any (·.1)=false:=by rfl) :
  PE X (.Call (.Attribute o name apos) (e::es) [] oH) (tBM X.K T r to t):=by
 intro pins s σ H Q I h;refine wpAny_Call_method_late oI u0 hline rfl (g8 (ho pins s σ H _ I h) λv s1 ⟨x,H1,I1,r1,ty,q1⟩=>?_)
 obtain⟨h1,h2⟩:=R3 I1 r1 ty;refine⟨T,id,pa,slot,hty,h1,h2,?_⟩
 have hA:=ha oH pins s1 σ H1 _ I1 q1;rw[hs]at hA ⊢;refine rM (by show(false||(backTo oH (starEach es X.env)).any (·.1))=false;rw[lb]<;>rfl) (uq ?_)
 exact g8 hA λus s2 ⟨vs,H2,I2,r2,q2⟩=>hm pins s2 σ H2 x vs v us Q I2 r1 r2 q2
end
def Vi(X:Cx)(id:String)(r:V->List V->Hp->VK->Prop):Prop:=
 ∀(pins:List (aR×Obj))(s:aU)(σ:St)(H:Hp)(x:V)(xs:List V)(v:aG)(us:List aG)(Q:VK),Inv X pins σ H s->RelV x v->eO xs us->r x xs H Q->
  wpAny (model X.prog X.w) X.A (call (.builtin id) (v::us)) (EP X pins σ Q) X.xe s
theorem eO.one:∀{x:V}{us:List aG},eO [x] us->∃u,us=[u]/\RelV x u
 |_,_,.cons r .nil=>⟨_,rfl,r⟩
theorem eO.two:∀{x y:V}{us:List aG},eO [x,y] us->∃u v,us=[u,v]/\RelV x u/\RelV y v
 |_,_,_,.cons r (.cons q .nil)=>⟨_,_,rfl,r,q⟩
theorem eO.rep(h:eO xs us):∀k:Nat,eO (aT k xs).flatten (aT k us).flatten
 |0=>.nil
 |k+1=>by
  rw[dJ,dJ,dX,dX];exact eO.append h (eO.rep h k)
theorem foldl_rep(its:List aG):∀(k:Nat)(acc:List aG),
  A4 (λx1 x2=>x1++x2) acc.toArray (aT k its.toArray)=(acc++(aT k its).flatten).toArray
 |0,acc=>by simp
 |k+1,acc=>by
  have e:acc.toArray++its.toArray=(acc++its).toArray:=by simp
  have e2:(acc++its)++(aT k its).flatten=acc++(aT (k+1) its).flatten:=by
   rw[dJ,dX,c6]
  rw[<-e2,<-foldl_rep its k (acc++its),<-e,dJ,lG]
section
variable{X:Cx}{pins:List (aR×Obj)}{σ:St}{H:Hp}{s:aU}{l b:aR}{xs ys zs:List V}
theorem Inv.Vj{its': List aG}{f:Array aG->Array aG}(I:Inv X pins σ H s)(hH:H l=some (.lst xs))
  (e:s.heap.get? l=some { cls:=.type "list",data:=.seq its.toArray n })(hf:f its.toArray=its'.toArray)(hv:eO ys its')(hz:ys.length<=sizeLine):
  Inv X pins σ (upd H l (.lst ys)) { s with heap:=s.heap.update l (Obj.mapSeq f),toks:=t' }:=by
 have q:=PySem.IsL.update e f;rw[hf]at q;refine I.write (x:=l) (e:=l) (by rw[hH];exact trivial) (.inl rfl) (λb' u hb hu=>(dN s.heap (Obj.mapSeq f) (bY hb)).trans hu) ⟨_,q⟩ ?_
 exact⟨hz,its',_,hv,q⟩
theorem Inv.Vk(I:Inv X pins σ H s)(hv:eO ys its)(hz:ys.length<=sizeLine):
  Inv X pins σ (upd H s.heap.objs.size (.lst ys)) { s with heap:=s.heap.push { cls:=.type "list",data:=.seq its.toArray },toks:=t' }:=
 I.laid (λ_ _ q=>aF _ q) (ay _) ⟨hz,its,0,hv,bN _ rfl⟩
theorem Inv.fresh(I:Inv X pins σ H s):H s.heap.objs.size=none:=I.hok.fresh (ay _)
theorem Inv.R4(I:Inv X pins σ H s)(hH:H l=some (.lst xs)):xs.length<=sizeLine/\∃(its:List aG)(n:Nat),eO xs its/\xs.length=its.length/\s.heap.get? l=some { cls:=.type "list",data:=.seq its.toArray n }:=by
 obtain⟨z,its,n,r,e⟩:=I.hok l _ hH;exact⟨z,its,n,r,r.length,e⟩
theorem KR(h:n<=sizeLine):oo n=false:=by
 unfold oo;exact qQ0 (by omega)
end
section
variable{X:Cx}
def Oa:V->List V->Hp->VK->Prop:=λx vs H Q=>∃l xs y,x=.ref l/\vs=[y]/\H l=some (.lst xs)/\xs.length<sizeLine/\Q .non (upd H l (.lst (xs ++ [y])))
theorem tZ:Vi X "list.append" Oa:=by
 intro pins s σ H x vs v us Q I rx rv h;obtain⟨l,xs,y,rfl,rfl,hH,hz,q⟩:=h;cases rx;obtain⟨u,rfl,ru⟩:=rv.one;obtain⟨z,its,n,r,hl,e⟩:=I.R4 hH;refine j_ F.slot_list_append ⟨_,e,rfl⟩ F.entry_list_append (F.args_list_append_2 _ _) (PySem.list_append l its.toArray n u (by rw[bD];omega)) ⟨e,?_⟩
 refine⟨.non,_,I.Vj (its':=its ++ [u]) hH e (by simp) (r.append (.cons ru .nil)) ?_,rfl,q⟩
 rw[aH,gS];omega
def Zh:R2:=λx y H Q=>∃l k xs,x=.ref l/\y=.int k/\H l=some (.lst xs)/\-(2^63)<=k/\k<2^63/\xs.length*k.toNat<=sizeLine/\
 ∀p,H p=none->Q (.ref p) (upd H p (.lst (aT k.toNat xs).flatten))
theorem len_rep{α:Type}(xs:List α)(k:Nat):(aT k xs).flatten.length=k*xs.length:=by
 induction k with
 |zero=>simp
 |succ k ih=>rw[dJ,dX,aH,ih,x8,Nat.add_comm]
theorem R5:tV X (binaryOp .Mult) Zh:=by
 intro pins s σ H x y v u Q I rx ry h;obtain⟨l,k,xs,rfl,rfl,hH,h1,h2,hz,q⟩:=h;cases rx;obtain⟨t,rfl⟩:=ry;obtain⟨z,its,n,r,hl,e⟩:=I.R4 hH;have hlen:its.toArray.size*k.toNat<=sizeLine:=by rw[bD,<-hl];exact hz
 have Zi:¬its.toArray.size*k.toNat>(2^63-1)/8:=by
  have:(sizeLine:Nat)<=(2^63-1)/8:=by decide
  omega
 have KS:¬(!nB k)=true:=by
  rw[fitsIndex_both h1 h2];exact cQ
 have Vl:¬oo (its.toArray.size*k.toNat)=true:=by
  rw[KR hlen];exact cQ
 have Jm:A4 (λx1 x2=>x1++x2) #[] (aT (if its.toArray.isEmpty=true then 0 else k.toNat) its.toArray)=(aT k.toNat its).flatten.toArray:=by
  have f0:∀m:Nat,A4 (λx1 x2=>x1++x2) #[] (aT m its.toArray)=(aT m its).flatten.toArray:=λm=>by
   have:=foldl_rep its m [];rw[oq]at this;exact this
  rw[f0];cases its with
  |nil=>simp
  |cons a r'=>rw[qQ2 (by simp)]
 refine Hv (T:="list") (U:="int") (by decide) ⟨_,e,rfl⟩ (λs'=>yR s' k t) noFill_list_mul F.fills_int_mul uA repeat_list F.slot_int_index.lookup
  (j_ uA (yR s k t) F.entry_int_rmul (F.args_int_rmul_2 _ _) (int___rmul___int_list k t l its.toArray n)
   ⟨e,rfl,⟨_,e,rfl⟩,j_ F.slot_list_mul ⟨_,e,rfl⟩ F.entry_list_mul (F.args_list_mul_2 _ _) (AutoListH.list___mul___list_int_3 l its.toArray n k t KS Zi Vl) ⟨e,?_⟩⟩)
 rw[Jm];exact⟨.ref _,_,I.Vk (t':=s.toks) (r.rep k.toNat) (by rw[len_rep,Fy];exact hz),rfl,q _ I.fresh⟩
end
section
variable{prog:bL}{w:cH}{A:ef}{E:aG->aU->Prop}{s:aU}
end
section
variable{X:Cx}
end
end L2
namespace Att
open PySem PySem.W PySem.Calls PyProof.Rows
variable{h:dw}{l:OpenLaw}{P:Ci}
theorem yh:∀(ns:List Int)(vs:List aG),WellAll P h vs (ns.map WData.int)->AA vs ns:=by
 intro ns
 induction ns with
 |nil=>
  intro vs w;rw[fX]at w;cases w;exact .nil
 |cons n ns ih=>
  intro vs w;rw[aN]at w;cases w with
  |cons a b=>
   cases a;exact .cons _ _ (ih _ b)
theorem Jn{n:Nat}(hn:l.most=some n){args:List WData}{vals:List aG}
  (F4:l.row.toRowW.claim.pre args=true)(R6:WellAll P h vals args):
  ∃a vs ns,vals=[bA a]/\args=[WData.list (ns.map WData.int)]/\h.get? a=some { cls:=.type "list",data:=.seq vs.toArray }/\AA vs ns/\ns.length<=n:=by
 have hsh:WShape.hasAll [] args [.list .int]=true:=(pre_splitW F4).1;have hc:l.pre.holds [] { args:=args }=true:=(pre_splitW F4).2;obtain⟨d,r,rfl,h1,h2⟩:=hasAllW_cons hsh;obtain rfl:=hasAllW_nil h2;obtain⟨xs,rfl,h3⟩:=hasW_list h1;obtain⟨ns,rfl⟩:=items_int h3;have hlen:ns.length<=n:=by
  unfold OpenLaw.pre at hc;have h4:(WTm.not (.lt (.lit (.int (n:Int))) (.len (.arg 0)))).holds [] { args:=[.list (ns.map .int)] }=true:=by
   have h4:=(holds_andW hc).1;rw[hn]at h4;exact h4
  have h5:=condW_of h4 (w_not (w_lt w_lit (w_len_list (w_arg rfl))));rw[aj]at h5;refine hG λq=>?_
  have q':(n:Int)<((ns.length:Nat):Int):=by omega
  first
   |(rw[qQ1 q']at h5;exact qQ7 h5 (by decide))
   |(simp at h5;omega)
 cases R6 with
 |cons w1 w2=>
  cases w2;cases w1 with
  |list ho D4=>exact⟨_,_,ns,rfl,rfl,ho,yh ns _ D4,hlen⟩
theorem Jo(l:OpenLaw)(args:List WData):l.row.toRowW.claim.post args (.bool true) args=true:=
 postW_of (r:=l.row.toRowW) (X:=(true==true))
  (show WShape.has [] (.bool true) .bool=true by first|rfl|decide|simp[WShape.has,WShape.arms,WShape.armsAll])
  (show(WTm.eq .res (.lit (.bool true))).value [] { args:=args,res:=some (.bool true),after:=args }=some (.bool (true==true))from w_eq_bool (w_res rfl) w_lit) rfl
theorem D5{n:Nat}{q:bL}{loose:List Str}{XP:(Str->Option aG)->dw->Prop}{YP:cH->dw->Prop}{d:DefRec}
  (hn:l.most=some n)(Vm:d.params.defaults=[])
  (call:∀(w:cH)(s₀ s₁:aU)(mg mb:Str->Option aG)(fa:aR)(o:Obj)(pm cd doc:aG)(a:aR)(vs:List aG)(ns:List Int),
   Ground q loose [] XP w s₀ mg mb s₁.heap->YP w s₁.heap->
   s₁.heap.get? fa=some o->o.data=.func (docDef d.name d.params d.body d.scope pm cd doc)->s₁.heap.CodeRec cd d.name->mg d.name=some (.ref fa)->
   s₁.heap.get? a=some { cls:=.type "list",data:=.seq vs.toArray }->AA vs ns->ns.length<=n->s₁.gens=#[]->
   codeAny (model l.prog w) callerA (.call (.ref fa) ⟨[.ref a],[]⟩) (λr s'=>r=.ok (.ret (.bool true))/\OldK s₁.heap s'.heap/\s'.os=s₁.os/\rW s'.gens) s₁) :
  WalkO q loose XP YP l.row.toRowW d [] (λf vs=>PySem.call f vs):=by
 intro w s₀ s₁ mg mb G Y fa o pm cd doc dV kV ho hd rQ hD Nn hg args vals as F4 hlay hrd R6 hlo;obtain rfl:dV=.none:=Dflts.none hD Vm;obtain rfl:kV=.none:=Dflts.noKw hD;obtain⟨a,vs,ns,rfl,rfl,R7,hints,hlen⟩:=Jn hn F4 R6;refine enter_call (lF (call w s₀ s₁ mg mb fa o pm cd doc a vs ns G Y ho (fd_plain hd) rQ Nn R7 hints hlen hg) λr s' hq=>?_)
 obtain⟨rfl,h2,h3,h4⟩:=hq;exact⟨.inl ⟨.bool true,.bool true,[],rfl,λ_=>rfl,.bool true,Jo l _,λ_=>⟨List.Pairwise.nil,λ_ hm=>(nomatch hm)⟩⟩,h2,h3,h4⟩
section
variable{prog:bL}{w:cH}{A:ef}{E:aG->aU->Prop}{s:aU}{K:Frag}
end
end Att
namespace L2
open PySem PySem.Spec PyProof.Rows
variable{a b f:aR}{X:Cx}{fd:gf}{h':dw}{H H':Hp}{pins:List (aR×Obj)}{xs:List (List Key×aR×aG)}{kvs:List (List Key×V)}{Jp:List (TE×TE)}{ps:List Str}{o:Option V}{pos:Pos}{P:bL}{K:au}{s:aU}{st:jq}{qual x:Str}{y:V}{u:aG}{Q:aG->aU->Prop}{w:cH}
theorem Bj:∀{vs:List aG}{ns:List Int},AA vs ns->eO (ns.map V.int) vs
 |_,_,.nil=>.nil
 |_,_,.cons n t h=>.cons ⟨t,rfl⟩ (Bj h)
def Only(H:Hp):Prop:=∀b,H b=none\/∃o xs,H b=some (.Ja o (.lst xs))
theorem KW{mg mb:Str->Option aG}{CX:Jk}{k:Nat}{fa: aR}{sp:Sp}{s₁:aU}{vs:List aG}{ns:List Int}
  (KX:K.In s₁.heap)(F5:s₁.heap.Ns mainGlobals mg)(hb:s₁.heap.Ns builtinsNs mb)(XT:∀x:Str,x≠"__name__"->mb x=bootBuiltins x)(Zj:s₁.heap.NoLimit)(hg:s₁.gens=#[])
  (ha:s₁.heap.get? a=some { cls:=.type "list",data:=.seq vs.toArray })(hi:AA vs ns)(hl:ns.length<=sizeLine)(hr:gj k callerA)
  (F:∀base:dw,K.In base->base.Ns mainGlobals mg->fA P w K mg base CX k fa fd [x] sp)(Vn:∀(s:aU)(u:aG),BindsTo s fd ⟨[u],[]⟩ [(x,u)])
  (AO:∀H:Hp,Only H->mJ K H a (ns.map V.int)->sp [.ref a] H (λv _=>v=.bl true) λ_ _ _=>False)
  (Zk:∀H e s',CX [] H s₁ (λ_ _ _=>False) e s'->False):
  codeAny (model P w) callerA (.call (.ref fa) ⟨[.ref a],[]⟩) (λr s'=>r=.ok (.ret (.bool true))/\OldK s₁.heap s'.heap/\s'.os=s₁.os/\rW s'.gens) s₁:=by
 have rv:=Bj hi;have Zm:=hi.length;have core:∀H:Hp,Only H->mJ K H a (ns.map V.int)->sj P w H s₁.heap->(∀b,H b≠none->b=a)->(H a≠none->K.lookup a=none)->
   codeAny (model P w) callerA (.call (.ref fa) ⟨[.ref a],[]⟩) (λr s'=>r=.ok (.ret (.bool true))/\OldK s₁.heap s'.heap/\s'.os=s₁.os/\rW s'.gens) s₁:=by
  intro H hO hS hok hA hK;have HV:∀{b:aR}{o:Obj},s₁.heap.get? b=some o->H b=none->(Ct s₁.heap H).get? b=some o:=λe n=>Kt e n
  have Va:∀{b:aR}{o:Obj}{es:Array Cj}{ep:Nat},s₁.heap.get? b=some o->o.data=.dict es ep->H b=none:=λ{b o es ep}e d=>by
   cases q:H b with
   |none=>rfl
   |some u=>
    have e':b=a:=hA b (by rw[q];simp)
    subst e';rw[ha]at e;cases e;have d':Data.seq vs.toArray _=Data.dict es ep:=d;cases d'
  have XU:∀{b:aR}{m:Str->Option aG},s₁.heap.Ns b m->(Ct s₁.heap H).Ns b m:=λ{b m}⟨o,es,ep,e,d,r⟩=>⟨o,es,ep,HV e (Va e d),d,r⟩
  have hKb:K.In (Ct s₁.heap H):=λb o e=>HV (KX b o e) (by
   cases q:H b with
   |none=>rfl
   |some u=>
    have e':b=a:=hA b (by rw[q];simp)
    subst e';rw[hK (by rw[q];simp)]at e;cases e)
  have hM:Mod K mg (Ct s₁.heap H):=⟨hKb,XU F5,⟨mb,XU hb,XT⟩,let⟨mc,h1,h2⟩:=Zj;⟨mc,XU h1,h2⟩⟩;have e0:F0 P w K mg (Ct s₁.heap H) callerA [] s₁ H:=⟨rfl,hM,λb o e=>NP e,Nat.le_of_eq (Jb _ _),trivial,λb hb=>qQ7 (show b∈([]:List aR)from hb) (by simp),hok,.of_eq hg⟩
  refine lF ((F _ hKb (XU F5)).run callerA [] s₁ H ⟨[.ref a],[]⟩ [.ref a] [.ref a] _ _ hr e0 (Vn s₁ (.ref a)) (.cons rfl .nil) (AO H hO hS)) λr s' h=>?_
  cases r with
  |error e=>exact(Zk H e s' h).elim
  |ok fl=>
   cases fl with
   |next=>exact fu h
   |brk=>exact fu h
   |cont=>exact fu h
   |ret u=>
    obtain⟨v,H',os,bare,un,Zn,r',q⟩:=h;have q':v=.bl true:=q;subst q';obtain rfl:u=aG.bool true:=r';refine⟨rfl,OldK.of_keep λb o e=>?_,os,bare⟩
    cases q:H b with
    |none=>exact un.keep b o e q (by intro z;exact qQ7 (show b∈([]:List aR)from z) (by simp)) (by simp)
    |some u=>
     rcases hO b with z|⟨ob,xs,z⟩
     ·rw[q]at z;cases z
     ·have z2:=un.wL b ob _ z
      obtain⟨e1,_⟩:=hok b _ z;obtain⟨e2,_⟩:=Zn b _ z2;rw[e]at e1;cases e1;exact e2
 cases hk:K.lookup a with
 |some o=>
  have e:=KX a o hk;rw[ha]at e;cases e;refine core (λ_=>none) (λ_=>.inl rfl) (.inr ⟨_,vs.toArray,_,hk,rfl,rfl,rfl,by rw[bD,Zm];exact hl,by simpa using rv⟩) (λb u z=>by have z':(none:Option HO)=some u:=z;cases z') (λb z=>qQ7 rfl z) λz=>qQ7 rfl z
 |none=>
  refine core (λb=>if b=a then some (.Ja { cls:=.type "list",data:=.seq vs.toArray } (.lst (ns.map V.int)))else none) (λb=>?_) (.inl (.inr ⟨{ cls:=.type "list",data:=.seq vs.toArray },qQ3 rfl⟩)) (λb u z=>?_) (λb z=>?_) λ_=>hk
  ·by_cases hb:b=a
   ·exact .inr ⟨_,_,qQ3 hb⟩
   ·exact .inl (qQ2 hb)
  ·by_cases hb:b=a
   ·have z':=(qQ3 hb).symm.trans z
    cases z';subst hb;exact⟨ha,by rw[aj];exact hl,vs,_,rv,ha⟩
   ·have z':=(qQ2 hb).symm.trans z
    cases z'
  ·by_cases hb:b=a
   ·exact hb
   ·exact qQ7 (qQ2 hb) z
theorem Ob{l:PySem.W.OpenLaw}{n k:Nat}{q:bL}{loose:List Str}{XP:(Str->Option aG)->dw->Prop}{YP:cH->dw->Prop}{d:DefRec}{K:Ci->au}{CX:cH->Jk}{sp:cH->Sp}
  (hn:l.most=some n)(KH:n<=sizeLine)(Vm:d.params.defaults=[])(hr:gj k callerA)
  (hY:∀(w:cH)(h:dw),YP w h->(K w.params).In h)
  (F:∀(w:cH)(mg:Str->Option aG)(fa:aR)(h:dw),(K w.params).In h->h.Ns mainGlobals mg->mg d.name=some (.ref fa)->
   ∃fd:gf,(∀(s:aU)(u:aG),BindsTo s fd ⟨[u],[]⟩ [(x,u)])/\
    ∀base:dw,(K w.params).In base->base.Ns mainGlobals mg->fA l.prog w (K w.params) mg base (CX w) k fa fd [x] (sp w))
  (AO:∀(w:cH)(H:Hp)(a:aR)(ns:List Int),ns.length<=n->Only H->mJ (K w.params) H a (ns.map V.int)->sp w [.ref a] H (λv _=>v=.bl true) λ_ _ _=>False)
  (Zk:∀(w:cH)(H:Hp)(s:aU)(e:aG)(s':aU),CX w [] H s (λ_ _ _=>False) e s'->False) :
  PySem.W.WalkO q loose XP YP l.row.toRowW d [] (λf vs=>PySem.call f vs):=by
 refine Att.D5 hn Vm λw s₀ s₁ mg mb fa o pm cd doc a vs ns G Y ho hd rQ Nn R7 hints hlen hg=>?_
 have KX:=hY w _ Y;obtain⟨fd,hb,hF⟩:=F w mg fa _ KX G.T.g Nn;exact KW KX G.T.g G.T.b G.T.builtins G.T.nolimit hg R7 hints (cj hlen KH) hr hF hb (λH hO hS=>AO w H a ns hlen hO hS) λH e s'=>Zk w H s₁ e s'
def inClass(s:jq)(j:Nat):jq:=match s with
 | .ClassDef _ _ _ body _ _ _ _ _ _ _=>body.getD j (.Pass ⟨0,0,0,0⟩)
 |_=>.Pass ⟨0,0,0,0⟩
def pA(s:jq):Arguments:=match s with
 | .FunctionDef _ a _ _ _ _ _ _ _ _=>a
 |_=>{ posonlyargs:=[],args:=[],vararg:=none,kwonlyargs:=[],kw_defaults:=[],kwarg:=none,defaults:=[] }
def k8(s:jq):List jq:=match s with
 | .FunctionDef _ _ b _ _ _ _ _ _ _=>b
 |_=>[]
def bV(s:jq):mn:=match s with
 | .FunctionDef _ _ _ _ _ _ sc _ _ _=>sc
 |_=>{ kind:=.function,names:=[],isGenerator:=false,isCoroutine:=false }
abbrev kR:Jk:=λ_ _ _ _ _ _=>False
abbrev E0:XK:=λ_ _ _=>False
theorem D6:wQ kR X E0:=λ_ _ _ _ _ _ _ h=>h.elim
structure mw(K:au)(x qual:Str)(st:jq)(f:aR)(fd:gf):Prop where
 ex:∃(oc:aG)(od:Option aR)(kV doc pm:aG)(an:Option aR)(iD ct:aG)(HQ:Array (Option aG)),
  fd=iZ x qual (pA st) (k8 st) (bV st) .none kV doc pm an iD ct/\K.lookup f=some ⟨oc,od,.func fd,HQ⟩/\lL K iD qual=true
 kp:ft K (.ref f)=true
section
variable{P:bL}{w:cH}{K:au}{mg:Str->Option aG}{base:dw}
theorem mw.ok{N: List Str}{k:Nat}{sp:Sp}(F:mw K x qual st f fd)(S:c7 N ps (bV st))(len:∀vs H Q E,sp vs H Q E->vs.length=ps.length)
  (KP:∀(iD:aG)(A:ef)(outer:List Env)(s:aU)(H:Hp)(vs:List V)(Q:VK)(E:XK),gj k (A.deeper (envOfC qual (bV st) s.heap.objs.size f iD))->sp vs H Q E->
   ∃t,HJ (uZ kR P w K mg base N qual (bV st) f iD A outer s H E).Km (k8 st) t/\t { nx:=λ_ H'=>Q .non H',rt:=Q } (start N vs) H):fA P w K mg base kR (k+1) f fd ps sp:=by
 obtain⟨oc,od,kV,doc,pm,an,iD,ct,HQ,rfl,lk,rQ⟩:=F.ex;refine Ql lk rQ S len λA outer s H vs Q E hr AO=>?_
 obtain⟨t,h,q⟩:=KP iD A outer s H vs Q E hr AO;exact⟨t,h.Km,q⟩
theorem mw.binds(F:mw K x qual st f fd)
  (h:∀(kV doc pm:aG)(an:Option aR)(iD ct:aG)(us:List aG),us.length=ps.length->bindArgs (iZ x qual (pA st) (k8 st) (bV st) .none kV doc pm an iD ct) ⟨us,[]⟩=pure (ps.zip us)):Binds K fd ps []:=by
 obtain⟨oc,od,kV,doc,pm,an,iD,ct,HQ,rfl,lk,rQ⟩:=F.ex;exact .all (h kV doc pm an iD ct)
theorem F6{oc:aG}{od an:Option aR}{HQ:Array (Option aG)}{kV doc pm iD ct:aG}(l:K.lookup f=some ⟨oc,od,.func (iZ x qual (pA st) (k8 st) (bV st) .none kV doc pm an iD ct),HQ⟩)
  (c:lL K iD qual=true)(k:ft K (.ref f)=true):mw K x qual st f (iZ x qual (pA st) (k8 st) (bV st) .none kV doc pm an iD ct):=⟨⟨oc,od,kV,doc,pm,an,iD,ct,HQ,rfl,l,c⟩,k⟩
end
section
variable{X:Cx}
theorem pv(i:Nat)(hN:X.N[i]?=some x:=by rfl)(hv:FG X.env.scope x:=by first|exact bq rfl|exact di (bq rfl)|exact di (di rfl))(hd:(x==("__debug__":Str))=false:=by decide)
  (rQ:(x==("__classdict__":Str))=false:=by decide):PE X (.Name x pos) (UI i):=iH hN hv hd rQ
end
theorem KY{A B:Prop}(h:B):if false=true then A else B:=by
 rw[qQ2 cQ];exact h
theorem Vo{A B:Prop}(h:A):if true=true then A else B:=by
 rw[qQ3 rfl];exact h
def eC(H H':Hp):Prop:=∀b o,H b=some o->H' b=some o
theorem eC.refl(H:Hp):eC H H:=λ_ _ h=>h
theorem eC.trans{H1 H2: Hp}(a:eC H H1)(b:eC H1 H2):eC H H2:=λc o h=>b c o (a c o h)
theorem eC.free(e:eC H H'){l:aR}(h:H' l=Option.none):H l=Option.none:=by
 cases q:H l with
 |none=>rfl
 |some o=>
  rw[e l o q]at h;cases h
theorem eC.seq{xs:List V}(e:eC H H')(h:mJ K H a xs):mJ K H' a xs:=by
 rcases h with(h|⟨o,h⟩)|h
 ·exact .inl (.inl (e _ _ h))
 ·exact .inl (.inr ⟨o,e _ _ h⟩)
 ·exact .inr h
section
variable{κ:Type}[DecidableEq κ]
def jI(kvs:List (κ×V))(k:κ):Option V:=(kvs.find? λkv=>decide (kv.1=k)).map (·.2)
def putK(kvs:List (κ×V))(k:κ)(v:V):List (κ×V):=
 if(kvs.any λkv=>decide (kv.1=k))=true then kvs.map (λkv=>if kv.1=k then(kv.1,v)else kv)else kvs ++ [(k,v)]
theorem qm{p:κ×V}{r:List (κ×V)}{k:κ}(e:p.1=k):jI (p::r) k=some p.2:=by simp[jI,fz,e]
theorem nh{p:κ×V}{r:List (κ×V)}{k:κ}(e:¬p.1=k):jI (p::r) k=jI r k:=by simp[jI,fz,e]
theorem zj(k:κ):∀kvs:List (κ×V),(kvs.any λkv=>decide (kv.1=k))=(jI kvs k).isSome
 | []=>rfl
 |p::r=>by
  rw[nH];by_cases e:p.1=k
  ·simp only[qm e,qQ1 e,Bool.true_or,Option.isSome_some]
  ·rw[nh e,qQ0 e,DI];exact zj k r
theorem pC(kvs:List (κ×V))(k:κ)(v:V):(putK kvs k v).length<=kvs.length+1:=by
 unfold putK
 split
 ·rw[aj];omega
 ·rw[aH,aX,cz];omega
theorem sM{kvs:List (κ×V)}{k:κ}(v:V)(h:jI kvs k=none):putK kvs k v=kvs ++ [(k,v)]:=by
 unfold putK;rw[zj,h];exact qQ2 (by decide)
theorem oF.qo{u:Option aG}(r:oF o u):o.isSome=u.isSome:=by
 cases o with
 |none=>cases u with
  |none=>rfl
  |some _=>exact(show False from r).elim
 |some _=>cases u with
  |none=>exact(show False from r).elim
  |some _=>rfl
theorem oF.getD{u:Option aG}{d:V}{d':aG}(r:oF o u)(rd:RelV d d'):RelV (o.getD d) (u.getD d'):=by
 cases o with
 |none=>cases u with
  |none=>exact rd
  |some _=>exact(show False from r).elim
 |some _=>cases u with
  |none=>exact(show False from r).elim
  |some _=>exact r
theorem KV.val{kvs:List (κ×V)}{vs:List (κ×aG)}(r:KV kvs vs)(k:κ):oF (jI kvs k) (valueAt vs k):=by
 unfold KV at r
 induction r with
 |nil=>exact gD
 | @cons p q ps qs h t ih=>
  obtain⟨h1,h2⟩:=h;by_cases e:p.1=k
  ·have e':q.1=k:=h1.symm.trans e
   have b:valueAt (q::qs) k=some q.2:=by simp[valueAt,fz,e']
   rw[qm e,b];exact h2
  ·have e':¬q.1=k:=λz=>e (h1.trans z)
   have b:valueAt (q::qs) k=valueAt qs k:=by simp[valueAt,fz,e']
   rw[nh e,b];exact ih
theorem KV.any{kvs:List (κ×V)}{vs:List (κ×aG)}(r:KV kvs vs)(k:κ):(kvs.any λkv=>decide (kv.1=k))=vs.any λkv=>decide (kv.1=k):=by
 unfold KV at r
 induction r with
 |nil=>rfl
 |cons h t ih=>rw[nH,nH,ih,h.1]
theorem KV.repl{kvs:List (κ×V)}{vs:List (κ×aG)}(r:KV kvs vs)(k:κ)(ry:RelV y u):
  KV (kvs.map λkv=>if kv.1=k then(kv.1,y)else kv) (vs.map λkv=>if kv.1=k then(kv.1,u)else kv):=by
 unfold KV at r ⊢
 induction r with
 |nil=>exact .nil
 | @cons p q ps qs h t ih=>
  rw[aN,aN];refine .cons ?_ ih
  obtain⟨h1,h2⟩:=h;by_cases e:p.1=k
  ·rw[qQ3 e,qQ3 (h1.symm.trans e)];exact⟨h1,ry⟩
  ·rw[qQ2 e,qQ2 (λz=>e (h1.trans z))];exact⟨h1,h2⟩
theorem KV.put{kvs:List (κ×V)}{vs:List (κ×aG)}(r:KV kvs vs)(k:κ)(ry:RelV y u):KV (putK kvs k y) (stored vs k u):=by
 unfold putK stored;rw[r.any k];by_cases e:(vs.any λkv=>decide (kv.1=k))=true
 ·rw[qQ3 e,qQ3 e];exact r.repl k ry
 ·rw[qQ2 e,qQ2 e];exact Fv.snoc r ⟨rfl,ry⟩
theorem KV.length{kvs:List (κ×V)}{vs:List (κ×aG)}(r:KV kvs vs):kvs.length=vs.length:=uT r
end
theorem uE{k:Key}(r:RelV (kV k) u):(gq P w).is k u=true:=by
 cases k with
 |inl i=>obtain⟨t,e⟩:=(show ∃t,u=DF i t from r);subst e;exact DW P w i t
 |inr x=>obtain⟨t,e⟩:=(show ∃t,u=DG x t from r);subst e;exact sG P w x t
theorem Bk:∀{ks:List Key}{us:List aG},eO (ks.map kV) us->ItemsAre (gq P w) ks us
 | [],_,r=>by rw[fX]at r;cases r;exact .nil
 |k::ks,_,r=>by
  rw[aN]at r;cases r with
  |cons h t=>exact .cons (uE h) (Bk t)
abbrev KT(H:Hp):List (List Key×V)->List (List Key×aR×aG)->Prop:=Fv λp q=>p.1=q.1/\H q.2.1=some (.tup (p.1.map kV))/\RelV p.2 q.2.2
theorem KT.val(r:KT H kvs xs)(k:List Key):oF (jI kvs k) ((atKey xs k).map (·.2)):=by
 induction r with
 |nil=>exact gD
 | @cons p q ps qs h t ih=>
  obtain⟨h1,_,h2⟩:=h;by_cases e:p.1=k
  ·have e':q.1=k:=h1.symm.trans e
   have b:atKey (q::qs) k=some q.2:=by simp[atKey,fz,e']
   rw[qm e,b];exact h2
  ·have e':¬q.1=k:=λz=>e (h1.trans z)
   have b:atKey (q::qs) k=atKey qs k:=by simp[atKey,fz,e']
   rw[nh e,b];exact ih
theorem KT.repl(r:KT H kvs xs)(k:List Key)(ry:RelV y u):
  KT H (kvs.map λkv=>if kv.1=k then(kv.1,y)else kv) (xs.map (putAt k u)):=by
 induction r with
 |nil=>exact .nil
 | @cons p q ps qs h t ih=>
  rw[aN,aN];refine .cons ?_ ih
  obtain⟨h1,h2,h3⟩:=h;unfold putAt;by_cases e:p.1=k
  ·rw[qQ3 e,qQ3 (h1.symm.trans e)];exact⟨h1,h2,ry⟩
  ·rw[qQ2 e,qQ2 (λz=>e (h1.trans z))];exact⟨h1,h2,h3⟩
theorem KT.put(r:KT H kvs xs)(k:List Key)(hb:H b=some (.tup (k.map kV)))(ry:RelV y u):
  KT H (putK kvs k y) (storedH xs k b u):=by
 have e:(kvs.any λkv=>decide (kv.1=k))=(atKey xs k).isSome:=by
  rw[zj,(r.val k).qo,wz]
 unfold putK storedH;rw[e];by_cases q:(atKey xs k).isSome=true
 ·rw[qQ3 q,qQ3 q];exact r.repl k ry
 ·rw[qQ2 q,qQ2 q];exact Fv.snoc r ⟨rfl,hb,ry⟩
theorem KT.keeps(r:KT H kvs xs)(ht:∀b ys,H b=some (.tup ys)->H' b=some (.tup ys)):KT H' kvs xs:=
 Fv.Rp r λ_ _ z=>⟨z.1,ht _ _ z.2.1,z.2.2⟩
section
variable{P:bL}{w:cH}{H:Hp}{h:dw}{a:aR}
theorem Qo{u:HO}(ok:sj P w H h)(e:Rd H a u):iB P w H h a u:=e.ok ok
theorem xE{kvs:List (Key×V)}(ok:sj P w H h)(e:Rd H a (.dK kvs)):kvs.length<=sizeLine/\(a==sysModules)=false/\∃vs,KV kvs vs/\h.DictOf (gq P w) a vs:=
 show iB P w H h a (.dK kvs)from Qo ok e
theorem KZ{kvs:List (Key×V)}(ok:sj P w H h)(e:H a=some (.dK kvs)):kvs.length<=sizeLine/\(a==sysModules)=false/\∃vs,KV kvs vs/\h.DictOf (gq P w) a vs:=xE ok (.inl e)
theorem wU{ks:List Key}(ok:sj P w H h)(e:H a=some (.tup (ks.map kV))):(tupleKind (gq P w)).is h ks a:=by
 obtain⟨_,its,r,o,h1,h2,n,h3⟩:=(show iB P w H h a (.tup (ks.map kV))from ok a _ e)
 exact⟨o,its.toArray,n,h1,h2,h3,by simpa using Bk r⟩
theorem zk(ok:sj P w H h)(e:Rd H a (.dT kvs)):kvs.length<=sizeLine/\(a==sysModules)=false/\
  ∃xs,KT H kvs xs/\h.DictOfH (tupleKind (gq P w)) a xs:=by
 obtain⟨z,y,xs,r,o,es,ep,h1,h2,h3,h4,h5⟩:=(show iB P w H h a (.dT kvs)from Qo ok e)
 refine⟨z,y,xs,r,o,es,ep,h1,h2,h3,h4,λx hx=>?_,h5⟩
 have all:∀{l:List (List Key×V)}{m:List (List Key×aR×aG)},KT H l m->∀x∈m,(tupleKind (gq P w)).is h x.1 x.2.1:=by
  intro l m q
  induction q with
  |nil=>intro x hx;exact nomatch hx
  | @cons p q ps qs hq t ih=>
   intro x hx;rcases aE.mp hx with e|hx
   ·subst e
    exact wU ok (by rw[<-hq.1];exact hq.2.1)
   ·exact ih x hx
 exact all r x hx
theorem Vp(ok:sj P w H h)(e:H a=some (.dT kvs)):kvs.length<=sizeLine/\(a==sysModules)=false/\
  ∃xs,KT H kvs xs/\h.DictOfH (tupleKind (gq P w)) a xs:=zk ok (.inl e)
end
def sN(H:Hp)(a:aR)(y:V)(r:Option V):Prop:=
 (∃kvs k,Rd H a (.dK kvs)/\y=kV k/\r=jI kvs k)\/∃kvs k b,Rd H a (.dT kvs)/\y=.ref b/\H b=some (.tup (k.map kV))/\r=jI kvs k
def CL(H:Hp)(a:aR)(y v:V)(H':Hp):Prop:=
 (∃kvs k,H a=some (.dK kvs)/\y=kV k/\kvs.length<sizeLine/\H'=upd H a (.dK (putK kvs k v)))\/
 ∃kvs k b,H a=some (.dT kvs)/\y=.ref b/\H b=some (.tup (k.map kV))/\kvs.length<sizeLine/\H'=upd H a (.dT (putK kvs k v))
theorem sN.k{kvs:List (Key×V)}{k:Key}(e:H a=some (.dK kvs)):sN H a (kV k) (jI kvs k):=.inl ⟨kvs,k,.inl e,rfl,rfl⟩
theorem sN.t{k:List Key}(e:H a=some (.dT kvs))(eb:H b=some (.tup (k.map kV))):sN H a (.ref b) (jI kvs k):=.inr ⟨kvs,k,b,.inl e,rfl,eb,rfl⟩
theorem CL.k{kvs:List (Key×V)}{k:Key}{v:V}(e:H a=some (.dK kvs))(hl:kvs.length<sizeLine):CL H a (kV k) v (upd H a (.dK (putK kvs k v))):=.inl ⟨kvs,k,e,rfl,hl,rfl⟩
theorem CL.t{k:List Key}{v:V}(e:H a=some (.dT kvs))(eb:H b=some (.tup (k.map kV)))(hl:kvs.length<sizeLine):
  CL H a (.ref b) v (upd H a (.dT (putK kvs k v))):=.inr ⟨kvs,k,b,e,rfl,eb,hl,rfl⟩
section
variable{X:Cx}{pins:List (aR×Obj)}{σ:St}{H:Hp}{s:aU}{a:aR}{y v:V}{u r:aG}{o:Option V}{A:ef}{E:aG->aU->Prop}
theorem Inv.big(I:Inv X pins σ H s):sysModules<s.heap.objs.size:=by
 have h:mainGlobals<s.heap.objs.size:=(I.mod.glob.keeps I.bk).lt;exact Nat.lt_trans (by decide) h
theorem Jq(hu:A.units+1<cLine)(I:Inv X pins σ H s)(g:sN H a y (some v))(ry:RelV y u)(h:∀w' s',Inv X pins σ H s'->RelV v w'->Q w' s'):
  wpAny (model X.prog X.w) A (getItem (.ref a) u) Q E s:=by
 rcases g with⟨kvs,k,e,ey,l⟩|⟨kvs,k,b,e,ey,eb,l⟩
 ·subst ey
  obtain⟨z,hd,vs,rel,dd⟩:=xE I.hok e;obtain⟨w',hw,rR⟩:=oF.some_of (v:=v) (o:=valueAt vs k) (by rw[l];exact rel.val k)
  exact wpAny_getItem_of (uE ry) dd.mapOf hw (h w' _ (I.tok _) rR)
 ·subst ey
  cases(show u=bA b from ry)
  obtain⟨z,hd,xs,rel,dd⟩:=zk I.hok e;obtain⟨w',hw,rR⟩:=oF.some_of (v:=v) (o:=(atKey xs k).map (·.2)) (by rw[l];exact rel.val k)
  obtain⟨p,hp,hp2⟩:=rD.mp hw;refine wpAny_getItem_heap (mH hu) (wU I.hok eb) dd hp ?_
  rw[hp2];exact h w' _ (I.tok _) rR
theorem Zo(hu:A.units+1<cLine)(I:Inv X pins σ H s)(g:sN H a y o)(ry:RelV y u)(h:∀s',Inv X pins σ H s'->Q (.bool o.isSome) s'):
  wpAny (model X.prog X.w) A (compareOp .In u (.ref a)) Q E s:=by
 rcases g with⟨kvs,k,e,ey,l⟩|⟨kvs,k,b,e,ey,eb,l⟩
 ·subst ey
  obtain⟨z,hd,vs,rel,dd⟩:=xE I.hok e;refine wpAny_in_of (uE ry) hd dd.mapOf ?_
  rw[<-(rel.val k).qo,<-l];exact h _ (I.tok _)
 ·subst ey
  cases(show u=bA b from ry)
  obtain⟨z,hd,xs,rel,dd⟩:=zk I.hok e;refine wpAny_in_heap (mH hu) (wU I.hok eb) hd dd ?_
  have q:=(rel.val k).qo;rw[wz]at q;rw[<-q,<-l];exact h _ (I.tok _)
theorem Oc(hu:A.units+1<cLine)(I:Inv X pins σ H s)(g:sN H a y o)(ry:RelV y u)(h:∀s',Inv X pins σ H s'->Q (.bool (!o.isSome)) s'):
  wpAny (model X.prog X.w) A (compareOp .NotIn u (.ref a)) Q E s:=by
 rcases g with⟨kvs,k,e,ey,l⟩|⟨kvs,k,b,e,ey,eb,l⟩
 ·subst ey
  obtain⟨z,hd,vs,rel,dd⟩:=xE I.hok e;refine wpAny_notIn_of (uE ry) hd dd.mapOf ?_
  rw[<-(rel.val k).qo,<-l];exact h _ (I.tok _)
 ·subst ey
  cases(show u=bA b from ry)
  obtain⟨z,hd,xs,rel,dd⟩:=zk I.hok e;refine wpAny_notIn_heap (mH hu) (wU I.hok eb) hd dd ?_
  have q:=(rel.val k).qo;rw[wz]at q;rw[<-q,<-l];exact h _ (I.tok _)
theorem yu{t':Nat}{ob:HO}(I:Inv X pins σ H s)(mu:UD (H a))(hs:kO a s.heap h')(he:∃q,h'.get? a=some q)(new:iB X.prog X.w (upd H a ob) h' a ob):
  Inv X pins σ (upd H a ob) { s with heap:=h',toks:=t' }:=
 I.write (x:=a) (e:=a) mu (.inl rfl) (λb q hb z=>(hs.2 b hb).trans z) he new
theorem CM{kvs:List (Key×V)}{vs:List (Key×aG)}(z:kvs.length<=sizeLine)(hd:(a==sysModules)=false)(rel:KV kvs vs)(dd:h'.DictOf (gq P w) a vs):
  iB P w H' h' a (.dK kvs):=⟨z,hd,vs,rel,dd⟩
theorem Jr{Q:Unit->aU->Prop}(hu:A.units+1<cLine)(I:Inv X pins σ H s)(g:CL H a y v H')(ry:RelV y u)(rv:RelV v r)(h:∀s',Inv X pins σ H' s'->Q () s'):
  wpAny (model X.prog X.w) A (setItem (.ref a) u r) Q E s:=by
 rcases g with⟨kvs,k,e,ey,l,eH⟩|⟨kvs,k,b,e,ey,eb,l,eH⟩
 ·subst ey eH
  obtain⟨z,hd,vs,rel,dd⟩:=KZ I.hok e;have hz:vs.length<=sizeLine:=by rw[<-rel.length];exact z
  have hl:(putK kvs k v).length<=sizeLine:=by have:=pC kvs k v;omega
  refine wpAny_setItem_pairs (hsz:=hz) (uE ry) dd λh' D7 hs=>h _ ?_
  have he:∃q,h'.get? a=some q:=let⟨q,_,_,hq,_⟩:=D7;⟨q,hq⟩;exact yu I (by rw[e];exact gD) hs he (CM hl hd (rel.put k rv) D7)
 ·subst ey eH
  cases(show u=bA b from ry)
  obtain⟨z,hd,xs,rel,dd⟩:=Vp I.hok e;have hz:xs.length<=sizeLine:=by rw[<-uT rel];exact z
  have hl:(putK kvs k v).length<=sizeLine:=by have:=pC kvs k v;omega
  refine wpAny_setItem_heap (hsz:=hz) (mH hu) (wU I.hok eb) dd λh' D7 hs=>h _ ?_
  obtain⟨q,es,ep,hq,h2,h3,h4,_,h5⟩:=D7;refine yu I (by rw[e];exact gD) hs ⟨q,hq⟩ ⟨hl,hd,_,(rel.put k eb rv).keeps λc ys ec=>?_,q,es,ep,hq,h2,h3,h4,h5⟩
  rw[aY (UC ec e (λz=>nomatch z))]
  exact ec
end
section
variable{X:Cx}{pins:List (aR×Obj)}{σ:St}{H:Hp}{s:aU}{a:aR}{kvs:List (Key×V)}{k:Key}{u:aG}{A:ef}{E:aG->aU->Prop}
end
def Od(i:cx):Prop:=∀ov iv,subscripted i false ov iv=operate [ov,iv] (getItem ov iv)
theorem HW{prog:bL}{A:ef}{E:aG->aU->Prop}{env:Env}{value slice:cx}{T id:String}
  (hl:typeLookup (.type T) "__getitem__"=pure (some (.builtin id)))(hs:Od slice)
  (h:wpAny (model prog w) A (eval value env) (λo s₁=>wpAny (model prog w) A (eval slice env) (λi s₂=>s₂.TypeIs o T/\wpAny (model prog w) A (getItem o i) Q E s₂) E s₁) E s):
  wpAny (model prog w) A (eval (.Subscript value slice pos) env) Q E s:=by
 refine Subscript_ (fq h (λo s₁ h₁=>fq h₁ (λi s₂ h₂=>?_) λ_ _ x=>x) λ_ _ x=>x)
 obtain⟨hT,h₂⟩:=h₂;unfold subscriptTail;refine av ?_
 rw[getitemInPython_of_ne hT.not_modules];refine av (wpAny_specialOf hT hl ?_)
 have fin:wpAny (model prog w) A (subscripted slice false o i) (λr s₃=>wpAny (model prog w) A (letTemporaryGo value o r >>= λ_=>pure r) Q E s₃) E s₂:=by
  rw[hs o i];exact wpAny_operating (fq h₂ (λr s₃ h₃=>av (wpAny_letTemporaryGo (a_ h₃))) λ_ _ x=>x)
 first
  |exact a_ (av fin)
  |exact av (a_ (av fin))
  |exact av fin
theorem D8{σ:St}(I:Inv X pins σ H s)(g:sN H a y o):s.TypeIs (.ref a) "dict":=by
 rcases g with⟨kvs,k,e,_,_⟩|⟨kvs,k,b,e,_,_,_⟩
 ·obtain⟨_,_,vs,_,dd⟩:=xE I.hok e
  exact dd.typeIs
 ·obtain⟨_,_,xs,_,dd⟩:=zk I.hok e
  exact dd.typeIs
def Vq(td ty:TE):TE:=λσ H Q=>td σ H λx H1=>ty σ H1 λy H2=>∃a v,x=.ref a/\sN H2 a y (some v)/\Q v H2
def Zq(ty td:TE):TE:=λσ H Q=>ty σ H λy H1=>td σ H1 λx H2=>∃a o,x=.ref a/\sN H2 a y o/\Q (.bl o.isSome) H2
def Oe(ty td:TE):TE:=λσ H Q=>ty σ H λy H1=>td σ H1 λx H2=>∃a o,x=.ref a/\sN H2 a y o/\Q (.bl (!o.isSome)) H2
def Vr(td ty tv:TE):TS:=λD σ H=>tv σ H λv H1=>td σ H1 λx H2=>ty σ H2 λy H3=>∃a H4,x=.ref a/\CL H3 a y v H4/\D.nx σ H4
section
variable{X:Cx}{o i e value:cx}{pos pos' Zb:Pos}{td ty tv:TE}
theorem Og(hu:X.A.units+1<cLine)(ho:PE X o td)(hi:PE X i ty)(hs:Od i):PE X (.Subscript o i pos) (Vq td ty):=by
 intro pins s σ H Q I h;refine HW Ap.lookup hs (g8 (ho pins s σ H _ I h) λu s1 ⟨x,H1,I1,rx,q1⟩=>g8 (hi pins s1 σ H1 _ I1 q1) λiv s2 ⟨y,H2,I2,ry,a,v,ex,g,q2⟩=>?_)
 subst ex;obtain rfl:u=bA a:=rx;exact⟨D8 I2 g,Jq hu I2 g ry λw' s3 I3 rR=>⟨v,H2,I3,rR,q2⟩⟩
theorem K0(hu:X.A.units+1<cLine)(hi:PE X i ty)(ho:PE X o td):PC X .In i o (Zq ty td):=by
 intro pins s σ H Q I h;refine g8 (hi pins s σ H _ I h) λiv s1 ⟨y,H1,I1,ry,q1⟩=>g8 (ho pins s1 σ H1 _ I1 q1) λu s2 ⟨x,H2,I2,rx,a,ov,ex,g,q2⟩=>?_
 subst ex;obtain rfl:u=bA a:=rx;exact Zo hu I2 g ry λs3 I3=>⟨.bl ov.isSome,H2,I3,rfl,q2⟩
theorem Js(hu:X.A.units+1<cLine)(hi:PE X i ty)(ho:PE X o td):PC X .NotIn i o (Oe ty td):=by
 intro pins s σ H Q I h;refine g8 (hi pins s σ H _ I h) λiv s1 ⟨y,H1,I1,ry,q1⟩=>g8 (ho pins s1 σ H1 _ I1 q1) λu s2 ⟨x,H2,I2,rx,a,ov,ex,g,q2⟩=>?_
 subst ex;obtain rfl:u=bA a:=rx;exact Oc hu I2 g ry λs3 I3=>⟨.bl (!ov.isSome),H2,I3,rfl,q2⟩
theorem CN(hu:X.A.units+1<cLine)(ho:PE X o td)(hi:PE X i ty)(hv:PE X value tv)(hs:swapsWith value (some (.Subscript o i pos')) pos.line X.env=pure false):
  PS X (.Assign [.Subscript o i pos'] value pos) (Vr td ty tv):=by
 intro pins s σ H D I h;refine wpAny_Assign_Subscript (g8 (hv pins s σ H _ I h) λr s1 ⟨v,H1,I1,rv,q1⟩=>g8 (ho pins s1 σ H1 _ I1 q1) λu s2 ⟨x,H2,I2,rx,q2⟩=>g8 (hi pins s2 σ H2 _ I2 q2) λiv s3 ⟨y,H3,I3,ry,a,H4,ex,g,q3⟩=>?_) hs
 subst ex;obtain rfl:u=bA a:=rx;exact Jr hu I3 g ry rv λs4 I4=>⟨σ,H4,I4,q3⟩
end
theorem D9(h:dw)(hb:sysModules<h.objs.size):iB P w H (h.push { cls:=.type "dict",data:=.dict #[] }) h.objs.size (.dK []):=
 ⟨bj _,beq_eq_false_iff_ne.mpr (bY (bu hb)),[],.nil,dw.DictOf.new h⟩
theorem K1(h:dw)(hb:sysModules<h.objs.size):iB P w H (h.push { cls:=.type "dict",data:=.dict #[] }) h.objs.size (.dT []):=
 ⟨bj _,beq_eq_false_iff_ne.mpr (bY (bu hb)),[],.nil,_,#[],0,bN _ rfl,⟨rfl,rfl,rfl⟩,rfl,rfl,uB⟩
def R8:TE:=λ_ H Q=>∀p,H p=none->Q (.ref p) (upd H p (.dK []))
def R9:TE:=λ_ H Q=>∀p,H p=none->Q (.ref p) (upd H p (.dT []))
section
variable{X:Cx}{pos:Pos}
theorem vN:PE X (.Dict [] [] pos) R8:=λpins s σ H Q I h=>
 wpAny_Dict_empty ⟨.ref s.heap.objs.size,_,I.laid (a:=s.heap.objs.size) (o:=.dK []) (t':=s.toks) (λ_ _ q=>aF _ q) (ay _) (D9 s.heap I.big),rfl,h _ (I.hok.fresh (ay _))⟩
theorem K2:PE X (.Dict [] [] pos) R9:=λpins s σ H Q I h=>
 wpAny_Dict_empty ⟨.ref s.heap.objs.size,_,I.laid (a:=s.heap.objs.size) (o:=.dT []) (t':=s.toks) (λ_ _ q=>aF _ q) (ay _) (K1 s.heap I.big),rfl,h _ (I.hok.fresh (ay _))⟩
end
def CP:List (TE×TE)->St->Hp->(List (V×V)->Hp->Prop)->Prop
 | [],_,H,Q=>Q [] H
 |(tk,tv)::r,σ,H,Q=>tk σ H λx H1=>tv σ H1 λy H2=>CP r σ H2 λps H3=>Q ((x,y)::ps) H3
abbrev VV:List (V×V)->List (aG×aG)->Prop:=Fv λp q=>RelV p.1 q.1/\RelV p.2 q.2
def Vs(X:Cx)(pos:Pos)(keys:List (Option cx))(values:List cx)(Jp:List (TE×TE)):Prop:=
 ∀(pins:List (aR×Obj))(s:aU)(σ:St)(H:Hp)(Q:List (V×V)->Hp->Prop),Inv X pins σ H s->CP Jp σ H Q->
  wpAny (model X.prog X.w) X.A (evalPairs (pairTrees keys values X.env pos)) (λvs s'=>∃ps H',Inv X pins σ H' s'/\VV ps vs/\Q ps H') X.xe s
theorem Oh:Vs X pos [] [] []:=λpins s σ H Q I h=>pairTrees_nil_walk ⟨[],H,I,.nil,h⟩
theorem K3{k v:cx}{ks:List (Option cx)}{vs:List cx}{tk tv:TE}(hk:PE X k tk)(hv:PE X v tv)(hr:Vs X pos ks vs Jp):
  Vs X pos (some k::ks) (v::vs) ((tk,tv)::Jp):=λpins s σ H Q I h=>
 pairTrees_cons_walk (g8 (hk pins s σ H _ I h) λu s1 ⟨x,H1,I1,rx,q1⟩=>g8 (hv pins s1 σ H1 _ I1 q1) λw2 s2 ⟨y,H2,I2,ry,q2⟩=>
  g8 (hr pins s2 σ H2 _ I2 q2) λws s3 ⟨ps,H3,I3,rel,q3⟩=>⟨(x,y)::ps,H3,I3,.cons ⟨rx,ry⟩ rel,q3⟩)
def sO(kvs more:List (Key×V)):List (Key×V):=more.foldl (λacc kv=>putK acc kv.1 kv.2) kvs
theorem KV.merge:∀{more:List (Key×V)}{rs:List (Key×aG)}{kvs:List (Key×V)}{vs:List (Key×aG)},KV more rs->KV kvs vs->KV (sO kvs more) (merged vs rs):=by
 intro more rs kvs vs r;unfold KV at r
 induction r generalizing kvs vs with
 |nil=>intro q;exact q
 | @cons p q ps qs h t ih=>
  intro r0;have e:KV (putK kvs p.1 p.2) (stored vs q.1 q.2):=by
   have:=r0.put p.1 h.2;rw[<-h.1];exact this
  exact ih e
theorem uF:∀(more kvs:List (Key×V)),(sO kvs more).length<=kvs.length+more.length
 | [],kvs=>by show kvs.length<=kvs.length+0;omega
 |p::r,kvs=>by
  have h1:=uF r (putK kvs p.1 p.2);have h2:=pC kvs p.1 p.2
  show(sO (putK kvs p.1 p.2) r).length<=_
  rw[aX];omega
theorem zl{P:bL}{w:cH}:∀{kvs:List (Key×V)}{ws:List (aG×aG)},VV (kvs.map λkv=>(kV kv.1,kv.2)) ws->∃rs,Carries (gq P w) ws rs/\KV kvs rs
 | [],_,r=>by rw[fX]at r;cases r;exact⟨[],gD,.nil⟩
 |p::kvs,_,r=>by
  rw[aN]at r;cases r with
  | @cons a b as bs h t=>
   obtain⟨rs,c,q⟩:=zl (P:=P) (w:=w) t;obtain⟨b1,b2⟩:=b;exact⟨(p.1,b2)::rs,⟨uE h.1,rfl,c⟩,.cons ⟨rfl,h.2⟩ q⟩
def Vt(Jp:List (TE×TE)):TE:=λσ H Q=>∀p,H p=none->CP Jp σ (upd H p (.dK [])) λps H2=>H2 p=some (.dK [])/\∃kvs:List (Key×V),ps=kvs.map (λkv=>(kV kv.1,kv.2))/\kvs.length<=15/\Q (.ref p) (upd H2 p (.dK (sO [] kvs)))
theorem Oi{keys:List (Option cx)}{values:List cx}(h:Vs X pos keys values Jp)(D4:keys.all (·.isSome)=true)(hl:keys.length=values.length)(h0:keys≠[])
  (h15:keys.length<=15):PE X (.Dict keys values pos) (Vt Jp):=by
 intro pins s σ H Q I q;have hn:=I.hok.fresh (ay s.heap.objs.size);have I1:=I.laid (a:=s.heap.objs.size) (o:=.dK []) (h':=s.heap.push { cls:=.type "dict",data:=.dict #[] }) (t':=s.toks) (λ_ _ q=>aF _ q) (ay _) (D9 s.heap I.big)
 refine wpAny_Dict_walk (knd:=gq X.prog X.w) D4 hl h0 h15 (g8 (h pins _ σ _ _ I1 (q _ hn)) λws s2 ⟨ps,H2,I2,rel,e,kvs,ep,lk,q2⟩=>?_)
 subst ep;obtain⟨rs,c,rk⟩:=zl (P:=X.prog) (w:=X.w) rel;obtain⟨z,hd,vs0,r0,dd⟩:=KZ I2.hok e;cases r0;refine⟨rs,c,dd,λh' D7 hs=>⟨.ref s.heap.objs.size,_,?_,rfl,q2⟩⟩
 have hz:(sO [] kvs).length<=sizeLine:=by
  have h1:=uF kvs [];rw[cz]at h1;rw[du];omega
 have he:∃q,h'.get? s.heap.objs.size=some q:=let⟨q,_,_,hq,_⟩:=D7;⟨q,hq⟩;exact yu I2 (by rw[e];exact gD) hs he (CM hz hd (rk.merge .nil) D7)
structure M2(X:Cx)(o:cx)(m:Str)(apos:Pos)(e f:cx)(oH:Pos):Prop where
 base:attributeBase o m X.env (eval o X.env)=eval o X.env
 few:((backTo oH (starEach [e,f] X.env)).all (λx=>!x.1)&&(backToKw oH (keywordEach [] X.env)).all (λx=>x.1.isSome)
  && decide (([e,f]:List cx).length+([]:List jz).length+(if([]:List jz).isEmpty then 0 else 1)<30))=true
 line:(apos.endLine==oH.line)=true
 trees:backTo oH (starEach [e,f] X.env)=[(false,eval e X.env),(false,eval f X.env)]
def Zr(H:Hp)(a:aR):Prop:=(∃kvs,Rd H a (.dK kvs))\/∃kvs,Rd H a (.dT kvs)
theorem K4{σ:St}(I:Inv X pins σ H s)(d:Zr H a):
  s.TypeIs (.ref a) "dict"/\(∀b,bA a=.ref b->∃ob,s.heap.get? b=some ob/\ob.dict=none)/\(a==sysModules)=false:=by
 rcases d with⟨kvs,e⟩|⟨kvs,e⟩
 ·obtain⟨_,hd,vs,_,dd⟩:=xE I.hok e
  refine⟨dd.typeIs,λb q=>?_,hd⟩
  cases q;obtain⟨ob,_,_,h1,h2,_⟩:=dd;exact⟨ob,h1,h2.2.1⟩
 ·obtain⟨_,hd,xs,_,dd⟩:=zk I.hok e
  refine⟨dd.typeIs,λb q=>?_,hd⟩
  cases q;obtain⟨ob,_,_,h1,h2,_⟩:=dd;exact⟨ob,h1,h2.2.1⟩
section
variable{X:Cx}{pins:List (aR×Obj)}{σ:St}{H:Hp}{s:aU}{a:aR}{y d:V}{u r:aG}{o:Option V}{A:ef}{E:aG->aU->Prop}
theorem R_(hu:A.units+1<cLine)(I:Inv X pins σ H s)(g:sN H a y o)(ry:RelV y u)(rd:RelV d r)(h:∀w' s',Inv X pins σ H s'->RelV (o.getD d) w'->Q w' s'):
  wpAny (model X.prog X.w) A (call (.builtin "dict.get") [.ref a,u,r]) Q E s:=by
 rcases g with⟨kvs,k,e,ey,l⟩|⟨kvs,k,b,e,ey,eb,l⟩
 ·subst ey
  obtain⟨z,hd,vs,rel,dd⟩:=xE I.hok e;refine call_meetsIn rN dd.typeIs Ck (A5 _ _ _) (meets_dict_get_default (gq X.prog X.w) a (uE ry) hd r) ⟨_,dd.mapOf,h _ _ (I.tok _) ?_⟩
  rw[l];exact(rel.val k).getD rd
 ·subst ey
  cases(show u=bA b from ry)
  obtain⟨z,hd,xs,rel,dd⟩:=zk I.hok e;refine call_meetsIn rN dd.typeIs Ck (A5 _ _ _) (meetsH_dict_get_default (tupleKind (gq X.prog X.w)) a b hd r) ⟨mH hu,k,xs,wU I.hok eb,dd,h _ _ (I.tok _) ?_⟩
  rw[l];exact(rel.val k).getD rd
end
def Sb(td ty tx:TE):TE:=λσ H Q=>td σ H λx H1=>∃a,x=.ref a/\Zr H1 a/\ty σ H1 λy H2=>tx σ H2 λz H3=>∃o,sN H3 a y o/\Q (o.getD z) H3
section
variable{X:Cx}{o e f:cx}{apos oH:Pos}{td ty tx:TE}
theorem K5(hu:X.A.units+1<cLine)(ho:PE X o td)(he:PE X e ty)(hf:PE X f tx)(m:M2 X o "get" apos e f oH):PE X (.Call (.Attribute o "get" apos) [e,f] [] oH) (Sb td ty tx):=by
 intro pins s σ H Q I h;refine wpAny_Call_method m.base m.few m.line A6 rN PySem.F.type_dict_get (g8 (ho pins s σ H _ I h) λu s1 ⟨x,H1,I1,rx,a,ex,d,q1⟩=>?_)
 subst ex;obtain rfl:u=bA a:=rx;obtain⟨t1,t2,_⟩:=K4 I1 d;refine⟨t1,t2,?_⟩
 rw[m.trees];refine rM rfl (uq (lE (g8 (he pins s1 σ H1 _ I1 q1) λiv s2 ⟨y,H2,I2,ry,q2⟩=>
  lE (g8 (hf pins s2 σ H2 _ I2 q2) λfv s3 ⟨z,H3,I3,rz,ov,g,q3⟩=>wH ?_))))
 exact R_ hu I3 g ry rz λw' s4 I4 rR=>⟨_,H3,I4,rR,q3⟩
end
section
variable{X:Cx}{pins:List (aR×Obj)}{σ:St}{H:Hp}{s:aU}{a:aR}{kvs:List (Key×V)}{A:ef}{E:aG->aU->Prop}
theorem K6(I:Inv X pins σ H s)(e:Rd H a (.dK kvs))(h:∀p s',H p=none->Inv X pins σ (upd H p (.dK kvs)) s'->Q (.ref p) s'):wpAny (model X.prog X.w) A (call (.type "dict") [.ref a]) Q E s:=by
 obtain⟨z,hd,vs,rel,dd⟩:=xE I.hok e;refine kt_call_dict hd dd (by rw[<-rel.length];exact z) λh' D7 hs=>?_
 refine h _ _ (I.hok.fresh (ay _)) (I.laid (a:=s.heap.objs.size) (o:=.dK kvs) (t':=s.toks) (λb q hq=>?_) (ay _) (CM z (beq_eq_false_iff_ne.mpr (bY (bu I.big))) rel D7))
 exact(hs.2 b (bu (a9 hq))).trans (aF _ hq)
end
def zeR(o:Array (Option Nat)):Nat:=o.toList.countP Option.isSome
section
variable{prog:bL}{w:cH}{A:ef}{E:aG->aU->Prop}{s:aU}
end
section
variable{prog:bL}{w:cH}{A:ef}{R:uU->aU->Prop}{I:aR}{fp wr:List aR}{G:Array uo->Array uo->Prop}{n:Nat}{P:Nat->aG->Prop}{St:Nat->aU->Prop}
theorem K7(W:WalksS prog w A.in1 I fp wr G n P St)(S:aR)(XW:S∉fp)(T:Nat->dw->Prop)(keep:∀i h h',T i h->(∀b o,b∉wr->h.get? b=some o->h'.get? b=some o)->T i h')
  (add:∀i v (s:aU) (Q:Bool->aU->Prop) (E:aG->aU->Prop),i<n->P i v->T i s.heap->(∀h' tk b,s.toks<=tk->kO S s.heap h'->T (i+1) h'->Q b { s with heap:=h',toks:=tk })->wpAny (model prog w) A.in1 (setAdd S v) Q E s):
  ∀(k i:Nat)(s:aU),n-i=k->i<=n->St i s->T i s.heap->(∀s',Moved (S::wr) G s s'->T n s'.heap->R (.ok (.ret .none)) s')->
   codeAny (model prog w) A (.builtin "set.update.loop" ⟨[.ref S,.ref I],[]⟩) R s:=by
 have hSw:S∉wr:=λh=>XW (W.sub _ h)
 have Jt:∀b∈wr,b∈S::wr:=λb hb=>aZ _ hb
 intro k
 induction k with
 |zero=>
  intro i s hk hi Fq hS hR;have hin:i=n:=by omega
  subst hin;refine vy Hw ?_
  rw[tT sv _];show wpAny _ A.in1 (pyNext (.ref I) >>= _) _ _ s;refine av (W.done s _ _ Fq λs' hm=>?_)
  show wpAny _ A.in1 (ret fe) _ _ s';exact a_ (hR s' (hm.mono Jt) (keep _ _ _ hS λb o hb e=>hm.heap b o hb e))
 |succ k ih=>
  intro i s hk hi Fq hS hR;have t_:i<n:=by omega
  refine vy Hw ?_
  rw[tT sv _];show wpAny _ A.in1 (pyNext (.ref I) >>= _) _ _ s;refine av (W.item i s _ _ t_ Fq λv s' hP Zt hm=>?_)
  have Vu:T i s'.heap:=keep _ _ _ hS λb o hb e=>hm.heap b o hb e
  show wpAny _ A.in1 (holding [v] (setAdd S v) >>= _) _ _ s';refine av (mr ?_)
  refine add i v s' _ _ t_ hP Vu λh' tk b U6 XX hT=>?_
  refine a_ ⟨plainId_quiet sv _,ih (i+1) _ (by omega) t_ (W.frame _ s' _ _ Zt U6 λb hb o e=>?_) hT λRV Zu Zv=>?_⟩
  ·rw[XX.2 b (λh:b=S=>XW (by rw[<-h];exact hb))];exact e
  ·refine hR RV (Moved.trans W.gtrans ((hm.mono Jt).then_heap U6 λb o hb e=>?_) Zu) Zv
   rw[XX.2 b (λh:b=S=>hb (by rw[h];exact aS))];exact e
end
section
variable{prog:bL}{w:cH}{A:ef}{E:aG->aU->Prop}{s:aU}
abbrev kj(led:Bool):Obj:={ cls:=.type "set",dict:=none,data:=.set #[] 0 (.fresh 0 0 led) }
end
end L2
namespace L2
open PySem
end L2
namespace L2
open PySem PySem.Spec PyProof.Rows
variable{a:aR}{b k1 k2:Bool}{op:Fw}{X:Cx}{env:Env}{e:cx}{o:HO}{H H' H0:Hp}{g:Int->Int->Int}{pins:List (aR×Obj)}{elts:List cx}{cap:List Nat}{R:List ao->List ao->Prop}{own:List Str}{vs xs:List V}{r:List V->Hp->VK->Prop}{i n:Nat}{p p2 tp:Pos}{P:bL}{d:ao}{F:ao->Option ao}{K:au}{sc:mn}{s:aU}{σ:St}{x:Str}{id:String}{w:cH}
abbrev Oj:aG->aU->Prop:=λ_ _=>False
abbrev testsOf(ifs:List cx)(env:Env):Sem Bool:=
 forIn ifs true λc r=>if r=true then(do let ok <-isTrue c env (eval c env);pure (qD ok))else pure (qD r)
theorem Ju{A:ef}{R:uU->aU->Prop}{elt tg iter:cx}{ifs:List cx}{pos:Pos}{it acc:aG}(J:Nat->aU->Prop)
  (turn:∀n s,J n s->wpAny (model P w) A (pyNext it) (λr s1=>match r with
   |none=>R (.ok .next) s1
   |some v=>wpAny (model P w) A (letOwnedTupleGo tg it v) (λ_ s2=>wpAny (model P w) A (assign tg env v) (λ_ s3=>
     wpAny (model P w) A (testsOf ifs env) (λok s4=>if ok=true then wpAny (model P w) A (eval elt env) (λx s5=>
       wpAny (model P w) A (call (.builtin "list.append") [acc,x]) (λ_ s6=>∃m,m<n/\J m s6) Oj s5) Oj s4
      else ∃m,m<n/\J m s4) Oj s3) Oj s2) Oj s1) Oj s)
  (h:J n s):codeAny (model P w) A (.compLoop (.ListComp elt [⟨tg,iter,ifs,0⟩] sc pos) 0 it acc env) R s:=by
 refine codeAny_loop rfl J (λn s hJ=>?_) n h
 show wpAny _ A ((compTurn (.ListComp elt [⟨tg,iter,ifs,0⟩] sc pos) 0 it acc env).onRaise (λx=>do noteFrame x env;theTreesLotGoes x)) _ _ s
 refine wpAny_noted ?_
 rw[compTurn_list];refine av (oU (av (fq (turn n s hJ) (λr s1 h1=>?_) λ_ _ f=>f.elim)))
 cases r with
 |none=>exact a_ h1
 |some v=>
  refine av (fq h1 (λ_ s2 h2=>?_) λ_ _ f=>f.elim)
  refine av (fq h2 (λ_ s3 h3=>?_) λ_ _ f=>f.elim)
  refine av (fq h3 (λok s4 h4=>?_) λ_ _ f=>f.elim)
  cases ok with
  |false=>exact a_ ⟨rfl,h4⟩
  |true=>
   refine av (av (fq h4 (λx s5 h5=>?_) λ_ _ f=>f.elim))
   exact av (fq h5 (λ_ s6 h6=>a_ (a_ ⟨rfl,h6⟩)) λ_ _ f=>f.elim)
def qp(env:Env):List (Str×oY)->List (Str×aR)->Option (List (Str×aR))
  | [],acc=>some acc
  | (n,k)::r,acc=>if(k==eJ)=true then(match env.cells.lookup n with
      | some c=>qp env r ((n,c)::acc)
      | none=>none)else qp env r acc
theorem CQ(env:Env):∀(names:List (Str×oY))(acc cl:List (Str×aR)),qp env names acc=some cl->
  (forIn names acc λ(x:Str×oY)(r:List (Str×aR))=>if(x.2==eJ)=true then(do let c <-cellOf env x.1;pure (qD ((x.1,c)::r)))else pure (qD r):Sem (List (Str×aR)))=pure cl
 | [],acc,cl,h=>by
  simp only[qp,iQ]at h;subst h;rfl
 |(n,k)::r,acc,cl,h=>by
  rw[Aq];unfold qp at h;by_cases hk:(k==eJ)=true
  ·rw[qQ3 hk]at h
   rw[qQ3 (show((n,k).2==eJ)=true from hk)]
   cases e:env.cells.lookup n with
   |none=>rw[e]at h;cases h
   |some c=>
    rw[e]at h;have e2:cellOf env (n,k).1=pure c:=by unfold cellOf;rw[show lJ (n,k).1 env.cells=some c from e]
    rw[e2,pure_bind,pure_bind];exact CQ env r _ cl h
  ·rw[qQ2 hk]at h
   rw[qQ2 (show ¬((n,k).2==eJ)=true from hk),pure_bind]
   exact CQ env r acc cl h
theorem HX{cl:List (Str×aR)}(h:qp env sc.names []=some cl):closureFor sc env=pure cl:=by
 unfold closureFor;have:=CQ env sc.names [] cl h;simp only[bind_pure];exact this
theorem vO{env:Env}:∀{names:List (Str×oY)}{acc cl:List (Str×aR)},qp env names acc=some cl->(∀x c,acc.lookup x=some c->env.cells.lookup x=some c)->∀x c,cl.lookup x=some c->env.cells.lookup x=some c
 | [],acc,cl,h,ha=>by
  simp only[qp,iQ]at h;subst h;exact ha
 |(n,k)::r,acc,cl,h,ha=>by
  unfold qp at h;by_cases hk:(k==eJ)=true
  ·rw[qQ3 hk]at h
   cases e:env.cells.lookup n with
   |none=>rw[e]at h;cases h
   |some c=>
    rw[e]at h;refine vO (names:=r) h λx d hx=>?_
    rw[ei]at hx;cases XY:x==n with
    |true=>
     rw[XY]at hx;have:x=n:=by simpa using XY
     subst this;rw[e];exact hx
    |false=>rw[XY]at hx;exact ha x d hx
  ·rw[qQ2 hk]at h
   exact vO (names:=r) h ha
theorem vP{env:Env}:∀{names:List (Str×oY)}{acc cl:List (Str×aR)},qp env names acc=some cl->∀x,((x,eJ)∈names\/∃c,acc.lookup x=some c)->∃c,cl.lookup x=some c
 | [],acc,cl,h,x,hx=>by
  simp only[qp,iQ]at h;subst h;rcases hx with hx|hx
  ·exact qQ7 hx (by simp)
  ·exact hx
 |(n,k)::r,acc,cl,h,x,hx=>by
  unfold qp at h;by_cases hk:(k==eJ)=true
  ·rw[qQ3 hk]at h
   cases e:env.cells.lookup n with
   |none=>rw[e]at h;cases h
   |some c=>
    rw[e]at h;refine vP (names:=r) h x ?_
    rcases hx with hx|⟨d,hx⟩
    ·rcases aE.mp hx with hx|hx
     ·cases hx
      exact .inr ⟨c,by simp[ei]⟩
     ·exact .inl hx
    ·refine .inr ?_
     rw[ei];cases XY:x==n with
     |true=>exact⟨_,rfl⟩
     |false=>exact⟨d,hx⟩
  ·rw[qQ2 hk]at h
   refine vP (names:=r) h x ?_
   rcases hx with hx|hx
   ·rcases aE.mp hx with hx|hx
    ·cases hx;exact qQ7 rfl hk
    ·exact .inl hx
   ·exact .inr hx
theorem vQ{env:Env}:∀{names:List (Str×oY)}{x:Str},names.lookup x=some .free->
  (names.map λ(n,k)=>if(k==eJ&&env.scope.kind == .function&&env.kindOf n==some .cell) then(n,kQ) else(n,k)).lookup x=some .cell\/
   (names.map λ(n,k)=>if(k==eJ&&env.scope.kind == .function&&env.kindOf n==some .cell) then(n,kQ) else(n,k)).lookup x=some .free
 | [],x,h=>by simp at h
 |(n,k)::r,x,h=>by
  have ih:=@vQ env r x;rw[aN]
  dsimp only
  by_cases hb:(k==eJ&&env.scope.kind == .function&&env.kindOf n==some .cell)=true
  ·rw[qQ3 hb]
   cases hx:x==n with
   |true=>simp[ei,hx]
   |false=>
    simp only[ei,hx]at h ⊢;exact ih h
  ·rw[qQ2 hb]
   cases hx:x==n with
   |true=>
    simp only[ei,hx]at h ⊢;exact .inr h
   |false=>
    simp only[ei,hx]at h ⊢;exact ih h
theorem xF{env:Env}:∀{names:List (Str×oY)}{x:Str},(∀y∈names,y.2≠kQ)->
  ((names.map λ(n,k)=>if(k==eJ&&env.scope.kind == .function&&env.kindOf n==some .cell) then(n,kQ) else(n,k)).lookup x=some .cell\/
   (names.map λ(n,k)=>if(k==eJ&&env.scope.kind == .function&&env.kindOf n==some .cell) then(n,kQ) else(n,k)).lookup x=some .free)->(x,eJ)∈names
 | [],x,_,h=>by simp at h
 |(n,k)::r,x,hc,h=>by
  have ih:=@xF env r x λy hy=>hc y (aZ _ hy)
  have Zw:k≠kQ:=hc (n,k) aS;rw[aN]at h
  dsimp only at h
  by_cases hb:(k==eJ&&env.scope.kind == .function&&env.kindOf n==some .cell)=true
  ·have hk:k=eJ:=by
    simp only[kP]at hb;simpa using hb.1.1
   rw[qQ3 hb]at h;cases hx:x==n with
   |true=>
    have:x=n:=by simpa using hx
    subst this;rw[hk];exact aS
   |false=>
    simp only[ei,hx]at h;exact aZ _ (ih h)
  ·rw[qQ2 hb]at h
   cases hx:x==n with
   |true=>
    have:x=n:=by simpa using hx
    subst this;simp only[ei,beq_self_eq_true,iQ]at h;rcases h with h|h
    ·exact qQ7 h Zw
    ·rw[h];exact aS
   |false=>
    simp only[ei,hx]at h;exact aZ _ (ih h)
def il(X:Cx)(sc:mn)(N:List Str)(cl:List (Str×aR))(fp:List aR)(s:aU)(H:Hp):Cx where
 prog:=X.prog
 w:=X.w
 K:=X.K
 mg:=X.mg
 base:=X.base
 A:=X.A
 N:=N
 s₀:=s
 H₀:=H
 env:=compEnvC sc cl s.heap.objs.size X.env
 outer:=X.stack
 stack:=X.stack
 ex:=fp
 fn:=λ_=>false
 calm:=X.calm
 pn:=[]
 xe:=Oj
structure mL(X:Cx)(sc:mn)(own:List Str)(cap:List Nat)(N:List Str)(cl:List (Str×aR)):Prop where
 kind:sc.kind=.function
 K8:∀y∈sc.names,y.2≠kQ
 loc:∀y∈sc.names,y.2=.local->sc.names.lookup y.1=some .local
 clos:qp X.env sc.names []=some cl
 names:N=own++cap.map λi=>X.N.getD i eS
 Vv:∀i∈cap,i<X.N.length/\(X.env.kindOf (X.N.getD i eS)=some .cell\/X.env.kindOf (X.N.getD i eS)=some .free)/\sc.names.lookup (X.N.getD i eS)=some .free
def nJ(own:List Str)(cap:List Nat)(σ:St):St:=aT own.length none++cap.map λi=>σ.getD i none
section
variable{X:Cx}{pins:List (aR×Obj)}{σ:St}{H:Hp}{s:aU}{sc:mn}{own N:List Str}{cap:List Nat}{cl:List (Str×aR)}{fp:List aR}{tg:cx}{J:It}{it:aR}{tn:Nat->dw->Prop}
theorem K9{h4:dw}{t4:Nat}(CS:mL X sc own cap N cl)(I:Inv X pins σ H s)(T:Turn X.prog X.w X.K tg J fp it tn)(st:tn 0 s.heap)(hf:∀b∈fp,vK X pins H b)
  (D:aR)(hD:D=s.heap.objs.size)(s3:aU)(h3:s3={ s with heap:=s.heap.push { cls:=.type "list",dict:=none,data:=.seq ([]:List aG).toArray } })
  (F5:h4.Ns s3.heap.objs.size (λ_=>none))(hk:∀b o,s3.heap.get? b=some o->h4.get? b=some o):
  Inv (il X sc N cl fp s3 (upd H D (.lst []))) [] (nJ own cap σ) (upd H D (.lst [])) { s3 with heap:=h4,toks:=t4 }:=by
 subst hD;have hDn:H s.heap.objs.size=none:=I.fresh;have k3:∀b o,s.heap.get? b=some o->s3.heap.get? b=some o:=λb o e=>by rw[h3];exact aF _ e
 have z3:s3.heap.objs.size=s.heap.objs.size+1:=by rw[h3];exact gE ..
 have I3:Inv X pins σ (upd H s.heap.objs.size (.lst [])) s3:=by
  rw[h3];exact I.laid (t':=s.toks) (λb o e=>aF _ e) (ay _) ⟨bj _,[],0,.nil,bN _ rfl⟩
 have Ol:∀b∈fp,b<s.heap.objs.size:=λb hb=>by
  obtain⟨o,e,_⟩:=T.obj 0 _ st b hb;exact a9 e
 have Om:∀b,b<s.heap.objs.size->b≠s3.heap.objs.size:=λb hb=>by rw[z3];exact bu (mI hb)
 have qL:∀x c,cl.lookup x=some c->X.env.cells.lookup x=some c:=vO CS.clos λx c h=>by simp at h
 have ok:(il X sc N cl fp s3 (upd H s.heap.objs.size (.lst []))).Ok:=by
  refine⟨I.ok.mod,CS.kind,I.ok.glob,I.ok.blt,ay _,λx y c hx hy=>I.ok.inj x y c (qL x c hx) (qL y c hy),λx hx=>?_,λx c hx _=>qQ7 (show false=true from hx) cQ,I.ok.hd,I.ok.frames,.inl rfl,λb hb=>⟨?_,λx c hx=>?_⟩,λb o e=>?_,?_,λb o e hb=>?_,λb hb hs=>?_,?_,?_⟩
  ·exact vP CS.clos x (.inl (xF CS.K8 hx))
  ·exact Om b (Ol b hb)
  ·exact(hf b hb).2.2.2.2.1 x c (qL x c hx)
  ·exact I3.bs b o e
  ·exact cj I.ok.Ni (cj I.sz (by show s.heap.objs.size<=s3.heap.objs.size;rw[z3];exact jL _))
  ·rcases(hf b hb).2.2.2.1 with z|z
   ·exact I.ok.FH b o e z
   ·exact qQ7 (bW (a9 (I.ok.bs b o e).1) z) (jt _)
  ·rcases aE.mp (I.Cu b hs)with z|z
   ·exact(hf b hb).2.1 z
   ·exact(hf b hb).2.2.1 z
  ·exact I3.stack
  ·exact I3.HF
 have frC:∀b,s.heap.objs.size<b->(upd H s.heap.objs.size (.lst [])) b=none:=λb hb=>by
  rw[aY (fG hb)];exact I.hok.fresh (oZ hb)
 refine⟨ok,?_,I3.bare,Un.kept hk,⟨_,F5,λi x v e1 e2 e3=>?_⟩,λx c hx=>?_,?_,λx c hx=>?_,λp hp=>qQ7 (show p∈([]:List (aR×Obj))from hp) (by simp),I3.hok.kept hk,?_⟩
 ·rfl
 ·have Sd:(nJ own cap σ)[i]?=some (some v):=e2
  have Vw:N[i]?=some x:=e1;unfold nJ at Sd;by_cases hi:i<own.length
  ·rw[cO (by simpa using hi),eK]at Sd
   split at Sd<;>cases Sd
  ·rw[cJ (by simpa using hG hi),c9,aW]at Sd
   rw[CS.names,cJ (hG hi),aW]at Vw;cases ec:cap[i-own.length]? with
   |none=>rw[ec]at Vw;cases Vw
   |some j=>
    rw[ec]at Vw Sd;have ex:X.N.getD j eS=x:=by simpa using Vw
    have ev:σ.getD j none=some v:=by simpa using Sd
    obtain⟨hj,D1,zm⟩:=CS.Vv j (bF ec);rw[ex]at D1 zm;obtain⟨m,hn,hl⟩:=I.loc;have hxj:X.N[j]?=some x:=by
     rw[ax hj];rw[<-ex,aJ,ax hj];rfl
    have hvj:σ[j]?=some (some v):=by
     have:j < σ.length:=by rw[I.len];exact hj
     rw[aJ,ax this]at ev;rw[ax this];exact qQ6 some ev
    obtain⟨u,r,l⟩:=hl j x v hxj hvj (by
     rcases D1 with z|z
     ·exact .inr (.inl z)
     ·exact .inr (.inr z))
    refine⟨u,r,?_⟩
    rcases l with⟨k,_⟩|⟨k,c,e,z⟩
    ·rcases D1 with z|z<;>(rw[z]at k;cases k)
    ·obtain⟨c',ec'⟩:=vP CS.clos x (.inl (jy zm))
     have:c'=c:=by
      have:=qL x c' ec';rw[e]at this;exact(dC this).symm
     subst this;refine .inr ⟨?_,c',ec',?_⟩
     ·exact vQ zm
     ·obtain⟨o,ho,hd⟩:=z
      exact⟨o,hk _ _ (k3 _ _ ho),hd⟩
 ·obtain⟨v,o,ho,hd⟩:=I.cell x c (qL x c hx)
  exact⟨v,o,hk _ _ (k3 _ _ ho),hd⟩
 ·exact frC _ (by show s.heap.objs.size<s3.heap.objs.size;rw[z3];exact kS _)
 ·obtain⟨v,o,ho,hd⟩:=I.cell x c (qL x c hx)
  rw[aY (bu (a9 ho))];exact I.pj x c (qL x c hx)
 ·show(nJ own cap σ).length=N.length
  unfold nJ;rw[CS.names];simp
theorem Inv.yv{h':dw}{t':Nat}{ch:List aR}(I:Inv X pins σ H s)(k:∀b o,b∉ch->s.heap.get? b=some o->h'.get? b=some o)(hf:∀b∈ch,vK X pins H b):Inv X pins σ H { s with heap:=h',toks:=t' }:=by
 have UH:∀b u,H b=some u->b∉ch:=λb u e z=>by rw[(hf b z).1]at e;cases e
 refine I.step (g':=s.gens) (d':=s.drawn) (ch:=ch) (λb hb=>⟨(hf b hb).2.2.2.1,(hf b hb).2.1,(hf b hb).2.2.2.2.1,(hf b hb).2.2.2.2.2⟩) (λb o _ _ hc e _=>k b o hc e) (λb o _ _ hc e _=>⟨o.slots,k b o hc e⟩) (λ_ _ _ _ n=>n)
  (λb o hc e=>⟨o,k b o hc e⟩) (λ_ _ e=>e) (λ_ _ _ e=>e) (λb ps e=>⟨#[],by rw[e];simp⟩) (λm hm=>?_) (λb u e=>?_) I.bare
 ·obtain⟨o,es,ep,ho,r⟩:=hm
  exact⟨o,es,ep,k _ o (λz=>(hf _ z).2.1 rfl) ho,r⟩
 ·refine(I.hok b u e).stay (λc v hc q=>k c v ?_ q) (λ_ q=>q) λ_ _ q=>q
  rcases hc with z|z
  ·rw[z];exact UH b u e
  ·exact UH c _ z
theorem Inv.track(I:Inv X pins σ H s)(f:vK X pins H a)(new:iB X.prog X.w (upd H a o) s.heap a o):Inv X pins σ (upd H a o) s:=by
 obtain⟨f0,f1,f2,f3,f4,f5⟩:=f;have ne:∀b u,H b=some u->b≠a:=λb u e=>bC e f0
 refine⟨I.ok,I.os,I.bare,⟨I.base.keep,I.base.slot,λb ob e n hx=>?_,I.base.there,λb xs e=>?_,λb ob u e=>?_,λb ps e=>?_⟩,I.loc,I.cell,?_,λx c e=>?_,λp hp=>?_,λb u e=>?_,I.len⟩
 ·have nb:b≠a:=λz=>by
   subst z;rcases f3 with z|z
   ·exact hx z
   ·exact qQ7 (bW (a9 e) z) (jt _)
  rw[aY nb];exact I.base.free b ob e n hx
 ·have q:=I.base.tups b xs e
  rw[aY (ne _ _ q)];exact q
 ·have q:=I.base.wL b ob u e
  rw[aY (ne _ _ q)];exact q
 ·obtain⟨more,q⟩:=I.base.yg b ps e
  exact⟨more,by rw[aY (ne _ _ q)];exact q⟩
 ·rw[aY (bY f1)]
  exact I.free
 ·rw[aY (f4 x c e)]
  exact I.pj x c e
 ·obtain⟨e,n,r⟩:=I.pin p hp
  exact⟨e,by rw[aY (f5 p hp)];exact n,r⟩
 ·by_cases hb:b=a
  ·subst hb
   rw[bQ]at e;cases e;exact new
  ·rw[aY hb]at e
   exact(I.hok b u e).stay (λ_ _ _ q=>q) (λc q=>by rw[aY (ne _ _ q)];exact q) λc xs q=>by rw[aY (ne _ _ q)];exact q
end
def Vx(X:Cx)(ifs:List cx)(t:TT):Prop:=
 ∀(pins:List (aR×Obj))(s:aU)(σ:St)(H:Hp)(Q:Bool->Hp->Prop),Inv X pins σ H s->t σ H Q->wpAny (model X.prog X.w) X.A (testsOf ifs X.env) (TP X pins σ Q) X.xe s
def Zx:TT:=λ_ H Q=>Q true H
theorem Oo:Vx X [] Zx:=λ_ _ _ H _ I h=>wpAny_tests_nil ⟨H,I,h⟩
theorem Oq{c:cx}{t:TT}(h:PT X c t):Vx X [c] t:=λpins s σ H Q I q=>wpAny_tests_one (h pins s σ H Q I q)
def wV(J:It)(g:TG)(tc:TT)(te:TE)(σ:St)(H:Hp)(Q:VK):Prop:=
 ∀D,H D=none->∃W:Nat->Nat->List V->St->Hp->Prop,(∃m,W 0 m [] σ (upd H D (.lst [])))/\∀i m ys σ' H',W i m ys σ' H'->
  (J.stop i H'/\Q (.ref D) H')\/(J.go i H'/\∀x H2,J.UR i H' x H2->g x σ' H2 λσ3 H3=>tc σ3 H3 λb H4=>if b=true then te σ3 H4 λy H5=>
   H5 D=some (.lst ys)/\ys.length<sizeLine/\∃m',m'<m/\W (i+1) m' (ys ++ [y]) σ3 (upd H5 D (.lst (ys ++ [y])))else ∃m',m'<m/\W (i+1) m' ys σ3 H4)
def Qp(own:List Str)(cap:List Nat)(wi:TI)(g:TG)(tc:TT)(te:TE):TE:=λσ H Q=>wi σ H λJ H1=>wV J g tc te (nJ own cap σ) H1 Q
section
variable{X:Cx}{pins:List (aR×Obj)}{σ:St}{H:Hp}{s:aU}{sc:mn}{own N:List Str}{cap:List Nat}{cl:List (Str×aR)}{fp:List aR}{tg elt iter:cx}{ifs:List cx}{J:It}{it:aR}{tn:Nat->dw->Prop}{g:TG}{tc:TT}{te:TE}{wi:TI}{pos:Pos}
theorem Bl{RR:aG->aR->uU->aU->Prop}{E:aG->aU->Prop}{Q:VK}(hc:X.calm=true)(CS:mL X sc own cap N cl)(I:Inv X pins σ H s)(T:Turn X.prog X.w X.K tg J fp it tn)(st:tn 0 s.heap)(hf:∀b∈fp,vK X pins H b)
  (hg:∀f s3 H3,PG (il X sc N cl f s3 H3) tg g)(ht:∀f s3 H3,Vx (il X sc N cl f s3 H3) ifs tc)(he:∀f s3 H3,PE (il X sc N cl f s3 H3) elt te)
  (h:wV J g tc te (nJ own cap σ) H Q)
  (fin:∀D C H' s',Inv X pins σ H' s'->(∃m,s'.heap.Ns C m)->vK X pins H' C->Q (.ref D) H'->RR (.ref D) C (.ok .next) s'):
  wpAny (model X.prog X.w) X.A (newList []) (λacc s₃=>wpAny (model X.prog X.w) X.A (newFunctionEnv sc X.env.globals cl [] X.env.qual none .none (some X.env)) (λVy s₄=>
   codeAny (model X.prog X.w) X.A (.compStart (.ListComp elt [⟨tg,iter,ifs,0⟩] sc pos) 0 (.ref it) acc { Vy with scope:=relabel sc X.env }) (RR acc Vy.locals) s₄) E s₃) E s:=by
 refine fw (wpAny_newFunctionEnv CS.K8 (λy hy=>qQ7 hy (by simp)) (λh4 F5 XX=>?_) CS.kind)
 have hD:H s.heap.objs.size=none:=I.fresh;obtain⟨W,⟨m0,w0⟩,turn⟩:=h s.heap.objs.size hD
 generalize Zy:({ s with heap:=s.heap.push { cls:=.type "list",dict:=none,data:=.seq ([]:List aG).toArray } }:aU)=s3 at *
 have h3:=Zy.symm;have e3:s.heap.push { cls:=.type "list",dict:=none,data:=.seq ([]:List aG).toArray }=s3.heap:=by rw[h3]
 have z3:s3.heap.objs.size=s.heap.objs.size+1:=by rw[h3];exact gE ..
 have k3:∀b o,s.heap.get? b=some o->s3.heap.get? b=some o:=λb o e=>by rw[h3];exact aF _ e
 have k4:∀b o,s3.heap.get? b=some o->h4.get? b=some o:=λb o e=>XX.extBut b o (bu (a9 e)) (aF _ e)
 have Ol:∀b∈fp,b<s.heap.objs.size:=λb hb=>by
  obtain⟨o,e,_⟩:=T.obj 0 _ st b hb;exact a9 e
 have Ic:∀t4,Inv (il X sc N cl fp s3 (upd H s.heap.objs.size (.lst []))) [] (nJ own cap σ) (upd H s.heap.objs.size (.lst [])) { s3 with heap:=h4,toks:=t4 }:=λt4=>
  K9 (t4:=t4) CS I T st hf _ rfl s3 h3 (by simpa using F5) k4
 have st4:tn 0 h4:=T.keep _ _ _ st λb hb o e=>k4 b o (k3 b o e)
 have fr4:∀b∈fp,(upd H s.heap.objs.size (.lst [])) b=none:=λb hb=>by
  rw[aY (bu (Ol b hb))];exact(hf b hb).1
 have stat:∀{H':Hp},(∀b∈fp,H' b=none)->∀b∈fp,vK (il X sc N cl fp s3 (upd H s.heap.objs.size (.lst []))) [] H' b:=λ{H'}hn b hb=>by
  refine⟨hn b hb,?_,λhs=>?_,.inl hb,λx c hx=>?_,λp hp=>qQ7 (show p∈([]:List (aR×Obj))from hp) (by simp)⟩
  ·show b≠s3.heap.objs.size
   rw[z3];exact bu (mI (Ol b hb))
  ·rcases aE.mp (I.Cu b hs)with z|z
   ·exact(hf b hb).2.1 z
   ·exact(hf b hb).2.2.1 z
  ·exact(hf b hb).2.2.2.2.1 x c (vO CS.clos (λx c h=>by simp at h) x c hx)
 have loop:∀s5:aU,(∃t4,s5={ s3 with heap:=h4,toks:=t4 })->codeAny (model X.prog X.w) X.A (.compLoop (.ListComp elt [⟨tg,iter,ifs,0⟩] sc pos) 0 (.ref it) (.ref s.heap.objs.size) (compEnvC sc cl s3.heap.objs.size X.env))
   (RR (.ref s.heap.objs.size) s3.heap.objs.size) s5:=by
  rintro s5 ⟨t4,rfl⟩
  refine Ju (λn s'=>∃i ys σ' H',Inv (il X sc N cl fp s3 (upd H s.heap.objs.size (.lst []))) [] σ' H' s'/\tn i s'.heap/\(∀b∈fp,H' b=none)/\W i n ys σ' H') ?_
   ⟨0,[],_,_,Ic t4,st4,fr4,w0⟩
  rintro n s' ⟨i,ys,σ',H',I',AK,fr',w'⟩
  rcases turn i n ys σ' H' w' with⟨stop,q⟩|⟨go,step⟩
  ·refine g8 (T.done (il X sc N cl fp s3 (upd H s.heap.objs.size (.lst []))) rfl rfl rfl hc i [] s' σ' H' Oj I' (stat fr') AK stop) λr s6 ⟨hr,I6⟩=>?_
   subst hr;have bs:=I6.base;have un:Un (DP X.stack) fp H H' s.heap s6.heap:=by
    have Zz:∀b o,s.heap.get? b=some o->b≠s.heap.objs.size:=λb o e=>bu (a9 e)
    refine⟨λb o e n hb hx=>bs.keep b o (k3 b o e) (by show upd H _ _ b=none;rw[aY (Zz b o e)];exact n) hb hx,λb o e n hb hx=>bs.slot b o (k3 b o e) (by show upd H _ _ b=none;rw[aY (Zz b o e)];exact n) hb hx,
     λb o e n hx=>bs.free b o (k3 b o e) (by show upd H _ _ b=none;rw[aY (Zz b o e)];exact n) hx,λb o e hx=>bs.there b o (k3 b o e) hx,
     λb xs e=>bs.tups b xs (by show upd H _ _ b=_;rw[aY (bC e hD)];exact e),λb o u e=>bs.wL b o u (by show upd H _ _ b=_;rw[aY (bC e hD)];exact e),λb ps e=>bs.yg b ps (by show upd H _ _ b=_;rw[aY (bC e hD)];exact e)⟩
   have I7:Inv X pins σ H' s6:=I.call' (ch:=fp) (by rw[I6.os];show s3.os=s.os;rw[h3]) un I6.hok I6.bare λb hb=>⟨(hf b hb).2.2.2.1,(hf b hb).2.1,(hf b hb).2.2.2.2.1,(hf b hb).2.2.2.2.2⟩
   obtain⟨mC,nC,_⟩:=I6.loc;exact fin _ _ H' s6 I7 ⟨mC,nC⟩ (I.AJ (by show s.heap.objs.size<=s3.heap.objs.size;rw[z3];exact jL _) I6.free) q
  ·refine g8 (T.item (il X sc N cl fp s3 (upd H s.heap.objs.size (.lst []))) rfl rfl rfl hc i [] s' σ' H' Oj I' (stat fr') AK go) λr s6 ⟨u,hr,h6⟩=>?_
   subst hr;refine g8 h6 λ_ s7 ⟨x,H7,I7,r7,y7,ZC,fr7⟩=>?_
   have I7':=I7.pinned (stat fr7) (T.obj _ _ ZC);have back:∀{σ8:St}{H8:Hp}{s8:aU},Inv (il X sc N cl fp s3 (upd H s.heap.objs.size (.lst []))) ([]++y4 fp s7.heap) σ8 H8 s8->tn (i+1) s8.heap/\∀b∈fp,H8 b=none:=λ{σ8 H8 s8}I8=>by
    refine⟨T.keep _ _ _ ZC λb hb o e=>(I8.pin (b,o) (bX _ (bX _ (qK hb e)))).1,λb hb=>?_⟩
    obtain⟨o,e,d⟩:=T.obj _ _ ZC b hb;exact(I8.pin (b,o) (bX _ (bX _ (qK hb e)))).2.1
   refine g8 (hg _ _ _ _ s7 σ' H7 x u _ I7' r7 (step x H7 y7)) λ_ s8 ⟨σ8,H8,I8,q8⟩=>?_
   refine g8 (ht _ _ _ _ s8 σ8 H8 _ I8 q8) λok s9 ⟨H9,I9,q9⟩=>?_
   cases ok with
   |false=>
    rw[qQ2 cQ]at q9 ⊢;obtain⟨m',hm,w9⟩:=q9;exact⟨m',hm,i+1,ys,σ8,H9,I9.sI,(back I9).1,(back I9).2,w9⟩
   |true=>
    rw[qQ3 rfl]at q9 ⊢;refine g8 (he _ _ _ _ s9 σ8 H9 _ I9 q9) λxv ZD ⟨y,H10,I10,r10,Ub,hz,m',hm,w10⟩=>?_
    refine g8 (tZ _ ZD σ8 H10 (.ref s.heap.objs.size) [y] (.ref s.heap.objs.size) [xv] (λ_ Av=>Av=upd H10 s.heap.objs.size (.lst (ys ++ [y]))) I10 rfl (.cons r10 .nil) ⟨_,ys,y,rfl,rfl,Ub,hz,rfl⟩) λ_ s11 ⟨_,H11,ZE,_,e11⟩=>?_
    subst e11;exact⟨m',hm,i+1,ys ++ [y],σ8,_,ZE.sI,(back ZE).1,(back ZE).2,w10⟩
 exact codeAny_compStart_list (loop _ ⟨_,rfl⟩) (T.self _ 0 _ _ _ st4 (loop _ ⟨_,rfl⟩))
theorem Ot(hc:X.calm=true)(CS:mL X sc own cap N cl)(hi:PI X tg iter wi)(hg:∀f s3 H3,PG (il X sc N cl f s3 H3) tg g)(ht:∀f s3 H3,Vx (il X sc N cl f s3 H3) ifs tc)(he:∀f s3 H3,PE (il X sc N cl f s3 H3) elt te)
  (hs:∀x,foldedSetIterable iter X.env x=pure x:=by intro _;rfl):PE X (.ListComp elt [⟨tg,iter,ifs,0⟩] sc pos) (Qp own cap wi g tc te):=by
 intro pins s σ H Q I h;rw[eval_ListComp];refine wpAny_comprehension_free (use:=none) rfl hs (HX CS.clos) CS.kind CS.loc (g8 (hi pins s σ H _ I h) λv s1 h1=>g8 h1 λXI s2 h2=>?_)
 obtain⟨it,fp,tn,J,H2,e,I2,T,UW,f2,q2⟩:=h2;subst e;refine Bl (RR:=λacc C=>compPost (model X.prog X.w) X.A X.xe none (EP X pins σ Q) acc C) (Q:=Q) hc CS I2 T UW f2 hg ht he q2 ?_
 intro D C H' s' I' ⟨m,hn⟩ fC q;exact⟨m,hn,λh' sb=>⟨.ref D,H',I'.turned (t':=s'.toks) (λb o hb e=>(sb.2 b hb).trans e) fC.1 fC.2.1 fC.2.2.2.1 fC.2.2.2.2.1 fC.2.2.2.2.2,rfl,q⟩⟩
theorem zo{px yi:Pos}(hN:X.N.Nodup)(Vz:X.N[i]?=some x)(hx:Loc X.env.scope x)(hc:X.calm=true)(CS:mL X sc own cap N cl)(hi:PI X tg iter wi)(hg:∀f s3 H3,PG (il X sc N cl f s3 H3) tg g)
  (ht:∀f s3 H3,Vx (il X sc N cl f s3 H3) ifs tc)(he:∀f s3 H3,PE (il X sc N cl f s3 H3) elt te)(D_:swapsWith (.ListComp elt [⟨tg,iter,ifs,0⟩] sc pos) (some (.Name x px)) yi.line X.env=pure true:=by rfl)
  (hs:∀x,foldedSetIterable iter X.env x=pure x:=by intro _;rfl)(hf:X.fn x=true\/X.env.scope.names.lookup x=some .local:=by first|exact .inl rfl|exact .inr rfl|assumption):
  PS X (.Assign [.Name x px] (.ListComp elt [⟨tg,iter,ifs,0⟩] sc pos) yi) (RC (Qp own cap wi g tc te) (Bd i)):=by
 intro pins s σ H D I h;rw[exec_Assign_Name_used _ _ _ _ D_];refine av (oU (av (?_:wpAny _ _ _ _ _ _)))
 show wpAny _ X.A (do let _ <-comprehension (.ListComp elt [⟨tg,iter,ifs,0⟩] sc pos) sc X.env _ (newList []) false (eval iter X.env) (some (assign (.Name x px) X.env))) _ _ s
 refine av (fq (wpAny_comprehension_free (use:=some (assign (.Name x px) X.env)) (Q:=λ_ s'=>SP X pins D .next s') rfl hs (HX CS.clos) CS.kind CS.loc
  (g8 (hi pins s σ H _ I h) λv s1 h1=>g8 h1 λXI s2 h2=>?_)) (λ_ s' hq=>a_ (a_ hq)) λ_ _ e=>e)
 obtain⟨it,fp,tn,J,H2,e,I2,T,UW,f2,q2⟩:=h2;subst e;refine Bl (RR:=λacc C=>compPost (model X.prog X.w) X.A X.xe (some (assign (.Name x px) X.env)) (λ_ s'=>SP X pins D .next s') acc C) (Q:=λv H'=>Bd i v σ H' D.nx) hc CS I2 T UW f2 hg ht he q2 ?_
 intro D' C H' s' I' ⟨m,hn⟩ fC q;show wpAny _ _ (assign (.Name x px) X.env (.ref D')) _ _ s';refine wpAny_assign_Name (Ba I' hN Vz hx (v:=.ref D') rfl (λRV I'' ⟨a,sb,ha⟩=>?_) hf)
 have T9:C≠a:=by
  rcases ha with z|z
  ·rw[z];exact fC.2.1
  ·exact λy=>fC.2.2.2.2.1 x a z y.symm
 exact⟨m,hn.sameBut sb T9,λh' sb'=>⟨_,H',I''.turned (t':=RV.toks) (λb o hb e=>(sb'.2 b hb).trans e) fC.1 fC.2.1 fC.2.2.2.1 fC.2.2.2.2.1 fC.2.2.2.2.2,q⟩⟩
end
def Ite(K:au)(a:aR):It:=
 ⟨λi H=>∃xs x,mJ K H a xs/\xs[i]?=some x,λi H v H'=>∃t x,v=.ref t/\H t=none/\H'=upd H t (.tup [.int i,x])/\∀xs,mJ K H a xs->xs[i]?=some x,λi H=>∃xs,mJ K H a xs/\xs.length<=i⟩
theorem Jv{k}(a e it:aR)(Nq:e≠it):Turn P w K (.Tuple elts k tp) (Ite K a) [e,it] e (λi h=>(∃old,IsEnum h e it (i:Nat) old)/\h.IsListIter it a i) where
 mem:=by simp
 obj:=λi h st b hb=>by
  obtain⟨⟨old,he⟩,⟨o,ho,c,d⟩⟩:=st;rcases aE.mp hb with z|z
  ·subst z
   exact⟨_,he,λv z=>by cases z⟩
  ·have z':b=it:=by simpa using z
   subst z';exact⟨o,ho,λv z=>by rw[d]at z;cases z⟩
 keep:=λi h h' st kp=>⟨let⟨old,he⟩:=st.1;⟨old,kp e (by simp) _ he⟩,st.2.at λo q=>kp it (by simp) o q⟩
 item:=by
  intro X hP hw hK hc i pins s σ H E I hf st hg;subst hP hw hK;obtain⟨⟨old,he⟩,hit⟩:=st;obtain⟨xs,x,hq,hx⟩:=hg;obtain⟨its,rv,p,hz⟩:=I.list hq;obtain⟨u,hu,ru⟩:=rv.get hx;refine wpAny_pyNext_enum_item he hit p.isList (x:=u) (by simpa using hu) Nq λh1 Qd ZF ht1 hz1 Uc=>?_
  refine⟨.ref s.heap.objs.size,rfl,wpAny_letOwnedTupleGo_enum Qd λh2 VB rG=>?_⟩
  have elt:e<s.heap.objs.size:=a9 he;have ilt:it<s.heap.objs.size:=by obtain⟨o,ho,_⟩:=id hit;exact a9 ho
  have k2:∀b o,b∉[e,it]->s.heap.get? b=some o->h2.get? b=some o:=λb o hb q=>by
   have n1:b≠e:=λz=>hb (by simp[z])
   have n2:b≠it:=λz=>hb (by simp[z])
   exact(rG.2 b n1).trans (Uc b o n1 n2 q)
  have I2:Inv X pins σ H { s with heap:=h2,toks:=s.toks+1 }:=I.yv k2 hf
  have Ud:h2.get? s.heap.objs.size=some { cls:=.type "tuple",data:=.seq #[.int i s.toks,u] }:=(rG.2 _ (fG elt)).trans ht1;have fT:vK X pins H s.heap.objs.size:=I.AJ (ay _) I.fresh;have I3:Inv X pins σ (upd H s.heap.objs.size (.tup [.int i,x])) { s with heap:=h2,toks:=s.toks+1 }:=
   I2.track fT ⟨by show 2<=sizeLine;rw[du];decide,[.int i s.toks,u],.cons ⟨_,rfl⟩ (.cons ru .nil),⟨_,Ud,rfl,_,rfl⟩⟩
  refine⟨.ref s.heap.objs.size,_,I3,rfl,⟨_,x,rfl,I.fresh,rfl,λys hy=>by rw[I.yZ hy hq];exact hx⟩,⟨⟨_,by simpa using VB⟩,ZF.at λo q=>(rG.2 it Nq.symm).trans q⟩,λb hb=>?_⟩
  rcases aE.mp hb with z|z
  ·subst z
   rw[aY (bu elt)];exact(hf b hb).1
  ·have z':b=it:=by simpa using z
   subst z';rw[aY (bu ilt)];exact(hf b hb).1
 done:=by
  intro X hP hw hK hc i pins s σ H E I hf st hg;subst hP hw hK;obtain⟨⟨old,he⟩,hit⟩:=st;obtain⟨xs,hq,hx⟩:=hg;obtain⟨its,rv,p,hz⟩:=I.list hq;have hl:=rv.length;exact wpAny_pyNext_enum_end (I.ok.hd hc) he hit p.isList (by simp;omega) λh' eb=>⟨rfl,I.yv (ch:=[e,it]) (t':=s.toks) (λb o hb q=>eb b o (λz=>hb (by simp[z])) q) hf⟩
 self:=λ_ _ _ _ _ st h=>let⟨⟨_,he⟩,_⟩:=st;wpAny_pyIter_enum he h
def VC(K:au)(ta:TA):TI:=λσ H R=>ta σ H λvs H1=>∃a,vs=[.ref a]/\(∃xs,mJ K H1 a xs)/\R (Ite K a) H1
theorem Ou{a:cx}{ta:TA}{pos: Pos}{k}(hg:Gl X "enumerate")(hm:X.mg "enumerate"=none)(ha:PA X [a] ta)(hs:starEach [a] X.env=[(false,eval a X.env)]:=by rfl):
  PI X (.Tuple elts k tp) (.Call (.Name "enumerate" p) [a] [] pos) (VC X.K ta):=by
 intro pins s σ H R I h;refine Call_ (wM I hg hm boot_enumerate (jD (g8 (ha pos pins s σ H _ I h) λus s1 ⟨vs,H1,I1,r1,q1⟩=>?_) hs rfl))
 obtain⟨l,e,⟨xs,hq⟩,q⟩:=q1;subst e;obtain⟨u,rfl,rx⟩:=vals1 r1;cases rx;obtain⟨its,rv,pl,hz⟩:=I1.list hq;refine call_enumerate_list pl.isList λh' he hit hsz hk=>wpAny_pyIter_enum he ?_
 have I2:Inv X pins σ H1 { s1 with heap:=h' }:=I1.kept (t':=s1.toks) hk
 refine⟨_,[s1.heap.objs.size+1,s1.heap.objs.size],_,_,H1,rfl,I2,Jv l _ _ (Nat.succ_ne_self _),⟨⟨_,he⟩,hit⟩,λb hb=>?_,q⟩
 rcases aE.mp hb with z|z
 ·subst z
  exact I1.AJ (jL _) (I1.hok.fresh (jL _))
 ·have z':b=s1.heap.objs.size:=by simpa using z
  subst z';exact I1.AJ (ay _) I1.fresh
def wW:Key->ao
 | .inl i=>.int i
 | .inr x=>.str x
mutual
inductive Rep(K:au)(H:Hp):V->ao->Prop
 |non:Rep K H .non .none
 |bl (b:Bool):Rep K H (.bl b) (.bool b)
 |int (i:Int):Rep K H (.int i) (.int i)
 |str (x:Str):Rep K H (.str x) (.str x)
 |lst {a:aR} {xs:List V} {ds:List ao}:mJ K H a xs->dz K H xs ds->Rep K H (.ref a) (.list ds)
 |tup {a:aR} {xs:List V} {ds:List ao}:rF K H a xs->dz K H xs ds->Rep K H (.ref a) (.tuple ds)
 |dct {a:aR} {kvs:List (Key×V)} {ds:List (ao×ao)}:H a=some (.dK kvs)->ds.map (·.1)=kvs.map (λp=>wW p.1)->dz K H (kvs.map (·.2)) (ds.map (·.2))->Rep K H (.ref a) (.dict ds)
 |VD {a:aR} {kvs:List (List Key×V)} {ds:List (ao×ao)}:H a=some (.dT kvs)->ds.map (·.1)=kvs.map (λp=>fS (p.1.map wW))->dz K H (kvs.map (·.2)) (ds.map (·.2))->Rep K H (.ref a) (.dict ((.none,.bool true)::ds))
 |obj {a C dx:aR} {fs:List (Str×V)} {ds:List (ao×ao)}:H a=some (.ins C dx fs)->DZ K C->(∀f∈fs.map (·.1),gP K C f)->ds.map (·.1)=fs.map (λp=>aQ p.1)->dz K H (fs.map (·.2)) (ds.map (·.2))->Rep K H (.ref a) (.dict ((.none,.none)::ds))
 |ZG {a:aR} {o:Obj} {kvs:List (Key×V)} {ds:List (ao×ao)}:H a=some (.Ja o (.dK kvs))->ds.map (·.1)=kvs.map (λp=>wW p.1)->dz K H (kvs.map (·.2)) (ds.map (·.2))->Rep K H (.ref a) (.dict ((.none,.int 1)::ds))
inductive dz(K:au)(H:Hp):List V->List ao->Prop
 |nil:dz K H [] []
 |cons {x:V} {d:ao} {xs:List V} {ds:List ao}:Rep K H x d->dz K H xs ds->dz K H (x::xs) (d::ds)
end
theorem eC.qM(e:eC H H')(h:rF K H a xs):rF K H' a xs:=by
 rcases h with(h|⟨o,h⟩)|h
 ·exact .inl (.inl (e _ _ h))
 ·exact .inl (.inr ⟨o,e _ _ h⟩)
 ·exact .inr h
theorem Rep.mono(s:eC H H'){v:V}(r:Rep K H v d):Rep K H' v d:=
 Rep.rec (motive_1:=λv d _=>Rep K H' v d) (motive_2:=λxs ds _=>dz K H' xs ds) .non (λb=>.bl b) (λi=>.int i) (λx=>.str x) (λh _ t=>.lst (s.seq h) t) (λh _ t=>.tup (s.qM h) t) (λh k _ t=>.dct (s _ _ h) k t) (λh k _ t=>.VD (s _ _ h) k t) (λh c n k _ t=>.obj (s _ _ h) c n k t) (λh k _ t=>.ZG (s _ _ h) k t) .nil (λ_ _ a t=>.cons a t) r
theorem dz.mono(s:eC H H'):∀{ds:List ao}{xs:List V},dz K H xs ds->dz K H' xs ds
 | [],_,r=>by cases r;exact .nil
 |d::ds,_,r=>by cases r with|cons a t=>exact .cons (a.mono s) (dz.mono s t)
section
variable{K:au}{H:Hp}
theorem dz.length:∀{xs:List V}{ds:List ao},dz K H xs ds->xs.length=ds.length
 | [],_,r=>by cases r;rfl
 |x::xs,_,r=>by cases r with|cons a t=>simp[dz.length t]
theorem dz.get:∀{xs:List V}{ds:List ao}{i:Nat}{d:ao},dz K H xs ds->ds[i]?=some d->∃x,xs[i]?=some x/\Rep K H x d
 | [],_,_,_,r,e=>by cases r;simp at e
 |x::xs,_,i,d,r,e=>by
  cases r with
  |cons a t=>
   cases i with
   |zero=>simp at e;subst e;exact⟨x,rfl,a⟩
   |succ i=>simpa using dz.get (i:=i) t (by simpa using e)
theorem dz.at{ds:List ao}{x:V}(r:dz K H xs ds)(e:ds[i]?=some d)(h:xs[i]?=some x):Rep K H x d:=by
 obtain⟨y,h1,h2⟩:=r.get e;rw[h]at h1;cases h1;exact h2
theorem dz.append:∀{xs ys:List V}{ds es:List ao},dz K H xs ds->dz K H ys es->dz K H (xs++ys) (ds++es)
 | [],_,_,_,r,s=>by cases r;exact s
 |x::xs,_,_,_,r,s=>by cases r with|cons a t=>exact .cons a (dz.append t s)
theorem dz.take:∀{xs:List V}{ds:List ao}(n:Nat),dz K H xs ds->dz K H (xs.take n) (ds.take n)
 |_,_,0,_=>by simpa using dz.nil
 | [],_,_+1,r=>by cases r;exact .nil
 |x::xs,_,n+1,r=>by cases r with|cons a t=>exact .cons a (dz.take n t)
theorem dz.drop:∀{xs:List V}{ds:List ao}(n:Nat),dz K H xs ds->dz K H (xs.drop n) (ds.drop n)
 |_,_,0,r=>r
 | [],_,_+1,r=>by cases r;exact .nil
 |x::xs,_,n+1,r=>by cases r with|cons a t=>exact dz.drop n t
end
mutual
theorem kX(I:Inv X pins σ H s):∀(d:ao){v:V}{u:aG},d.canLay0=true->Rep X.K H v d->RelV v u->∃as,Reads s.heap u d as
 | .none,_,_,_,r,q=>by cases r;cases q;exact⟨_,.none⟩
 | .bool b,_,_,_,r,q=>by cases r;cases q;exact⟨_,.bool b⟩
 | .int i,_,_,_,r,q=>by cases r;obtain⟨t,rfl⟩:=q;exact⟨_,.int i t⟩
 | .str x,_,_,_,r,q=>by cases r;obtain⟨t,rfl⟩:=q;exact⟨_,.str x t⟩
 | .list ds,_,_,hc,r,q=>by
  cases r with
  |lst h t=>
   cases q;obtain⟨its,rv,⟨o,n,e,c,_,dt⟩,_⟩:=I.list h;obtain⟨as,ra⟩:=pD I ds hc t rv;exact⟨_,.list e c dt (by simpa using ra)⟩
 | .tuple ds,_,_,hc,r,q=>by
  cases r with
  |tup h t=>
   cases q;obtain⟨its,rv,⟨o,e,c,n,dt⟩,_⟩:=I.tuple h;obtain⟨as,ra⟩:=pD I ds hc t rv;exact⟨_,.tuple e c dt (by simpa using ra)⟩
 | .dict _,_,_,hc,_,_=>by cases hc
theorem pD(I:Inv X pins σ H s):∀(ds:List ao){xs:List V}{us:List aG},pP ds=true->dz X.K H xs ds->eO xs us->∃as,ReadsAll s.heap us ds as
 | [],_,_,_,r,q=>by cases r;cases q;exact⟨_,.nil⟩
 |d::ds,_,_,hc,r,q=>by
  have T_:(d.canLay0&&pP ds)=true:=hc;rw[kP]at T_;cases r with
  |cons a t=>
   cases q with
   |cons b w=>
    obtain⟨as,h1⟩:=kX I d T_.1 a b;obtain⟨bs,h2⟩:=pD I ds T_.2 t w;exact⟨_,.cons h1 h2⟩
end
def Lay(n:Nat)(d:ao):Prop:=d.canLay0=true/\d.depth<=n
inductive Slot where
 |un
 |val (d:ao)
 |own (ds:List ao)
 |ref (a:aR)
variable{δ δ':List Slot}
structure eL(H0 H e9 H':Hp):Prop where
 big:eC H H'
 iq:eC H0 e9
 sub:eC e9 H'
 new:∀a,e9 a≠none->H0 a≠none\/H a=none
theorem eL.refl(s:eC H0 H):eL H0 H H0 H:=⟨eC.refl _,eC.refl _,s,λ_ h=>.inl h⟩
theorem eC.ne(s:eC H H')(h:H a≠none):H' a≠none:=by
 cases e:H a with
 |none=>exact qQ7 e h
 |some o=>rw[s a o e];simp
theorem eL.trans{A B C D E F:Hp}(x:eL A B C D)(y:eL C D E F):eL A B E F:=
 ⟨x.big.trans y.big,x.iq.trans y.iq,y.sub,λa h=>(y.new a h).elim (x.new a) λz=>.inr (x.big.free z)⟩
theorem eL.laid(s:eC H0 H){p:aR}(h:H p=none):eL H0 H (upd H0 p o) (upd H p o):=by
 have h0:H0 p=none:=s.free h;refine⟨λb u e=>?_,λb u e=>?_,λb u e=>?_,λb e=>?_⟩
 ·rw[aY (bC e h)];exact e
 ·rw[aY (bC e h0)];exact e
 ·by_cases hb:b=p
  ·subst hb;rw[bQ]at e ⊢;exact e
  ·rw[aY hb]at e ⊢;exact s b u e
 ·by_cases hb:b=p
  ·subst hb;exact .inr h
  ·rw[aY hb]at e;exact .inl e
theorem eL.loose(s:eC H0 H){p:aR}(h:H p=none):eL H0 H H0 (upd H p o):=
 ⟨λb u e=>by rw[aY (bC e h)];exact e,eC.refl _,λb u e=>by rw[aY (bC (s b u e) h)];exact s b u e,λ_ e=>.inl e⟩
def K_(K:au)(B H0 H:Hp):Slot->Option (Option V)->Prop
 | .un,_=>True
 | .val d,o=>∃v,o=some (some v)/\Rep K H0 v d
 | .own ds,o=>∃p xs,o=some (some (.ref p))/\H p=some (.lst xs)/\H0 p=none/\B p=none/\dz K H0 xs ds
 | .ref a,o=>o=some (some (.ref a))
structure iI(K:au)(B0 B H0 H:Hp)(σ:St)(δ:List Slot):Prop where
 ent:eL B0 B H0 H
 len:σ.length=δ.length
 slot:∀(i:Nat)sl,δ[i]?=some sl->K_ K B H0 H sl σ[i]?
 apart:∀(i j:Nat)ds es p,i≠j->δ[i]?=some (.own ds)->δ[j]?=some (.own es)->σ[i]?=some (some (.ref p))->σ[j]?≠some (some (.ref p))
section
variable{K:au}{B0 B H0 H e9 H':Hp}{σ:St}{δ:List Slot}
theorem iI.sub(f:iI K B0 B H0 H σ δ):eC H0 H:=f.ent.sub
theorem iI.grow(f:iI K B0 B H0 H σ δ)(g:eL H0 H e9 H'):iI K B0 B e9 H' σ δ:=by
 refine⟨f.ent.trans g,f.len,λi sl e=>?_,f.apart⟩
 have q:=f.slot i sl e;cases sl with
 |un=>trivial
 |ref a=>exact q
 |val d=>obtain⟨v,h1,h2⟩:=q;exact⟨v,h1,h2.mono g.iq⟩
 |own ds=>
  obtain⟨p,xs,h1,h2,h3,h4,h5⟩:=q;refine⟨p,xs,h1,g.big _ _ h2,?_,h4,h5.mono g.iq⟩
  cases e2:e9 p with
  |none=>rfl
  |some o=>
   rcases g.new p (by rw[e2];simp)with z|z
   ·exact qQ7 h3 z
   ·rw[h2]at z;cases z
theorem iI.val(f:iI K B0 B H0 H σ δ)(h:δ[i]?=some (.val d)):∃v,σ[i]?=some (some v)/\Rep K H0 v d:=f.slot i _ h
theorem iI.set(f:iI K B0 B H0 H σ δ){v:V}(r:Rep K H0 v d):iI K B0 B H0 H (σ.set i (some v)) (δ.set i (.val d)):=by
 refine⟨f.ent,by simp[f.len],λj sl e=>?_,λj k ds es p Fs e1 e2 e3=>?_⟩
 ·by_cases hj:j=i
  ·subst hj
   have hl:j < δ.length:=by
    have:=(aP.mp e).1;simpa using this
   rw[bo hl]at e;cases e;rw[bo (by rw[f.len];exact hl)]
   exact⟨v,rfl,r⟩
  ·rw[bh (bY hj)]at e
   rw[bh (bY hj)];exact f.slot j sl e
 ·have nj:j≠i:=λz=>by
   subst z;have hl:j < δ.length:=by simpa using(aP.mp e1).1
   rw[bo hl]at e1;cases e1
  have nk:k≠i:=λz=>by
   subst z;have hl:k < δ.length:=by simpa using(aP.mp e2).1
   rw[bo hl]at e2;cases e2
  rw[bh (bY nj)]at e1 e3;rw[bh (bY nk)]at e2 ⊢;exact f.apart j k ds es p Fs e1 e2 e3
theorem iI.CT(f:iI K B0 B H0 H σ δ){ds:List ao}{p:aR}(h1:H p=some (.lst xs))(h2:H0 p=none)(h3:B p=none)(r:dz K H0 xs ds)(hn:∀(j:Nat)es,δ[j]?=some (.own es)->σ[j]?≠some (some (.ref p))):
  iI K B0 B H0 H (σ.set i (some (.ref p))) (δ.set i (.own ds)):=by
 refine⟨f.ent,by simp[f.len],λj sl e=>?_,λj k Jw es q Fs e1 e2 e3=>?_⟩
 ·by_cases hj:j=i
  ·subst hj
   have hl:j < δ.length:=by simpa using(aP.mp e).1
   rw[bo hl]at e;cases e;rw[bo (by rw[f.len];exact hl)]
   exact⟨p,xs,rfl,h1,h2,h3,r⟩
  ·rw[bh (bY hj)]at e
   rw[bh (bY hj)];exact f.slot j sl e
 ·have ZH:j < δ.length:=by simpa using(aP.mp e1).1
  have ZI:k < δ.length:=by simpa using(aP.mp e2).1
  by_cases nj:j=i
  ·subst nj
   rw[bo (by rw[f.len];exact ZH)]at e3
   cases e3;rw[bh Fs]at e2 ⊢;exact hn k es e2
  ·rw[bh (bY nj)]at e1 e3
   by_cases nk:k=i
   ·subst nk
    rw[bo (by rw[f.len];exact ZI)]
    intro z;cases z;exact hn j Jw e1 e3
   ·rw[bh (bY nk)]at e2 ⊢
    exact f.apart j k Jw es q Fs e1 e2 e3
theorem iI.push(f:iI K B0 B H0 H σ δ){ds:List ao}{p:aR}{y:V}(hi:δ[i]?=some (.own ds))(hp:σ[i]?=some (some (.ref p)))(h1:H p=some (.lst xs))(ry:Rep K H0 y d):
  iI K B0 B H0 (upd H p (.lst (xs ++ [y]))) σ (δ.set i (.own (ds ++ [d]))):=by
 obtain⟨p',xs',e1,e2,e3,e4,e5⟩:=f.slot i _ hi;rw[hp]at e1;cases e1;rw[h1]at e2;cases e2;have hl:i < δ.length:=(aP.mp hi).1;refine⟨⟨λb u e=>?_,f.ent.iq,λb u e=>?_,f.ent.new⟩,by simp[f.len],λj sl e=>?_,λj k Jw es q Fs a1 a2 a3=>?_⟩
 ·have:b≠p:=bC e e4
  rw[aY this];exact f.ent.big b u e
 ·have:b≠p:=bC e e3
  rw[aY this];exact f.ent.sub b u e
 ·by_cases hj:j=i
  ·subst hj
   rw[bo hl]at e;cases e;exact⟨p,xs ++ [y],hp,bQ,e3,e4,e5.append (.cons ry .nil)⟩
  ·rw[bh (bY hj)]at e
   have q:=f.slot j sl e;cases sl with
   |un=>trivial
   |ref a=>exact q
   |val d=>exact q
   |own Jw=>
    obtain⟨p2,ZJ,g1,g2,g3,g4,g5⟩:=q;have:p2≠p:=λz=>by subst z;exact f.apart i j ds Jw p2 (bY hj) hi e hp g1
    exact⟨p2,ZJ,g1,by rw[aY this];exact g2,g3,g4,g5⟩
 ·have c1:∃Ue,δ[j]?=some (.own Ue):=by
   by_cases hj:j=i
   ·subst hj;exact⟨_,hi⟩
   ·rw[bh (bY hj)]at a1;exact⟨_,a1⟩
  have c2:∃Ue,δ[k]?=some (.own Ue):=by
   by_cases hk:k=i
   ·subst hk;exact⟨_,hi⟩
   ·rw[bh (bY hk)]at a2;exact⟨_,a2⟩
  obtain⟨d1,c1⟩:=c1;obtain⟨d2,c2⟩:=c2;exact f.apart j k d1 d2 q Fs c1 c2 a3
theorem iI.freeze(f:iI K B0 B H0 H σ δ){ds:List ao}{p:aR}(hi:δ[i]?=some (.own ds))(hp:σ[i]?=some (some (.ref p)))(h1:H p=some (.lst xs)):
  iI K B0 B (upd H0 p (.lst xs)) H σ (δ.set i (.val (.list ds)))/\eC H0 (upd H0 p (.lst xs)):=by
 obtain⟨p',xs',e1,e2,e3,e4,e5⟩:=f.slot i _ hi;rw[hp]at e1;cases e1;rw[h1]at e2;cases e2;have hl:i < δ.length:=(aP.mp hi).1;have sm:eC H0 (upd H0 p (.lst xs)):=λb u e=>by rw[aY (bC e e3)];exact e
 refine⟨⟨⟨f.ent.big,f.ent.iq.trans sm,λb u e=>?_,λb e=>?_⟩,by simp[f.len],λj sl e=>?_,λj k Jw es q Fs a1 a2 a3=>?_⟩,sm⟩
 ·by_cases hb:b=p
  ·subst hb;rw[bQ]at e;rw[<-e];exact h1
  ·rw[aY hb]at e;exact f.ent.sub b u e
 ·by_cases hb:b=p
  ·subst hb;exact .inr e4
  ·rw[aY hb]at e;exact f.ent.new b e
 ·by_cases hj:j=i
  ·subst hj
   rw[bo hl]at e;cases e;exact⟨.ref p,hp,.lst (mJ.of bQ) (e5.mono sm)⟩
  ·rw[bh (bY hj)]at e
   have q:=f.slot j sl e;cases sl with
   |un=>trivial
   |ref a=>exact q
   |val d=>obtain⟨v,g1,g2⟩:=q;exact⟨v,g1,g2.mono sm⟩
   |own Jw=>
    obtain⟨p2,ZJ,g1,g2,g3,g4,g5⟩:=q;have:p2≠p:=λz=>by subst z;exact f.apart i j ds Jw p2 (bY hj) hi e hp g1
    exact⟨p2,ZJ,g1,g2,by rw[aY this];exact g3,g4,g5.mono sm⟩
 ·have nj:j≠i:=λz=>by subst z;rw[bo hl]at a1;cases a1
  have nk:k≠i:=λz=>by subst z;rw[bo hl]at a2;cases a2
  rw[bh (bY nj)]at a1;rw[bh (bY nk)]at a2;exact f.apart j k Jw es q Fs a1 a2 a3
end
def cE(X:Cx)(e:cx):TE:=λσ H Q=>∀pins s,Inv X pins σ H s->wpAny (model X.prog X.w) X.A (eval e X.env) (EP X pins σ Q) X.xe s
def cT(X:Cx)(e:cx):TT:=λσ H Q=>∀pins s,Inv X pins σ H s->wpAny (model X.prog X.w) X.A (isTrue e X.env (eval e X.env)) (TP X pins σ Q) X.xe s
def cS(X:Cx)(st:jq):TS:=λD σ H=>∀pins s,Inv X pins σ H s->wpAny (model X.prog X.w) X.A (exec st X.env) (SP X pins D) X.xe s
def HY(X:Cx)(st:List jq):TS:=λD σ H=>∀pins s,Inv X pins σ H s->wpAny (model X.prog X.w) X.A (execs st X.env) (SP X pins D) X.xe s
theorem d_:PE X e (cE X e):=λpins s _ _ _ I h=>h pins s I
theorem qN:PT X e (cT X e):=λpins s _ _ _ I h=>h pins s I
theorem La{e:jq}:PS X e (cS X e):=λpins s _ _ _ I h=>h pins s I
theorem nW{e:List jq}:HJ X e (HY X e):=λpins s _ _ _ I h=>h pins s I
def VE(X:Cx)(e:cx)(δ:List Slot)(d:ao):Prop:=∀B0 B σ H0 H Q,iI X.K B0 B H0 H σ δ->(∀v e9 H',eL H0 H e9 H'->Rep X.K e9 v d->Q v H')->cE X e σ H Q
def VO(X:Cx)(e:cx)(δ:List Slot)(ds:List ao):Prop:=∀B0 B σ H0 H Q,iI X.K B0 B H0 H σ δ->
 (∀p xs e9 H',eL H0 H e9 H'->H p=none->e9 p=none->H' p=some (.lst xs)->dz X.K e9 xs ds->Q (.ref p) H')->cE X e σ H Q
def VT(X:Cx)(e:cx)(δ:List Slot)(b:Bool):Prop:=∀B0 B σ H0 H Q,iI X.K B0 B H0 H σ δ->(∀e9 H',eL H0 H e9 H'->Q b H')->cT X e σ H Q
def VA(X:Cx)(es:List cx)(δ:List Slot)(ds:List ao):Prop:=∃t,PA X es t/\∀B0 B σ H0 H Q,iI X.K B0 B H0 H σ δ->(∀vs e9 H',eL H0 H e9 H'->dz X.K e9 vs ds->Q vs H')->t σ H Q
theorem VE.of{t:TE}(h:PE X e t)(q:∀B0 B σ H0 H Q,iI X.K B0 B H0 H σ δ->(∀v e9 H',eL H0 H e9 H'->Rep X.K e9 v d->Q v H')->t σ H Q):VE X e δ d:=
 λB0 B σ H0 H Q f k pins s I=>h pins s σ H Q I (q B0 B σ H0 H Q f k)
theorem VO.of{ds:List ao}{t:TE}(h:PE X e t)(q:∀B0 B σ H0 H Q,iI X.K B0 B H0 H σ δ->
  (∀p xs e9 H',eL H0 H e9 H'->H p=none->e9 p=none->H' p=some (.lst xs)->dz X.K e9 xs ds->Q (.ref p) H')->t σ H Q):VO X e δ ds:=
 λB0 B σ H0 H Q f k pins s I=>h pins s σ H Q I (q B0 B σ H0 H Q f k)
theorem VT.of{t:TT}(h:PT X e t)(q:∀B0 B σ H0 H Q,iI X.K B0 B H0 H σ δ->(∀e9 H',eL H0 H e9 H'->Q b H')->t σ H Q):VT X e δ b:=
 λB0 B σ H0 H Q f k pins s I=>h pins s σ H Q I (q B0 B σ H0 H Q f k)
theorem VO.ve{ds:List ao}(h:VO X e δ ds):VE X e δ (.list ds):=λB0 B σ H0 H Q f k=>h B0 B σ H0 H Q f λp xs e9 H' g h1 h2 h3 r=>by
 have sm:eC e9 (upd e9 p (.lst xs)):=λb u e=>by rw[aY (bC e h2)];exact e
 refine k (.ref p) (upd e9 p (.lst xs)) H' ⟨g.big,g.iq.trans sm,λb u e=>?_,λb e=>?_⟩ (.lst (mJ.of bQ) (r.mono sm))
 ·by_cases hb:b=p
  ·subst hb;rw[bQ]at e;rw[<-e];exact h3
  ·rw[aY hb]at e;exact g.sub b u e
 ·by_cases hb:b=p
  ·subst hb;exact .inr h1
  ·rw[aY hb]at e;exact g.new b e
def CV(K:au)(r:R2)(d1 d2 d:ao):Prop:=∀x y H0 H Q,eC H0 H->Rep K H0 x d1->Rep K H0 y d2->(∀v e9 H',eL H0 H e9 H'->Rep K e9 v d->Q v H')->r x y H Q
section
variable{X:Cx}{a b c e:cx}{δ:List Slot}{d d1 d2 d3:ao}{pos:Pos}
theorem ai(i:Nat)(h:δ[i]?=some (.val d))(hN:X.N[i]?=some x:=by rfl)(hv:FG X.env.scope x:=by first|exact bq rfl|exact di (bq rfl)|exact di (di rfl))(hd:(x==("__debug__":Str))=false:=by decide)
  (rQ:(x==("__classdict__":Str))=false:=by decide):VE X (.Name x pos) δ d:=
 .of (iH hN hv hd rQ) λB0 B σ H0 H Q f k=>let⟨v,h1,h2⟩:=f.val h;⟨v,h1,k v H0 H (.refl f.sub) h2⟩
theorem aD{i:Int}{j}:VE X (.Constant (.int i) j pos) δ (.int i):=.of Rv λ_ _ _ _ _ _ f k=>k _ _ _ (.refl f.sub) (.int i)
theorem Lb{i:Bool}{j}:VE X (.Constant (.bool i) j pos) δ (.bool i):=.of UJ λ_ _ _ _ _ _ f k=>k _ _ _ (.refl f.sub) (.bl i)
theorem jP{j}:VE X (.Constant .none j pos) δ .none:=.of Rw λ_ _ _ _ _ _ f k=>k _ _ _ (.refl f.sub) .non
theorem aL{i:Str}{j}:VE X (.Constant (.str i) j pos) δ (.str i):=.of Rx λ_ _ _ _ _ _ f k=>k _ _ _ (.refl f.sub) (.str i)
theorem two_d{r:R2}(hd:CV X.K r d1 d2 d)(h1:VE X a δ d1)(h2:VE X b δ d2):∀B0 B σ H0 H Q,iI X.K B0 B H0 H σ δ->(∀v e9 H',eL H0 H e9 H'->Rep X.K e9 v d->Q v H')->UX r (cE X a) (cE X b) σ H Q:=λB0 B σ H0 H Q f k=>
 h1 B0 B σ H0 H _ f λv H1 eQ g1 r1=>h2 B0 B σ H1 eQ _ (f.grow g1) λu H2 jH g2 r2=>hd v u H2 jH Q g2.sub (r1.mono g2.iq) r2 λw H3 yw g3 r3=>k w H3 yw ((g1.trans g2).trans g3) r3
theorem u5{op:Operator}{r:R2}(ho:tV X (binaryOp op) r)(hd:CV X.K r d1 d2 d)(h1:VE X a δ d1)(h2:VE X b δ d2):VE X (.BinOp a op b pos) δ d:=.of (DX ho d_ d_) (two_d hd h1 h2)
theorem wX{r:R2}(ho:tV X (compareOp op) r)(hd:CV X.K r d1 d2 d)(h1:VE X a δ d1)(h2:VE X b δ d2)(hm:behindInMarks op b=false):VE X (.Compare a [op] [b] pos) δ d:=.of (NW ho d_ d_ hm) (two_d hd h1 h2)
theorem jQ{r:R2}{k:Bool}(ho:tV X (compareOp op) r)(hd:CV X.K r d1 d2 (.bool k))(h1:VE X a δ d1)(h2:VE X b δ d2)(hm:behindInMarks op b=false):VT X (.Compare a [op] [b] pos) δ k:=
 .of (NX ho d_ d_ hm) λB0 B σ H0 H Q f q=>two_d hd h1 h2 B0 B σ H0 H _ f λv e9 H' g r=>by cases r;exact⟨_,rfl,q e9 H' g⟩
theorem F7{r:R2}(ho:Nk X r)(hd:CV X.K r d1 d2 d)(h1:VE X a δ d1)(h2:VE X b δ d2)(hs:tY b:=by intro _ _;rfl):VE X (.Subscript a b pos) δ d:=.of (Qn ho d_ d_ hs) (two_d hd h1 h2)
end
theorem VF(i j:Int):CV K (Nj λi j=>.int (g i j)) (.int i) (.int j) (.int (g i j)):=λx y H0 H Q s r1 r2 k=>by cases r1;cases r2;exact⟨_,_,rfl,rfl,k _ _ _ (.refl s) (.int _)⟩
theorem Ea{g:Int->Int->Bool}(i j:Int):CV K (Nj λi j=>.bl (g i j)) (.int i) (.int j) (.bool (g i j)):=λx y H0 H Q s r1 r2 k=>by cases r1;cases r2;exact⟨_,_,rfl,rfl,k _ _ _ (.refl s) (.bl _)⟩
theorem Se{C:Int->Int->Prop}(i j:Int)(h:C i j):CV K (rI C λi j=>.int (g i j)) (.int i) (.int j) (.int (g i j)):=λx y H0 H Q s r1 r2 k=>by cases r1;cases r2;exact⟨_,_,rfl,rfl,h,k _ _ _ (.refl s) (.int _)⟩
def Sf(K:au)(n:Nat)(g:ao->ao->Bool):R2:=λx y H Q=>∃dx dy,Rep K H x dx/\Rep K H y dy/\Lay n dx/\Lay n dy/\Q (.bl (g dx dy)) H
theorem Lc(hu:X.A.units+n+2<cLine):tV X (compareOp .Eq) (Sf X.K n λx y=>dF x y):=by
 intro pins s σ H x y v u Q I rx ry ⟨dx,dy,r1,r2,l1,l2,q⟩;obtain⟨as,ra⟩:=kX I dx l1.1 r1 rx;obtain⟨bs,rb⟩:=kX I dy l2.1 r2 ry;have h1:=l1.2;exact SeqAt.compareEq_reads ra rb l1.1 l2.1 (by omega) ⟨.bl _,H,I,rfl,q⟩
theorem Ld(hu:X.A.units+n+2<cLine):tV X (compareOp .NotEq) (Sf X.K n λx y=>!dF x y):=by
 intro pins s σ H x y v u Q I rx ry ⟨dx,dy,r1,r2,l1,l2,q⟩;obtain⟨as,ra⟩:=kX I dx l1.1 r1 rx;obtain⟨bs,rb⟩:=kX I dy l2.1 r2 ry;have h1:=l1.2;exact SeqAt.neOverData X.prog X.w X.A X.xe s v u dx dy as bs _ ra rb l1.1 l2.1 (by omega) ⟨.bl _,H,I,rfl,q⟩
def uG(d:ao):ao->Bool
 | .list xs=>xs.any λy=>dF y d
 | .tuple xs=>xs.any λy=>dF y d
 |_=>false
def Bm:ao->Bool
 | .list _=>true
 | .tuple _=>true
 |_=>false
def Sg(K:au)(n:Nat)(neg:Bool):R2:=λx y H Q=>∃dx dy,Rep K H x dx/\Rep K H y dy/\Bm dy=true/\Lay n dx/\Lay n dy/\Q (.bl (if neg then !uG dx dy else uG dx dy)) H
theorem Le(hu:X.A.units+n+2<cLine):tV X (compareOp .In) (Sg X.K n false):=by
 intro pins s σ H x y v u Q I rx ry ⟨dx,dy,r1,r2,hs,l1,l2,q⟩;obtain⟨as,ra⟩:=kX I dx l1.1 r1 rx;obtain⟨bs,rb⟩:=kX I dy l2.1 r2 ry;have h1:=l1.2;cases dy with
 |list ys=>exact SeqAt.in_list_reads rb ra l2.1 l1.1 (by omega) ⟨.bl _,H,I,rfl,q⟩
 |tuple ys=>exact SeqAt.in_tuple_reads rb ra l2.1 l1.1 (by omega) ⟨.bl _,H,I,rfl,q⟩
 |_=>cases hs
theorem Bn(hu:X.A.units+n+2<cLine):tV X (compareOp .NotIn) (Sg X.K n true):=by
 intro pins s σ H x y v u Q I rx ry ⟨dx,dy,r1,r2,hs,l1,l2,q⟩;obtain⟨as,ra⟩:=kX I dx l1.1 r1 rx;obtain⟨bs,rb⟩:=kX I dy l2.1 r2 ry;have h1:=l1.2;cases dy with
 |list ys=>exact SeqAt.notIn_list_reads rb ra l2.1 l1.1 (by omega) ⟨.bl _,H,I,rfl,q⟩
 |tuple ys=>exact SeqAt.notIn_tuple_reads rb ra l2.1 l1.1 (by omega) ⟨.bl _,H,I,rfl,q⟩
 |_=>cases hs
theorem HZ{g:ao->ao->Bool}{d1 d2:ao}(l1:Lay n d1)(l2:Lay n d2):CV K (Sf K n g) d1 d2 (.bool (g d1 d2)):=λx y H0 H Q s r1 r2 k=>⟨d1,d2,r1.mono s,r2.mono s,l1,l2,k _ _ _ (.refl s) (.bl _)⟩
theorem Ov{neg:Bool}{d1 d2:ao}(hs:Bm d2=true)(l1:Lay n d1)(l2:Lay n d2):CV K (Sg K n neg) d1 d2 (.bool (if neg then !uG d1 d2 else uG d1 d2)):=λx y H0 H Q s r1 r2 k=>
 ⟨d1,d2,r1.mono s,r2.mono s,hs,l1,l2,k _ _ _ (.refl s) (.bl _)⟩
theorem ZK{ds:List ao}{i:Int}(h:tX ds i=some d):CV K (XS K) (.list ds) (.int i) d:=λx y H0 H Q s r1 r2 k=>by
 cases r2;cases r1 with
 |lst hq r=>
  rename_i p xs
  have hl:=r.length;unfold tX at h;cases e:Qm ds.length i with
  |none=>rw[e]at h;cases h
  |some j=>
   rw[e]at h;obtain⟨v,hv,rv⟩:=r.get (i:=j) (d:=d) h;exact .inl ⟨p,xs,i,v,rfl,rfl,s.seq hq,by unfold tX;rw[hl,e];exact hv,k v _ _ (.refl s) rv⟩
theorem VG{ds:List ao}{i:Int}(h:tX ds i=some d):CV K (XS K) (.tuple ds) (.int i) d:=λx y H0 H Q s r1 r2 k=>by
 cases r2;cases r1 with
 |tup hq r=>
  rename_i p xs
  have hl:=r.length;unfold tX at h;cases e:Qm ds.length i with
  |none=>rw[e]at h;cases h
  |some j=>
   rw[e]at h;obtain⟨v,hv,rv⟩:=r.get (i:=j) (d:=d) h;exact .inr (.inl ⟨p,xs,i,v,rfl,rfl,s.qM hq,by unfold tX;rw[hl,e];exact hv,k v _ _ (.refl s) rv⟩)
def VH(K:au):R2:=λx y H Q=>∃l b xs zs,x=.ref l/\y=.ref b/\mJ K H l xs/\mJ K H b zs/\xs.length+zs.length<=sizeLine/\∀p,H p=none->Q (.ref p) (upd H p (.lst (xs++zs)))
theorem Ow:tV X (binaryOp .Add) (VH X.K):=by
 intro pins s σ H x y v u Q I rx ry h;obtain⟨l,b,xs,zs,rfl,rfl,hl,hb,hz,q⟩:=h;cases rx;cases ry;obtain⟨its,r1,⟨⟨cls,dd,data,sl⟩,n,e1,c1,_,d1⟩,z1⟩:=I.list hl;obtain⟨N7,r2,⟨⟨Ze,XM,data2,Ua⟩,n2,e2,c2,_,d2⟩,z2⟩:=I.list hb;simp only at c1 d1 c2 d2;subst c1 d1 c2 d2;have l1:=r1.length;have l2:=r2.length;refine concat_meets ⟨_,e1,rfl⟩ ⟨_,e2,rfl⟩ noFill_list_add seq_list_add PySem.F.slot_list_add PySem.F.entry_list_add (PySem.F.args_list_add_2 _ _) (list_addW l b its.toArray N7.toArray n n2 dd XM sl Ua (by rw[bD,bD];omega)) ⟨e1,e2,?_⟩
 rw[show its.toArray++N7.toArray=(its++N7).toArray by simp]
 exact⟨.ref _,_,I.Vk (t':=s.toks) (r1.append r2) (by rw[aH];omega),rfl,q _ I.fresh⟩
section
variable{X:Cx}{a b c e:cx}{es:List cx}{δ:List Slot}{d d1 d2 d3:ao}{ds:List ao}{pos:Pos}{i j:Int}{k:Nat}
theorem eM(h1:VE X a δ (.int i))(h2:VE X b δ (.int j)):VE X (.BinOp a .Add b pos) δ (.int (i+j)):=u5 RJ (VF i j) h1 h2
theorem Si(h1:VE X a δ (.int i))(h2:VE X b δ (.int j)):VE X (.BinOp a .Sub b pos) δ (.int (i-j)):=u5 RK (VF i j) h1 h2
theorem u6(h1:VE X a δ (.int i))(h2:VE X b δ (.int j))(h:NT i j):VE X (.BinOp a .Mult b pos) δ (.int (i*j)):=u5 RL (Se i j h) h1 h2
theorem cU(h1:VE X a δ (.int i))(h2:VE X b δ (.int j))(h:0<j):VE X (.BinOp a .Mod b pos) δ (.int (i%j)):=u5 RM (Se i j h) h1 h2
theorem fB(h1:VE X a δ (.int i))(h2:VE X b δ (.int j))(h:UZ i j):VE X (.BinOp a .FloorDiv b pos) δ (.int (i/j)):=u5 NV (Se i j h) h1 h2
theorem VJ(h1:VE X a δ (.int i))(h2:VE X b δ (.int j)):VE X (.Compare a [.Gt] [b] pos) δ (.bool (decide (j<i))):=wX Qk (Ea i j) h1 h2 (jF _)
theorem xG(h1:VE X a δ (.int i))(h2:VE X b δ (.int j)):VT X (.Compare a [.Lt] [b] pos) δ (decide (i<j)):=jQ U0 (Ea i j) h1 h2 (jF _)
theorem Bo(h1:VE X a δ (.int i))(h2:VE X b δ (.int j)):VT X (.Compare a [.Gt] [b] pos) δ (decide (j<i)):=jQ Qk (Ea i j) h1 h2 (jF _)
theorem Qq(h1:VE X a δ (.int i))(h2:VE X b δ (.int j)):VT X (.Compare a [.GtE] [b] pos) δ (decide (j<=i)):=jQ U1 (Ea i j) h1 h2 (jF _)
theorem CW(hr:gj k X.A):X.A.units+20+2<cLine:=by have:=hr.un;omega
theorem b0(hr:gj k X.A)(l1:Lay 20 d1)(l2:Lay 20 d2)(h1:VE X a δ d1)(h2:VE X b δ d2):VT X (.Compare a [.Eq] [b] pos) δ (dF d1 d2):=jQ (Lc (CW hr)) (HZ l1 l2) h1 h2 (jF _)
theorem pE(hr:gj k X.A)(l1:Lay 20 d1)(l2:Lay 20 d2)(h1:VE X a δ d1)(h2:VE X b δ d2):VT X (.Compare a [.NotEq] [b] pos) δ (!dF d1 d2):=jQ (Ld (CW hr)) (HZ l1 l2) h1 h2 (jF _)
theorem sP(hr:gj k X.A)(l1:Lay 20 d1)(l2:Lay 20 d2)(h1:VE X a δ d1)(h2:VE X b δ d2):VE X (.Compare a [.Eq] [b] pos) δ (.bool (dF d1 d2)):=wX (Lc (CW hr)) (HZ l1 l2) h1 h2 (jF _)
theorem VL(hr:gj k X.A)(hs:Bm d2=true)(l1:Lay 20 d1)(l2:Lay 20 d2)(h1:VE X a δ d1)(h2:VE X b δ d2)(hm:behindInMarks .In b=false:=by with_unfolding_all rfl):VT X (.Compare a [.In] [b] pos) δ (uG d1 d2):=jQ (Le (CW hr)) (Ov (neg:=false) hs l1 l2) h1 h2 hm
theorem Eb(hr:gj k X.A)(hs:Bm d2=true)(l1:Lay 20 d1)(l2:Lay 20 d2)(h1:VE X a δ d1)(h2:VE X b δ d2)(hm:behindInMarks .NotIn b=false:=by with_unfolding_all rfl):VT X (.Compare a [.NotIn] [b] pos) δ (!uG d1 d2):=jQ (Bn (CW hr)) (Ov (neg:=true) hs l1 l2) h1 h2 hm
theorem eX(h1:VE X a δ (.list ds))(h2:VE X b δ (.int i))(h:tX ds i=some d)(hs:tY b:=by intro _ _;rfl):VE X (.Subscript a b pos) δ d:=F7 CG (ZK h) h1 h2 hs
theorem cC(h1:VE X a δ (.tuple ds))(h2:VE X b δ (.int i))(h:tX ds i=some d)(hs:tY b:=by intro _ _;rfl):VE X (.Subscript a b pos) δ d:=F7 CG (VG h) h1 h2 hs
theorem sQ:PT X e (λ_ _ _=>False):=λ_ _ _ _ _ _ h=>h.elim
theorem F8{k:Bool}(h:VT X a δ k):VT X (.UnaryOp .Not a pos) δ (!k):=.of (FL qN) λB0 B σ H0 H Q f q=>h B0 B σ H0 H _ f q
theorem qO(h1:VT X a δ k1)(h2:k1=true->VT X b δ k2):VT X (.BoolOp .And [a,b] pos) δ (k1&&k2):=by
 cases k1 with
 |true=>
  exact .of (pw_and qN (pw_and1 qN)).pt λB0 B σ H0 H Q f q=>h1 B0 B σ H0 H _ f λH1 eQ g=>by
   rw[qQ3 rfl];exact h2 rfl B0 B σ H1 eQ _ (f.grow g) λH2 jH g2=>q H2 jH (g.trans g2)
 |false=>
  exact .of (pw_and qN (pw_and1 sQ)).pt λB0 B σ H0 H Q f q=>h1 B0 B σ H0 H _ f λH1 eQ g=>by
   rw[qQ2 cQ];exact q H1 eQ g
theorem kY(h1:VT X a δ k1)(h2:k1=false->VT X b δ k2):VT X (.BoolOp .Or [a,b] pos) δ (k1||k2):=by
 cases k1 with
 |false=>
  exact .of (pw_or qN (pw_or1 qN)).pt λB0 B σ H0 H Q f q=>h1 B0 B σ H0 H _ f λH1 eQ g=>by
   rw[qQ2 cQ];exact h2 rfl B0 B σ H1 eQ _ (f.grow g) λH2 jH g2=>q H2 jH (g.trans g2)
 |true=>
  exact .of (pw_or qN (pw_or1 sQ)).pt λB0 B σ H0 H Q f q=>h1 B0 B σ H0 H _ f λH1 eQ g=>by
   rw[qQ3 rfl];exact q H1 eQ g
theorem Lf{k3: Bool}(h1:VT X a δ k1)(h2:k1=false->VT X b δ k2)(h3:k1=false->k2=false->VT X c δ k3):VT X (.BoolOp .Or [a,b,c] pos) δ (k1||(k2||k3)):=by
 cases k1 with
 |true=>
  exact .of (pw_or qN (pw_or sQ (pw_or1 sQ))).pt λB0 B σ H0 H Q f q=>h1 B0 B σ H0 H _ f λH1 eQ g=>by
   rw[qQ3 rfl];exact q H1 eQ g
 |false=>
  cases k2 with
  |true=>
   exact .of (pw_or qN (pw_or qN (pw_or1 sQ))).pt λB0 B σ H0 H Q f q=>h1 B0 B σ H0 H _ f λH1 eQ g=>by
    rw[qQ2 cQ];refine h2 rfl B0 B σ H1 eQ _ (f.grow g) λH2 jH g2=>?_
    rw[qQ3 rfl];exact q H2 jH (g.trans g2)
  |false=>
   exact .of (pw_or qN (pw_or qN (pw_or1 qN))).pt λB0 B σ H0 H Q f q=>h1 B0 B σ H0 H _ f λH1 eQ g=>by
    rw[qQ2 cQ];refine h2 rfl B0 B σ H1 eQ _ (f.grow g) λH2 jH g2=>?_
    rw[qQ2 cQ];exact h3 rfl rfl B0 B σ H2 jH _ ((f.grow g).grow g2) λH3 yw g3=>q H3 yw ((g.trans g2).trans g3)
def ZL:ao->Option Bool
 | .none=>some false
 | .bool b=>some b
 | .int i=>some (i != 0)
 | .list ds=>some (!ds.isEmpty)
 | .tuple ds=>some (!ds.isEmpty)
 |_=>none
theorem dz.empty{ds:List ao}(r:dz K H xs ds):xs.isEmpty=ds.isEmpty:=by cases r<;>rfl
theorem oJ{t:Bool}(h:VE X a δ d)(ht:ZL d=some t)(he:∀whole,isTrue a X.env whole=(do let v <-whole;standAt a.pos;holding [v] (truthy v)):=by intro _;rfl):VT X a δ t:=
 .of (KG d_ he) λB0 B σ H0 H Q f q=>h B0 B σ H0 H _ f λv H1 eQ g r=>by
  refine⟨t,?_,q H1 eQ g⟩
  cases r with
  |non=>cases ht;exact(rfl:false=false)
  |bl b=>cases ht;exact(rfl:t=t)
  |int i=>cases ht;exact(rfl:(i != 0)=(i != 0))
  |str x=>cases ht
  |lst hq r=>cases ht;exact .inl ⟨_,g.sub.seq hq,by rw[r.empty]⟩
  |tup hq r=>cases ht;exact .inr (.inl ⟨_,g.sub.qM hq,by rw[r.empty]⟩)
  |dct _ _ _=>cases ht
  |VD _ _ _=>cases ht
  |obj _ _ _ _ _=>cases ht
  |ZG _ _ _=>cases ht
theorem CY{k:Bool}(h:VT X c δ k)(h1:k=true->VE X a δ d)(h2:k=false->VE X b δ d):VE X (.IfExp c a b pos) δ d:=
 .of (Ky qN d_ d_) λB0 B σ H0 H Q f q=>h B0 B σ H0 H _ f λH1 eQ g=>by
  cases k with
  |true=>
   rw[qQ3 rfl];exact h1 rfl B0 B σ H1 eQ _ (f.grow g) λv H2 jH g2 r=>q v H2 jH (g.trans g2) r
  |false=>
   rw[qQ2 cQ];exact h2 rfl B0 B σ H1 eQ _ (f.grow g) λv H2 jH g2 r=>q v H2 jH (g.trans g2) r
theorem a7:VA X [] δ []:=⟨_,gI,λ_ _ _ _ _ _ f q=>q _ _ _ (.refl f.sub) .nil⟩
theorem aq(h:VE X e δ d)(hr:VA X es δ ds)(hs:starEach (e::es) X.env=(false,eval e X.env)::starEach es X.env:=by rfl):VA X (e::es) δ (d::ds):=by
 obtain⟨t,p,ht⟩:=hr;exact⟨_,dG d_ p hs,λB0 B σ H0 H Q f q=>h B0 B σ H0 H _ f λv H1 eQ g r=>ht B0 B σ H1 eQ _ (f.grow g) λvs H2 jH g2 rs=>q _ _ _ (g.trans g2) (.cons (r.mono g2.iq) rs)⟩
theorem gu{x1}(h:VA X es δ ds)(hz:ds.length<=sizeLine:=by(simp only[iG];rw[du];decide)):VE X (.Tuple es x1 pos) δ (.tuple ds):=by
 obtain⟨t,p,ht⟩:=h;exact .of (y_ p) λB0 B σ H0 H Q f q=>ht B0 B σ H0 H _ f λvs H1 eQ g r=>⟨by rw[r.length];exact hz,λa ha=>q _ _ _ (g.trans (.laid g.sub ha)) (.tup (rF.of bQ) (r.mono (eL.laid g.sub ha).iq))⟩
theorem fh(h:VA X es δ ds)(hz:ds.length<=sizeLine:=by(simp only[iG];rw[du];decide)):VO X (.List es pos) δ ds:=by
 obtain⟨t,p,ht⟩:=h;exact .of (Cz p) λB0 B σ H0 H Q f q=>ht B0 B σ H0 H _ f λvs H1 eQ g r=>⟨by rw[r.length];exact hz,λa ha=>q a vs H1 _ (g.trans (.loose g.sub ha)) (g.big.free ha) (g.sub.free ha) bQ r⟩
def cutD{α:Type}(xs:List α)(lo hi:Option Int):List α:=(xs.drop (HT.mh xs.length 0 lo)).take (HT.mh xs.length xs.length hi-HT.mh xs.length 0 lo)
theorem dz.cut(r:dz K H xs ds)(lo hi:Option Int):dz K H (D3 xs lo hi) (cutD ds lo hi):=by
 unfold D3 cutD;rw[r.length];exact(r.drop _).take _
inductive uH(X:Cx)(δ:List Slot):Option cx->Option Int->Prop
 |no:uH X δ none none
 |yes {e:cx} {i:Int}:VE X e δ (.int i)->uH X δ (some e) (some i)
theorem uH.ok{o:Option cx}{p:Option Int}(h:uH X δ o p):∃t,PO X o t/\∀B0 B σ H0 H Q,iI X.K B0 B H0 H σ δ->(∀e9 H',eL H0 H e9 H'->Q p H')->t σ H Q:=by
 cases h with
 |no=>exact⟨_,N4,λ_ _ _ _ _ _ f q=>q _ _ (.refl f.sub)⟩
 |yes h=>exact⟨_,N5 d_,λB0 B σ H0 H Q f q=>h B0 B σ H0 H _ f λv H1 eQ g r=>by cases r;exact⟨_,rfl,q _ _ g⟩⟩
theorem jJ{lo hi:Option cx}{l u:Option Int}(h:VE X a δ (.list ds))(hl:uH X δ lo l)(hh:uH X δ hi u):VO X (.Subscript a (.Slice lo hi none p2) pos) δ (cutD ds l u):=by
 obtain⟨tl,pl,ql⟩:=hl.ok;obtain⟨th,ph,qh⟩:=hh.ok;refine .of (zc N_ d_ pl ph) λB0 B σ H0 H Q f q=>h B0 B σ H0 H _ f λv H1 eQ g r=>ql B0 B σ H1 eQ _ (f.grow g) λH2 jH g2=>qh B0 B σ H2 jH _ ((f.grow g).grow g2) λH3 yw g3=>?_
 cases r with
 |lst hq r=>
  refine⟨_,_,rfl,g3.sub.seq ((g2.iq.trans g3.iq).seq hq),λp hp=>?_⟩
  have gg:=(g.trans g2).trans g3;exact q p _ H3 _ (gg.trans (.loose g3.sub hp)) (gg.big.free hp) (g3.sub.free hp) bQ ((r.mono (g2.iq.trans g3.iq)).cut l u)
theorem ua{lo hi:Option cx}{l u:Option Int}(h:VE X a δ (.tuple ds))(hl:uH X δ lo l)(hh:uH X δ hi u)(hw:¬(HT.mh ds.length 0 l=0/\HT.mh ds.length ds.length u=ds.length)):
  VE X (.Subscript a (.Slice lo hi none p2) pos) δ (.tuple (cutD ds l u)):=by
 obtain⟨tl,pl,ql⟩:=hl.ok;obtain⟨th,ph,qh⟩:=hh.ok;refine .of (zc RZ d_ pl ph) λB0 B σ H0 H Q f q=>h B0 B σ H0 H _ f λv H1 eQ g r=>ql B0 B σ H1 eQ _ (f.grow g) λH2 jH g2=>qh B0 B σ H2 jH _ ((f.grow g).grow g2) λH3 yw g3=>?_
 cases r with
 |tup hq r=>
  refine⟨_,_,rfl,g3.sub.qM ((g2.iq.trans g3.iq).qM hq),by rw[r.length];exact hw,λp hp=>?_⟩
  have gg:=(g.trans g2).trans g3;exact q _ _ _ (gg.trans (.laid g3.sub hp)) (.tup (rF.of bQ) (((r.mono (g2.iq.trans g3.iq)).cut l u).mono (eL.laid g3.sub hp).iq))
def qt(K:au)(r:List V->Hp->VK->Prop)(ds:List ao)(d:ao):Prop:=∀vs H0 H Q,eC H0 H->dz K H0 vs ds->(∀v e9 H',eL H0 H e9 H'->Rep K e9 v d->Q v H')->r vs H Q
def Qr(K:au)(r:List V->Hp->VK->Prop)(ds es:List ao):Prop:=∀vs H0 H Q,eC H0 H->dz K H0 vs ds->
 (∀p xs e9 H',eL H0 H e9 H'->H p=none->e9 p=none->H' p=some (.lst xs)->dz K e9 xs es->Q (.ref p) H')->r vs H Q
theorem km(hc:kJ X (.builtin id) r)(hd:qt X.K r ds d)(ha:VA X (e::es) δ ds)(hm:X.mg x=none)(hv:bootBuiltins x=some (.builtin id))(hg:Gl X x:=by rfl)(hn:x≠"__name__":=by decide)(rS:(x==("__debug__":Str))=false:=by decide)
  (he:starEach (e::es) X.env=(false,eval e X.env)::starEach es X.env:=by rfl)(pT:(backTo pos (starEach es X.env)).any (·.1)=false:=by rfl):VE X (.Call (.Name x p) (e::es) [] pos) δ d:=by
 obtain⟨t,pa,ht⟩:=ha;exact .of (sL hc hg hm hv pa hn rS he pT) λB0 B σ H0 H Q f q=>ht B0 B σ H0 H _ f λvs H1 eQ g r=>hd vs H1 eQ Q g.sub r λv H2 jH g2 r2=>q v H2 jH (g.trans g2) r2
theorem mM(hc:kJ X (.type id) r)(hd:qt X.K r ds d)(ha:VA X (e::es) δ ds)(hm:X.mg x=none)(hv:bootBuiltins x=some (.type id))(hg:Gl X x:=by rfl)(hn:x≠"__name__":=by decide)(rS:(x==("__debug__":Str))=false:=by decide)
  (he:starEach (e::es) X.env=(false,eval e X.env)::starEach es X.env:=by rfl)(pT:(backTo pos (starEach es X.env)).any (·.1)=false:=by rfl):VE X (.Call (.Name x p) (e::es) [] pos) δ d:=by
 obtain⟨t,pa,ht⟩:=ha;exact .of (tW hc hg hm hv pa hn rS he pT) λB0 B σ H0 H Q f q=>ht B0 B σ H0 H _ f λvs H1 eQ g r=>hd vs H1 eQ Q g.sub r λv H2 jH g2 r2=>q v H2 jH (g.trans g2) r2
theorem Jx{zs:List ao}(hc:kJ X (.type id) r)(hd:Qr X.K r ds zs)(ha:VA X (e::es) δ ds)(hm:X.mg x=none)(hv:bootBuiltins x=some (.type id))(hg:Gl X x:=by rfl)(hn:x≠"__name__":=by decide)(rS:(x==("__debug__":Str))=false:=by decide)
  (he:starEach (e::es) X.env=(false,eval e X.env)::starEach es X.env:=by rfl)(pT:(backTo pos (starEach es X.env)).any (·.1)=false:=by rfl):VO X (.Call (.Name x p) (e::es) [] pos) δ zs:=by
 obtain⟨t,pa,ht⟩:=ha;exact .of (tW hc hg hm hv pa hn rS he pT) λB0 B σ H0 H Q f q=>ht B0 B σ H0 H _ f λvs H1 eQ g r=>hd vs H1 eQ Q g.sub r λv xs H2 jH g2 a1 a2 a3 a4=>q v xs H2 jH (g.trans g2) (g.big.free a1) a2 a3 a4
theorem dz.one(r:dz K H vs [d]):∃v,vs=[v]/\Rep K H v d:=by
 cases r with|cons a t=>cases t;exact⟨_,rfl,a⟩
theorem dz.two(r:dz K H vs [d1,d2]):∃v w,vs=[v,w]/\Rep K H v d1/\Rep K H w d2:=by
 cases r with|cons a t=>cases t with|cons b t=>cases t;exact⟨_,_,rfl,a,b⟩
theorem VM:qt K (λxs H Q=>∃p ys,xs=[.ref p]/\(mJ K H p ys\/rF K H p ys)/\Q (.int ys.length) H) [.list ds] (.int ds.length):=λvs H0 H Q s r k=>by
 obtain⟨v,rfl,r1⟩:=r.one;cases r1 with|lst hq r=>exact⟨_,_,rfl,.inl (s.seq hq),k _ _ _ (.refl s) (by rw[r.length];exact .int _)⟩
theorem Sj:qt K (λxs H Q=>∃p ys,xs=[.ref p]/\(mJ K H p ys\/rF K H p ys)/\Q (.int ys.length) H) [.tuple ds] (.int ds.length):=λvs H0 H Q s r k=>by
 obtain⟨v,rfl,r1⟩:=r.one;cases r1 with|tup hq r=>exact⟨_,_,rfl,.inr (s.qM hq),k _ _ _ (.refl s) (by rw[r.length];exact .int _)⟩
theorem yx:qt K (λxs H Q=>∃p ys,xs=[.ref p]/\((mJ K H p ys/\∀l,H l=none->Q (.ref l) (upd H l (.tup ys)))\/(rF K H p ys/\Q (.ref p) H))) [.list ds] (.tuple ds):=λvs H0 H Q s r k=>by
 obtain⟨v,rfl,r1⟩:=r.one;cases r1 with|lst hq r=>exact⟨_,_,rfl,.inl ⟨s.seq hq,λl hl=>k _ _ _ (.laid s hl) (.tup (rF.of bQ) (r.mono (eL.laid s hl).iq))⟩⟩
theorem jg(h:VE X a δ (.list ds))(hm:X.mg "len"=none)(hg:Gl X "len":=by rfl)(hs:starEach [a] X.env=(false,eval a X.env)::starEach [] X.env:=by rfl):VE X (.Call (.Name "len" p) [a] [] pos) δ (.int ds.length):=km vM VM (aq h a7 hs) hm ur hg (he:=hs)
theorem n_(h:VE X a δ (.tuple ds))(hm:X.mg "len"=none)(hg:Gl X "len":=by rfl)(hs:starEach [a] X.env=(false,eval a X.env)::starEach [] X.env:=by rfl):VE X (.Call (.Name "len" p) [a] [] pos) δ (.int ds.length):=km vM Sj (aq h a7 hs) hm ur hg (he:=hs)
theorem iw{d1 d2:List ao}(h1:VE X a δ (.list d1))(h2:VE X b δ (.list d2))(hz:d1.length+d2.length<=sizeLine):VO X (.BinOp a .Add b pos) δ (d1++d2):=by
 refine .of (DX Ow d_ d_) λB0 B σ H0 H Q f q=>h1 B0 B σ H0 H _ f λv H1 eQ g1 r1=>h2 B0 B σ H1 eQ _ (f.grow g1) λu H2 jH g2 r2=>?_
 cases r1 with
 |lst hq r1=>
  cases r2 with
  |lst F9 r2=>
   have gg:=g1.trans g2;refine⟨_,_,_,_,rfl,rfl,g2.sub.seq (g2.iq.seq hq),g2.sub.seq F9,by rw[r1.length,r2.length];exact hz,λp hp=>?_⟩
   exact q p _ H2 _ (gg.trans (.loose g2.sub hp)) (gg.big.free hp) (g2.sub.free hp) bQ ((r1.mono g2.iq).append r2)
end
inductive H_ where
 |one (i:Nat)
 |tup (is:List Nat)
variable{tgt:H_}
def Gb:List Nat->Qi
 | []=>UO
 |i::r=>Qj (Bd i) (Gb r)
def Nr(K:au):H_->TG
 | .one i=>Bd i
 | .tup is=>UQ K is.length (Gb is)
def qP:List Nat->List ao->List Slot->List Slot
 |i::r,d::ds,δ=>qP r ds (δ.set i (.val d))
 |_,_,δ=>δ
def zp:H_->ao->List Slot->Option (List Slot)
 | .one i,d,δ=>some (δ.set i (.val d))
 | .tup is,.tuple ds,δ=>if ds.length=is.length then some (qP is ds δ)else none
 |_,_,_=>none
section
variable{K:au}{B0 B H0 H:Hp}
theorem Ec:∀{is:List Nat}{xs:List V}{ds:List ao}{σ:St}{δ:List Slot}{Q:St->Hp->Prop},iI K B0 B H0 H σ δ->dz K H0 xs ds->ds.length=is.length->(∀σ',iI K B0 B H0 H σ' (qP is ds δ)->Q σ' H)->Gb is xs σ H Q
 | [],xs,ds,σ,δ,Q,f,r,hl,q=>by
  have:ds=[]:=nU hl;subst this;cases r;exact⟨rfl,q σ f⟩
 |i::is,xs,ds,σ,δ,Q,f,r,hl,q=>by
  cases r with
  |nil=>cases hl
  |cons a t=>exact⟨_,_,rfl,Ec (is:=is) (f.set a) t (by simpa using hl) q⟩
theorem qQ{v:V}{Q:St->Hp->Prop}(f:iI K B0 B H0 H σ δ)(r:Rep K H0 v d)(h:zp tgt d δ=some δ')(q:∀σ',iI K B0 B H0 H σ' δ'->Q σ' H):Nr K tgt v σ H Q:=by
 cases tgt with
 |one i=>cases h;exact q _ (f.set r)
 |tup is=>
  cases r with
  |tup hq r=>
   rename_i ds
   have h':(if ds.length=is.length then some (qP is ds δ)else none)=some δ':=h
   by_cases hl:ds.length=is.length
   ·rw[qQ3 hl]at h'
    cases h';exact⟨_,_,rfl,f.sub.qM hq,by rw[r.length,hl],Ec f r hl q⟩
   ·rw[qQ2 hl]at h';cases h'
  |_=>cases h
end
def ItD(K:au)(J:It)(H0:Hp)(ds:List ao):Prop:=∀e9 H',eC H0 e9->eC e9 H'->∀i,(i<ds.length->J.go i H')/\(ds.length<=i->J.stop i H')/\
 ∀x Av d,ds[i]?=some d->J.UR i H' x Av->∃VN,eL e9 H' VN Av/\Rep K VN x d
def VI(X:Cx)(tg iter:cx)(δ:List Slot)(ds:List ao):Prop:=∃wi,PI X tg iter wi/\∀B0 B σ H0 H R,iI X.K B0 B H0 H σ δ->(∀J e9 H',eL H0 H e9 H'->ItD X.K J e9 ds->R J H')->wi σ H R
def Bp(ds:List ao):List ao:=ds.zipIdx.map λp=>.tuple [.int p.2,p.1]
theorem dM(ds:List ao):(Bp ds).length=ds.length:=by simp[Bp]
theorem jM{ds:List ao}(h:(Bp ds)[i]?=some d):∃x,ds[i]?=some x/\d=.tuple [.int i,x]:=by
 unfold Bp at h;rw[aW,kH]at h;cases e:ds[i]? with
 |none=>rw[e]at h;simp at h
 |some x=>rw[e]at h;simp at h;exact⟨x,rfl,h.symm⟩
def lg(n:Nat):List ao:=(cv n).map λ(i:Nat)=>.int (i:Int)
section
variable{X:Cx}{tg a b:cx}{δ:List Slot}{ds:List ao}{pos:Pos}
theorem gK(h:VE X a δ (.list ds)):VI X tg a δ ds:=⟨_,NR d_,λB0 B σ H0 H R f q=>h B0 B σ H0 H _ f λv H1 eQ g r=>by
 cases r with
 |lst hq r=>
  refine⟨_,rfl,⟨_,g.sub.seq hq⟩,q _ H1 eQ g λHa Hb s1 s2 i=>?_⟩
  have hl:=r.length;have hS:=(s1.trans s2).seq hq;refine⟨λhi=>?_,λhi=>⟨_,hS,by omega⟩,λx Av d hd ⟨e,y⟩=>?_⟩
  ·obtain⟨x,hx,_⟩:=r.get (i:=i) (d:=ds[i]) (by simp[hi])
   exact⟨_,x,hS,hx⟩
  ·subst e
   exact⟨Ha,.refl s2,(r.mono s1).at hd (y _ hS)⟩⟩
theorem zq(h:VE X a δ (.tuple ds)):VI X tg a δ ds:=⟨_,RG d_,λB0 B σ H0 H R f q=>h B0 B σ H0 H _ f λv H1 eQ g r=>by
 cases r with
 |tup hq r=>
  refine⟨_,rfl,⟨_,g.sub.qM hq⟩,q _ H1 eQ g λHa Hb s1 s2 i=>?_⟩
  have hl:=r.length;have hS:=(s1.trans s2).qM hq;refine⟨λhi=>?_,λhi=>⟨_,hS,by omega⟩,λx Av d hd ⟨e,y⟩=>?_⟩
  ·obtain⟨x,hx,_⟩:=r.get (i:=i) (d:=ds[i]) (by simp[hi])
   exact⟨_,x,hS,hx⟩
  ·subst e
   exact⟨Ha,.refl s2,(r.mono s1).at hd (y _ hS)⟩⟩
theorem zr{n:Int}(h:VE X a δ (.int n))(hm:X.mg "range"=none)(h1:-(2^62)<=n)(h2:n<2^62)(hg:Gl X "range":=by rfl)(hs:starEach [a] X.env=[(false,eval a X.env)]:=by rfl):VI X tg (.Call (.Name "range" p) [a] [] pos) δ (lg n.toNat):=
 ⟨_,Je hg hm (dG d_ gI hs) hs,λB0 B σ H0 H R f q=>h B0 B σ H0 H _ f λv H1 eQ g r=>by
  cases r;refine⟨n,rfl,h1,h2,q _ H1 eQ g λHa Hb s1 s2 i=>⟨λhi=>(show i<n.toNat from by simpa[lg]using hi),λhi=>(show n.toNat<=i from by simpa[lg]using hi),λx Av d hd ⟨e,y⟩=>?_⟩⟩
  subst e;subst y;unfold lg at hd;rw[aW]at hd;have hi:i<n.toNat:=by
   rcases Nat.lt_or_ge i n.toNat with z|z
   ·exact z
   ·rw[iW (by simpa using z)]at hd;cases hd
  rw[oA hi]at hd;cases hd;exact⟨Ha,.refl s2,by rw[Int.zero_add];exact .int _⟩⟩
theorem og{k}(h:VE X a δ (.list ds))(hm:X.mg "enumerate"=none)(hg:Gl X "enumerate":=by rfl)(hs:starEach [a] X.env=[(false,eval a X.env)]:=by rfl):VI X (.Tuple elts k tp) (.Call (.Name "enumerate" p) [a] [] pos) δ (Bp ds):=
 ⟨_,Ou hg hm (dG d_ gI hs) hs,λB0 B σ H0 H R f q=>h B0 B σ H0 H _ f λv H1 eQ g r=>by
  cases r with
  |lst hq r=>
   refine⟨_,rfl,⟨_,g.sub.seq hq⟩,q _ H1 eQ g λHa Hb s1 s2 i=>?_⟩
   have hl:=r.length;have hS:=(s1.trans s2).seq hq;refine⟨λhi=>?_,λhi=>⟨_,hS,by rw[dM]at hi;omega⟩,λx Av d hd ⟨t,y,e1,e2,e3,e4⟩=>?_⟩
   ·rw[dM]at hi
    obtain⟨x,hx,_⟩:=r.get (i:=i) (d:=ds[i]) (by simp[hi])
    exact⟨_,x,hS,hx⟩
   ·obtain⟨z,hz,rfl⟩:=jM hd
    subst e1;subst e3;refine⟨upd Ha t (.tup [.int i,y]),.laid s2 e2,.tup (rF.of bQ) (.cons (.int _) (.cons ?_ .nil))⟩
    exact((r.mono s1).at hz (e4 _ hS)).mono (eL.laid s2 e2).iq⟩
end
def cTs(X:Cx)(ifs:List cx):TT:=λσ H Q=>∀pins s,Inv X pins σ H s->wpAny (model X.prog X.w) X.A (testsOf ifs X.env) (TP X pins σ Q) X.xe s
def Ox(X:Cx)(ifs:List cx)(δ:List Slot)(b:Bool):Prop:=∀B0 B σ H0 H Q,iI X.K B0 B H0 H σ δ->(∀e9 H',eL H0 H e9 H'->Q b H')->cTs X ifs σ H Q
theorem fQ:Ox X [] δ true:=λ_ _ _ _ _ _ f q pins s I=>Oo pins s _ _ _ I (q _ _ (.refl f.sub))
theorem yy{c:cx}(h:VT X c δ b):Ox X [c] δ b:=λB0 B σ H0 H Q f q pins s I=>Oq (t:=cT X c) qN pins s σ H Q I (h B0 B σ H0 H Q f q)
def VQ:Slot->Slot
 | .val d=>.val d
 |_=>.un
def ni(own:List Str)(cap:List Nat)(δ:List Slot):List Slot:=aT own.length .un++cap.map λi=>VQ (δ.getD i .un)
section
variable{K:au}{B0 B H0 H:Hp}{σ:St}{δ:List Slot}
theorem iI.comp(f:iI K B0 B H0 H σ δ)(own:List Str)(cap:List Nat):iI K B0 B H0 H (nJ own cap σ) (ni own cap δ):=by
 have noOwn:∀(i:Nat)ds,(ni own cap δ)[i]?≠some (.own ds):=λi ds e=>by
  unfold ni at e;by_cases hi:i<own.length
  ·rw[cO (by simpa using hi),eK]at e
   split at e<;>cases e
  ·rw[cJ (by simpa using hG hi),aW]at e
   cases q:cap[i-(aT own.length Slot.un).length]? with
   |none=>rw[q]at e;cases e
   |some j=>
    rw[q]at e;simp only[nV,iQ]at e
    revert e
    cases δ.getD j .un<;>(intro e;cases e)
 refine⟨f.ent,by simp[nJ,ni],λi sl e=>?_,λi j ds es p _ a1=>qQ7 a1 (noOwn i ds)⟩
 unfold ni at e;unfold nJ;by_cases hi:i<own.length
 ·rw[cO (by simpa using hi),eK]at e
  split at e<;>cases e<;>trivial
 ·rw[cJ (by simpa using hG hi),aW,c9]at e
  rw[cJ (by simpa using hG hi),aW,c9]
  cases q:cap[i-own.length]? with
  |none=>rw[q]at e;cases e
  |some j=>
   rw[q]at e;simp only[nV,iQ]at e ⊢;cases w:δ[j]? with
   |none=>rw[aJ,w]at e;subst e;trivial
   |some Rt=>
    rw[aJ,w]at e;cases Rt with
    |un=>subst e;trivial
    |ref a=>subst e;trivial
    |own ds=>subst e;trivial
    |val d=>
     subst e;obtain⟨v,h1,h2⟩:=f.slot j _ w;exact⟨v,by rw[aJ,h1];rfl,h2⟩
theorem iI.forget(f:iI K B0 B H0 H σ δ)(hl:δ'.length=δ.length)(h:∀(i:Nat)sl,δ'[i]?=some sl->sl=.un\/δ[i]?=some sl):iI K B0 B H0 H σ δ':=by
 refine⟨f.ent,by rw[hl];exact f.len,λi sl e=>?_,λi j ds es p yr a1 a2 a3=>?_⟩
 ·rcases h i sl e with rfl|z
  ·trivial
  ·exact f.slot i sl z
 ·rcases h i _ a1 with z|z
  ·cases z
  ·rcases h j _ a2 with y|y
   ·cases y
   ·exact f.apart i j ds es p yr z y a3
theorem iI.touch{D:aR}(f:iI K B0 B H0 H σ δ)(h0:H0 D=none)(hB:B D=none)(hn:∀(i:Nat)ds,δ[i]?≠some (.own ds)):iI K B0 B H0 (upd H D o) σ δ:=by
 refine⟨⟨λb u e=>by rw[aY (bC e hB)];exact f.ent.big b u e,f.ent.iq,λb u e=>by rw[aY (bC e h0)];exact f.ent.sub b u e,f.ent.new⟩,f.len,λi sl e=>?_,f.apart⟩
 have q:=f.slot i sl e;cases sl with
 |un=>trivial
 |ref a=>exact q
 |val d=>exact q
 |own ds=>exact qQ7 e (hn i ds)
end
theorem uI:∀(is:List Nat)(ds:List ao)(δ:List Slot),(qP is ds δ).length=δ.length
 | [],_,_=>rfl
 |_::_,[],_=>rfl
 |i::is,d::ds,δ=>by
  show(qP is ds (δ.set i (.val d))).length=_
  rw[uI];simp
theorem zt:∀(is:List Nat)(ds:List ao)(δ:List Slot)(j:Nat),j∉is->(qP is ds δ)[j]?=δ[j]?
 | [],_,_,_,_=>rfl
 |_::_,[],_,_,_=>rfl
 |i::is,d::ds,δ,j,h=>by
  show(qP is ds (δ.set i (.val d)))[j]?=_
  rw[zt is ds _ j λz=>h (aZ _ z),bh (λ(z:i=j)=>h (by rw[z];exact aS))]
def Bq(n:Nat):H_->Bool
 | .one i=>decide (i<n)
 | .tup is=>is.all λi=>decide (i<n)
theorem comp_back(ht:Bq own.length tgt=true)(h:zp tgt d (ni own cap δ)=some δ'):
  δ'.length=(ni own cap δ).length/\∀(i:Nat)sl,(ni own cap δ)[i]?=some sl->sl=.un\/δ'[i]?=some sl:=by
 have low:∀(i:Nat)sl,i<own.length->(ni own cap δ)[i]?=some sl->sl=.un:=λi sl hi e=>by
  unfold ni at e;rw[cO (by simpa using hi),eK]at e
  split at e<;>cases e<;>rfl
 cases tgt with
 |one i=>
  cases h;refine⟨by simp,λj sl e=>?_⟩
  have hi:i<own.length:=by simpa[Bq]using ht
  by_cases hj:j<own.length
  ·exact .inl (low j sl hj e)
  ·exact .inr (by rw[bh (by omega)];exact e)
 |tup is=>
  cases d with
  |tuple ds=>
   have h':(if ds.length=is.length then some (qP is ds (ni own cap δ))else none)=some δ':=h
   by_cases hl:ds.length=is.length
   ·rw[qQ3 hl]at h'
    cases h';refine⟨uI _ _ _,λj sl e=>?_⟩
    by_cases hj:j<own.length
    ·exact .inl (low j sl hj e)
    ·refine .inr ?_
     rw[zt _ _ _ _ λz=>hj ?_]
     ·exact e
     ·have:=dU.mp ht j z
      simpa using this
   ·rw[qQ2 hl]at h';cases h'
  |_=>cases h
theorem pF(i:Nat)(ds:List ao):(ni own cap δ)[i]?≠some (.own ds):=λe=>by
 unfold ni at e;by_cases hi:i<own.length
 ·rw[cO (by simpa using hi),eK]at e
  split at e<;>cases e
 ·rw[cJ (by simpa using hG hi),aW]at e
  cases q:cap[i-(aT own.length Slot.un).length]? with
  |none=>rw[q]at e;cases e
  |some j=>
   rw[q]at e;simp only[nV,iQ]at e
   revert e
   cases δ.getD j .un<;>(intro e;cases e)
section
variable{X:Cx}{sc:mn}{own N:List Str}{cap:List Nat}{cl:List (Str×aR)}{tg elt iter:cx}{ifs:List cx}{δ:List Slot}{ds:List ao}{pos:Pos}{tgt:H_}
def Gc(X:Cx)(sc:mn)(own:List Str)(cap:List Nat)(N:List Str)(cl:List (Str×aR))(tgt:H_)(elt:cx)(ifs:List cx)(δ:List Slot)(F:ao->Option ao)(d:ao):Prop:=
 ∃δ',zp tgt d (ni own cap δ)=some δ'/\(∀f s3 H3,Ox (il X sc N cl f s3 H3) ifs δ' (F d).isSome)/\∀r,F d=some r->∀f s3 H3,VE (il X sc N cl f s3 H3) elt δ' r
def teC(X:Cx)(sc:mn)(N:List Str)(cl:List (Str×aR))(elt:cx):TE:=λσ H Q=>∀f s3 H3,cE (il X sc N cl f s3 H3) elt σ H Q
def XZ(X:Cx)(sc:mn)(N:List Str)(cl:List (Str×aR))(ifs:List cx):TT:=λσ H Q=>∀f s3 H3,cTs (il X sc N cl f s3 H3) ifs σ H Q
theorem xH(ht:Bq own.length tgt=true)(hz:ds.length<=sizeLine)(step:∀d∈ds,Gc X sc own cap N cl tgt elt ifs δ F d){J:It}{B0 B: Hp}{Q:VK}(f:iI X.K B0 B H0 H σ δ)(it:ItD X.K J H0 ds)
  (q:∀p xs e9 H',eL H0 H e9 H'->H p=none->e9 p=none->H' p=some (.lst xs)->dz X.K e9 xs (ds.filterMap F)->Q (.ref p) H'):
  wV J (Nr X.K tgt) (XZ X sc N cl ifs) (teC X sc N cl elt) (nJ own cap σ) H Q:=by
 intro D hD;have hBD:B D=none:=f.ent.big.free hD;refine⟨λi m ys σ' H'=>i<=ds.length/\m=ds.length-i/\ys.length<=i/\∃Ha,eL H0 H Ha H'/\iI X.K B0 B Ha H' σ' (ni own cap δ)/\Ha D=none/\H' D=some (.lst ys)/\dz X.K Ha ys ((ds.take i).filterMap F),
  ⟨ds.length,bj _,rfl,ay _,H0,.loose f.sub hD,(f.comp own cap).touch (f.sub.free hD) hBD pF,f.sub.free hD,bQ,by simpa using dz.nil⟩,?_⟩
 rintro i m ys σ' H' ⟨hi,rfl,hy,Ha,g,fa,hDa,Ub,rs⟩
 obtain⟨i1,i2,i3⟩:=it Ha H' g.iq g.sub i;by_cases t_:i<ds.length
 ·refine .inr ⟨i1 t_,λx H2 y=>?_⟩
  have hd:ds[i]?=some ds[i]:=by simp[t_]
  obtain⟨Hb,g2,rx⟩:=i3 x H2 ds[i] hd y;obtain⟨δ',e1,e2,e3⟩:=step ds[i] (dv t_);obtain⟨k1,k2⟩:=comp_back ht e1;have noD:∀{Hx Hy:Hp},eL Ha H' Hx Hy->Hx D=none:=λ{Hx Hy}gg=>by
   cases e:Hx D with
   |none=>rfl
   |some o=>
    rcases gg.new D (by rw[e];simp)with z|z
    ·exact qQ7 hDa z
    ·rw[Ub]at z;cases z
  have tk:(ds.take (i+1)).filterMap F=(ds.take i).filterMap F++(F ds[i]).toList:=by
   rw[ej,hd,jZ];cases eF:F ds[i]<;>simp[iz,eF]
  refine qQ (fa.grow g2) rx e1 λσ3 f3=>?_
  intro fp s3 H3;refine e2 fp s3 H3 B0 B σ3 Hb H2 _ f3 λHc H4 g4=>?_
  have VR:=g2.trans g4;cases eF:F ds[i] with
  |none=>
   rw[show(none:Option ao).isSome=false from rfl,qQ2 cQ]
   refine⟨ds.length-(i+1),by omega,t_,rfl,by omega,Hc,g.trans VR,(f3.grow g4).forget k1.symm k2,noD VR,VR.big _ _ Ub,?_⟩
   rw[tk,eF];simpa using rs.mono VR.iq
  |some r=>
   rw[show(some r:Option ao).isSome=true from rfl,qQ3 rfl]
   intro ZM s3' yw;refine e3 r eF ZM s3' yw B0 B σ3 Hc H4 _ (f3.grow g4) λw Hd H5 g5 r5=>?_
   have Nt:=VR.trans g5;have ZN:Hd D=none:=noD Nt;refine⟨Nt.big _ _ Ub,by omega,ds.length-(i+1),by omega,t_,rfl,by simp;omega,Hd,?_,((f3.grow g4).grow g5 |>.forget k1.symm k2).touch ZN hBD pF,ZN,bQ,?_⟩
   ·have gg:=g.trans Nt
    exact⟨λb u e=>by rw[aY (bC e hD)];exact gg.big b u e,gg.iq,λb u e=>by rw[aY (bC e ZN)];exact gg.sub b u e,gg.new⟩
   ·rw[tk,eF]
    exact(rs.mono Nt.iq).append (.cons r5 .nil)
 ·have e:i=ds.length:=by omega
  subst e;refine .inl ⟨i2 (ay _),q D ys Ha H' g hD hDa Ub ?_⟩
  simpa using rs
theorem fJ(hc:X.calm=true)(CS:mL X sc own cap N cl)(hi:VI X tg iter δ ds)(hg:∀f s3 H3,PG (il X sc N cl f s3 H3) tg (Nr X.K tgt))(ht:Bq own.length tgt=true)(hz:ds.length<=sizeLine)
  (step:∀d∈ds,Gc X sc own cap N cl tgt elt ifs δ F d)(hs:∀x,foldedSetIterable iter X.env x=pure x:=by intro _;rfl):VO X (.ListComp elt [⟨tg,iter,ifs,0⟩] sc pos) δ (ds.filterMap F):=by
 obtain⟨wi,pi,qi⟩:=hi;refine .of (Ot (tc:=XZ X sc N cl ifs) (te:=teC X sc N cl elt) hc CS pi hg (λf s3 H3 pins s σ H Q I h=>h f s3 H3 pins s I) (λf s3 H3 pins s σ H Q I h=>h f s3 H3 pins s I) hs) λB0 B σ H0 H Q f q=>?_
 refine qi B0 B σ H0 H _ f λJ H1 eQ g it=>?_
 exact xH ht hz step (f.grow g) it λp xs Ha Hb g2 a1 a2 a3 a4=>q p xs Ha Hb (g.trans g2) (g.big.free a1) a2 a3 a4
end
inductive Out where
 |nx (δ:List Slot)|bk (δ:List Slot)|ct (δ:List Slot)
 |rt (d:ao)|ro (ds:List ao)|r2 (ds:List ao) (d:ao)|ru (U:Hp->V->Hp->Hp->Prop)
def sS(K:au)(B0 B H0:Hp)(D:Ends):Out->Prop
 | .nx δ=>∀σ' e9 H',eC H0 e9->iI K B0 B e9 H' σ' δ->D.nx σ' H'
 | .bk δ=>∀σ' e9 H',eC H0 e9->iI K B0 B e9 H' σ' δ->D.bk σ' H'
 | .ct δ=>∀σ' e9 H',eC H0 e9->iI K B0 B e9 H' σ' δ->D.ct σ' H'
 | .rt d=>∀v e9 H',eL B0 B e9 H'->Rep K e9 v d->D.rt v H'
 | .ro ds=>∀p xs e9 H',eL B0 B e9 H'->B p=none->e9 p=none->H' p=some (.lst xs)->dz K e9 xs ds->D.rt (.ref p) H'
 | .r2 ds d=>∀t p xs v e9 H',eL B0 B e9 H'->B p=none->e9 p=none->H' p=some (.lst xs)->dz K e9 xs ds->B t=none->e9 t=none->H' t=some (.tup [.ref p,v])->Rep K e9 v d->D.rt (.ref t) H'
 | .ru U=>∀v e9 H',eL B0 B e9 H'->U B v e9 H'->D.rt v H'
def Lg:Out->Bool
 | .rt _=>true | .ro _=>true | .r2 _ _=>true | .ru _=>true|_=>false
theorem sS.mono{B0 B e9: Hp}{D:Ends}(s:eC H0 e9):∀{o:Out},sS K B0 B H0 D o->sS K B0 B e9 D o
 | .nx _,h=>λσ a b s' f=>h σ a b (s.trans s') f
 | .bk _,h=>λσ a b s' f=>h σ a b (s.trans s') f
 | .ct _,h=>λσ a b s' f=>h σ a b (s.trans s') f
 | .rt _,h=>h
 | .ro _,h=>h
 | .r2 _ _,h=>h
 | .ru _,h=>h
theorem sS.ret{B0 B e9: Hp}{D D':Ends}(e:D.rt=D'.rt):∀{o:Out},Lg o=true->sS K B0 B H0 D o->sS K B0 B e9 D' o
 | .rt _,_,h=>by unfold sS at *;rw[<-e];exact h
 | .ro _,_,h=>by unfold sS at *;rw[<-e];exact h
 | .r2 _ _,_,h=>by unfold sS at *;rw[<-e];exact h
 | .ru _,_,h=>by unfold sS at *;rw[<-e];exact h
 | .nx _,z,_=>by cases z
 | .bk _,z,_=>by cases z
 | .ct _,z,_=>by cases z
def VS(X:Cx)(st:jq)(δ:List Slot)(o:Out):Prop:=∀B0 B σ H0 H D,iI X.K B0 B H0 H σ δ->sS X.K B0 B H0 D o->cS X st D σ H
def vB(X:Cx)(st:List jq)(δ:List Slot)(o:Out):Prop:=∀B0 B σ H0 H D,iI X.K B0 B H0 H σ δ->sS X.K B0 B H0 D o->HY X st D σ H
section
variable{X:Cx}{st:jq}{rest body orelse:List jq}{δ δ':List Slot}{o:Out}{a b c e:cx}{d:ao}{ds:List ao}{pos px:Pos}{x:Str}
theorem bS:vB X [] δ (.nx δ):=λ_ _ σ H0 H _ f ok pins s I=>Cv pins s σ H _ I (ok σ H0 H (eC.refl _) f)
theorem aI(h1:VS X st δ (.nx δ'))(h2:vB X rest δ' o):vB X (st::rest) δ o:=λB0 B σ H0 H D f ok pins s I=>
 lN La nW pins s σ H D I (h1 B0 B σ H0 H _ f λσ' Ha Hb sm f'=>h2 B0 B σ' Ha Hb D f' (ok.mono sm))
theorem dS(h1:VS X st δ o)(hr:Lg o=true):vB X (st::rest) δ o:=λB0 B σ H0 H D f ok pins s I=>
 lN La mK pins s σ H D I (h1 B0 B σ H0 H _ f (sS.ret (D:=D) (by rfl) hr ok))
theorem bw(h1:VS X st δ o):vB X [st] δ o:=λB0 B σ H0 H D f ok pins s I=>yq La pins s σ H D I (h1 B0 B σ H0 H D f ok)
theorem dq(i:Nat)(h:VE X e δ d)(hN:X.N.Nodup)(hi:X.N[i]?=some x:=by rfl)(hx:Loc X.env.scope x:=by first|exact bq rfl|exact di rfl)(hs:swapsWith e (some (.Name x px)) pos.line X.env=pure false:=by rfl)(hf:X.fn x=true\/X.env.scope.names.lookup x=some .local:=by first|exact .inl rfl|exact .inr rfl):
  VS X (.Assign [.Name x px] e pos) δ (.nx (δ.set i (.val d))):=λB0 B σ H0 H D f ok pins s I=>
 wN (i:=i) hN hi hx d_ hs hf pins s σ H D I (h B0 B σ H0 H _ f λv H1 eQ g r=>ok _ H1 eQ g.iq ((f.grow g).set r))
theorem jj(i:Nat)(h:VO X e δ ds)(hN:X.N.Nodup)(hi:X.N[i]?=some x:=by rfl)(hx:Loc X.env.scope x:=by first|exact bq rfl|exact di rfl)(hs:swapsWith e (some (.Name x px)) pos.line X.env=pure false:=by rfl)(hf:X.fn x=true\/X.env.scope.names.lookup x=some .local:=by first|exact .inl rfl|exact .inr rfl):
  VS X (.Assign [.Name x px] e pos) δ (.nx (δ.set i (.own ds))):=λB0 B σ H0 H D f ok pins s I=>
 wN (i:=i) hN hi hx d_ hs hf pins s σ H D I (h B0 B σ H0 H _ f λp xs H1 eQ g h1 h2 h3 r=>ok _ H1 eQ g.iq ((f.grow g).CT h3 h2 (f.ent.big.free h1) r λj es e2 e3=>by
  obtain⟨p',xs',g1,g2,_⟩:=f.slot j _ e2;rw[e3]at g1;cases g1;rw[h1]at g2;cases g2))
theorem eu(h:VT X c δ true)(h1:vB X body δ o):VS X (.If c body orelse pos) δ o:=λB0 B σ H0 H D f ok pins s I=>
 Bc qN nW mK pins s σ H D I (h B0 B σ H0 H _ f λH1 eQ g=>Vo (h1 B0 B σ H1 eQ D (f.grow g) (ok.mono g.iq)))
theorem cy(h:VT X c δ false)(h1:vB X orelse δ o):VS X (.If c body orelse pos) δ o:=λB0 B σ H0 H D f ok pins s I=>
 Bc qN mK nW pins s σ H D I (h B0 B σ H0 H _ f λH1 eQ g=>KY (h1 B0 B σ H1 eQ D (f.grow g) (ok.mono g.iq)))
theorem VW{k:Bool}(h:VT X c δ k)(h1:k=true->vB X body δ o)(h2:k=false->vB X orelse δ o):VS X (.If c body orelse pos) δ o:=by
 cases k with
 |true=>exact eu h (h1 rfl)
 |false=>exact cy h (h2 rfl)
theorem cD(h:VE X e δ d):VS X (.Return (some e) pos) δ (.rt d):=λB0 B σ H0 H D f ok pins s I=>y0 d_ pins s σ H D I (h B0 B σ H0 H _ f λv H1 eQ g r=>ok v H1 eQ (f.ent.trans g) r)
theorem yz(h:VO X e δ ds):VS X (.Return (some e) pos) δ (.ro ds):=λB0 B σ H0 H D f ok pins s I=>y0 d_ pins s σ H D I (h B0 B σ H0 H _ f λp xs H1 eQ g a1 a2 a3 a4=>ok p xs H1 eQ (f.ent.trans g) (f.ent.big.free a1) a2 a3 a4)
theorem Ia(i:Nat)(h:δ[i]?=some (.own ds))(hN:X.N[i]?=some x:=by rfl)(hv:FG X.env.scope x:=by first|exact bq rfl|exact di (bq rfl)|exact di (di rfl))(hd:(x==("__debug__":Str))=false:=by decide)(rQ:(x==("__classdict__":Str))=false:=by decide):
  VS X (.Return (some (.Name x px)) pos) δ (.ro ds):=λB0 B σ H0 H D f ok pins s I=>y0 (iH hN hv hd rQ) pins s σ H D I (by
 obtain⟨p,xs,h1,h2,h3,h4,h5⟩:=f.slot i _ h;exact⟨_,h1,ok p xs H0 H f.ent h4 h3 h2 h5⟩)
theorem eU(i:Nat){ap:Pos}{p0:Pos}(hi:δ[i]?=some (.own ds))(h:VE X e δ d)(hz:ds.length<sizeLine)(hN:X.N[i]?=some x:=by rfl)(hv:FG X.env.scope x:=by first|exact bq rfl|exact di (bq rfl)|exact di (di rfl))(hd:(x==("__debug__":Str))=false:=by decide)(rQ:(x==("__classdict__":Str))=false:=by decide)
  (hs:starEach [e] X.env=(false,eval e X.env)::starEach [] X.env:=by rfl)(oI:attributeBase (.Name x p0) "append" X.env (eval (.Name x p0) X.env)=eval (.Name x p0) X.env:=by rfl)
  (u0:((backTo px (starEach [e] X.env)).all (λx=>!x.1)&&(backToKw px (keywordEach [] X.env)).all (λx=>x.1.isSome)&&decide (([e]:List cx).length+([]:List jz).length+(if([]:List jz).isEmpty then 0 else 1)<30))=true:=by rfl)
  (hline:(ap.endLine==px.line)=true:=by rfl)(lb:(backTo px (starEach [] X.env)).any (·.1)=false:=by rfl)(D_:swapsWith (.Call (.Attribute (.Name x p0) "append" ap) [e] [] px) none pos.line X.env=pure false:=by rfl):
  VS X (.Expr (.Call (.Attribute (.Name x p0) "append" ap) [e] [] px) pos) δ (.nx (δ.set i (.own (ds ++ [d])))):=λB0 B σ H0 H D f ok pins s I=>by
 refine qJ (zh ju pQ pR tZ (iH hN hv hd rQ) (dG d_ gI hs) oI u0 hline hs lb) D_ pins s σ H D I ?_
 obtain⟨p,xs,h1,h2,h3,h4,h5⟩:=f.slot i _ hi;refine⟨_,h1,.inl ⟨rfl,_,mJ.of h2⟩,?_⟩
 refine h B0 B σ H0 H _ f λv H1 eQ g r=>?_
 refine⟨p,xs,v,rfl,rfl,g.big _ _ h2,by rw[h5.length];exact hz,ok σ H1 _ g.iq ((f.grow g).push hi h1 (g.big _ _ h2) r)⟩
theorem eY(i:Nat)(hi:δ[i]?=some (.own ds))(h:vB X rest (δ.set i (.val (.list ds))) o):vB X rest δ o:=λB0 B σ H0 H D f ok=>by
 obtain⟨p,xs,h1,h2,h3,h4,h5⟩:=f.slot i _ hi;obtain⟨f',sm⟩:=f.freeze hi h1 h2;exact h B0 B σ _ H D f' (ok.mono sm)
def Nu:List Slot->List Slot->Prop
 | [],[]=>True
 |a::l,b::m=>(b=.un\/a=b)/\Nu l m
 |_,_=>False
theorem Nu.len:∀{l m:List Slot},Nu l m->m.length=l.length
 | [],[],_=>rfl
 |_::_,_::_,h=>by simp[Nu.len h.2]
 | [],_::_,h=>h.elim
 |_::_,[],h=>h.elim
theorem Nu.at:∀{l m:List Slot},Nu l m->∀(i:Nat)sl,m[i]?=some sl->sl=.un\/l[i]?=some sl
 | [],[],_,_,_,e=>by simp at e
 |a::l,b::m,h,0,sl,e=>by
  simp at e;subst e;rcases h.1 with z|z
  ·exact .inl z
  ·exact .inr (by simp[z])
 |a::l,b::m,h,i+1,sl,e=>by simpa using Nu.at h.2 i sl (by simpa using e)
 | [],_::_,h,_,_,_=>h.elim
 |_::_,[],h,_,_,_=>h.elim
theorem iP{δ2:List Slot}(h:vB X rest δ (.nx δ'))(hf:Nu δ' δ2):vB X rest δ (.nx δ2):=λB0 B σ H0 H D f ok=>h B0 B σ H0 H D f λσ' Ha Hb sm f'=>ok σ' Ha Hb sm (f'.forget hf.len hf.at)
theorem lO{tg iter:cx}(hp:B_ (model X.prog X.w) X.A X.env X.xe)(hc:X.calm=true)(hi:VI X tg iter δ ds)(hg:PG X tg (Nr X.K tgt))(δs:Nat->List Slot)(m:Nat)(h0:δs 0=δ)(hm:m<=ds.length)
  (step:∀k d,k<m->ds[k]?=some d->∃δ',zp tgt d (δs k)=some δ'/\vB X body δ' (.nx (δs (k+1))))
  (fin:(m=ds.length/\o=.nx (δs m))\/∃d δ',ds[m]?=some d/\zp tgt d (δs m)=some δ'/\Lg o=true/\vB X body δ' o)
  (hs:∀x,foldedSetIterable iter X.env x=pure x:=by intro _;rfl):VS X (.For tg iter body [] pos) δ o:=λB0 B σ H0 H D f ok pins s I=>by
 obtain⟨wi,pi,qi⟩:=hi;refine Cw hp hc pi hg nW hs pins s σ H D I ?_
 refine qi B0 B σ H0 H _ f λJ H1 eQ g it=>?_
 refine⟨λi mm σ' H'=>i<=m/\mm=m+1-i/\∃Ha,eC H1 Ha/\iI X.K B0 B Ha H' σ' (δs i),⟨m+1,bj _,rfl,H1,eC.refl _,by rw[h0];exact f.grow g⟩,?_⟩
 rintro i mm σ' H' ⟨hi,rfl,Ha,sm,fa⟩
 obtain⟨i1,i2,i3⟩:=it Ha H' sm fa.sub i;by_cases t_:i<m
 ·refine .inr ⟨i1 (by omega),λσ'' Av=>∃Hb,eC H1 Hb/\iI X.K B0 B Hb Av σ'' (δs (i+1)),λσ'' Av ⟨Hb,z1,z2⟩=>⟨m+1-(i+1),by omega,t_,rfl,Hb,z1,z2⟩,λv H2 y=>?_⟩
  have hd:ds[i]?=some (ds[i]'(by omega)):=by simp
  obtain⟨Hb,g2,rx⟩:=i3 v H2 _ hd y;obtain⟨δ',e1,e2⟩:=step i _ t_ hd;refine qQ (fa.grow g2) rx e1 λσ3 f3=>?_
  exact e2 B0 B σ3 Hb H2 _ f3 λσ4 Hc H4 s4 f4=>⟨Hc,(sm.trans g2.iq).trans s4,f4⟩
 ·have e:i=m:=by omega
  subst e;rcases fin with⟨e1,e2⟩|⟨d,δ',hd,e1,hr,e2⟩
  ·subst e2
   exact .inl ⟨i2 (by omega),ok σ' Ha H' (g.iq.trans sm) fa⟩
  ·have ZO:i<ds.length:=(aP.mp hd).1
   refine .inr ⟨i1 ZO,λ_ _=>False,λ_ _ z=>z.elim,λv H2 y=>?_⟩
   obtain⟨Hb,g2,rx⟩:=i3 v H2 _ hd y;refine qQ (fa.grow g2) rx e1 λσ3 f3=>?_
   exact e2 B0 B σ3 Hb H2 _ f3 (sS.ret (D:=D) (by rfl) hr ok)
end
def iE(K:au)(R:List ao->ao->Prop):Sp:=λvs H Q _=>∃H0 ds d,eC H0 H/\dz K H0 vs ds/\R ds d/\∀v e9 H',eL H0 H e9 H'->Rep K e9 v d->Q v H'
def Ib(K:au)(R:List ao->List ao->Prop):Sp:=λvs H Q _=>∃H0 ds es,eC H0 H/\dz K H0 vs ds/\R ds es/\
 ∀p xs e9 H',eL H0 H e9 H'->H p=none->e9 p=none->H' p=some (.lst xs)->dz K e9 xs es->Q (.ref p) H'
def bO(P:bL)(w:cH)(K:au)(mg:Str->Option aG)(base:dw)(k:Nat)(x:Str)(ps:List Str)(sp:Sp):Prop:=
 ∃f fd,fA P w K mg base kR k f fd ps sp/\mg x=some (.ref f)/\ft K (.ref f)=true/\Binds K fd ps []
section
variable{X:Cx}{x:Str}{e:cx}{es:List cx}{δ:List Slot}{ds zs:List ao}{d:ao}{p pos:Pos}{k:Nat}{ps:List Str}
theorem bU{R:List ao->ao->Prop}(C:bO X.prog X.w X.K X.mg X.base k x ps (iE X.K R))(hr:gj k X.A)(ha:VA X (e::es) δ ds)(hp:R ds d)(hg:Gl X x:=by rfl)(rS:(x==("__debug__":Str))=false:=by decide)
  (he:starEach (e::es) X.env=(false,eval e X.env)::starEach es X.env:=by rfl)(pT:(backTo pos (starEach es X.env)).any (·.1)=false:=by rfl):VE X (.Call (.Name x p) (e::es) [] pos) δ d:=by
 obtain⟨f,fd,F,hm,hk,hb⟩:=C;obtain⟨t,pa,qa⟩:=ha;exact .of (CB F hr hg hm hk hb .nil D6 pa rS he pT) λB0 B σ H0 H Q fr q=>qa B0 B σ H0 H _ fr λvs H1 eQ g1 rs=>by
  rw[cF];exact⟨H1,ds,d,g1.sub,rs,hp,λv H2 jH g2 r=>q v H2 jH (g1.trans g2) r⟩
theorem pG(C:bO X.prog X.w X.K X.mg X.base k x ps (Ib X.K R))(hr:gj k X.A)(ha:VA X (e::es) δ ds)(hp:R ds zs)(hg:Gl X x:=by rfl)(rS:(x==("__debug__":Str))=false:=by decide)
  (he:starEach (e::es) X.env=(false,eval e X.env)::starEach es X.env:=by rfl)(pT:(backTo pos (starEach es X.env)).any (·.1)=false:=by rfl):VO X (.Call (.Name x p) (e::es) [] pos) δ zs:=by
 obtain⟨f,fd,F,hm,hk,hb⟩:=C;obtain⟨t,pa,qa⟩:=ha;exact .of (CB F hr hg hm hk hb .nil D6 pa rS he pT) λB0 B σ H0 H Q fr q=>qa B0 B σ H0 H _ fr λvs H1 eQ g1 rs=>by
  rw[cF];exact⟨H1,ds,zs,g1.sub,rs,hp,λv xs H2 jH g2 a1 a2 a3 a4=>q v xs H2 jH (g1.trans g2) (g1.big.free a1) a2 a3 a4⟩
end
def u9(N:List Str)(ds:List ao):List Slot:=ds.map .val++aT (N.length-ds.length) .un
theorem iI.start{N:List Str}{ds:List ao}(s:eC H0 H)(r:dz K H0 vs ds):iI K H0 H H0 H (start N vs) (u9 N ds):=by
 have hl:=r.length;refine⟨.refl s,by simp[L2.start,u9,hl],λi sl e=>?_,λi j a b p _ e=>?_⟩
 ·unfold u9 at e
  unfold L2.start;by_cases hi:i<ds.length
  ·rw[cO (by simpa using hi),aW]at e
   have hd:ds[i]?=some ds[i]:=by simp[hi]
   rw[hd]at e;cases e;obtain⟨v,h1,h2⟩:=r.get hd;exact⟨v,by rw[cO (by simp;omega),aW,h1];rfl,h2⟩
  ·rw[cJ (by simpa using hG hi),eK]at e
   split at e<;>cases e
   trivial
 ·unfold u9 at e
  by_cases hi:i<ds.length
  ·rw[cO (by simpa using hi),aW]at e
   have hd:ds[i]?=some ds[i]:=by simp[hi]
   rw[hd]at e;cases e
  ·rw[cJ (by simpa using hG hi),eK]at e
   split at e<;>cases e
section
variable{P:bL}{w:cH}{K:au}{mg:Str->Option aG}{base:dw}{x qual:Str}{st:jq}{f:aR}{fd:gf}{N ps:List Str}{k:Nat}
abbrev Br(P:bL)(w:cH)(K:au)(mg:Str->Option aG)(base:dw)(N:List Str)(qual:Str)(st:jq)(f:aR)(k:Nat)(ds:List ao)(o:Out):Prop:=
 ∀iD A outer s H E,gj k (A.deeper (envOfC qual (bV st) s.heap.objs.size f iD))->vB (uZ kR P w K mg base N qual (bV st) f iD A outer s H E).Km (k8 st) (u9 N ds) o
theorem ko{R:List ao->ao->Prop}(F:mw K x qual st f fd)(S:c7 N ps (bV st))(hl:∀ds d,R ds d->ds.length=ps.length)(hb:∀ds d,R ds d->Br P w K mg base N qual st f k ds (.rt d)):fA P w K mg base kR (k+1) f fd ps (iE K R):=by
 refine F.ok S (λvs H Q E h=>?_) (λiD A outer s H vs Q E hr h=>?_)
 ·obtain⟨H0,ds,d,_,r,hp,_⟩:=h
  rw[r.length,hl ds d hp]
 ·obtain⟨H0,ds,d,sm,r,hp,q⟩:=h
  exact⟨_,nW,hb ds d hp iD A outer s H E hr H0 H _ H0 H _ (.start sm r) q⟩
theorem Lh(F:mw K x qual st f fd)(S:c7 N ps (bV st))(hl:∀ds d,R ds d->ds.length=ps.length)(hb:∀ds d,R ds d->Br P w K mg base N qual st f k ds (.ro d)):fA P w K mg base kR (k+1) f fd ps (Ib K R):=by
 refine F.ok S (λvs H Q E h=>?_) (λiD A outer s H vs Q E hr h=>?_)
 ·obtain⟨H0,ds,d,_,r,hp,_⟩:=h
  rw[r.length,hl ds d hp]
 ·obtain⟨H0,ds,d,sm,r,hp,q⟩:=h
  exact⟨_,nW,hb ds d hp iD A outer s H E hr H0 H _ H0 H _ (.start sm r) q⟩
end
end L2
namespace L2.Srt
open PySem PySem.W PyProof.Rows
section
variable{N:Nat}{lt:Nat->Nat->Bool}
end
end L2.Srt
namespace L2
open PySem PySem.Spec PyProof.Rows PySem.W
section
variable{P:bL}{w:cH}{A:ef}{E:aG->aU->Prop}{s:aU}
end
theorem dz.ints{K:au}{H:Hp}:∀{ns:List Int}{xs:List V},dz K H xs (ns.map .int)->xs=ns.map V.int
 | [],_,r=>by cases r;rfl
 |n::ns,_,r=>by cases r with|cons a t=>cases a;rw[aN,dz.ints t]
theorem eO.getD:∀{xs:List V}{us:List aG}(i:Nat),eO xs us->RelV (xs.getD i .non) (us.getD i fe)
 |_,_,_,.nil=>by simp;rfl
 |_,_,0,.cons r _=>by simpa using r
 |_,_,i+1,.cons _ t=>by simpa using eO.getD i t
end L2
namespace L2
open PySem PySem.Spec PyProof.Rows
variable{l:aR}{X:Cx}{c:cx}{h:dw}{H:Hp}{rest:List cx}{ns:List Int}{ds:List ao}{δ:List Slot}{n:Nat}{P:bL}{K:au}{w:cH}
section
variable{X:Cx}{a b c e:cx}{es:List cx}{δ:List Slot}{d d1 d2 d3:ao}{ds:List ao}{pos:Pos}{k:Nat}
def Qs:ao->Bool
 | .none=>true
 | .bool _=>true
 | .int _=>true
 | .str _=>true
 |_=>false
theorem Rep.ZP{H': Hp}{v:V}(r:Rep K H v d)(h:Qs d=true):Rep K H' v d:=by
 cases r with
 |non=>exact .non
 |bl b=>exact .bl b
 |int i=>exact .int i
 |str x=>exact .str x
 |_=>cases h
theorem ZQ{A:ef}{E:aG->aU->Prop}{s:aU}{vs:List aG}{Q:aG->aU->Prop}(hh:A.handled=none)(hl:s.heap.IsList l vs.toArray)(hi:AA vs ns)(oW:ns≠[])
  (h:∀h' M (t:Tok) tk,(∀b o,s.heap.get? b=some o->h'.get? b=some o)->M∈ns->(∀z,z∈ns->z<=M)->Q (.int M t) { s with heap:=h',toks:=tk }):wpAny (model P w) A (call (.builtin "max") [.ref l]) Q E s:=by
 obtain⟨xs,ex⟩:=hi.allInts.items;have F5:ns=xs.toList.map (·.1):=by rw[<-hi.numsOf,<-nums_intItems,<-ex]
 have hz:0<xs.size:=by
  rcases wI xs.size with z|z
  ·exfalso
   apply oW;rw[F5,Array.eq_empty_of_size_eq_zero z];rfl
  ·exact z
 rw[ex]at hl;refine max_intList hh hl hz λv h' tk hv hk=>?_
 obtain⟨t,rfl⟩:=intItems_at hv;obtain⟨g1,g2⟩:=argBest_gt (numAt xs) (xs.size-1);refine h h' _ t tk hk ?_ λz hzm=>?_
 ·rw[F5,numAt_eq]
  exact getD_mem (by rw[aj,df];omega)
 ·rw[F5]at hzm
  obtain⟨j,hj,rfl⟩:=mem_getD hzm;rw[aj,df]at hj;rw[<-numAt_eq];exact g2 j (by omega)
theorem Jy(hc:X.calm=true):kJ X (.builtin "max") (λxs H Q=>∃p ns,xs=[.ref p]/\mJ X.K H p (ns.map V.int)/\ns≠[]/\∀M,M∈ns->(∀z,z∈ns->z<=M)->Q (.int M) H):=by
 intro pins s σ H xs us Q I r h;obtain⟨p,ns,rfl,hq,oW,q⟩:=h;obtain⟨u,rfl,rx⟩:=vals1 r;cases rx;obtain⟨its,rv,pl,hz⟩:=I.list hq;exact ZQ (I.ok.hd hc) pl.isList (intsAre_of rv) oW λh' M t tk hk h1 h2=>⟨.int M,H,I.kept hk,⟨_,rfl⟩,q M h1 h2⟩
theorem VX{M:Int}(h1:M∈ns)(h2:∀z,z∈ns->z<=M):qt K (λxs H Q=>∃p ns,xs=[.ref p]/\mJ K H p (ns.map V.int)/\ns≠[]/\∀M,M∈ns->(∀z,z∈ns->z<=M)->Q (.int M) H) [.list (ns.map .int)] (.int M):=λvs H0 H Q s r q=>by
 obtain⟨v,rfl,r1⟩:=r.one;cases r1 with
 |lst hq rs=>
  have e:=rs.ints;subst e;refine⟨_,ns,rfl,s.seq hq,(λz=>by rw[z]at h1;cases h1),λM' g1 g2=>q _ _ _ (.refl s) ?_⟩
  have:M'=M:=Int.le_antisymm (h2 M' g1) (g2 M h1);rw[this];exact .int _
end
section
variable{X:Cx}{sc:mn}{own N:List Str}{cap:List Nat}{cl:List (Str×aR)}{tg elt iter:cx}{ifs:List cx}{δ:List Slot}{ds:List ao}{pos px yi:Pos}{tgt:H_}{x:Str}
theorem Ie(i:Nat){F:ao->Option ao}(hc:X.calm=true)(CS:mL X sc own cap N cl)(hi:VI X tg iter δ ds)(hg:∀f s3 H3,PG (il X sc N cl f s3 H3) tg (Nr X.K tgt))(ht:Bq own.length tgt=true)(hz:ds.length<=sizeLine)
  (step:∀d∈ds,Gc X sc own cap N cl tgt elt ifs δ F d)(hN:X.N.Nodup)(Vz:X.N[i]?=some x:=by rfl)(hx:Loc X.env.scope x:=by first|exact bq rfl|exact di rfl)
  (D_:swapsWith (.ListComp elt [⟨tg,iter,ifs,0⟩] sc pos) (some (.Name x px)) yi.line X.env=pure true:=by rfl)(hs:∀x,foldedSetIterable iter X.env x=pure x:=by intro _;rfl)(hf:X.fn x=true\/X.env.scope.names.lookup x=some .local:=by first|exact .inl rfl|exact .inr rfl):
  VS X (.Assign [.Name x px] (.ListComp elt [⟨tg,iter,ifs,0⟩] sc pos) yi) δ (.nx (δ.set i (.own (ds.filterMap F)))):=λB0 B σ H0 H D f ok pins s I=>by
 obtain⟨wi,pi,qi⟩:=hi;refine zo (i:=i) (tc:=XZ X sc N cl ifs) (te:=teC X sc N cl elt) hN Vz hx hc CS pi hg (λf s3 H3 pins s σ H Q I h=>h f s3 H3 pins s I) (λf s3 H3 pins s σ H Q I h=>h f s3 H3 pins s I) D_ hs hf pins s σ H D I ?_
 refine qi B0 B σ H0 H _ f λJ H1 eQ g it=>?_
 refine xH ht hz step (f.grow g) it λp xs Ha Hb g2 a1 a2 a3 a4=>?_
 have gg:=g.trans g2;have hp:H p=none:=g.big.free a1;refine ok _ Ha Hb gg.iq ((f.grow gg).CT a3 a2 (f.ent.big.free hp) a4 λj es e2 e3=>?_)
 obtain⟨p',xs',g1,g2',_⟩:=f.slot j _ e2;rw[e3]at g1;cases g1;rw[hp]at g2';cases g2'
end
theorem VT.to{k k':Bool}(h:VT X c δ k')(e:k'=k):VT X c δ k:=e▸h
theorem VE.to{k k':ao}(h:VE X c δ k')(e:k'=k):VE X c δ k:=e▸h
theorem VO.to{k k':List ao}(h:VO X c δ k')(e:k'=k):VO X c δ k:=e▸h
theorem c0(n:Nat)(i:Int):Lay n (.int i):=⟨rfl,bj _⟩
theorem Oy(n:Nat):Lay n .none:=⟨rfl,bj _⟩
theorem bH{x:Str}(h:cX (.str x)=true):Lay n (.str x):=⟨h,bj _⟩
theorem Gd:∀{ds:List ao},(∀d∈ds,Lay n d)->pP ds=true/\ao.depthAll ds<=n
 | [],_=>⟨rfl,bj _⟩
 |d::ds,h=>by
  obtain⟨h1,h2⟩:=Gd λe he=>h e (aZ _ he)
  obtain⟨h3,h4⟩:=h d aS;refine⟨by simp[pP,h1,h3],?_⟩
  show max d.depth (ao.depthAll ds)<=n;omega
theorem yA(h:∀d∈ds,Lay n d):Lay (n+1) (.list ds):=by
 obtain⟨h1,h2⟩:=Gd h;exact⟨h1,yS h2⟩
theorem qR(h:∀d∈ds,Lay n d):Lay (n+1) (.tuple ds):=by
 obtain⟨h1,h2⟩:=Gd h;exact⟨h1,yS h2⟩
theorem filterMap_some{α β:Type}{F:α->Option β}{g:α->β}:∀{l:List α},(∀a∈l,F a=some (g a))->l.filterMap F=l.map g
 | [],_=>rfl
 |a::l,h=>by
  rw[eA (h a aS),aN,filterMap_some λb hb=>h b (aZ _ hb)]
def Qt:Slot->Bool
 | .own _=>true
 |_=>false
def noOwn(δ:List Slot):Bool:=δ.all λs=>!Qt s
theorem nq(h:noOwn δ=true)(i:Nat)(ds:List ao):δ[i]?≠some (.own ds):=λe=>by
 have:=dU.mp h _ (bF e);cases this
section
variable{K:au}{B0 B H0 H e9 H' C0 C Ha Hb:Hp}{σ σ':St}{δ δ':List Slot}
theorem iI.u_(f:iI K B0 B H0 H σ δ){i:Nat}{v:V}{sl:Slot}(hs:K_ K B H0 H sl (some (some v)))(hn:Qt sl=false):iI K B0 B H0 H (σ.set i (some v)) (δ.set i sl):=by
 refine⟨f.ent,by simp[f.len],λj Rt e=>?_,λj k ds es p Fs e1 e2 e3=>?_⟩
 ·by_cases hj:j=i
  ·subst hj
   have hl:j < δ.length:=by simpa using(aP.mp e).1
   rw[bo hl]at e;cases e;rw[bo (by rw[f.len];exact hl)]
   exact hs
  ·rw[bh (bY hj)]at e
   rw[bh (bY hj)];exact f.slot j Rt e
 ·have nj:j≠i:=λz=>by
   subst z;have hl:j < δ.length:=by simpa using(aP.mp e1).1
   rw[bo hl]at e1;cases e1;cases hn
  have nk:k≠i:=λz=>by
   subst z;have hl:k < δ.length:=by simpa using(aP.mp e2).1
   rw[bo hl]at e2;cases e2;cases hn
  rw[bh (bY nj)]at e1 e3;rw[bh (bY nk)]at e2 ⊢;exact f.apart j k ds es p Fs e1 e2 e3
theorem iI.re(f:iI K B0 B H0 H σ δ)(hn:noOwn δ=true)(g:eL C0 C H0 H):iI K C0 C H0 H σ δ:=by
 refine⟨g,f.len,λi sl e=>?_,f.apart⟩
 have q:=f.slot i sl e;cases sl with
 |own ds=>exact qQ7 e (nq hn i ds)
 |_=>exact q
theorem eL.still(g:eL H0 H Ha Hb){p:aR}{o:HO}(h0:H0 p=none)(h:H p=some o):Ha p=none:=by
 cases e:Ha p with
 |none=>rfl
 |some u=>
  rcases g.new p (by rw[e];simp)with z|z
  ·exact qQ7 h0 z
  ·rw[h]at z;cases z
theorem eL.far(s:eC H0 H)(b:eC H Hb):eL H0 H H0 Hb:=⟨b,eC.refl _,s.trans b,λ_ z=>.inl z⟩
end
section
variable{X:Cx}{st:jq}{rest body orelse:List jq}{δ δ':List Slot}{o:Out}{a b c e arg:cx}{d d1 d2 da:ao}{ds zs:List ao}{pos px py:Pos}{x y:Str}
theorem pU(n:Nat):(lg n).length=n:=by simp[lg]
theorem zu(tgt:H_){tg:cx}(h:VE X e δ d)(hg:PG X tg (Nr X.K tgt))(ha:zp tgt d δ=some δ')(hs:swapsWithSole [tg] e pos.line X.env=pure false:=by rfl)(hw:swappedStores [tg] e X.env=pure none:=by rfl)
  (h1:(assignEach [tg] X.env).map (·.2)=[assign tg X.env]:=by rfl):VS X (.Assign [tg] e pos) δ (.nx δ'):=λB0 B σ H0 H D f ok pins s I=>
 RD d_ hg hs hw h1 pins s σ H D I (h B0 B σ H0 H _ f λv H1 eQ g r=>qQ (f.grow g) r ha λσ' f'=>ok σ' H1 eQ g.iq f')
theorem Sl(i j:Nat){pt FN:Pos}{kt k2}(h1:VE X a δ d1)(h2:VE X b δ d2)(hc:X.calm=true)(hN:X.N.Nodup)(yr:i≠j)(hi:X.N[i]?=some x:=by rfl)(hj:X.N[j]?=some y:=by rfl)(hx:X.env.scope.names.lookup x=some .local:=by rfl)(hy:X.env.scope.names.lookup y=some .local:=by rfl)
  (hw:swappedStores [.Tuple [.Name x px,.Name y py] kt pt] (.Tuple [a,b] k2 FN) X.env=pure (some [x,y]):=by rfl)(hs:swapsWithSole [.Tuple [.Name x px,.Name y py] kt pt] (.Tuple [a,b] k2 FN) pos.line X.env=pure false:=by rfl)
  (DQ:starEach [a,b] X.env=(false,eval a X.env)::starEach [b] X.env:=by rfl)(rG:starEach [b] X.env=(false,eval b X.env)::starEach [] X.env:=by rfl):
  VS X (.Assign [.Tuple [.Name x px,.Name y py] kt pt] (.Tuple [a,b] k2 FN) pos) δ (.nx ((δ.set i (.val d1)).set j (.val d2))):=λB0 B σ H0 H D f ok pins s I=>by
 obtain⟨t,pa,qa⟩:=aq h1 (aq h2 a7 rG) DQ;refine Kz hc hN hi hj yr hx hy pa hw hs pins s σ H D I (qa B0 B σ H0 H _ f λvs H1 eQ g rs=>?_)
 obtain⟨v,w,rfl,r1,r2⟩:=rs.two;exact⟨v,w,rfl,ok _ H1 eQ g.iq (((f.grow g).set r1).set r2)⟩
end
structure wC(K:au)(B0 B:Hp)(a:aR)(ps:List aR)(gs:List (List ao))(H0 H:Hp)(σ:St)(δ:List Slot):Prop where
 fr:iI K B0 B H0 H σ δ
 no:noOwn δ=true
 arr:H a=some (.lst (ps.map V.ref))
 a0:H0 a=none
 aB:B a=none
 na:a∉ps
 nd:ps.Nodup
 len:ps.length=gs.length
 cell:∀(i:Nat)p ds,ps[i]?=some p->gs[i]?=some ds->H0 p=none/\B p=none/\∃xs,H p=some (.lst xs)/\dz K H0 xs ds
section
variable{K:au}{B0 B H0 H e9 H' C0 C Ha Hb:Hp}{σ σ':St}{δ δ':List Slot}{a:aR}{ps:List aR}{gs:List (List ao)}
theorem wC.go(G:wC K B0 B a ps gs H0 H σ δ)(f':iI K H0 H Ha Hb σ' δ')(hn:noOwn δ'=true):wC K B0 B a ps gs Ha Hb σ' δ' where
 fr:=f'.re hn (G.fr.ent.trans f'.ent)
 no:=hn
 arr:=f'.ent.big _ _ G.arr
 a0:=f'.ent.still G.a0 G.arr
 aB:=G.aB
 na:=G.na
 nd:=G.nd
 len:=G.len
 cell:=λi p ds e1 e2=>by
  obtain⟨h1,h2,xs,h3,h4⟩:=G.cell i p ds e1 e2;exact⟨f'.ent.still h1 h3,h2,xs,f'.ent.big _ _ h3,h4.mono f'.ent.iq⟩
theorem wC.from(G:wC K B0 B a ps gs H0 H σ δ)(g:eL C0 B H0 H):wC K C0 B a ps gs H0 H σ δ where
 fr:=G.fr.re G.no g
 no:=G.no
 arr:=G.arr
 a0:=G.a0
 aB:=G.aB
 na:=G.na
 nd:=G.nd
 len:=G.len
 cell:=G.cell
theorem wC.own(G:wC K B0 B a ps gs H0 H σ δ):iI K H0 H H0 H σ δ:=G.fr.re G.no (.refl G.fr.sub)
theorem wC.forget(G:wC K B0 B a ps gs H0 H σ δ)(hf:Nu δ δ')(hn:noOwn δ'=true):wC K B0 B a ps gs H0 H σ δ':=G.go (G.own.forget hf.len hf.at) hn
end
section
variable{X:Cx}{B0 B H0 H e9 H' Ha Hb:Hp}{σ σ':St}{D:Ends}{st:jq}{rest body orelse:List jq}{δ δ':List Slot}{a:aR}{ps:List aR}{gs:List (List ao)}{e c tg iter:cx}{d:ao}{ds:List ao}{pos px yi:Pos}{x y:Str}
def Ends.tail(D:Ends)(u:St->Hp->Prop):Ends:={ D with nx:=u }
theorem eP(h:cS X st (D.tail λσ H=>HY X rest D σ H) σ H):HY X (st::rest) D σ H:=λpins s I=>lN La nW pins s σ H D I h
theorem dE(h:cS X st D σ H):HY X [st] D σ H:=λpins s I=>yq La pins s σ H D I h
theorem Li(G:wC X.K B0 B a ps gs H0 H σ δ)(h:VS X st δ (.nx δ'))(hn:noOwn δ'=true)(q:∀σ' e9 H',wC X.K B0 B a ps gs e9 H' σ' δ'->D.nx σ' H'):cS X st D σ H:=
 h H0 H σ H0 H D G.own λσ' Ha Hb sm f'=>q σ' Ha Hb (G.go f' hn)
theorem VY{tgt:H_}(G:wC X.K B0 B a ps gs H0 H σ δ)(hp:B_ (model X.prog X.w) X.A X.env X.xe)(hc:X.calm=true)(hi:VI X tg iter δ ds)(hg:PG X tg (Nr X.K tgt))(Ug:Nat->List (List ao))(h0:Ug 0=gs)
  (step:∀k d,ds[k]?=some d->∃δ',zp tgt d δ=some δ'/\noOwn δ'=true/\∀(D:Ends)C0 σ' e9 H',wC X.K C0 B a ps (Ug k) e9 H' σ' δ'->(∀σ2 Ha Hb,wC X.K C0 B a ps (Ug (k+1)) Ha Hb σ2 δ->D.nx σ2 Hb)->HY X body D σ' H')
  (q:∀σ2 Ha Hb,wC X.K B0 B a ps (Ug ds.length) Ha Hb σ2 δ->D.nx σ2 Hb)
  (hs:∀x,foldedSetIterable iter X.env x=pure x:=by intro _;rfl):cS X (.For tg iter body [] pos) D σ H:=λpins s I=>by
 obtain⟨wi,pi,qi⟩:=hi;refine Cw hp hc pi hg nW hs pins s σ H D I ?_
 refine qi H0 H σ H0 H _ G.own λJ H1 eQ g it=>?_
 have G1:=G.go (G.own.grow g) G.no;refine⟨λi mm σ' H'=>i<=ds.length/\mm=ds.length-i/\∃Ha,wC X.K H1 B a ps (Ug i) Ha H' σ' δ,⟨ds.length,bj _,rfl,H1,by rw[h0];exact G1.from ⟨G1.fr.ent.big,eC.refl _,G1.fr.sub,λ_ z=>.inl z⟩⟩,?_⟩
 rintro i mm σ' H' ⟨hi,rfl,Ha,Ga⟩
 obtain⟨i1,i2,i3⟩:=it Ha H' Ga.fr.ent.iq Ga.fr.sub i;by_cases t_:i<ds.length
 ·have hd:ds[i]?=some ds[i]:=by simp[t_]
  obtain⟨δ',e1,e2,e3⟩:=step i _ hd;refine .inr ⟨i1 t_,λσ'' Av=>∃Hb,wC X.K H1 B a ps (Ug (i+1)) Hb Av σ'' δ,λσ'' Av ⟨Hb,z⟩=>⟨ds.length-(i+1),by omega,t_,rfl,Hb,z⟩,λv H2 y=>?_⟩
  obtain⟨Hb,g2,rx⟩:=i3 v H2 _ hd y;refine qQ (Ga.own.grow g2) rx e1 λσ3 f3=>?_
  exact e3 _ H1 σ3 Hb H2 (Ga.go f3 e2) λσ2 Hc Hd z=>⟨Hc,z⟩
 ·have e:i=ds.length:=by omega
  subst e;refine .inl ⟨i2 (ay _),q σ' Ha H' (Ga.from ⟨Ga.fr.ent.big,G1.fr.ent.iq.trans Ga.fr.ent.iq,Ga.fr.sub,λb z=>?_⟩)⟩
  rcases Ga.fr.ent.new b z with z|z
  ·exact G1.fr.ent.new b z
  ·exact .inr z
end
section
variable{X:Cx}{sc:mn}{own N:List Str}{cap:List Nat}{cl:List (Str×aR)}{tg iter:cx}{δ:List Slot}{ds:List ao}{pos px yi lp:Pos}{tgt:H_}{x:Str}{B0 B H0 H:Hp}{σ:St}{D:Ends}
theorem Oz(i:Nat)(f:iI X.K B0 B H0 H σ δ)(Kn:noOwn δ=true)(hc:X.calm=true)(CS:mL X sc own cap N cl)(hi:VI X tg iter δ ds)(hg:∀f s3 H3,PG (il X sc N cl f s3 H3) tg (Nr X.K tgt))(ht:Bq own.length tgt=true)(hz:ds.length<=sizeLine)
  (step:∀d∈ds,∃δ',zp tgt d (ni own cap δ)=some δ')(hN:X.N.Nodup)(q:∀σ' a ps e9 H',wC X.K B0 B a ps (aT ds.length []) e9 H' σ' (δ.set i (.ref a))->D.nx σ' H')(hn:∀a,noOwn (δ.set i (.ref a))=true)(Vz:X.N[i]?=some x:=by rfl)(hx:Loc X.env.scope x:=by first|exact bq rfl|exact di rfl)
  (D_:swapsWith (.ListComp (.List [] lp) [⟨tg,iter,[],0⟩] sc pos) (some (.Name x px)) yi.line X.env=pure true:=by rfl)(hs:∀x,foldedSetIterable iter X.env x=pure x:=by intro _;rfl)(hf:X.fn x=true\/X.env.scope.names.lookup x=some .local:=by first|exact .inl rfl|exact .inr rfl):
  cS X (.Assign [.Name x px] (.ListComp (.List [] lp) [⟨tg,iter,[],0⟩] sc pos) yi) D σ H:=λpins s I=>by
 obtain⟨wi,pi,qi⟩:=hi;refine zo (i:=i) (tc:=XZ X sc N cl []) (te:=teC X sc N cl (.List [] lp)) hN Vz hx hc CS pi hg (λf s3 H3 pins s σ H Q I h=>h f s3 H3 pins s I) (λf s3 H3 pins s σ H Q I h=>h f s3 H3 pins s I) D_ hs hf pins s σ H D I ?_
 refine qi B0 B σ H0 H _ f λJ H1 eQ g it=>?_
 have f1:=f.grow g;intro L hL;have ZR:B L=none:=f1.ent.big.free hL;refine⟨λi m ys σ' H'=>i<=ds.length/\m=ds.length-i/\∃Ha ps,eL H1 eQ Ha H'/\iI X.K B0 B Ha H' σ' (ni own cap δ)/\Ha L=none/\ys=ps.map V.ref/\H' L=some (.lst ys)/\L∉ps/\ps.Nodup/\ps.length=i/\∀p∈ps,B p=none/\Ha p=none/\H' p=some (.lst []),
  ⟨ds.length,bj _,rfl,H1,[],.loose f1.sub hL,(f1.comp own cap).touch (f1.sub.free hL) ZR pF,f1.sub.free hL,rfl,bQ,by simp,by simp,rfl,λp hp=>by cases hp⟩,?_⟩
 rintro n m ys σ' H' ⟨hn1,rfl,Ha,ps,g1,fa,hLa,rfl,X1,ZS,X2,pT,Qu⟩
 obtain⟨i1,i2,i3⟩:=it Ha H' g1.iq g1.sub n;by_cases t_:n<ds.length
 ·refine .inr ⟨i1 t_,λv H2 y=>?_⟩
  have hd:ds[n]?=some ds[n]:=by simp[t_]
  obtain⟨Hb,g2,rx⟩:=i3 v H2 ds[n] hd y;obtain⟨δ',e1⟩:=step ds[n] (dv t_);obtain⟨k1,k2⟩:=comp_back ht e1;refine qQ (fa.grow g2) rx e1 λσ3 f3=>?_
  intro fp s3 H3;refine fQ B0 B σ3 Hb H2 _ f3 λHc H4 g4=>?_
  rw[qQ3 rfl];intro ZM s3' yw;have vo:VO (il X sc N cl ZM s3' yw) (.List [] lp) δ' []:=fh (ds:=[]) a7;refine vo B0 B σ3 Hc H4 _ (f3.grow g4) λp xs Hd H5 g5 a1 a2 a3 a4=>?_
  cases a4;have Nt:=(g2.trans g4).trans g5;have ZT:Hd L=none:=Nt.still hLa X1;have nLp:L≠p:=λz=>by
   have:=(g2.trans g4).big _ _ X1;rw[z,a1]at this;cases this
  have pB:B p=none:=(f3.grow g4).ent.big.free a1;refine⟨Nt.big _ _ X1,by rw[aj,pT];omega,ds.length-(n+1),by omega,t_,rfl,Hd,ps ++ [p],?_,((f3.grow g4).grow g5 |>.forget k1.symm k2).touch ZT ZR pF,ZT,by simp,bQ,by simp[ZS,nLp],?_,by simp[pT],λp' hp'=>?_⟩
  ·have gg:=g1.trans Nt
   exact⟨λb u e=>by rw[aY (bC e hL)];exact gg.big b u e,gg.iq,λb u e=>by rw[aY (bC e ZT)];exact gg.sub b u e,gg.new⟩
  ·rw[dY]
   refine⟨X2,by simp,λb hb c hc=>?_⟩
   simp only[aK]at hc;subst hc;intro z;subst z;have:=(g2.trans g4).big _ _ (Qu b hb).2.2;rw[a1]at this;cases this
  ·rcases bp.mp hp' with h|h
   ·obtain⟨h1,h2,h3⟩:=Qu p' h
    have np:p'≠L:=λz=>ZS (by rw[<-z];exact h)
    exact⟨h1,Nt.still h2 h3,by rw[aY np];exact Nt.big _ _ h3⟩
   ·simp only[aK]at h
    subst h;exact⟨pB,a2,by rw[aY (bY nLp)];exact a3⟩
 ·have e:n=ds.length:=by omega
  subst e;refine .inl ⟨i2 (ay _),q _ L ps Ha H' ?_⟩
  have gg:=g.trans g1;refine⟨(f.grow gg).u_ (v:=.ref L) (sl:=.ref L) rfl rfl,hn L,X1,hLa,ZR,ZS,X2,by simp[pT],λj p es e1 e2=>?_⟩
  obtain⟨h1,h2,h3⟩:=Qu p (bF e1);rw[eK]at e2
  split at e2<;>cases e2
  exact⟨h2,h1,[],h3,.nil⟩
end
section
variable{X:Cx}{B0 B H0 H:Hp}{σ:St}{D:Ends}{δ:List Slot}{a:aR}{ps:List aR}{gs:List (List ao)}{pos px:Pos}{x:Str}
end
theorem zv{α:Type}(l:List α)(n:Nat):cutD l none (some (n:Int))=l.take n:=by
 unfold cutD;rw[HT.D2,HT.pw,my,Nat.sub_zero];by_cases h:n<=l.length
 ·rw[oB h]
 ·rw[Nat.min_eq_right (by omega),dO (ay _),dO (by omega)]
theorem Ig:Lay 20 (.list []):=yA (n:=19) λd hd=>by cases hd
structure Nm(mg:Str->Option aG):Prop where
 len:mg "len"=none
 Nv:mg "enumerate"=none
 srt:mg "sorted"=none
 max:mg "max"=none
 min:mg "min"=none
 rng:mg "range"=none
 sum:mg "sum"=none
 ZU:mg "isinstance"=none
 tup:mg "tuple"=none
 lst:mg "list"=none
 int:mg "int"=none
 bool:mg "bool"=none
section
variable{P:bL}{w:cH}{A:ef}{R:uU->aU->Prop}{it S:aR}{fp wr:List aR}{n:Nat}{V:Nat->aG->Prop}{St:Nat->dw->Prop}{Kp:dw->Prop}{bt:Nat->Nat->Bool}
end
section
variable{P:bL}{w:cH}{A:ef}{E:aG->aU->Prop}{s:aU}
end
section
variable{X:Cx}
end
def Jz(l:aR)(n:Nat):dw->Prop:=λh=>∃o es ep t,h.get? l=some o/\o.ExactSet/\o.data=.set es ep t/\t.fits es.size=true/\es.size=n
theorem Jz.ok(x:Jz l n h):iB P w H h l (.ext (Jz l n)):=by
 refine⟨x,?_,λh1 h2 y k=>?_⟩
 ·obtain⟨o,_,_,_,e,_⟩:=x
  exact⟨o,e⟩
 ·obtain⟨o,es,ep,t,e,r⟩:=y
  exact⟨o,es,ep,t,k o e,r⟩
section
variable{X:Cx}
def dd:List Str->List Str->List Str
 |acc,[]=>acc
 |acc,x::l=>dd (if decide (x∈acc)=true then acc else acc ++ [x]) l
theorem Bs:∀(l:List Str)(acc m:List Str),dd acc (l++m)=dd (dd acc l) m
 | [],_,_=>rfl
 |x::l,acc,m=>Bs l _ m
theorem wY:∀(l acc:List Str),(dd acc l).length<=acc.length+l.length
 | [],_=>ay _
 |x::l,acc=>by
  have:=wY l (if decide (x∈acc)=true then acc else acc ++ [x])
  unfold dd
  split at this
  ·rename_i h;rw[qQ3 h];simp;omega
  ·rename_i h;rw[qQ2 h];simp at this ⊢;omega
theorem Ed:∀{l acc:List Str},(acc++l).Nodup->dd acc l=acc++l
 | [],acc,_=>by rw[cF];rfl
 |x::l,acc,h=>by
  unfold dd;have hx:x∉acc:=λz=>by
   rw[dY]at h;exact h.2.2 x z x aS rfl
  rw[qQ2 (by simpa using hx),Ed (by simpa using h)]
  simp
theorem Bt:∀{ss:List Str}{its:List aG},eO (ss.map V.str) its->∀(i:Nat)v,its[i]?=some v->∃x t,ss[i]?=some x/\v=.str x t
 | [],_,r,i,v,e=>by cases r;simp at e
 |x::ss,_,r,i,v,e=>by
  cases r with
  |cons a t=>
   cases i with
   |zero=>obtain⟨t,rfl⟩:=a;simp at e;exact⟨x,t,rfl,e.symm⟩
   |succ i=>simpa using Bt t i v (by simpa using e)
theorem SetOf.ZV{S:Str->Bool}(x:h.SetOf (strKind P w) l S n):Jz l n h:=by
 obtain⟨o,es,ep,t,ho,hex,hd,_,_,_,hf,hn⟩:=x;exact⟨o,es,ep,t,ho,hex,hd,hf,hn⟩
theorem AU:kJ X (.builtin "len") (λxs H Q=>∃p n,xs=[.ref p]/\H p=some (.ext (Jz p n))/\n<10000/\Q (.int n) H):=by
 intro pins s σ H xs us Q I r h;obtain⟨p,n,rfl,hp,hn,q⟩:=h;obtain⟨u,rfl,rx⟩:=vals1 r;cases rx;obtain⟨⟨o,es,ep,t,ho,hex,hd,hf,hz⟩,_⟩:=I.hok p _ hp;exact call_len_set ho hex hd hf (by omega) ⟨.int n,H,I.tok _,⟨_,by rw[hz]⟩,q⟩
end
section
variable{X:Cx}{a b c e:cx}{δ:List Slot}{d d1 d2 d3:ao}{ds:List ao}{pos p p2 yj:Pos}{k:Nat}
theorem dz.strs:∀{ss:List Str}{xs:List V},dz K H xs (ss.map .str)->xs=ss.map V.str
 | [],_,r=>by cases r;rfl
 |x::ss,_,r=>by cases r with|cons a t=>cases a;rw[dz.strs t];rfl
theorem zx:PE X e (λ_ _ _=>False):=λ_ _ _ _ _ _ h=>h.elim
theorem kr{op}(h:VE X a δ d):VE X (.BoolOp op [a] pos) δ d:=.of (Rz d_) λB0 B σ H0 H Q f q=>h B0 B σ H0 H Q f q
theorem oK{k1 k2:Bool}(h1:VE X a δ (.bool k1))(h2:k1=true->VE X (.BoolOp .And (b::rest) pos) δ (.bool k2)):VE X (.BoolOp .And (a::b::rest) pos) δ (.bool (k1&&k2)):=by
 cases k1 with
 |true=>
  refine .of (Kx d_ d_) λB0 B σ H0 H Q f q=>h1 B0 B σ H0 H _ f λv H1 eQ g r=>?_
  cases r;refine⟨true,rfl,?_⟩
  rw[qQ3 rfl];exact h2 rfl B0 B σ H1 eQ _ (f.grow g) λu H2 jH g2 r2=>q u H2 jH (g.trans g2) r2
 |false=>
  refine .of (Kx d_ zx) λB0 B σ H0 H Q f q=>h1 B0 B σ H0 H _ f λv H1 eQ g r=>?_
  cases r;refine⟨false,rfl,?_⟩
  rw[qQ2 cQ];exact q _ H1 eQ g (.bl false)
theorem uJ{k1 k2:Bool}(h1:VE X a δ (.bool k1))(h2:k1=false->VE X (.BoolOp .Or (b::rest) pos) δ (.bool k2)):VE X (.BoolOp .Or (a::b::rest) pos) δ (.bool (k1||k2)):=by
 cases k1 with
 |false=>
  refine .of (Qh d_ d_) λB0 B σ H0 H Q f q=>h1 B0 B σ H0 H _ f λv H1 eQ g r=>?_
  cases r;refine⟨false,rfl,?_⟩
  rw[qQ2 cQ];exact h2 rfl B0 B σ H1 eQ _ (f.grow g) λu H2 jH g2 r2=>q u H2 jH (g.trans g2) r2
 |true=>
  refine .of (Qh d_ zx) λB0 B σ H0 H Q f q=>h1 B0 B σ H0 H _ f λv H1 eQ g r=>?_
  cases r;refine⟨true,rfl,?_⟩
  rw[qQ3 rfl];exact q _ H1 eQ g (.bl true)
theorem Sn{n:Int}(h1:VO X a δ ds)(h2:VE X b δ (.int n))(hn:-1000<=n/\n<=1000)(hz:ds.length<=100):VO X (.BinOp a .Mult b pos) δ (aT n.toNat ds).flatten:=by
 refine .of (DX R5 d_ d_) λB0 B σ H0 H Q f q=>h1 B0 B σ H0 H _ f λp xs H1 eQ g1 a1 a2 a3 a4=>h2 B0 B σ H1 eQ _ (f.grow g1) λu H2 jH g2 r2=>?_
 cases r2;have gg:=g1.trans g2;have hl:=a4.length;have h63:(1000:Int)<2^63:=by decide
 refine⟨p,n,xs,rfl,rfl,g2.big _ _ a3,by omega,by omega,?_,λl VZ=>?_⟩
 ·rw[du,hl]
  have:n.toNat<=1000:=by omega
  have:=ic hz this;omega
 ·refine q l _ H2 _ (gg.trans (.loose g2.sub VZ)) (gg.big.free VZ) (g2.sub.free VZ) bQ ?_
  have rs:=a4.mono g2.iq;have go:∀m,dz X.K H2 (aT m xs).flatten (aT m ds).flatten:=by
   intro m
   induction m with
   |zero=>exact .nil
   |succ m ih=>rw[dJ,dX,dJ,dX];exact rs.append ih
  exact go _
def mE:List Bool->Bool:=λl=>l.all id
theorem sU(hc:X.calm=true):kJ X (.builtin "all") (λxs H Q=>∃p bs,xs=[.ref p]/\mJ X.K H p (bs.map V.bl)/\Q (.bl (mE bs)) H):=by
 intro pins s σ H xs us Q I r h;obtain⟨p,bs,rfl,hq,q⟩:=h;obtain⟨u,rfl,rx⟩:=vals1 r;cases rx;obtain⟨its,rv,pl,hz⟩:=I.list hq;have hl:=rv.length;simp only[aj]at hl;refine call_all_walkS (rX pl.isList ?_)
 have oW:p≠s.heap.objs.size:=bu (a9 pl.isList.choose_spec.1);have ZW:∀(i:Nat)v,its.toArray[i]?=some v->v=.bool (bs.getD i false):=λi v hv=>by
  have NZ:its[i]?=some v:=by simpa using hv
  have e:=rv.getD i;have e2:its.getD i fe=v:=by rw[aJ,NZ];rfl
  have hi:i<bs.length:=by have:=(aP.mp NZ).1;omega
  have e3:(bs.map V.bl).getD i .non=.bl (bs.getD i false):=by
   rw[aJ,aW,aJ,ax hi];rfl
  rw[e2,e3]at e;exact e
 refine⟨_,_,_,_,_,_,_,λi=>bs.getD i false,rfl,(Walks.list (by simp[I.ok.hd hc]) _ p oW its.toArray).toS,⟨⟨_,bN _ rfl,rfl,rfl⟩,pl.isList.push _⟩,?_,λs' hm=>?_⟩
 ·intro i v Q' E' s' hv q'
  rw[ZW i v hv];exact fW q'
 ·have ea:(cv its.toArray.size).all (λi=>bs.getD i false)=mE bs:=by
   rw[bD,<-hl];unfold mE;rw[gN,dU,dU]
   constructor
   ·intro h x hx
    obtain⟨i,hi⟩:=tU.mp hx;have:=h i (dB.mpr (aP.mp hi).1);rw[aJ,hi]at this;exact this
   ·intro h i hi
    have hi:=dB.mp hi;rw[aJ,ax hi];exact h _ (dv hi)
  rw[ea];obtain⟨h',g',d',V0,N1⟩:=s';have eg:g'=s.gens:=hm.gens;have ed:d'=s.drawn:=hm.drawn;have eo:N1=s.os:=hm.os;subst eg;subst ed;subst eo;refine⟨.bl _,H,I.kept (t':=V0) λb o e=>hm.heap b o ?_ (aF _ e),rfl,q⟩
  have:=a9 e;simp only[aK];exact bu this
theorem dz.ZX:∀{bs:List Bool}{xs:List V},dz K H xs (bs.map .bool)->xs=bs.map V.bl
 | [],_,r=>by cases r;rfl
 |x::ss,_,r=>by cases r with|cons a t=>cases a;rw[dz.ZX t];rfl
theorem Ee{bs:List Bool}:qt K (λxs H Q=>∃p bs,xs=[.ref p]/\mJ K H p (bs.map V.bl)/\Q (.bl (mE bs)) H) [.list (bs.map .bool)] (.bool (mE bs)):=λvs H0 H Q s r q=>by
 obtain⟨v,rfl,r1⟩:=r.one;cases r1 with
 |lst hq rs=>
  have e:=rs.ZX;subst e;exact⟨_,bs,rfl,s.seq hq,q _ _ _ (.refl s) (.bl _)⟩
theorem Qv(hr:gj k X.A)(hs:Bm d2=true)(l1:Lay 20 d1)(l2:Lay 20 d2)(h1:VE X a δ d1)(h2:VE X b δ d2)(hm:behindInMarks .In b=false:=by with_unfolding_all rfl):VE X (.Compare a [.In] [b] pos) δ (.bool (uG d1 d2)):=wX (Le (CW hr)) (Ov (neg:=false) hs l1 l2) h1 h2 hm
theorem Lj(hr:gj k X.A)(hs:Bm d2=true)(l1:Lay 20 d1)(l2:Lay 20 d2)(h1:VE X a δ d1)(h2:VE X b δ d2)(hm:behindInMarks .NotIn b=false:=by with_unfolding_all rfl):VE X (.Compare a [.NotIn] [b] pos) δ (.bool (!uG d1 d2)):=wX (Bn (CW hr)) (Ov (neg:=true) hs l1 l2) h1 h2 hm
theorem Lk(hr:gj k X.A)(l1:Lay 20 d1)(l2:Lay 20 d2)(h1:VE X a δ d1)(h2:VE X b δ d2):VE X (.Compare a [.NotEq] [b] pos) δ (.bool (!dF d1 d2)):=wX (Ld (CW hr)) (HZ l1 l2) h1 h2 (jF _)
end
end L2
namespace L2
open PySem PySem.Spec PyProof.Rows PySem.Builtin PySem.Builtin.Str
variable{i n:Int}{ap:Pos}{K:au}
section
variable{X:Cx}
def Sq:V->List V->Hp->VK->Prop:=λx vs H Q=>∃z y,x=.str z/\vs=[.str y]/\(y.length==0)=false/\z.length+2<=sizeLine/\∀l,H l=none->Q (.ref l) (upd H l (.lst ((cR z y).map V.str)))
theorem vR:∀(l:List (Str×Tok)),eO ((l.map (·.1)).map V.str) (strValues l)
 | []=>.nil
 |(x,t)::l=>.cons ⟨t,rfl⟩ (vR l)
theorem split_len{z y:Str}(hz:z.length+2<=sizeLine):(cR z y).length<=sizeLine/\(partsBetween z (occurrences z y 0 z.length (z.length+1)) y.length).length<=sizeLine:=by
 have e1:=DJ z y 0 z.length (z.length+1);have e2:(partsBetween z (occurrences z y 0 z.length (z.length+1)) y.length).length<=sizeLine:=by rw[x9];omega
 refine⟨?_,e2⟩
 unfold cR
 split
 ·show 1<=sizeLine;omega
 ·split
  ·show 1<=sizeLine;omega
  ·exact e2
theorem Ln:Vi X "str.split" Sq:=by
 intro pins s σ H x vs v us Q I rx rv h;obtain⟨z,y,rfl,rfl,hy,hz,q⟩:=h;obtain⟨t,rfl⟩:=rx;obtain⟨u,rfl,ru⟩:=rv.one;obtain⟨tu,rfl⟩:=ru;obtain⟨sl,sp⟩:=split_len (y:=y) hz;have fin:∀(l:List (Str×Tok))(k:Nat),l.map (·.1)=cR z y->EP X pins σ Q (.ref s.heap.objs.size) { s with heap:=s.heap.push { cls:=.type "list",data:=.seq (strValues l).toArray },toks:=k }:=λl k e=>by
  refine⟨.ref s.heap.objs.size,_,I.laid (λb o e=>aF _ e) (ay _) (show iB X.prog X.w _ _ _ (.lst ((cR z y).map V.str)) from⟨by rw[aj];exact sl,strValues l,0,by rw[<-e];exact vR l,bN _ rfl⟩),rfl,q _ (I.hok.fresh (ay _))⟩
 cases h1:(decide (z.length<y.length)||decide (strKind z<strKind y)) with
 |true=>exact j_ AF (uW _ _ _) yT (yb _ _) (meets_str_split_cannot_occur z y t tu h1) (fin [(z,t)] s.toks (by unfold cR;rw[qQ3 h1];rfl))
 |false=>
  cases hf:(occurrences z y 0 z.length (z.length+1)).isEmpty with
  |true=>exact j_ AF (uW _ _ _) yT (yb _ _) (meets_str_split_not_found z y t tu h1 hy hf) (fin [(z,t)] s.toks (by unfold cR;rw[qQ2 (by rw[h1];decide),qQ3 hf];rfl))
  |false=>
   refine j_ AF (uW _ _ _) yT (yb _ _) (meets_str_split_sep z y t tu h1 hy hf (by omega) sp) ?_
   rw[strsFrom_eq];exact fin (numbered s.toks _) _ ((numbered_texts _ _).trans (by unfold cR;rw[qQ2 (by rw[h1];decide),qQ2 (by rw[hf];decide)]))
def rJoin(K:au):V->List V->Hp->VK->Prop:=λx vs H Q=>∃y p zs,x=.str y/\vs=[.ref p]/\(mJ K H p (zs.map V.str)\/rF K H p (zs.map V.str))/\(zs.map (·.length)).sum+zs.length*y.length<=16777216/\Q (.str (cL y zs)) H
theorem zy:∀{zs:List Str}{us:List aG},eO (zs.map V.str) us->StrsAre us zs
 | [],_,r=>by cases r;exact .nil
 |z::zs,_,r=>by cases r with|cons a t=>obtain⟨tk,rfl⟩:=a;exact .cons z tk (zy t)
theorem OB:Vi X "str.join" (rJoin X.K):=by
 intro pins s σ H x vs v us Q I rx rv h;obtain⟨y,p,zs,rfl,rfl,hq,hz,q⟩:=h;obtain⟨t,rfl⟩:=rx;obtain⟨u,rfl,ru⟩:=rv.one;cases ru;have e:Txt.join y zs=cL y zs:=StrLaws.glued_eq_join y zs;rcases hq with hq|hq
 ·obtain⟨its,r,pl,_⟩:=I.list hq
  exact join_list pl.isList (by simpa using zy r) hz λt' k=>⟨.str _,H,I.tok k,⟨t',by rw[e]⟩,q⟩
 ·obtain⟨its,r,pl,_⟩:=I.tuple hq
  exact join_tuple pl (by simpa using zy r) hz λt' k=>⟨.str _,H,I.tok k,⟨t',by rw[e]⟩,q⟩
theorem AV:kJ X (.type "int") (λxs H Q=>∃x n,xs=[.str x]/\intText? x=some n/\x.length<=640/\Q (.int n) H):=by
 intro pins s σ H xs us Q I r h;obtain⟨x,n,rfl,hn,hl,q⟩:=h;obtain⟨u,rfl,t,rfl⟩:=vals1 r;exact PySem.W.KIN.call_text hn hl ⟨.int n,H,I.tok _,⟨_,rfl⟩,q⟩
def jY(x:Str):Nat->Str
 |0=>eS
 |n+1=>x++jY x n
theorem Ih(x:Str):∀(n:Nat)(acc:Array Nat),(aT n x.cps).foldl (· ++ ·) acc=acc++(jY x n).cps
 |0,acc=>by show acc=acc ++ #[];simp
 |n+1,acc=>by
  rw[dJ,lG,Ih x n];show acc++x.cps++(jY x n).cps=acc++(x.cps++(jY x n).cps);rw[Array.append_assoc]
theorem Ii(x:Str):∀n,(jY x n).length=n*x.length
 |0=>by show(eS).length=_;simp[eS,Str.length]
 |n+1=>by
  show(x++jY x n).length=_
  rw[bJ,Ii x n,x8,Nat.add_comm]
theorem OD:tV X (binaryOp .Mult) (λx y H Q=>∃z n,x=.str z/\y=.int n/\0<=n/\n<=1000/\z.length<=1000/\Q (.str (jY z n.toNat)) H):=by
 intro pins s σ H x y v u Q I rx ry h;obtain⟨z,n,rfl,rfl,h0,h1,hz,q⟩:=h;obtain⟨t,rfl⟩:=rx;obtain⟨t',rfl⟩:=ry;have h63:(1000:Int)<2^63:=by decide
 have e63:(2:Int)^63=9223372036854775808:=by decide
 refine PySem.P.mul_str (by rw[qQ0 (by omega),qQ0 (by omega)];rfl) (λha _=>?_) (λ_ _=>?_) ?_
 ·have:((2:Int)^63-1)/n>=1000:=by
   rw[ge_iff_le,Int.le_ediv_iff_mul_le (by omega)]
   omega
  omega
 ·unfold tooLong
  rw[qQ0];rw[du];have:z.length*n.toNat<=1000*1000:=ic hz (by omega)
  omega
 ·by_cases hn:n<1
  ·rw[qQ3 hn]
   have:n.toNat=0:=by omega
   rw[this]at q;exact⟨by decide,.str _,H,I.tok _,⟨_,rfl⟩,q⟩
  ·rw[qQ2 hn]
   by_cases hc:(n==1||z.length==0)=true
   ·rw[qQ3 hc]
    have e:jY z n.toNat=z:=by
     rw[jf]at hc;rcases hc with hc|hc
     ·have:n=1:=by simpa using hc
      subst this;show z++eS=z;cases z with|mk c=>show(⟨c ++ #[]⟩:Str)=⟨c⟩;simp
     ·have hz0:z.length=0:=by simpa using hc
      have:z=eS:=by cases z with|mk c=>simp[Str.length]at hz0;simp[eS,hz0]
      subst this;have:∀m,jY eS m=eS:=by
       intro m
       induction m with
       |zero=>rfl
       |succ m ih=>show eS++jY eS m=_;rw[ih];rfl
      exact this _
    rw[e]at q;exact⟨.str _,H,I.tok _,⟨_,rfl⟩,q⟩
   ·rw[qQ2 hc]
    have e:(⟨(aT n.toNat z.cps).foldl (· ++ ·) #[]⟩:Str)=jY z n.toNat:=by rw[Ih];simp
    rw[e];refine⟨?_,.str _,H,I.tok _,⟨_,rfl⟩,q⟩
    rw[Ii,du];have:n.toNat*z.length<=1000*1000:=ic (by omega) hz
    omega
def Its(x:Str):It:=⟨λi _=>i<x.cps.size,λi H v H'=>H'=H/\∃c,x.cps[i]?=some c/\v=.str ⟨#[c]⟩,λi _=>x.cps.size<=i⟩
theorem Lp{P:bL}{w:cH}{tg:cx}(it:aR)(x:Str)(t:Tok){ty:String}(hty:ty="str_ascii_iterator"\/ty="str_iterator"):Turn P w K tg (Its x) [it] it (λi h=>h.IsStrIter it ty x t i) where
 mem:=by simp
 obj:=λi h st b hb=>by
  have e:b=it:=by simpa using hb
  subst e;obtain⟨o,e,c,d⟩:=st;exact⟨o,e,λv z=>by rw[d]at z;cases z⟩
 keep:=λi h h' st k=>let⟨o,e,r⟩:=st;⟨o,k it (by simp) o e,r⟩
 item:=by
  intro X hP hw hK hc i pins s σ H E I hf st hg;subst hP hw hK;obtain⟨f0,f1,f2,f3,f4,f5⟩:=hf it (by simp)
  have hn:["enumerate","zip","dict_itemiterator","dict_reverseitemiterator","odict_iterator","itertools.zip_longest","itertools.pairwise"].contains ty=false:=by rcases hty with rfl|rfl<;>decide
  have fin:∀v h' tk,SignAt x i v->h'.IsStrIter it ty x t (i+1)->(∀b o,b∉[it]->s.heap.get? b=some o->h'.get? b=some o)->∃u,some v=some u/\wpAny (model X.prog X.w) X.A (letOwnedTupleGo tg (.ref it) u) (λ_ s2=>∃y H',Inv X pins σ H' s2/\RelV y u/\(Its x).UR i H y H'/\s2.heap.IsStrIter it ty x t (i+1)/\∀b∈[it],H' b=none) E { s with heap:=h',toks:=tk }:=by
   intro v h' tk hv AK kk;obtain⟨c,u,hcu,rfl⟩:=hv;have I1:Inv X pins σ H { s with heap:=h',toks:=tk }:=I.turned (λb o hb e=>kk b o (by simpa using hb) e) f0 f1 f3 f4 f5
   obtain⟨o,e,cc,d⟩:=id AK;exact⟨_,rfl,HK (s:={ s with heap:=h',toks:=tk }) e cc d hn ⟨.str ⟨#[c]⟩,H,I1,⟨u,rfl⟩,⟨rfl,c,hcu,rfl⟩,AK,λb hb=>(hf b hb).1⟩⟩
  rcases hty with rfl|rfl
  ·exact(Walks.strAscii (prog:=X.prog) (w:=X.w) (I.ok.hd hc) it x t).item i s _ _ hg st λv h' tk hv AK kk=>fin v h' tk hv AK kk
  ·exact(Walks.strWide (prog:=X.prog) (w:=X.w) (I.ok.hd hc) it x t).item i s _ _ hg st λv h' tk hv AK kk=>fin v h' tk hv AK kk
 done:=by
  intro X hP hw hK hc i pins s σ H E I hf st hg;subst hP hw hK;obtain⟨f0,f1,f2,f3,f4,f5⟩:=hf it (by simp)
  have hge:x.cps.size<=i:=hg;rcases hty with rfl|rfl
  ·exact wpAny_pyNext_ascii_end (I.ok.hd hc) st (by simp;exact hge) λh' eb=>⟨rfl,I.turned (t':=s.toks) (λb o hb e=>eb b o hb e) f0 f1 f3 f4 f5⟩
  ·exact wpAny_pyNext_wide_end (I.ok.hd hc) st (by simp;exact hge) λh' eb=>⟨rfl,I.turned (t':=s.toks) (λb o hb e=>eb b o hb e) f0 f1 f3 f4 f5⟩
 self:=λ_ _ _ _ _ st h=>by
  rcases hty with rfl|rfl
  ·exact wpAny_pyIter_striter_ascii st h
  ·exact wpAny_pyIter_striter_wide st h
def ZY(tl:TE):TI:=λσ H R=>tl σ H λv H1=>∃x,v=.str x/\R (Its x) H1
theorem Sr{tg l:cx}{tl:TE}(hl:PE X l tl):PI X tg l (ZY tl):=by
 intro pins s σ H R I h;refine g8 (hl pins s σ H _ I h) λv s1 ⟨y,H1,I1,r1,q1⟩=>?_
 obtain⟨x,e,q⟩:=q1;subst e;obtain⟨t,rfl⟩:=r1;have go:∀ty,(ty="str_ascii_iterator"\/ty="str_iterator")->∀o:Obj,o.cls=.type ty->o.data=.fields #[.str x t,.int (0:Nat) 0]->o.isFreed=false->Y3 X pins σ tg R (.ref s1.heap.objs.size) { s1 with heap:=s1.heap.push o }:=λty hty o c d fr=>
  ⟨s1.heap.objs.size,[s1.heap.objs.size],_,_,H1,rfl,I1.kept (t':=s1.toks) λb o e=>aF _ e,Lp _ x t hty,⟨o,bN _ fr,c,d⟩,λb hb=>by
   have e:b=s1.heap.objs.size:=by simpa using hb
   subst e;exact I1.AJ (ay _) (I1.hok.fresh (ay _)),q⟩
 cases ha:x.cps.all (·<128)
 ·exact wpAny_pyIter_wide ha (go "str_iterator" (.inr rfl) _ rfl rfl rfl)
 ·exact wpAny_pyIter_ascii ha (go "str_ascii_iterator" (.inl rfl) _ rfl rfl rfl)
end
section
variable{X:Cx}{tg a b c e:cx}{es:List cx}{δ:List Slot}{d d1 d2 d3:ao}{ds:List ao}{pos p p2 yj:Pos}{k:Nat}{x y z:Str}
def jR(x:Str):List ao:=x.cps.toList.map λc=>.str ⟨#[c]⟩
theorem CZ(h:VE X a δ (.str x)):VI X tg a δ (jR x):=⟨_,Sr d_,λB0 B σ H0 H R f q=>h B0 B σ H0 H _ f λv H1 eQ g r=>by
 cases r;have hl:(jR x).length=x.cps.size:=by unfold jR;rw[aj,df]
 refine⟨x,rfl,q _ H1 eQ g λHa Hb s1 s2 i=>⟨λhi=>(show i<x.cps.size by omega),λhi=>(show x.cps.size<=i by omega),λv Av d hd ⟨e,c,hc,ev⟩=>?_⟩⟩
 subst e;subst ev;unfold jR at hd;rw[aW,Array.getElem?_toList,hc]at hd
 cases hd;exact⟨Ha,.refl s2,.str _⟩⟩
theorem odS(h:x.length+y.length<=sizeLine):CV K (λx y H Q=>∃i j,x=.str i/\y=.str j/\i.length+j.length<=sizeLine/\Q (.str (i++j)) H) (.str x) (.str y) (.str (x++y)):=λv u H0 H Q s r1 r2 k=>by cases r1;cases r2;exact⟨_,_,rfl,rfl,h,k _ _ _ (.refl s) (.str _)⟩
theorem gv(h1:VE X a δ (.str x))(h2:VE X b δ (.str y))(h:x.length+y.length<=sizeLine):VE X (.BinOp a .Add b pos) δ (.str (x++y)):=u5 FU (odS h) h1 h2
theorem Ss(h0:0<=n)(h1:n<=1000)(hz:x.length<=1000):CV K (λx y H Q=>∃z n,x=.str z/\y=.int n/\0<=n/\n<=1000/\z.length<=1000/\Q (.str (jY z n.toNat)) H) (.str x) (.int n) (.str (jY x n.toNat)):=λv u H0 H Q s r1 r2 k=>by cases r1;cases r2;exact⟨_,_,rfl,rfl,h0,h1,hz,k _ _ _ (.refl s) (.str _)⟩
theorem Ij(h1:VE X a δ (.str x))(h2:VE X b δ (.int n))(h0:0<=n)(hn:n<=1000)(hz:x.length<=1000):VE X (.BinOp a .Mult b pos) δ (.str (jY x n.toNat)):=u5 OD (Ss h0 hn hz) h1 h2
theorem V1{c:Nat}(hz:x.length<=sizeLine)(h:tX x.cps.toList i=some c):CV K (XS K) (.str x) (.int i) (.str ⟨#[c]⟩):=λv u H0 H Q s r1 r2 k=>by
 cases r1;cases r2;exact .inr (.inr ⟨x,i,c,rfl,rfl,hz,h,k _ _ _ (.refl s) (.str _)⟩)
theorem C5{c:Nat}(h1:VE X a δ (.str x))(h2:VE X b δ (.int i))(hz:x.length<=sizeLine)(h:tX x.cps.toList i=some c)(hs:tY b:=by intro _ _;rfl):VE X (.Subscript a b pos) δ (.str ⟨#[c]⟩):=F7 CG (V1 hz h) h1 h2 hs
def C6(x y:Str):Bool:=!(occurrences y x 0 y.length 1).isEmpty
theorem V2:CV K (λx y H Q=>∃i j,x=.str i/\y=.str j/\Q (.bl (!(occurrences j i 0 j.length 1).isEmpty)) H) (.str x) (.str y) (.bool (C6 x y)):=λv u H0 H Q s r1 r2 k=>by cases r1;cases r2;exact⟨_,_,rfl,rfl,k _ _ _ (.refl s) (.bl _)⟩
theorem Sv(h1:VE X a δ (.str x))(h2:VE X b δ (.str y))(hm:behindInMarks .In b=false:=by with_unfolding_all rfl):VE X (.Compare a [.In] [b] pos) δ (.bool (C6 x y)):=wX Jg V2 h1 h2 hm
theorem Sw(hz:x.length<=sizeLine):qt K (λxs H Q=>∃z,xs=[.str z]/\z.length<=sizeLine/\Q (.int z.length) H) [.str x] (.int x.length):=λvs H0 H Q s r k=>by
 obtain⟨v,rfl,r1⟩:=r.one;cases r1;exact⟨x,rfl,hz,k _ _ _ (.refl s) (.int _)⟩
theorem Ik(h:VE X a δ (.str x))(hz:x.length<=sizeLine)(hm:X.mg "len"=none)(hg:Gl X "len":=by rfl)(hs:starEach [a] X.env=(false,eval a X.env)::starEach [] X.env:=by rfl):VE X (.Call (.Name "len" p) [a] [] pos) δ (.int x.length):=km CJ (Sw hz) (aq h a7 hs) hm ur hg (he:=hs)
theorem Sx(h:i.natAbs.log2<1920):qt K (λxs H Q=>∃i,xs=[.int i]/\i.natAbs.log2<1920/\Q (.str (toString i)) H) [.int i] (.str (toString i)):=λvs H0 H Q s r k=>by
 obtain⟨v,rfl,r1⟩:=r.one;cases r1;exact⟨i,rfl,h,k _ _ _ (.refl s) (.str _)⟩
theorem Sy(h:intText? x=some n)(hl:x.length<=640):qt K (λxs H Q=>∃x n,xs=[.str x]/\intText? x=some n/\x.length<=640/\Q (.int n) H) [.str x] (.int n):=λvs H0 H Q s r k=>by
 obtain⟨v,rfl,r1⟩:=r.one;cases r1;exact⟨x,n,rfl,h,hl,k _ _ _ (.refl s) (.int _)⟩
theorem mV(h:VE X a δ (.int i))(hl:i.natAbs.log2<1920)(hm:X.mg "str"=none)(hg:Gl X "str":=by rfl)(hs:starEach [a] X.env=(false,eval a X.env)::starEach [] X.env:=by rfl):VE X (.Call (.Name "str" p) [a] [] pos) δ (.str (toString i)):=mM Cy (Sx hl) (aq h a7 hs) hm rfl hg (he:=hs)
theorem OG(h:VE X a δ (.str x))(hn:intText? x=some n)(hl:x.length<=640)(hm:X.mg "int"=none)(hg:Gl X "int":=by rfl)(hs:starEach [a] X.env=(false,eval a X.env)::starEach [] X.env:=by rfl):VE X (.Call (.Name "int" p) [a] [] pos) δ (.int n):=mM AV (Sy hn hl) (aq h a7 hs) hm rfl hg (he:=hs)
theorem qu(h1:VE X a δ (.str x))(h2:VE X b δ (.str y))(hy:(y.length==0)=false)(hz:x.length+2<=sizeLine)
  (hs:starEach [b] X.env=(false,eval b X.env)::starEach [] X.env:=by rfl)(oI:attributeBase a "split" X.env (eval a X.env)=eval a X.env:=by rfl)
  (u0:((backTo pos (starEach [b] X.env)).all (λx=>!x.1)&&(backToKw pos (keywordEach [] X.env)).all (λx=>x.1.isSome)&&decide (([b]:List cx).length+([]:List jz).length+(if([]:List jz).isEmpty then 0 else 1)<30))=true:=by rfl)
  (hline:(ap.endLine==pos.line)=true:=by rfl)(lb:(backTo pos (starEach [] X.env)).any (·.1)=false:=by rfl):VO X (.Call (.Attribute a "split" ap) [b] [] pos) δ ((cR x y).map .str):=
 .of (zh Cm PySem.F.slot_str_split PySem.F.type_str_split Ln d_ (dG d_ gI hs) oI u0 hline hs lb) λB0 B σ H0 H Q f q=>h1 B0 B σ H0 H _ f λv H1 eQ g r1=>by
  cases r1;refine⟨rfl,h2 B0 B σ H1 eQ _ (f.grow g) λu H2 jH g2 r2=>?_⟩
  cases r2;refine⟨x,y,rfl,rfl,hy,hz,λl hl=>?_⟩
  have gg:=g.trans g2;refine q l _ H2 _ (gg.trans (.loose g2.sub hl)) (gg.big.free hl) (g2.sub.free hl) bQ ?_
  have go:∀l:List Str,dz X.K H2 (l.map V.str) (l.map aQ):=by
   intro l
   induction l with
   |nil=>exact .nil
   |cons z l ih=>exact .cons (.str z) ih
  exact go _
theorem mW{zs:List Str}(h1:VE X a δ (.str y))(h2:VE X b δ (.list (zs.map .str)))(hz:(zs.map (·.length)).sum+zs.length*y.length<=16777216)
  (hs:starEach [b] X.env=(false,eval b X.env)::starEach [] X.env:=by rfl)(oI:attributeBase a "join" X.env (eval a X.env)=eval a X.env:=by rfl)
  (u0:((backTo pos (starEach [b] X.env)).all (λx=>!x.1)&&(backToKw pos (keywordEach [] X.env)).all (λx=>x.1.isSome)&&decide (([b]:List cx).length+([]:List jz).length+(if([]:List jz).isEmpty then 0 else 1)<30))=true:=by rfl)
  (hline:(ap.endLine==pos.line)=true:=by rfl)(lb:(backTo pos (starEach [] X.env)).any (·.1)=false:=by rfl):VE X (.Call (.Attribute a "join" ap) [b] [] pos) δ (.str (cL y zs)):=
 .of (zh Cm PySem.F.slot_str_join PySem.F.type_str_join OB d_ (dG d_ gI hs) oI u0 hline hs lb) λB0 B σ H0 H Q f q=>h1 B0 B σ H0 H _ f λv H1 eQ g r1=>by
  cases r1;refine⟨rfl,h2 B0 B σ H1 eQ _ (f.grow g) λu H2 jH g2 r2=>?_⟩
  cases r2 with
  |lst hq rs=>
   have e:=rs.strs;subst e;exact⟨y,_,zs,rfl,rfl,.inl (g2.sub.seq hq),hz,q _ H2 jH (g.trans g2) (.str _)⟩
end
end L2
namespace L2
open PySem PySem.Spec PyProof.Rows
variable{a it l l1 l2:aR}{items xs ys:Array aG}{X:Cx}{h:dw}{H:Hp}{pins:List (aR×Obj)}{elts:List cx}{ds:List ao}{i:Nat}{d:Option ao}{o:Option V}{tp:Pos}{K:au}{s:aU}{x:aG}{Q:aG->aU->Prop}
def sV(kvs:List (Str×ao)):ao:=.dict (kvs.map λp=>(.str p.1,p.2))
def Lq(kvs:List ((Str×Str)×ao)):ao:=.dict ((.none,.bool true)::kvs.map λp=>(.tuple [.str p.1.1,.str p.1.2],p.2))
def OI(fs:List (Str×ao)):ao:=.dict ((.none,.none)::fs.map λp=>(.str p.1,p.2))
def jv{κ:Type}[DecidableEq κ](kvs:List (κ×ao))(k:κ):Option ao:=(kvs.find? λp=>decide (p.1=k)).map (·.2)
theorem fZ{κ:Type}[DecidableEq κ]{p:κ×ao}{r:List (κ×ao)}{k:κ}(e:p.1=k):jv (p::r) k=some p.2:=by simp[jv,fz,e]
theorem cP{κ:Type}[DecidableEq κ]{p:κ×ao}{r:List (κ×ao)}{k:κ}(e:¬p.1=k):jv (p::r) k=jv r k:=by simp[jv,fz,e]
def Ef(K:au)(H:Hp):Option V->Option ao->Prop
 |none,none=>True
 |some v,some d=>Rep K H v d
 |_,_=>False
theorem Ef.some_of{d:ao}(h:Ef K H o (some d)):∃v,o=some v/\Rep K H v d:=by
 cases o with
 |none=>exact h.elim
 |some v=>exact⟨v,rfl,h⟩
theorem Ef.isSome(h:Ef K H o d):o.isSome=d.isSome:=by
 cases o<;>cases d<;>first|rfl|exact h.elim
theorem Ef.getD{v:V}{e:ao}(h:Ef K H o d)(r:Rep K H v e):Rep K H (o.getD v) (d.getD e):=by
 cases o<;>cases d<;>first|exact r|exact h|exact h.elim
section
variable{K:au}{H:Hp}{v:V}
theorem Rep.sW{kvs:List (Str×ao)}(r:Rep K H v (sV kvs)):∃a ws,v=.ref a/\H a=some (.dK ws)/\ws.map (·.1)=kvs.map (λp=>(b9 p.1:Key))/\dz K H (ws.map (·.2)) (kvs.map (·.2)):=by
 unfold sV at r
 generalize e:kvs.map (λp=>(aQ p.1,p.2))=ds at r
 cases r with
 |dct h k t=>
  rename_i a ws
  refine⟨a,ws,rfl,h,?_,?_⟩
  ·have k2:ws.map (λp=>wW p.1)=kvs.map λp=>aQ p.1:=by rw[<-k,<-e,bf];rfl
   clear k t h e
   induction ws generalizing kvs with
   |nil=>cases kvs with|nil=>rfl|cons p l=>simp at k2
   |cons q ws ih=>
    cases kvs with
    |nil=>simp at k2
    |cons p l=>
     rw[aN,aN]at k2 ⊢
     injection k2 with h1 h2
     rw[ih h2]
     congr 1
     cases eq:q.1 with
     |inl i=>rw[eq]at h1;cases h1
     |inr x=>rw[eq]at h1;injection h1 with h1;rw[h1]
  ·rw[<-e,bf]at t
   exact t
 |VD _ _ _=>cases kvs with|nil=>simp at e|cons p l=>simp at e
 |obj _ _ _ _ _=>cases kvs with|nil=>simp at e|cons p l=>simp at e
 |ZG _ _ _=>cases kvs with|nil=>simp at e|cons p l=>simp at e
theorem zz:∀{kvs:List (Str×ao)}{ws:List (Key×V)},ws.map (·.1)=kvs.map (λp=>(b9 p.1:Key))->dz K H (ws.map (·.2)) (kvs.map (·.2))->∀k,Ef K H (jI ws (b9 k)) (jv kvs k)
 | [],ws,e,_,k=>by
  have:ws=[]:=by simpa using e
  subst this;exact gD
 |p::kvs,ws,e,r,k=>by
  cases ws with
  |nil=>simp at e
  |cons q ws=>
   rw[aN,aN]at e r
   injection e with e1 e2
   cases r with
   |cons r1 r2=>
    by_cases h:p.1=k
    ·rw[fZ h,qm (by rw[e1,h])];exact r1
    ·rw[cP h,nh (λz=>h (by rw[e1]at z;injection z))];exact zz e2 r2 k
def wZ(p:Str×Str):List Key:=[.inr p.1,.inr p.2]
theorem Eg{p q:Str×Str}(e:wZ p=wZ q):p=q:=by
 unfold wZ at e
 injection e with e1 e2
 injection e2 with e2 _
 injection e1 with e1
 injection e2 with e2
 exact Prod.ext e1 e2
theorem Rep.Lr{kvs:List ((Str×Str)×ao)}(r:Rep K H v (Lq kvs)):∃a ws,v=.ref a/\H a=some (.dT ws)/\ws.map (·.1)=kvs.map (λp=>wZ p.1)/\dz K H (ws.map (·.2)) (kvs.map (·.2)):=by
 unfold Lq at r
 generalize e:kvs.map (λp=>(fS [.str p.1.1,.str p.1.2],p.2))=ds at r
 cases r with
 |dct h k t=>
  rename_i a ws
  exfalso
  cases ws with
  |nil=>simp at k
  |cons q ws=>
   rw[aN,aN]at k
   injection k with k1 _
   cases eq:q.1 with
   |inl i=>rw[eq]at k1;cases k1
   |inr x=>rw[eq]at k1;cases k1
 |VD h k t=>
  rename_i a ws
  refine⟨a,ws,rfl,h,?_,?_⟩
  ·have k2:ws.map (λp=>fS (p.1.map wW))=kvs.map λp=>fS [.str p.1.1,.str p.1.2]:=by rw[<-k,<-e,bf];rfl
   clear k t h e
   induction ws generalizing kvs with
   |nil=>cases kvs with|nil=>rfl|cons p l=>simp at k2
   |cons q ws ih=>
    cases kvs with
    |nil=>simp at k2
    |cons p l=>
     rw[aN,aN]at k2 ⊢
     injection k2 with h1 h2
     rw[ih h2]
     congr 1
     injection h1 with h1
     have one:∀(k:Key)(x:Str),wW k=.str x->k=.inr x:=λk x h=>by
      cases k with
      |inl i=>cases h
      |inr y=>injection h with h;rw[h]
     cases e0:q.1 with
     |nil=>rw[e0]at h1;cases h1
     |cons k1 l1=>
      rw[e0]at h1;rw[aN]at h1
      injection h1 with g1 g2
      cases l1 with
      |nil=>cases g2
      |cons k2 l2=>
       rw[aN]at g2
       injection g2 with g2 g3
       have:l2=[]:=by simpa using g3
       subst this;rw[one k1 _ g1,one k2 _ g2];rfl
  ·rw[<-e,bf]at t
   exact t
theorem Ls:∀{kvs:List ((Str×Str)×ao)}{ws:List (List Key×V)},ws.map (·.1)=kvs.map (λp=>wZ p.1)->dz K H (ws.map (·.2)) (kvs.map (·.2))->∀k,Ef K H (jI ws (wZ k)) (jv kvs k)
 | [],ws,e,_,k=>by
  have:ws=[]:=by simpa using e
  subst this;exact gD
 |p::kvs,ws,e,r,k=>by
  cases ws with
  |nil=>simp at e
  |cons q ws=>
   rw[aN,aN]at e r
   injection e with e1 e2
   cases r with
   |cons r1 r2=>
    by_cases h:p.1=k
    ·rw[fZ h,qm (by rw[e1,h])];exact r1
    ·rw[cP h,nh (λz=>h (Eg (by rw[<-e1];exact z)))];exact Ls e2 r2 k
theorem Rep.Lv{fs:List (Str×ao)}(r:Rep K H v (OI fs)):∃a C dx ws,v=.ref a/\H a=some (.ins C dx ws)/\DZ K C/\(∀f∈ws.map (·.1),gP K C f)/\ws.map (·.1)=fs.map (·.1)/\dz K H (ws.map (·.2)) (fs.map (·.2)):=by
 unfold OI at r
 generalize e:fs.map (λp=>(aQ p.1,p.2))=ds at r
 cases r with
 |dct h k t=>
  rename_i a ws
  exfalso
  cases ws with
  |nil=>simp at k
  |cons q ws=>
   rw[aN,aN]at k
   injection k with k1 _
   cases eq:q.1 with
   |inl i=>rw[eq]at k1;cases k1
   |inr x=>rw[eq]at k1;cases k1
 |obj h c nn k t=>
  rename_i a C dx ws
  refine⟨a,C,dx,ws,rfl,h,c,nn,?_,?_⟩
  ·have k2:ws.map (λp=>aQ p.1)=fs.map λp=>aQ p.1:=by rw[<-k,<-e,bf];rfl
   clear k t h e nn
   induction ws generalizing fs with
   |nil=>cases fs with|nil=>rfl|cons p l=>simp at k2
   |cons q ws ih=>
    cases fs with
    |nil=>simp at k2
    |cons p l=>
     rw[aN,aN]at k2 ⊢
     injection k2 with h1 h2
     injection h1 with h1
     rw[ih h2,h1]
  ·rw[<-e,bf]at t
   exact t
theorem Lw:∀{fs:List (Str×ao)}{ws:List (Str×V)},ws.map (·.1)=fs.map (·.1)->dz K H (ws.map (·.2)) (fs.map (·.2))->∀k d,jv fs k=some d->∃u,ws.lookup k=some u/\k∈ws.map (·.1)/\Rep K H u d
 | [],ws,e,_,k,d,h=>by cases h
 |p::fs,ws,e,r,k,d,h=>by
  cases ws with
  |nil=>simp at e
  |cons q ws=>
   obtain⟨q1,q2⟩:=q;rw[aN,aN]at e r
   injection e with e1 e2
   have e1:q1=p.1:=e1;cases r with
   |cons r1 r2=>
    by_cases hk:p.1=k
    ·rw[fZ hk]at h
     cases h;refine⟨q2,?_,?_,r1⟩
     ·rw[ei,e1,hk];simp
     ·rw[aN,e1,hk];exact aS
    ·rw[cP hk]at h
     obtain⟨u,h1,h2,h3⟩:=Lw e2 r2 k d h;refine⟨u,?_,aZ _ h2,h3⟩
     rw[ei];have:(k==q1)=false:=by rw[beq_eq_false_iff_ne,e1];exact λz=>hk z.symm
     rw[this];exact h1
end
section
variable{X:Cx}{a b c e:cx}{δ:List Slot}{d d1 d2 d3:ao}{ds:List ao}{pos ap:Pos}{k:Nat}{kvs fs:List (Str×ao)}{tvs:List ((Str×Str)×ao)}{x y z:Str}
theorem Qw(hr:gj k X.A):X.A.units+1<cLine:=by have:=hr.un;omega
theorem nM{f:Str}(h:VE X a δ (OI fs))(hf:jv fs f=some d)(hb:attributeBase a f X.env (eval a X.env)=eval a X.env:=by rfl):VE X (.Attribute a f pos) δ d:=
 .of (y8 d_ hb) λB0 B σ H0 H Q fr q=>h B0 B σ H0 H _ fr λv H1 eQ g r=>by
  obtain⟨p,C,dx,ws,rfl,hp,cl,nn,ke,rs⟩:=r.Lv;obtain⟨u,h1,h2,h3⟩:=Lw ke rs f d hf;exact⟨p,C,dx,ws,u,rfl,g.sub _ _ hp,cl,nn f h2,h1,q u H1 eQ g h3⟩
theorem fk(hr:gj k X.A)(h1:VE X a δ (sV kvs))(h2:VE X b δ (.str x))(hx:jv kvs x=some d)(hs:Od b:=by intro _ _;rfl):VE X (.Subscript a b pos) δ d:=
 .of (Og (Qw hr) d_ d_ hs) λB0 B σ H0 H Q fr q=>h1 B0 B σ H0 H _ fr λv H1 eQ g r=>h2 B0 B σ H1 eQ _ (fr.grow g) λu H2 jH g2 r2=>by
  obtain⟨p,ws,rfl,hp,ke,rs⟩:=r.sW;cases r2;have o:=zz ke rs x;rw[hx]at o;obtain⟨w,hw,rR⟩:=o.some_of;refine⟨p,w,rfl,?_,q w H2 jH (g.trans g2) (rR.mono g2.iq)⟩
  rw[<-hw];exact sN.k (k:=.inr x) (g2.sub _ _ (g2.iq _ _ hp))
theorem C7(hr:gj k X.A)(h2:VE X b δ (.str x))(h1:VE X a δ (sV kvs))(hm:behindInMarks .In a=false:=by with_unfolding_all rfl):VE X (.Compare b [.In] [a] pos) δ (.bool (jv kvs x).isSome):=
 .of (FJ (K0 (Qw hr) d_ d_) hm) λB0 B σ H0 H Q fr q=>h2 B0 B σ H0 H _ fr λu H1 eQ g r2=>h1 B0 B σ H1 eQ _ (fr.grow g) λv H2 jH g2 r=>by
  obtain⟨p,ws,rfl,hp,ke,rs⟩:=r.sW;cases r2;refine⟨p,jI ws (.inr x),rfl,sN.k (k:=.inr x) (g2.sub _ _ hp),q _ H2 jH (g.trans g2) ?_⟩
  rw[(zz ke rs x).isSome];exact .bl _
theorem Bu(hr:gj k X.A)(h2:VE X b δ (.str x))(h1:VE X a δ (sV kvs))(hm:behindInMarks .NotIn a=false:=by with_unfolding_all rfl):VE X (.Compare b [.NotIn] [a] pos) δ (.bool (!(jv kvs x).isSome)):=
 .of (FJ (Js (Qw hr) d_ d_) hm) λB0 B σ H0 H Q fr q=>h2 B0 B σ H0 H _ fr λu H1 eQ g r2=>h1 B0 B σ H1 eQ _ (fr.grow g) λv H2 jH g2 r=>by
  obtain⟨p,ws,rfl,hp,ke,rs⟩:=r.sW;cases r2;refine⟨p,jI ws (.inr x),rfl,sN.k (k:=.inr x) (g2.sub _ _ hp),q _ H2 jH (g.trans g2) ?_⟩
  rw[(zz ke rs x).isSome];exact .bl _
theorem OJ{x1}(hr:gj k X.A)(h1:VE X a δ (.str x))(h2:VE X b δ (.str y))(h3:VE X c δ (Lq tvs))(hm:behindInMarks .In c=false:=by with_unfolding_all rfl)
  (hs:starEach [a,b] X.env=(false,eval a X.env)::starEach [b] X.env:=by rfl)(rG:starEach [b] X.env=(false,eval b X.env)::starEach [] X.env:=by rfl):VE X (.Compare (.Tuple [a,b] x1 tp) [.In] [c] pos) δ (.bool (jv tvs (x,y)).isSome):=
 .of (FJ (K0 (Qw hr) (y_ (dG d_ (dG d_ gI rG) hs)) d_) hm) λB0 B σ H0 H Q fr q=>h1 B0 B σ H0 H _ fr λv H1 eQ g r1=>h2 B0 B σ H1 eQ _ (fr.grow g) λu H2 jH g2 r2=>by
  cases r1;cases r2;refine⟨by show 2<=sizeLine;rw[du];decide,λt ht=>?_⟩
  have g3:=(g.trans g2).trans (eL.loose (o:=HO.tup [.str x,.str y]) g2.sub ht);refine h3 B0 B σ H2 _ _ (fr.grow g3) λv H4 ZZ g4 r=>?_
  obtain⟨p,ws,rfl,hp,ke,rs⟩:=r.Lr;refine⟨p,jI ws (wZ (x,y)),rfl,sN.t (k:=wZ (x,y)) (g4.sub _ _ hp) (g4.big _ _ bQ),q _ H4 ZZ (g3.trans g4) ?_⟩
  rw[(Ls ke rs (x,y)).isSome];exact .bl _
end
section
variable{prog:bL}{w:cH}{A:ef}{E:aG->aU->Prop}{s:aU}
theorem V3:(bA l==fe)=false:=rfl
theorem Ge(hit:s.heap.IsTupleIter it l i)(hl:s.heap.IsTuple l items)(hx:items[i]?=some x)
  (hQ:∀h',h'.IsTupleIter it l (i+1)->kO it s.heap h'->Q x { s with heap:=h' }):wpAny (model prog w) A (dA (.ref it)) Q E s:=by
 obtain⟨o,ho,hc,hd⟩:=id hit;obtain⟨ol,Ko,Kq,nl,Lx⟩:=hl;unfold dA;refine av (jN (name:=o4 "__next__") hit.typeIs kT (oy kT hit.typeIs DK ?_ (Cp _)))
 show wpAny _ _ (field (.ref it) 0 >>= _) _ _ s;refine av (eN ho hd (x:=.ref l) rfl ?_)
 show wpAny _ _ (if(bA l==fe)=true then _ else _) _ _ s
 rw[qQ2 (by rw[V3];decide)]
 show wpAny _ _ (field (.ref it) 1 >>= _) _ _ s;refine av (eN ho hd (x:=.int i 0) rfl ?_)
 show wpAny _ _ (seqItems? (.ref l) >>= _) _ _ s;refine av (jO Ko Lx ?_)
 simp only[fN,hx];refine av (nI ho hd (by simp) (a_ ⟨x,rfl,a_ (hQ _ ?_ (AG ..))⟩))
 refine⟨_,gU _ ho (j' (hU hd _)),(Obj.cls_mapFields ..).trans hc,?_⟩
 rw[hU hd];simp[rawInt]
theorem JA(hh:A.handled=none)(hit:s.heap.IsTupleIter it l i)(hl:s.heap.IsTuple l items)(hx:items[i]?=none)
  (hE:∀h' e,dw.ExtBut it s.heap h'->(∃o,h'.get? e=some o/\o.cls=.type "StopIteration")->E (.ref e) { s with heap:=h' }):wpAny (model prog w) A (dA (.ref it)) Q E s:=by
 obtain⟨o,ho,hc,hd⟩:=id hit;obtain⟨ol,Ko,Kq,nl,Lx⟩:=hl;unfold dA;refine av (jN (name:=o4 "__next__") hit.typeIs kT (oy kT hit.typeIs DK ?_ (Cp _)))
 show wpAny _ _ (field (.ref it) 0 >>= _) _ _ s;refine av (eN ho hd (x:=.ref l) rfl ?_)
 show wpAny _ _ (if(bA l==fe)=true then _ else _) _ _ s
 rw[qQ2 (by rw[V3];decide)]
 show wpAny _ _ (field (.ref it) 1 >>= _) _ _ s;refine av (eN ho hd (x:=.int i 0) rfl ?_)
 show wpAny _ _ (seqItems? (.ref l) >>= _) _ _ s;refine av (jO Ko Lx ?_)
 simp only[fN,hx];refine av (yN (av (nI ho hd (by simp) ?_)))
 show wpAny _ _ (newExc (.type "StopIteration") [] >>= _) _ _ _;refine av ?_
 simp only[newExc,newTuple];refine av (fw ?_ (by size_fits))
 refine av (m:=firstArgMember _ _) (wpAny_of_eq (a:=fe) (by first|rfl|(simp only[firstArgMember];rfl)) ?_)
 refine fw ?_ (by size_fits)
 simp only[raiseNew];refine av (wpAny_handled ?_)
 first|rw[show A.in1.handled=none from hh]|rw[hh]
 refine av (a_ (wpAny_throw ?_))
 exact hE _ _ (((AG ..).extBut.push _).push _) ⟨_,bN _ rfl,rfl⟩
end
inductive Gf where|lst|tup
variable{k k1 k2:Gf}
def qv(k:Gf)(h:dw)(l:aR)(xs:Array aG):Prop:=match k with | .lst=>h.IsList l xs | .tup=>h.IsTuple l xs
def va(k:Gf)(h:dw)(i l:aR)(n:Nat):Prop:=match k with | .lst=>h.IsListIter i l n | .tup=>h.IsTupleIter i l n
theorem va.at{h': dw}{i: aR}{n:Nat}(x:va k h i l n)(e:∀o,h.get? i=some o->h'.get? i=some o):va k h' i l n:=by
 cases k with
 |lst=>obtain⟨o,a,r⟩:=(show h.IsListIter i l n from x);exact(⟨o,e o a,r⟩:h'.IsListIter i l n)
 |tup=>obtain⟨o,a,r⟩:=(show h.IsTupleIter i l n from x);exact(⟨o,e o a,r⟩:h'.IsTupleIter i l n)
theorem qv.at{h': dw}(x:qv k h l xs)(e:∀o,h.get? l=some o->h'.get? l=some o):qv k h' l xs:=by
 cases k with
 |lst=>obtain⟨o,a,r⟩:=(show h.IsList l xs from x);exact(⟨o,e o a,r⟩:h'.IsList l xs)
 |tup=>obtain⟨o,a,r⟩:=(show h.IsTuple l xs from x);exact(⟨o,e o a,r⟩:h'.IsTuple l xs)
theorem va.get{i: aR}{n:Nat}(x:va k h i l n):∃o,h.get? i=some o/\∀v,o.data≠.cell v:=by
 cases k with
 |lst=>obtain⟨o,a,_,d⟩:=(show h.IsListIter i l n from x);exact⟨o,a,λv z=>by rw[d]at z;cases z⟩
 |tup=>obtain⟨o,a,_,d⟩:=(show h.IsTupleIter i l n from x);exact⟨o,a,λv z=>by rw[d]at z;cases z⟩
theorem qv.get(x:qv k h l xs):∃o,h.get? l=some o:=by
 cases k with
 |lst=>obtain⟨o,a,_⟩:=(show h.IsList l xs from x);exact⟨o,a⟩
 |tup=>obtain⟨o,a,_⟩:=(show h.IsTuple l xs from x);exact⟨o,a⟩
section
variable{prog:bL}{w:cH}{A:ef}{E:aG->aU->Prop}{s:aU}
theorem next_item(hit:va k s.heap it l i)(hl:qv k s.heap l items)(hx:items[i]?=some x)
  (hQ:∀h',va k h' it l (i+1)->kO it s.heap h'->Q x { s with heap:=h' }):wpAny (model prog w) A (dA (.ref it)) Q E s:=by
 cases k with
 |lst=>exact wpAny_nextOf_list_item hit hl hx hQ
 |tup=>exact Ge hit hl hx hQ
theorem next_end(hh:A.handled=none)(hit:va k s.heap it l i)(hl:qv k s.heap l items)(hx:items[i]?=none)
  (hE:∀h' e,dw.ExtBut it s.heap h'->(∃o,h'.get? e=some o/\o.cls=.type "StopIteration")->E (.ref e) { s with heap:=h' }):wpAny (model prog w) A (dA (.ref it)) Q E s:=by
 cases k with
 |lst=>exact wpAny_nextOf_list_end hh hit hl hx hE
 |tup=>exact JA hh hit hl hx hE
structure Zp(k1 k2:Gf)(h:dw)(z TI TO i1 i2 l1 l2:aR)(f0:aG)(a b:aG)(n1 n2:Nat)(xs ys:Array aG):Prop where
 hz:DL h z TI TO f0
 hTI:sx h TI (.ref i1) (.ref i2)
 hTO:sx h TO a b
 h1:va k1 h i1 l1 n1
 h2:va k2 h i2 l2 n2
 s1:qv k1 h l1 xs
 s2:qv k2 h l2 ys
theorem JB{z TI TO i1 i2: aR}{n1 n2:Nat}{y a b: aG}{Q:Option aG->aU->Prop}(D:ZipApart z TI TO i1 i2 l1 l2)(Z:Zp k1 k2 s.heap z TI TO i1 i2 l1 l2 .none a b n1 n2 xs ys)(hx:xs[n1]?=some x)(hy:ys[n2]?=some y)
  (hQ:∀h',Zp k1 k2 h' z TI TO i1 i2 l1 l2 (rawInt s.heap.objs.size) x y (n1+1) (n2+1) xs ys->sx h' s.heap.objs.size x y->(∀c o,c≠z->c≠TO->c≠i1->c≠i2->s.heap.get? c=some o->h'.get? c=some o)->Q (some (.ref s.heap.objs.size)) { s with heap:=h' }):
  wpAny (model prog w) A (pyNext (.ref z)) Q E s:=by
 obtain⟨hz,hTI,hTO,h1,h2,s1,s2⟩:=Z;have hT:s.TypeIs (.ref z) "zip":=⟨_,hz,rfl⟩;unfold pyNext;refine av (yn (jN (name:=o4 "__next__") hT uC (oy uC hT F.entry_zip_next ?_ (F.args_zip_next_1 _))))
 show wpAny _ _ (field (.ref z) 2 >>= _) _ _ _;refine av (eN hz rfl (x:=.bool false) rfl ?_)
 show wpAny _ _ (field (.ref z) 3 >>= _) _ _ _;refine av (eN hz rfl (x:=.ref TI) rfl (av (jO hTI rfl ?_)))
 show wpAny _ _ (gY (.ref z) >>= _) _ _ _;refine av ?_
 unfold gY;refine av (eN hz rfl (x:=.none) rfl (a_ ?_))
 simp only[if_true];refine av (yN (av (eN hz rfl (x:=.ref TO) rfl (av (kb hz (by simp) λha Qx sa=>?_)))))
 replace Qx:DL ha z TI TO .ellipsis:=Qx
 refine av ?_
 simp only[rE,List.zipIdx_nil,Aq,List.forIn_nil];refine av (av (sy ?_))
 show wpAny _ _ (dA (.ref i1) >>= _) _ _ _;refine av (next_item (h1.at λo e=>sa.extBut _ o D.i1z e) (s1.at λo e=>sa.extBut _ o D.l1z e) hx λhb h1b sb=>a_ ?_)
 have tb:sx hb TO a b:=sb.extBut _ _ D.TOi1 (sa.extBut _ _ D.TOz hTO);refine av (jO tb rfl (av (wJ tb λhc tc sc=>?_)))
 replace tc:sx hc TO x b:=tc
 refine av (DM (a_ (av (av (sy ?_)))))
 show wpAny _ _ (dA (.ref i2) >>= _) _ _ _;refine av (next_item (h2.at λo e=>sc.extBut _ o D.TOi2.symm (sb.extBut _ o D.i12.symm (sa.extBut _ o D.i2z e))) (s2.at λo e=>sc.extBut _ o D.l2TO (sb.extBut _ o D.l2i1 (sa.extBut _ o D.l2z e))) hy λhd h2d sd=>a_ ?_)
 have td:sx hd TO x b:=sd.extBut _ _ D.TOi2 tc;refine av (jO td rfl (av (wJ td λhe te se=>?_)))
 replace te:sx he TO x y:=te
 refine av (DM (a_ (a_ (av (jO te rfl (av (wpAny_newTuple ?_)))))))
 have hsz:he.objs.size=s.heap.objs.size:=by rw[se.1,sd.1,sc.1,sb.1,sa.1]
 have kp:∀c o,c≠z->c≠TO->c≠i1->c≠i2->s.heap.get? c=some o->he.get? c=some o:=λc o c1 c2 c3 c4 e=>se.extBut _ _ c2 (sd.extBut _ _ c4 (sc.extBut _ _ c2 (sb.extBut _ _ c3 (sa.extBut _ _ c1 e))))
 have ze:DL he z TI TO .ellipsis:=se.extBut _ _ D.TOz.symm (sd.extBut _ _ D.i2z.symm (sc.extBut _ _ D.TOz.symm (sb.extBut _ _ D.i1z.symm Qx)));have h1e:va k1 he i1 l1 (n1+1):=h1b.at λo e=>se.extBut _ o D.TOi1.symm (sd.extBut _ o D.i12 (sc.extBut _ o D.TOi1.symm e))
 have h2e:va k2 he i2 l2 (n2+1):=h2d.at λo e=>se.extBut _ o D.TOi2.symm e
 show wpAny _ _ (o8 (.ref z) (.ref he.objs.size) >>= _) _ _ _;refine av ?_
 unfold o8;have zf:DL (he.push { cls:=.type "tuple",data:=.seq #[x,y] }) z TI TO .ellipsis:=aF _ ze;refine av (kb zf (by simp) λhg zg sg=>?_)
 replace zg:DL hg z TI TO (rawInt he.objs.size):=zg
 refine kb zg (by simp) λhi zi si=>?_
 replace zi:DL hi z TI TO (rawInt he.objs.size):=zi
 have up:∀c o,c≠z->he.get? c=some o->hi.get? c=some o:=λc o c1 e=>si.extBut _ _ c1 (sg.extBut _ _ c1 (aF _ e))
 have ti:sx hi he.objs.size x y:=si.extBut _ _ (fG (a9 ze)) (sg.extBut _ _ (fG (a9 ze)) (bN _ rfl));rw[hsz]at zi ti;refine a_ ⟨_,rfl,?_⟩
 show wpAny _ _ (pure (some (bA he.objs.size))) _ _ _;rw[hsz];refine a_ (hQ hi ⟨zi,up _ _ D.TIz (kp _ _ D.TIz D.TITO D.TIi1 D.TIi2 hTI),up _ _ D.TOz te,h1e.at λo e=>up _ o D.i1z e,h2e.at λo e=>up _ o D.i2z e,s1.at λo e=>up _ o D.l1z (kp _ o D.l1z D.l1TO D.l1i1 D.l1i2 e),s2.at λo e=>up _ o D.l2z (kp _ o D.l2z D.l2TO D.l2i1 D.l2i2 e)⟩ ti λc o c1 c2 c3 c4 e=>up c o c1 (kp c o c1 c2 c3 c4 e))
theorem Ly{z TI TO i1 i2: aR}{n1 n2:Nat}{a b:aG}{Q:Option aG->aU->Prop}(hh:A.handled=none)(D:ZipApart z TI TO i1 i2 l1 l2)(Z:Zp k1 k2 s.heap z TI TO i1 i2 l1 l2 .none a b n1 n2 xs ys)(OL:xs[n1]?=none\/ys[n2]?=none)
  (hQ:∀h',(∀c o,c≠z->c≠TO->c≠i1->c≠i2->s.heap.get? c=some o->h'.get? c=some o)->Q none { s with heap:=h' }):wpAny (model prog w) A (pyNext (.ref z)) Q E s:=by
 obtain⟨hz,hTI,hTO,h1,h2,s1,s2⟩:=Z;have hT:s.TypeIs (.ref z) "zip":=⟨_,hz,rfl⟩;have fin:∀h' e,(∀c o,c≠z->c≠TO->c≠i1->c≠i2->s.heap.get? c=some o->h'.get? c=some o)->(∃o,h'.get? e=some o/\o.cls=.type "StopIteration")->wpAny (model prog w) A (do if <-isInstance (.ref e) (.type "StopIteration")then pure none else throw (.ref e)) Q E { s with heap:=h' }:=by
  intro h' e hk ⟨o,ho,hc⟩;exact av (wpAny_isInstance (T:="StopIteration") (b:=true) (s:={ s with heap:=h' }) ⟨o,ho,hc⟩ isSubtype_stop (a_ (hQ _ hk)))
 unfold pyNext;refine av (yn (jN (name:=o4 "__next__") hT uC (oy uC hT F.entry_zip_next ?_ (F.args_zip_next_1 _))))
 show wpAny _ _ (field (.ref z) 2 >>= _) _ _ _;refine av (eN hz rfl (x:=.bool false) rfl ?_)
 show wpAny _ _ (field (.ref z) 3 >>= _) _ _ _;refine av (eN hz rfl (x:=.ref TI) rfl (av (jO hTI rfl ?_)))
 show wpAny _ _ (gY (.ref z) >>= _) _ _ _;refine av ?_
 unfold gY;refine av (eN hz rfl (x:=.none) rfl (a_ ?_))
 simp only[if_true];refine av (yN (av (eN hz rfl (x:=.ref TO) rfl (av (kb hz (by simp) λha Qx sa=>?_)))))
 replace Qx:DL ha z TI TO .ellipsis:=Qx
 refine av ?_
 simp only[rE,List.zipIdx_nil,Aq,List.forIn_nil];refine av (av (sy ?_))
 show wpAny _ _ (dA (.ref i1) >>= _) _ _ _;cases hx:xs[n1]? with
 |none=>
  refine av (next_end hh (h1.at λo e=>sa.extBut _ o D.i1z e) (s1.at λo e=>sa.extBut _ o D.l1z e) hx λhb e sb he=>?_)
  obtain⟨oe,Sz,V4⟩:=he;have zb:DL hb z TI TO .ellipsis:=sb _ _ D.i1z.symm Qx;have ne:e≠z:=λx=>by subst x;rw[zb]at Sz;cases Sz;simp at V4
  exact kb zb (by simp) λhc _ sc=>fin hc e (λc o c1 _ c3 _ x=>sc.extBut _ _ c1 (sb _ _ c3 (sa.extBut _ _ c1 x))) ⟨oe,sc.extBut _ _ ne Sz,V4⟩
 |some x=>
  have hy:ys[n2]?=none:=by
   rcases OL with h|h
   ·rw[hx]at h;cases h
   ·exact h
  refine av (next_item (h1.at λo e=>sa.extBut _ o D.i1z e) (s1.at λo e=>sa.extBut _ o D.l1z e) hx λhb h1b sb=>a_ ?_)
  have tb:sx hb TO a b:=sb.extBut _ _ D.TOi1 (sa.extBut _ _ D.TOz hTO);refine av (jO tb rfl (av (wJ tb λhc tc sc=>?_)))
  refine av (DM (a_ (av (av (sy ?_)))))
  show wpAny _ _ (dA (.ref i2) >>= _) _ _ _;refine av (next_end hh (h2.at λo e=>sc.extBut _ o D.TOi2.symm (sb.extBut _ o D.i12.symm (sa.extBut _ o D.i2z e))) (s2.at λo e=>sc.extBut _ o D.l2TO (sb.extBut _ o D.l2i1 (sa.extBut _ o D.l2z e))) hy λhd e sd he=>?_)
  obtain⟨oe,Sz,V4⟩:=he;have zd:DL hd z TI TO .ellipsis:=sd _ _ D.i2z.symm (sc.extBut _ _ D.TOz.symm (sb.extBut _ _ D.i1z.symm Qx));have ne:e≠z:=λx=>by subst x;rw[zd]at Sz;cases Sz;simp at V4
  exact kb zd (by simp) λhg _ sg=>fin hg e (λc o c1 c2 c3 c4 x=>sg.extBut _ _ c1 (sd _ _ c4 (sc.extBut _ _ c2 (sb.extBut _ _ c3 (sa.extBut _ _ c1 x))))) ⟨oe,sg.extBut _ _ ne Sz,V4⟩
def rH(k:Gf)(l:aR):Obj:=match k with | .lst=>{ cls:=.type "list_iterator",data:=.fields #[.ref l,.int 0 0] } | .tup=>{ cls:=.type "tuple_iterator",data:=.fields #[.ref l,.int 0 0] }
theorem Il(hl:qv k s.heap l xs)(h:Q (.ref s.heap.objs.size) { s with heap:=s.heap.push (rH k l) }):wpAny (model prog w) A (pyIter (.ref l)) Q E s:=by
 cases k with
 |lst=>exact rX hl h
 |tup=>exact yO hl h
def Ft(k1 k2:Gf)(h:dw)(l1 l2:aR):dw:=(h.push (rH k1 l1)).push (rH k2 l2)
def Z0(k1 k2:Gf)(h:dw)(l1 l2:aR):dw:=(((Ft k1 k2 h l1 l2).push { cls:=.type "tuple",data:=.seq #[.ref h.objs.size,.ref (h.push (rH k1 l1)).objs.size] }).push { cls:=.type "tuple",data:=.seq #[.none,.none] }).push
 { cls:=.type "zip",data:=.fields #[.none,.bool false,.bool false,.ref (Ft k1 k2 h l1 l2).objs.size,.ref ((Ft k1 k2 h l1 l2).push { cls:=.type "tuple",data:=.seq #[.ref h.objs.size,.ref (h.push (rH k1 l1)).objs.size] }).objs.size] }
theorem qv.push(x:qv k h l xs)(o:Obj):qv k (h.push o) l xs:=x.at λ_ e=>aF _ e
theorem Gg(k1 k2:Gf)(l1 l2:aR)(xs ys:Array aG):Meets (qf.«zip.__new__» ⟨[.type "zip",.ref l1,.ref l2],[]⟩) (λ_ R s=>qv k1 s.heap l1 xs/\qv k2 s.heap l2 ys/\
  R (.ok (.ret (.ref (((Ft k1 k2 s.heap l1 l2).push { cls:=.type "tuple",data:=.seq #[.ref s.heap.objs.size,.ref (s.heap.push (rH k1 l1)).objs.size] }).push { cls:=.type "tuple",data:=.seq #[.none,.none] }).objs.size))) { s with heap:=Z0 k1 k2 s.heap l1 l2 }):=
 .of_wp λprog w A R s h=>by
  obtain⟨hp,g,d,tk,os⟩:=s;obtain⟨SD,SG,h⟩:=h;have Jt:=sub_zip;have a1:qv k1 (aU.heap ⟨hp,g,d,tk,os⟩) l1 xs:=SD;have a2:qv k2 (aU.heap ⟨hp.push (rH k1 l1),g,d,tk,os⟩) l2 ys:=SG.push _
  wp_walk using Il a1,Il a2
  exact⟨_,rfl,h⟩
theorem Eh{i: aR}(e:h.get? i=some (rH k l)):va k h i l 0:=by
 cases k with
 |lst=>exact(⟨_,e,rfl,rfl⟩:h.IsListIter i l 0)
 |tup=>exact(⟨_,e,rfl,rfl⟩:h.IsTupleIter i l 0)
theorem zA(k:Gf)(l:aR):(rH k l).isFreed=false:=by cases k<;>rfl
theorem JC(SD:qv k1 s.heap l1 xs)(SG:qv k2 s.heap l2 ys)
  (h:∀h',Zp k1 k2 h' (s.heap.objs.size+4) (s.heap.objs.size+2) (s.heap.objs.size+3) s.heap.objs.size (s.heap.objs.size+1) l1 l2 .none .none .none 0 0 xs ys->(∀c o,s.heap.get? c=some o->h'.get? c=some o)->Q (.ref (s.heap.objs.size+4)) { s with heap:=h' }):
  wpAny (model prog w) A (call (.type "zip") [.ref l1,.ref l2]) Q E s:=by
 refine callType_new F.called_zip (by decide) (F.typeCall_zip_2 _ _) (F.newCall_zip_2 _ _) (λobj=>F.args_object_init_3 obj _ _) F.entry_zip_new (Gg k1 k2 l1 l2 xs ys) ⟨SD,SG,?_⟩
 have z1:(s.heap.push (rH k1 l1)).objs.size=s.heap.objs.size+1:=gE ..;have z2:(Ft k1 k2 s.heap l1 l2).objs.size=s.heap.objs.size+2:=by unfold Ft;rw[gE,z1]
 generalize hT:({ cls:=.type "tuple",data:=.seq #[.ref s.heap.objs.size,.ref (s.heap.push (rH k1 l1)).objs.size] }:Obj)=tI
 generalize Z1:({ cls:=.type "tuple",data:=.seq #[.none,.none] }:Obj)=tO
 have z3:((Ft k1 k2 s.heap l1 l2).push tI).objs.size=s.heap.objs.size+3:=by rw[gE,z2]
 have z4:(((Ft k1 k2 s.heap l1 l2).push tI).push tO).objs.size=s.heap.objs.size+4:=by rw[gE,z3]
 have fI:tI.isFreed=false:=by rw[<-hT];rfl
 have fO:tO.isFreed=false:=by rw[<-Z1];rfl
 have eq:Z0 k1 k2 s.heap l1 l2=(((Ft k1 k2 s.heap l1 l2).push tI).push tO).push { cls:=.type "zip",data:=.fields #[.none,.bool false,.bool false,.ref (s.heap.objs.size+2),.ref (s.heap.objs.size+3)] }:=by
  unfold Z0;rw[hT,Z1,z2,z3]
 rw[eq,z4];have g5:((((Ft k1 k2 s.heap l1 l2).push tI).push tO).push { cls:=.type "zip",data:=.fields #[.none,.bool false,.bool false,.ref (s.heap.objs.size+2),.ref (s.heap.objs.size+3)] }).get? (s.heap.objs.size+4)=some { cls:=.type "zip",data:=.fields #[.none,.bool false,.bool false,.ref (s.heap.objs.size+2),.ref (s.heap.objs.size+3)] }:=by
  rw[<-z4];exact bN _ rfl
 have up3:∀c o,((Ft k1 k2 s.heap l1 l2).push tI).get? c=some o->((((Ft k1 k2 s.heap l1 l2).push tI).push tO).push { cls:=.type "zip",data:=.fields #[.none,.bool false,.bool false,.ref (s.heap.objs.size+2),.ref (s.heap.objs.size+3)] }).get? c=some o:=λc o e=>aF _ (aF _ e)
 have V5:∀c o,(Ft k1 k2 s.heap l1 l2).get? c=some o->_:=λc o e=>up3 c o (aF _ e)
 have Z2:∀c o,s.heap.get? c=some o->(Ft k1 k2 s.heap l1 l2).get? c=some o:=λc o e=>aF _ (aF _ e)
 refine⟨⟨_,g5,rfl⟩,h _ ⟨g5,?_,?_,?_,?_,?_,?_⟩ λc o e=>V5 c o (Z2 c o e)⟩
 ·refine up3 _ _ ?_
  rw[<-z2];have:=bN (Ft k1 k2 s.heap l1 l2) fI;rw[this,<-hT,z1]
 ·refine aF _ ?_
  rw[<-z3];have:=bN ((Ft k1 k2 s.heap l1 l2).push tI) fO;rw[this,<-Z1]
 ·exact Eh (V5 _ _ (aF _ (bN _ (zA k1 l1))))
 ·refine Eh (V5 _ _ ?_)
  have:=bN (s.heap.push (rH k1 l1)) (zA k2 l2);rw[z1]at this;exact this
 ·exact SD.at λo e=>V5 _ o (Z2 _ o e)
 ·exact SG.at λo e=>V5 _ o (Z2 _ o e)
end
def Im(k:Gf)(K:au)(H:Hp)(a:aR)(xs:List V):Prop:=match k with | .lst=>mJ K H a xs | .tup=>rF K H a xs
theorem Inv.sq{σ:St}{xs:List V}(I:Inv X pins σ H s)(h:Im k X.K H a xs):∃its,eO xs its/\qv k s.heap a its.toArray/\xs.length<=sizeLine:=by
 cases k with
 |lst=>obtain⟨its,r,p,z⟩:=I.list h;exact⟨its,r,p.isList,z⟩
 |tup=>obtain⟨its,r,p,z⟩:=I.tuple h;exact⟨its,r,(show s.heap.IsTuple a its.toArray from p),z⟩
theorem Inv.Lz{σ:St}{xs ys:List V}(I:Inv X pins σ H s)(h:Im k X.K H a xs)(h':Im k X.K H a ys):xs=ys:=by
 cases k with
 |lst=>exact I.yZ h h'
 |tup=>exact I.Bb h h'
theorem eC.Qy{H': Hp}{xs:List V}(e:eC H H')(h:Im k K H a xs):Im k K H' a xs:=by
 cases k with
 |lst=>exact e.seq h
 |tup=>exact e.qM h
def Itz(k1 k2:Gf)(K:au)(a b:aR):It:=
 ⟨λi H=>∃xs x ys y,Im k1 K H a xs/\xs[i]?=some x/\Im k2 K H b ys/\ys[i]?=some y,
  λi H v H'=>∃t x y,v=.ref t/\H t=none/\H'=upd H t (.tup [x,y])/\(∀xs,Im k1 K H a xs->xs[i]?=some x)/\∀ys,Im k2 K H b ys->ys[i]?=some y,
  λi H=>∃xs ys,Im k1 K H a xs/\Im k2 K H b ys/\(xs.length<=i\/ys.length<=i)⟩
theorem LC{P:bL}{w:cH}{kk}{z TI TO i1 i2: aR}(D:ZipApart z TI TO i1 i2 l1 l2):
  Turn P w K (.Tuple elts kk tp) (Itz k1 k2 K l1 l2) [z,TI,TO,i1,i2] z (λi h=>DL h z TI TO .none/\sx h TI (.ref i1) (.ref i2)/\(∃a b,sx h TO a b)/\va k1 h i1 l1 i/\va k2 h i2 l2 i) where
 mem:=by simp
 obj:=λi h st b hb=>by
  obtain⟨hz,hTI,⟨a,c,hTO⟩,h1,h2⟩:=st;simp only[aE,bB,or_false]at hb;rcases hb with rfl|rfl|rfl|rfl|rfl
  ·exact⟨_,hz,λv z=>by cases z⟩
  ·exact⟨_,hTI,λv z=>by cases z⟩
  ·exact⟨_,hTO,λv z=>by cases z⟩
  ·exact h1.get
  ·exact h2.get
 keep:=λi h h' st kp=>by
  obtain⟨hz,hTI,⟨a,c,hTO⟩,h1,h2⟩:=st;exact⟨kp z (by simp) _ hz,kp TI (by simp) _ hTI,⟨a,c,kp TO (by simp) _ hTO⟩,h1.at λo e=>kp i1 (by simp) o e,h2.at λo e=>kp i2 (by simp) o e⟩
 item:=by
  intro X hP hw hK hc i pins s σ H E I hf st hg;subst hP hw hK;obtain⟨hz,hTI,⟨a,c,hTO⟩,h1,h2⟩:=st;obtain⟨xs,x,ys,y,LD,hx,F9,hy⟩:=hg;obtain⟨its,rv,p1,_⟩:=I.sq LD;obtain⟨jts,X3,p2,_⟩:=I.sq F9;obtain⟨u,hu,ru⟩:=rv.get hx;obtain⟨u2,hu2,Uh⟩:=X3.get hy;refine JB D ⟨hz,hTI,hTO,h1,h2,p1,p2⟩ (x:=u) (y:=u2) (by simpa using hu) (by simpa using hu2) λha Z ht hk=>?_
  obtain⟨az,aTI,aTO,a1,a2,_,_⟩:=Z;refine⟨.ref s.heap.objs.size,rfl,wpAny_letOwnedTupleGo_zip az λhb bz sb=>?_⟩
  have zlt:z<s.heap.objs.size:=a9 hz;have k2:∀b o,b∉[z,TI,TO,i1,i2]->s.heap.get? b=some o->hb.get? b=some o:=λb o nb q=>by
   have n1:b≠z:=λe=>nb (by simp[e])
   have n2:b≠TO:=λe=>nb (by simp[e])
   have n3:b≠i1:=λe=>nb (by simp[e])
   have n4:b≠i2:=λe=>nb (by simp[e])
   exact(sb.2 b n1).trans (hk b o n1 n2 n3 n4 q)
  have I2:Inv X pins σ H { s with heap:=hb,toks:=s.toks }:=I.yv k2 hf
  have Ud:sx hb s.heap.objs.size u u2:=(sb.2 _ (fG zlt)).trans ht;have fT:vK X pins H s.heap.objs.size:=I.AJ (ay _) I.fresh;have I3:Inv X pins σ (upd H s.heap.objs.size (.tup [x,y])) { s with heap:=hb,toks:=s.toks }:=
   I2.track fT ⟨by show 2<=sizeLine;rw[du];decide,[u,u2],.cons ru (.cons Uh .nil),⟨_,Ud,rfl,_,rfl⟩⟩
  have up:∀b o,b≠z->ha.get? b=some o->hb.get? b=some o:=λb o nb q=>(sb.2 b nb).trans q
  refine⟨.ref s.heap.objs.size,_,I3,rfl,⟨_,x,y,rfl,I.fresh,rfl,λzs Z3=>by rw[I.Lz Z3 LD];exact hx,λzs Z3=>by rw[I.Lz Z3 F9];exact hy⟩,⟨bz,up _ _ D.TIz aTI,⟨_,_,up _ _ D.TOz aTO⟩,a1.at λo q=>up _ o D.i1z q,a2.at λo q=>up _ o D.i2z q⟩,λb V6=>?_⟩
  have t_:b<s.heap.objs.size:=by
   simp only[aE,bB,or_false]at V6;rcases V6 with rfl|rfl|rfl|rfl|rfl
   ·exact zlt
   ·exact a9 hTI
   ·exact a9 hTO
   ·obtain⟨o,q,_⟩:=h1.get;exact a9 q
   ·obtain⟨o,q,_⟩:=h2.get;exact a9 q
  rw[aY (bu t_)];exact(hf b V6).1
 done:=by
  intro X hP hw hK hc i pins s σ H E I hf st hg;subst hP hw hK;obtain⟨hz,hTI,⟨a,c,hTO⟩,h1,h2⟩:=st;obtain⟨xs,ys,LD,F9,hx⟩:=hg;obtain⟨its,rv,p1,_⟩:=I.sq LD;obtain⟨jts,X3,p2,_⟩:=I.sq F9;have e1:=rv.length;have e2:=X3.length;refine Ly (I.ok.hd hc) D ⟨hz,hTI,hTO,h1,h2,p1,p2⟩ ?_ λh' hk=>⟨rfl,I.yv (ch:=[z,TI,TO,i1,i2]) (t':=s.toks) (λb o hb q=>hk b o (λe=>hb (by simp[e])) (λe=>hb (by simp[e])) (λe=>hb (by simp[e])) (λe=>hb (by simp[e])) q) hf⟩
  rcases hx with hx|hx
  ·left;simp;omega
  ·right;simp;omega
 self:=λ_ _ _ _ _ st h=>wpAny_pyIter_zip st.1 h
def Z4(k1 k2:Gf)(K:au)(ta:TA):TI:=λσ H R=>ta σ H λvs H1=>∃a b,vs=[.ref a,.ref b]/\(∃xs,Im k1 K H1 a xs)/\(∃ys,Im k2 K H1 b ys)/\R (Itz k1 k2 K a b) H1
theorem boot_zip:bootBuiltins "zip"=some (.type "zip"):=rfl
theorem SJ{a b:cx}{ta:TA}{p pos: Pos}{kk}(k1 k2:Gf)(hg:Gl X "zip")(hm:X.mg "zip"=none)(ha:PA X [a,b] ta)(hs:starEach [a,b] X.env=[(false,eval a X.env),(false,eval b X.env)]:=by rfl)(rG:starEach [b] X.env=[(false,eval b X.env)]:=by rfl):
  PI X (.Tuple elts kk tp) (.Call (.Name "zip" p) [a,b] [] pos) (Z4 k1 k2 X.K ta):=by
 intro pins s σ H R I h;refine Call_ (wM I hg hm boot_zip (jD (g8 (ha pos pins s σ H _ I h) λus s1 ⟨vs,H1,I1,r1,q1⟩=>?_) (by rw[hs,rG]) (by rw[rG];rfl)))
 obtain⟨l1,l2,e,⟨xs,LD⟩,⟨ys,F9⟩,q⟩:=q1;subst e;obtain⟨u,u2,rfl,rx,rx2⟩:=vals2 r1;cases rx;cases rx2;obtain⟨its,rv,p1,_⟩:=I1.sq LD;obtain⟨jts,X3,p2,_⟩:=I1.sq F9;obtain⟨o1,e1⟩:=p1.get;obtain⟨o2,e2⟩:=p2.get;have X4:=a9 e1;have X5:=a9 e2;refine JC p1 p2 λh' Z hk=>wpAny_pyIter_zip Z.hz ?_
 have I2:Inv X pins σ H1 { s1 with heap:=h' }:=I1.kept (t':=s1.toks) hk
 have D:ZipApart (s1.heap.objs.size+4) (s1.heap.objs.size+2) (s1.heap.objs.size+3) s1.heap.objs.size (s1.heap.objs.size+1) l1 l2:=by
  constructor
  ·exact bu (jB (by decide) _)
  ·exact bu (jB (by decide) _)
  ·exact bu (rO (by decide))
  ·exact bu (jB (by decide) _)
  ·exact bu (jB (by decide) _)
  ·exact fG (rO (by decide))
  ·exact fG (jB (by decide) _)
  ·exact fG (rO (by decide))
  ·exact fG (jB (by decide) _)
  ·exact bu (kS _)
  ·exact bu (bW X4 (gi _ _))
  ·exact bu (bW X4 (gi _ _))
  ·exact bu X4
  ·exact bu (bW X4 (gi _ _))
  ·exact bu (bW X5 (gi _ _))
  ·exact bu (bW X5 (gi _ _))
  ·exact bu X5
  ·exact bu (bW X5 (gi _ _))
 refine⟨_,[s1.heap.objs.size+4,s1.heap.objs.size+2,s1.heap.objs.size+3,s1.heap.objs.size,s1.heap.objs.size+1],_,_,H1,rfl,I2,LC D,⟨Z.hz,Z.hTI,⟨_,_,Z.hTO⟩,Z.h1,Z.h2⟩,λb hb=>?_,q⟩
 have hle:s1.heap.objs.size<=b:=by
  simp only[aE,bB,or_false]at hb;rcases hb with rfl|rfl|rfl|rfl|rfl
  ·exact gi _ _
  ·exact gi _ _
  ·exact gi _ _
  ·exact ay _
  ·exact gi _ _
 exact I1.AJ hle (I1.hok.fresh hle)
def zB(ds es:List ao):List ao:=(ds.zip es).map λp=>.tuple [p.1,p.2]
theorem xI(ds es:List ao):(zB ds es).length=min ds.length es.length:=by simp[zB]
theorem LJ{es: List ao}{d:ao}(h:(zB ds es)[i]?=some d):∃x y,ds[i]?=some x/\es[i]?=some y/\d=.tuple [x,y]:=by
 unfold zB at h;rw[aW]at h;cases e:(ds.zip es)[i]? with
 |none=>rw[e]at h;cases h
 |some p=>
  rw[e]at h;cases h;rw[List.getElem?_zip_eq_some]at e
  exact⟨_,_,e.1,e.2,rfl⟩
def SK(k:Gf)(ds:List ao):ao:=match k with | .lst=>.list ds | .tup=>.tuple ds
theorem Rep.Qy{v:V}(r:Rep K H v (SK k ds)):∃a xs,v=.ref a/\Im k K H a xs/\dz K H xs ds:=by
 cases k with
 |lst=>cases(show Rep K H v (.list ds)from r)with|lst h t=>exact⟨_,_,rfl,h,t⟩
 |tup=>cases(show Rep K H v (.tuple ds)from r)with|tup h t=>exact⟨_,_,rfl,h,t⟩
theorem Gh{a b:cx}{δ:List Slot}{es: List ao}{p pos: Pos}{kk}(k1 k2:Gf)(h1:VE X a δ (SK k1 ds))(h2:VE X b δ (SK k2 es))(hm:X.mg "zip"=none)(hg:Gl X "zip":=by rfl)(hs:starEach [a,b] X.env=(false,eval a X.env)::starEach [b] X.env:=by rfl)(rG:starEach [b] X.env=(false,eval b X.env)::starEach [] X.env:=by rfl)(hn:starEach [] X.env=[]:=by rfl):
  VI X (.Tuple elts kk tp) (.Call (.Name "zip" p) [a,b] [] pos) δ (zB ds es):=
 ⟨_,SJ k1 k2 hg hm (dG d_ (dG d_ gI rG) hs) (by rw[hs,rG,hn]) (by rw[rG,hn]),λB0 B σ H0 H R f q=>h1 B0 B σ H0 H _ f λv H1 eQ g r1=>h2 B0 B σ H1 eQ _ (f.grow g) λu H2 jH g2 r2=>by
  obtain⟨a1,xs,rfl,LD,V7⟩:=r1.Qy;obtain⟨a2,ys,rfl,F9,Ui⟩:=r2.Qy;have V7:=V7.mono g2.iq;have LD:=g2.iq.Qy LD;refine⟨a1,a2,rfl,⟨_,g2.sub.Qy LD⟩,⟨_,g2.sub.Qy F9⟩,q _ H2 jH (g.trans g2) λHa Hb s1 s2 i=>?_⟩
  have l1:=V7.length;have l2:=Ui.length;have Z5:=(s1.trans s2).Qy LD;have Z6:=(s1.trans s2).Qy F9;refine⟨λhi=>?_,λhi=>⟨_,_,Z5,Z6,by rw[xI]at hi;omega⟩,λx Av d hd ⟨t,x1,y1,e1,e2,e3,e4,e5⟩=>?_⟩
  ·rw[xI]at hi
   obtain⟨x,hx,_⟩:=V7.get (i:=i) (d:=ds[i]'(by omega)) (by simp)
   obtain⟨y,hy,_⟩:=Ui.get (i:=i) (d:=es[i]'(by omega)) (by simp)
   exact⟨_,x,_,y,Z5,hx,Z6,hy⟩
  ·obtain⟨dx,dy,hx,hy,rfl⟩:=LJ hd
   subst e1;subst e3;refine⟨upd Ha t (.tup [x1,y1]),.laid s2 e2,.tup (rF.of bQ) (.cons ?_ (.cons ?_ .nil))⟩
   ·exact((V7.mono s1).at hx (e4 _ Z5)).mono (eL.laid s2 e2).iq
   ·exact((Ui.mono s1).at hy (e5 _ Z6)).mono (eL.laid s2 e2).iq⟩
end L2
namespace L2
open PySem PySem.Spec PyProof.Rows
open AutoSeq1 (wpAny_loadPart')
theorem JD(l:aR)(items:Array aG)(n:Nat)(dd:Option aR)(sl:Array (Option aG))(x:aG)(e:aG->Bool)(i j:Nat)(t:Tok)(yr:i<=j)(hj:j<items.size)(SM:(j:Int)<2^63-1)
  (hit:e items[j]=true)(Kn:∀m (hm:m<items.size),i<=m->m<j->e items[m]=false):
  Meets (qf.«list.index» ⟨[.ref l,x,.int i t],[]⟩)
   (λA R s=>s.heap.get? l=some { cls:=.type "list",dict:=dd,data:=.seq items n,slots:=sl }/\(∀y,y∈items->SeqAt.EqAt A.in1 s y x (e y))/\R (.ok (.ret (.int j s.toks))) { s with toks:=s.toks+1 }):=by
 intro prog w A R s h;obtain⟨hp,g,d,tk,os⟩:=s;obtain⟨hl,he,h⟩:=h
 wp_walk using g7 hl
 have a1:((λi:Int=>if i<0 then max 0 (i+(items.size:Int))else i) ((some (i:Int)).getD 0))=((i:Nat):Int):=by
  show(if(i:Int)<0 then max 0 ((i:Int)+(items.size:Int)) else(i:Int))=_
  rw[qQ2 (by omega)]
 have a2:((λi:Int=>if i<0 then max 0 (i+(items.size:Int))else i) ((none:Option Int).getD (2^63-1)))=2^63-1:=by simp
 rw[a1,a2];exact⟨plainId_quiet sA _,vy PySem.MeetsSeq.entry_index_loop (by
  rw[tT sA _];exact SeqAt.index_loopAt l items n dd sl x e (2^63-1) j hj SM hit _ i rfl yr Kn prog w A R _ ⟨hl,he,h⟩)⟩
section
variable{X:Cx}{a b c e:cx}{es:List cx}{δ:List Slot}{d d1 d2 d3:ao}{ds:List ao}{pos:Pos}{k:Nat}
def OO(K:au)(n:Nat):V->List V->Hp->VK->Prop:=λx vs H Q=>∃p ds y d i j,x=.ref p/\vs=[y,.int ((i:Nat):Int)]/\Rep K H (.ref p) (.list ds)/\Rep K H y d/\Lay n (.list ds)/\Lay n d/\i<=j/\(∃h:j<ds.length,dF ds[j] d=true)/\
 (∀m (h:m<ds.length),i<=m->m<j->dF ds[m] d=false)/\Q (.int j) H
theorem JF{n:Nat}(hu:X.A.units+n+2<cLine):Vi X "list.index" (OO X.K n):=by
 intro pins s σ H x vs v us Q I rx rv h;obtain⟨p,ds,y,d,i,j,rfl,rfl,r1,r2,l1,l2,yr,⟨hj,hit⟩,Kn,q⟩:=h;cases rx;obtain⟨u,u2,rfl,ru,Uh⟩:=vals2 rv;obtain⟨t2,rfl⟩:=Uh;obtain⟨bs,rb⟩:=kX I d l2.1 r2 ru;cases r1 with
 |lst hq rs=>
  obtain⟨its,rvs,⟨⟨cls,dd,data,sl⟩,m,eo,ec,_,ed⟩,hz⟩:=I.list hq;simp only at ec ed;subst ec ed;obtain⟨as,ra⟩:=pD I ds l1.1 rs rvs;have hl:=rvs.length;have SG:=rs.length;have hm:=SeqAt.readsAll_map ds its as l1.1 ra;have rd:∀i (h1:i<its.length) (h2:i<ds.length),wK s.heap its[i]=ds[i]:=λi h1 h2=>by
   have e1:(its.map (wK s.heap))[i]?=some (wK s.heap its[i]):=by simp[h1]
   rw[hm]at e1;rw[ax h2]at e1;exact(dC e1).symm
  have h1:=l2.2;have hn:=uX;have zfh:sizeLine=16777216:=du;refine j_ F.slot_list_index ⟨_,eo,rfl⟩ F.entry_list_index (F.args_list_index_3 _ _ _) (JD p its.toArray m dd sl u (λy=>dF (wK s.heap y) d) i j t2 yr (by simp;omega) (by omega) ?_ ?_) ⟨eo,?_,?_⟩
  ·have:=rd j (by omega) hj
   simp only[Hz];rw[this];exact hit
  ·intro i' hi Z7 Z8
   simp only[bD]at hi;have:=rd i' hi (by omega)
   simp only[Hz];rw[this];exact Kn i' (by omega) Z7 Z8
  ·exact SeqAt.items_eqAt (by simpa using ra) rb l1.1 l2.1 (by omega)
  ·exact⟨.int j,H,I.tok _,⟨_,rfl⟩,q⟩
theorem JG{i j:Nat}{ap:Pos}(hr:gj k X.A)(h1:VE X a δ (.list ds))(h2:VE X b δ d)(h3:VE X c δ (.int (i:Nat)))(l1:Lay 20 (.list ds))(l2:Lay 20 d)(yr:i<=j)(hj:∃h:j<ds.length,dF ds[j] d=true)(Kn:∀m (h:m<ds.length),i<=m->m<j->dF ds[m] d=false)
  (hs:starEach [b,c] X.env=(false,eval b X.env)::starEach [c] X.env:=by rfl)(rG:starEach [c] X.env=(false,eval c X.env)::starEach [] X.env:=by rfl)(oI:attributeBase a "index" X.env (eval a X.env)=eval a X.env:=by rfl)
  (u0:((backTo pos (starEach [b,c] X.env)).all (λx=>!x.1)&&(backToKw pos (keywordEach [] X.env)).all (λx=>x.1.isSome)&&decide (([b,c]:List cx).length+([]:List jz).length+(if([]:List jz).isEmpty then 0 else 1)<30))=true:=by rfl)
  (hline:(ap.endLine==pos.line)=true:=by rfl)(lb:(backTo pos (starEach [c] X.env)).any (·.1)=false:=by rfl):VE X (.Call (.Attribute a "index" ap) [b,c] [] pos) δ (.int j):=
 .of (zh ju PySem.F.slot_list_index PySem.F.type_list_index (JF (CW hr)) d_ (dG d_ (dG d_ gI rG) hs) oI u0 hline hs lb) λB0 B σ H0 H Q f q=>h1 B0 B σ H0 H _ f λv H1 eQ g r1=>by
  cases r1 with
  |lst hq rs=>
   refine⟨.inl ⟨rfl,_,g.sub.seq hq⟩,h2 B0 B σ H1 eQ _ (f.grow g) λu H2 jH g2 r2=>h3 B0 B σ H2 jH _ ((f.grow g).grow g2) λu3 H3 yw g3 r3=>?_⟩
   cases r3;have gg:=g2.trans g3;exact⟨_,ds,u,d,i,j,rfl,rfl,.lst (gg.sub.seq (gg.iq.seq hq)) (rs.mono (gg.iq.trans gg.sub)),(r2.mono g3.iq).mono g3.sub,l1,l2,yr,hj,Kn,q _ H3 yw (g.trans gg) (.int _)⟩
theorem yB{d1 d2:List ao}(h1:VE X a δ (.tuple d1))(h2:VE X b δ (.tuple d2))(hn:d1≠[])(hz:d1.length+d2.length<=sizeLine):VE X (.BinOp a .Add b pos) δ (.tuple (d1++d2)):=by
 refine .of (DX N6 d_ d_) λB0 B σ H0 H Q f q=>h1 B0 B σ H0 H _ f λv H1 eQ g1 r1=>h2 B0 B σ H1 eQ _ (f.grow g1) λu H2 jH g2 r2=>?_
 cases r1 with
 |tup hq r1=>
  cases r2 with
  |tup F9 r2=>
   have gg:=g1.trans g2;have e1:=r1.length;have hx:∀xs:List V,xs.length=d1.length->xs≠[]:=λxs h z=>by rw[z]at h;exact hn (nU h.symm)
   refine⟨_,_,_,_,rfl,rfl,g2.sub.qM (g2.iq.qM hq),g2.sub.qM F9,hx _ e1,by rw[e1,r2.length];exact hz,λhy=>?_,λ_ p hp=>q _ _ _ (gg.trans (.laid g2.sub hp)) (.tup (rF.of bQ) (((r1.mono g2.iq).append r2).mono (eL.laid g2.sub hp).iq))⟩
   subst hy;cases r2;rw[cF]at q;exact q _ H2 jH gg (.tup (g2.iq.qM hq) (r1.mono g2.iq))
end
end L2
namespace L2
open PySem PySem.Spec PyProof.Rows
variable{a p q:aR}{H:Hp}{kvs:List (Key×V)}{as:List aR}{xs:List V}{ig:Nat}{pt:Pos}{P:bL}{d:ao}{K:au}{Q:aG->aU->Prop}{w:cH}
def LK(K:au)(b:aR)(ws:List Str):Prop:=∃(o:Obj)(its:Array aG)(n:Nat),K.lookup b=some o/\o.cls=.type "tuple"/\o.data=.seq its n/\its.size<=sizeLine/\eO (ws.map V.str) its.toList
inductive GE(pr:Ci)(K:au):List Cj->List (Str×List Str)->Prop
 |nil:GE pr K [] []
 |cons {h:Int} {k:Str} {t:Tok} {b:aR} {ws:List Str} {es:List Cj} {kvs:List (Str×List Str)}:h=ao.keyHash pr k->LK K b ws->GE pr K es kvs->GE pr K (⟨h,.str k t,.ref b⟩::es) ((k,ws)::kvs)
structure GD(pr:Ci)(K:au)(a:aR)(kvs:List (Str×List Str)):Prop where
 nm:(a==sysModules)=false
 nd:(kvs.map (·.1)).Nodup
 ob:∃o es ep,K.lookup a=some o/\o.ExactDict/\o.data=.dict es ep/\GE pr K es.toList kvs
def ku(kvs:List (Str×List Str))(k:Str):Option (List Str):=(kvs.find? λp=>decide (p.1=k)).map (·.2)
theorem GE.pairs{P:bL}{w:cH}{K:au}:∀{es:List Cj}{kvs:List (Str×List Str)},GE w.params K es kvs->∃vs:List (Key×aG),Pairs (gq P w) es vs/\vs.map (·.1)=kvs.map (λp=>(b9 p.1:Key))/\
  (∀e∈es,∃k,(gq P w).is k e.key=true/\e.hash=(gq P w).hash k)/\∀k,match ku kvs k with|none=>valueAt vs (b9 k)=none|some ws=>∃b,valueAt vs (b9 k)=some (.ref b)/\LK K b ws
 |_,_,.nil=>⟨[],.nil,rfl,λe h=>by(cases h),λk=>rfl⟩
 |_,_,@GE.cons _ _ hh k t b ws es kvs e kt r=>by
  obtain⟨vs,h1,h2,h3,h4⟩:=GE.pairs (P:=P) r;refine⟨(.inr k,.ref b)::vs,.cons (sG P w k t) rfl h1,by rw[aN,aN,h2],λx hx=>?_,λj=>?_⟩
  ·rcases aE.mp hx with rfl|hx
   ·exact⟨.inr k,sG P w k t,by rw[e];rfl⟩
   ·exact h3 x hx
  ·by_cases hj:k=j
   ·subst hj
    have:ku ((k,ws)::kvs) k=some ws:=by simp[ku,fz]
    rw[this];exact⟨b,by simp[valueAt,fz],kt⟩
   ·have:ku ((k,ws)::kvs) j=ku kvs j:=by simp[ku,fz,hj]
    rw[this];have e2:valueAt ((b9 k,bA b)::vs) (b9 j:Key)=valueAt vs (b9 j):=by
     have:¬(b9 k:Key)=b9 j:=λz=>hj (by injection z)
     simp[valueAt,fz,this]
    rw[e2];exact h4 j
theorem GD.dict{h:dw}{kvs:List (Str×List Str)}(g:GD w.params K a kvs)(Rr:K.In h):∃vs:List (Key×aG),h.DictOf (gq P w) a vs/\∀k,match ku kvs k with|none=>valueAt vs (b9 k)=none|some ws=>∃b,valueAt vs (b9 k)=some (.ref b)/\LK K b ws:=by
 obtain⟨o,es,ep,h1,h2,h3,h4⟩:=g.ob;obtain⟨vs,p1,p2,p3,p4⟩:=h4.pairs (P:=P);refine⟨vs,⟨o,es,ep,Rr a o h1,h2,h3,λe he=>p3 e (by simpa using he),p1,?_⟩,p4⟩
 rw[p2];have nd:=g.nd
 clear p2 p4 h4
 induction kvs with
 |nil=>exact uB
 |cons p l ih=>
  rw[aN,eW]at nd ⊢;refine⟨λz=>nd.1 ?_,?_⟩
  ·obtain⟨q,hq,e⟩:=aA.mp z
   injection e with e
   exact aA.mpr ⟨q,hq,e⟩
  ·have go:∀l:List (Str×List Str),(l.map (·.1)).Nodup->(l.map λp=>(b9 p.1:Key)).Nodup:=by
    intro l
    induction l with
    |nil=>intro _;exact uB
    |cons p l ih=>
     intro nd;rw[aN,eW]at nd ⊢;refine⟨λz=>nd.1 ?_,ih nd.2⟩
     obtain⟨q,hq,e⟩:=aA.mp z
     injection e with e
     exact aA.mpr ⟨q,hq,e⟩
   exact go l nd.2
section
variable{X:Cx}{a b c e:cx}{δ:List Slot}{pos p:Pos}{k:Nat}{x y:Str}{kvs:List (Str×List Str)}{ws:List Str}{g:aR}
theorem w8:∀l:List Str,dz K H (l.map V.str) (l.map aQ)
 | []=>.nil
 |z::l=>.cons (.str z) (w8 l)
theorem Io(hm:X.mg x=some (.ref g))(G:GD X.w.params X.K g kvs)(h:VE X b δ (.str y))(hk:ku kvs y=some ws)(hg:Gl X x:=by rfl)(hs:Od b:=by intro _ _;rfl)(hd:(x==("__debug__":Str))=false:=by decide):VE X (.Subscript (.Name x p) b pos) δ (.tuple (ws.map .str)):=by
 have pe:PE X (.Subscript (.Name x p) b pos) (λσ H Q=>cE X b σ H λv H1=>v=.str y/\∀q,LK X.K q ws->Q (.ref q) H1):=by
  intro pins s σ H Q I hw;refine HW Ap.lookup hs (g8 (pq (pos:=p) hg hm (v:=.ref g) rfl hd pins s σ H (λv H'=>v=.ref g/\H'=H) I ⟨rfl,rfl⟩) λu s1 ⟨vx,H1,I1,rx,ex,eH⟩=>?_)
  subst ex eH;obtain rfl:u=bA g:=rx;refine g8 (hw pins s1 I1) λiv s2 ⟨v,H2,I2,rv,ev,q⟩=>?_
  subst ev;obtain⟨vs,dd,hv⟩:=G.dict (P:=X.prog) I2.vA;have hv:=hv y;rw[hk]at hv;obtain⟨bb,hb,kt⟩:=hv;refine⟨dd.typeIs,wpAny_getItem_of (uE (k:=.inr y) rv) dd.mapOf hb ?_⟩
  exact⟨.ref bb,H2,I2.tok _,rfl,q bb kt⟩
 exact .of pe λB0 B σ H0 H Q f q=>h B0 B σ H0 H _ f λv H1 eQ g1 r=>by
  cases r;exact⟨rfl,λb' hb=>q _ H1 eQ g1 (.tup (.inr hb) (w8 ws))⟩
theorem Bv(hm:X.mg x=some (.ref g))(G:GD X.w.params X.K g kvs)(h:VE X b δ (.str y))(hg:Gl X x:=by rfl)(hd:(x==("__debug__":Str))=false:=by decide)(hmk:behindInMarks .NotIn (.Name x p)=false:=by with_unfolding_all rfl):VT X (.Compare b [.NotIn] [.Name x p] pos) δ (!(ku kvs y).isSome):=by
 have pc:PC X .NotIn b (.Name x p) (λσ H Q=>cE X b σ H λv H1=>v=.str y/\Q (.bl (!(ku kvs y).isSome)) H1):=by
  intro pins s σ H Q I hw;refine g8 (hw pins s I) λiv s1 ⟨v,H1,I1,rv,ev,q⟩=>?_
  subst ev;refine g8 (pq (pos:=p) hg hm (v:=.ref g) rfl hd pins s1 σ H1 (λv H'=>v=.ref g/\H'=H1) I1 ⟨rfl,rfl⟩) λu s2 ⟨vx,H2,I2,rx,ex,eH⟩=>?_
  subst ex eH;obtain rfl:u=bA g:=rx;obtain⟨vs,dd,hv⟩:=G.dict (P:=X.prog) I2.vA;have hv:=hv y;refine wpAny_notIn_of (uE (k:=.inr y) rv) G.nm dd.mapOf ?_
  have e:(valueAt vs (b9 y)).isSome=(ku kvs y).isSome:=by
   cases el:ku kvs y with
   |none=>rw[el]at hv;rw[hv];rfl
   |some ws=>rw[el]at hv;obtain⟨bb,hb,_⟩:=hv;rw[hb];rfl
  rw[e];exact⟨.bl _,H2,I2.tok _,rfl,q⟩
 exact .of (Ry pc hmk) λB0 B σ H0 H Q f q=>h B0 B σ H0 H _ f λv H1 eQ g1 r=>by
  cases r;exact⟨rfl,_,rfl,q H1 eQ g1⟩
end
section
variable{X:Cx}{a b c e:cx}{δ:List Slot}{d d1 d2:ao}{ds:List ao}{pos px py p:Pos}{x y:Str}{k:Nat}{kvs:List (Str×ao)}
theorem SN:XR X (λx lo hi H Q=>∃z,x=.str z/\z.length<=sizeLine/\Q (.str (kU z lo hi)) H):=by
 intro pins s σ H x v vl vu lo hi sl Q I rx hs pl pu h;obtain⟨z,rfl,hz,q⟩:=h;obtain⟨t,rfl⟩:=rx;refine⟨"str",_,PySem.F.slot_str_getitem.lookup,uW _ _ _,?_⟩
 have fin:∀(l u:Option (Int×Tok)),l.map (·.1)=lo->u.map (·.1)=hi->s.heap.IsSlice sl l u none->wpAny (model X.prog X.w) X.A (getItem (.str z t) (.ref sl)) (EP X pins σ Q) X.xe s:=by
  intro l u e1 e2 hl;subst e1 e2;refine wpAny_getItem_str_slice (l:=l) (u:=u) (st:=none) hl rfl (post_val_or_str ⟨cj (Fz z _ _) hz,λt' k=>?_⟩)
  exact⟨.str (kU z _ _),H,I.tok _,⟨t',rfl⟩,q⟩
 obtain⟨os,h1,h2,h3⟩:=hs;cases pl with
 |none=>cases pu with
  |none=>exact fin none none rfl rfl ⟨os,h1,h2,h3⟩
  |int j t2=>exact fin none (some (j,t2)) rfl rfl ⟨os,h1,h2,h3⟩
 |int i t1=>cases pu with
  |none=>exact fin (some (i,t1)) none rfl rfl ⟨os,h1,h2,h3⟩
  |int j t2=>exact fin (some (i,t1)) (some (j,t2)) rfl rfl ⟨os,h1,h2,h3⟩
theorem w_{lo hi:Option cx}{l u:Option Int}{p2:Pos}(h:VE X a δ (.str x))(hz:x.length<=sizeLine)(hl:uH X δ lo l)(hh:uH X δ hi u):VE X (.Subscript a (.Slice lo hi none p2) pos) δ (.str (kU x l u)):=by
 obtain⟨tl,pl,ql⟩:=hl.ok;obtain⟨th,ph,qh⟩:=hh.ok;refine .of (zc SN d_ pl ph) λB0 B σ H0 H Q f q=>h B0 B σ H0 H _ f λv H1 eQ g r=>ql B0 B σ H1 eQ _ (f.grow g) λH2 jH g2=>qh B0 B σ H2 jH _ ((f.grow g).grow g2) λH3 yw g3=>?_
 cases r;exact⟨x,rfl,hz,q _ _ _ ((g.trans g2).trans g3) (.str _)⟩
inductive VP(X:Cx)(δ:List Slot):List (Option cx)->List cx->List (Str×ao)->Prop
 |nil:VP X δ [] [] []
 |cons {k v:cx} {ks vs} {x:Str} {d:ao} {r}:VE X k δ (.str x)->VE X v δ d->VP X δ ks vs r->VP X δ (some k::ks) (v::vs) ((x,d)::r)
theorem VP.ok{keys vals}(h:VP X δ keys vals kvs):keys.all (·.isSome)=true/\keys.length=vals.length/\keys.length=kvs.length/\∃Jp,Vs X pos keys vals Jp/\∀B0 B σ H0 H Q,iI X.K B0 B H0 H σ δ->
  (∀e9 H' (ws:List (Key×V)),eL H0 H e9 H'->ws.map (·.1)=kvs.map (λp=>(b9 p.1:Key))->dz X.K e9 (ws.map (·.2)) (kvs.map (·.2))->Q (ws.map λkv=>(kV kv.1,kv.2)) H')->CP Jp σ H Q:=by
 induction h with
 |nil=>exact⟨rfl,rfl,rfl,[],Oh,λB0 B σ H0 H Q f q=>q _ _ [] (.refl f.sub) rfl .nil⟩
 | @cons k v ks vs x d r hk hv _ ih=>
  obtain⟨a1,a2,a3,Jp,pp,ht⟩:=ih;refine⟨by simpa using a1,by simp[a2],by simp[a3],_,K3 d_ d_ pp,λB0 B σ H0 H Q f q=>?_⟩
  refine hk B0 B σ H0 H _ f λu H1 eQ g1 r1=>hv B0 B σ H1 eQ _ (f.grow g1) λw H2 jH g2 r2=>?_
  cases r1;refine ht B0 B σ H2 jH _ ((f.grow g1).grow g2) λH3 yw ws g3 e1 rs=>?_
  exact q H3 yw ((b9 x,w)::ws) ((g1.trans g2).trans g3) (by simp[e1]) (.cons (r2.mono g3.iq) rs)
theorem OQ:∀{kvs:List (Key×V)}{k:Key}{v:V},k∉kvs.map (·.1)->putK kvs k v=kvs ++ [(k,v)]:=by
 intro kvs k v h;unfold putK
 first
  |(rw[qQ2];simpa using h)
  |(simp at h;simp[h])
theorem Bw:∀{more kvs:List (Key×V)},((kvs++more).map (·.1)).Nodup->sO kvs more=kvs++more
 | [],kvs,_=>by simp[sO]
 |p::more,kvs,h=>by
  show sO (putK kvs p.1 p.2) more=_;have hp:p.1∉kvs.map (·.1):=λz=>by
   rw[aV,aN]at h;exact(dY.mp h).2.2 _ z _ (aS) rfl
  rw[OQ hp,Bw (by simpa using h)]
  simp
theorem Ip{keys vals}(h:VP X δ keys vals kvs)(hn:(kvs.map (·.1)).Nodup)(h0:kvs≠[])(h15:kvs.length<=15):VE X (.Dict keys vals pos) δ (sV kvs):=by
 obtain⟨a1,a2,a3,Jp,pp,ht⟩:=h.ok (pos:=pos);refine .of (Oi pp a1 a2 (λz=>h0 (List.length_eq_zero_iff.mp (by rw[<-a3,z];rfl))) (by omega)) λB0 B σ H0 H Q f q=>λp hp=>?_
 refine ht B0 B σ H0 _ _ (f.grow (.loose f.sub hp)) λH1 eQ ws g e1 rs=>?_
 have gp:=g.big _ _ (bQ (H:=H) (a:=p) (o:=HO.dK []));have hp0:H1 p=none:=g.still (f.sub.free hp) bQ;have wl:ws.length=kvs.length:=by have:=qQ6 iG e1;simpa using this
 refine⟨gp,ws,rfl,by omega,?_⟩
 rw[Bw (by
  rw[oq,e1];have:(kvs.map λp=>(b9 p.1:Key))=(kvs.map (·.1)).map (b9:Str->Key):=by rw[bf];rfl
  rw[this];exact List.Pairwise.map _ (λa b hab z=>hab (xA z)) hn),oq]
 refine q (.ref p) (upd H1 p (.dK ws)) _ ⟨λb u eb=>?_,λb u eb=>?_,λb u eb=>?_,λb eb=>?_⟩ ?_
 ·have hb:b≠p:=bC eb hp
  rw[aY hb];exact g.big _ _ (by rw[aY hb];exact eb)
 ·have hb:b≠p:=bC eb (f.sub.free hp)
  rw[aY hb];exact g.iq _ _ eb
 ·by_cases hb:b=p
  ·subst hb;rw[bQ]at eb ⊢;exact eb
  ·rw[aY hb]at eb ⊢;exact g.sub _ _ eb
 ·by_cases hb:b=p
  ·subst hb;exact .inr hp
  ·rw[aY hb]at eb
   rcases g.new b eb with z|z
   ·exact .inl z
   ·rw[aY hb]at z;exact .inr z
 ·refine .dct (kvs:=ws) bQ ?_ ?_
  ·rw[bf]
   have:ws.map (λp=>wW p.1)=(ws.map (·.1)).map wW:=by rw[bf];rfl
   rw[this,e1,bf];rfl
  ·rw[bf]
   refine(rs.mono λb u eb=>?_)
   rw[aY (bC eb hp0)];exact eb
theorem LN{ap:Pos}(hr:gj k X.A)(h3:VE X c δ (sV kvs))(h1:VE X a δ (.str x))(h4:VE X e δ d)(m:M2 X c "get" ap a e pos:=by exact⟨rfl,rfl,rfl,rfl⟩):VE X (.Call (.Attribute c "get" ap) [a,e] [] pos) δ ((jv kvs x).getD d):=
 .of (K5 (Qw hr) d_ d_ d_ m) λB0 B σ H0 H Q fr q=>h3 B0 B σ H0 H _ fr λv H1 eQ g r=>by
  obtain⟨p,ws,rfl,hp,ke,rs⟩:=r.sW;refine⟨p,rfl,.inl ⟨ws,.inl (g.sub _ _ hp)⟩,?_⟩
  refine h1 B0 B σ H1 eQ _ (fr.grow g) λv H2 jH g2 r1=>h4 B0 B σ H2 jH _ ((fr.grow g).grow g2) λu H3 yw g3 r2=>?_
  cases r1;have gg:=g2.trans g3;refine⟨jI ws (b9 x),.inl ⟨ws,b9 x,.inl (gg.big _ _ (g.sub _ _ hp)),rfl,rfl⟩,q _ H3 yw (g.trans gg) ?_⟩
  exact(zz ke (rs.mono gg.iq) x).getD r2
theorem SQ(i j:Int):qt K (λxs H Q=>∃i j,xs=[.int i,.int j]/\Q (.int (if j<i then j else i)) H) [.int i,.int j] (.int (if j<i then j else i)):=λvs H0 H Q s r q=>by
 obtain⟨v,u,rfl,r1,r2⟩:=r.two;cases r1;cases r2;exact⟨i,j,rfl,q _ _ _ (.refl s) (.int _)⟩
end
section
variable{X:Cx}{a b c e e1 e2:cx}{δ:List Slot}{d d1 d2:ao}{ds Ue ds2:List ao}{pos px py p:Pos}{x y:Str}{k:Nat}
theorem OS(i j:Nat){FN: Pos}{kt k2}(h1:VO X a δ Ue)(h2:VO X b δ ds2)(hc:X.calm=true)(hN:X.N.Nodup)(yr:i≠j)(hi:X.N[i]?=some x:=by rfl)(hj:X.N[j]?=some y:=by rfl)(hx:X.env.scope.names.lookup x=some .local:=by rfl)(hy:X.env.scope.names.lookup y=some .local:=by rfl)
  (hw:swappedStores [.Tuple [.Name x px,.Name y py] kt pt] (.Tuple [a,b] k2 FN) X.env=pure (some [x,y]):=by rfl)(hs:swapsWithSole [.Tuple [.Name x px,.Name y py] kt pt] (.Tuple [a,b] k2 FN) pos.line X.env=pure false:=by rfl)
  (DQ:starEach [a,b] X.env=(false,eval a X.env)::starEach [b] X.env:=by rfl)(rG:starEach [b] X.env=(false,eval b X.env)::starEach [] X.env:=by rfl):
  VS X (.Assign [.Tuple [.Name x px,.Name y py] kt pt] (.Tuple [a,b] k2 FN) pos) δ (.nx ((δ.set i (.own Ue)).set j (.own ds2))):=λB0 B σ H0 H D f ok pins s I=>by
 refine Kz hc hN hi hj yr hx hy (dG d_ (dG d_ gI rG) DQ) hw hs pins s σ H D I ?_
 refine h1 B0 B σ H0 H _ f λp xs H1 eQ g a1 a2 a3 a4=>h2 B0 B σ H1 eQ _ (f.grow g) λq ys H2 jH g2 b1 b2 b3 b4=>?_
 have gg:=g.trans g2;have fs:=f.grow gg;have npq:p≠q:=λz=>by rw[z,b1]at a3;cases a3
 have f1:=fs.CT (i:=i) (g2.big _ _ a3) (g2.still a2 a3) (f.ent.big.free a1) (a4.mono g2.iq) λj es e2 e3=>by
  obtain⟨p',xs',g1,g2,_⟩:=f.slot j _ e2;rw[e3]at g1;cases g1;rw[a1]at g2;cases g2
 refine⟨_,_,rfl,ok _ H2 jH gg.iq (f1.CT b3 b2 ((f.grow g).ent.big.free b1) b4 λj es e2 e3=>?_)⟩
 by_cases hji:j=i
 ·subst hji
  have hl:j < σ.length:=by
   have:=(aP.mp e3).1;simpa using this
  rw[bo hl]at e3;cases e3;exact npq rfl
 ·rw[bh (bY hji)]at e2 e3
  obtain⟨p',xs',z1,z2,_⟩:=(f.grow g).slot j _ e2;rw[e3]at z1;cases z1;rw[b1]at z2;cases z2
end
section
variable{X:Cx}{K:au}{B0 B H0 H e9 H' C0 C Ha Hb:Hp}{σ σ':St}{δ δ':List Slot}{a:aR}{ps:List aR}{gs:List (List ao)}
theorem wC.rep2(G:wC K B0 B a ps gs H0 H σ δ):∃Ha,eC H0 Ha/\eL B0 B Ha H/\Rep K Ha (.ref a) (.list (gs.map .list)):=by
 have s0:eC H0 (λq=>if q=a\/q∈ps then H q else H0 q):=λb u e=>by
  show(if b=a\/b∈ps then H b else H0 b)=some u
  split
  ·exact G.fr.sub b u e
  ·exact e
 refine⟨λq=>if q=a\/q∈ps then H q else H0 q,s0,⟨G.fr.ent.big,G.fr.ent.iq.trans s0,λb u e=>?_,λb e=>?_⟩,?_⟩
 ·have e:(if b=a\/b∈ps then H b else H0 b)=some u:=e
  split at e
  ·exact e
  ·exact G.fr.sub b u e
 ·have e:(if b=a\/b∈ps then H b else H0 b)≠none:=e
  split at e
  ·rename_i z
   rcases z with rfl|z
   ·exact .inr G.aB
   ·obtain⟨i,hi⟩:=tU.mp z
    have hl:i<gs.length:=by rw[<-G.len];exact(aP.mp hi).1
    exact .inr (G.cell i b gs[i] hi (by simp[hl])).2.1
  ·exact G.fr.ent.new b e
 ·refine .lst (mJ.of (by show(if a=a\/a∈ps then H a else H0 a)=_;rw[qQ3 (.inl rfl)];exact G.arr)) ?_
  have go:∀(l:List aR)(m:List (List ao)),l.length=m.length->(∀(i:Nat)p ds,l[i]?=some p->m[i]?=some ds->p∈ps/\∃xs,H p=some (.lst xs)/\dz K H0 xs ds)->dz K (λq=>if q=a\/q∈ps then H q else H0 q) (l.map V.ref) (m.map .list):=by
   intro l
   induction l with
   |nil=>
    intro m hm _;cases m with
    |nil=>exact .nil
    |cons _ _=>cases hm
   |cons p l ih=>
    intro m hm hc;cases m with
    |nil=>cases hm
    |cons ds m=>
     obtain⟨hp,xs,h1,h2⟩:=hc 0 p ds rfl rfl;refine .cons (.lst (mJ.of (by show(if p=a\/p∈ps then H p else H0 p)=_;rw[qQ3 (.inr hp)];exact h1)) (h2.mono s0)) (ih m (by simpa using hm) λi p' Jw e1 e2=>hc (i+1) p' Jw (by simpa using e1) (by simpa using e2))
  exact go ps gs G.len λi p ds e1 e2=>by
   obtain⟨_,_,xs,h1,h2⟩:=G.cell i p ds e1 e2;exact⟨bF e1,xs,h1,h2⟩
theorem wC.freeze(G:wC K B0 B a ps gs H0 H σ δ)(Uj:δ[ig]?=some (.ref a)):∃Ha,eC H0 Ha/\iI K B0 B Ha H σ (δ.set ig (.val (.list (gs.map .list)))):=by
 obtain⟨Ha,sm,g,r⟩:=G.rep2;have hs:σ[ig]?=some (some (.ref a)):=G.fr.slot ig _ Uj;have f0:iI K B0 B Ha H σ δ:=by
  refine⟨g,G.fr.len,λi sl e=>?_,G.fr.apart⟩
  have q:=G.fr.slot i sl e;cases sl with
  |un=>trivial
  |ref _=>exact q
  |val d=>obtain⟨v,g1,g2⟩:=q;exact⟨v,g1,g2.mono sm⟩
  |own ds=>exact qQ7 e (nq G.no i ds)
 have f1:=f0.u_ (i:=ig) (v:=.ref a) (sl:=.val (.list (gs.map .list))) ⟨_,rfl,r⟩ rfl;have e:σ.set ig (some (.ref a))=σ:=by
  apply kf;intro i;by_cases h:i=ig
  ·subst h;rw[bo (aP.mp hs).1,hs]
  ·rw[bh (bY h)]
 rw[e]at f1;exact⟨Ha,sm,f1⟩
end
section
variable{X:Cx}{B0 B H0 H e9 H' Ha Hb:Hp}{σ σ':St}{D:Ends}{st:jq}{rest body orelse:List jq}{δ δ':List Slot}{a:aR}{ps:List aR}{gs:List (List ao)}{e c tg iter e1 e2 ea:cx}{d:ao}{ds:List ao}{pos px yi:Pos}{x y:Str}
def o6{α:Type}(l:List α)(i:Nat)(y:α):List α:=l.take i++y::l.drop i
def OU:V->List V->Hp->VK->Prop:=λx vs H Q=>∃(l:aR)(xs:List V)(j:Int)(y:V),x=.ref l/\vs=[.int j,y]/\H l=some (.lst xs)/\0<=j/\j<=xs.length/\xs.length<sizeLine/\Q .non (upd H l (.lst (o6 xs j.toNat y)))
theorem eO.ins{us:List aG}{y:V}{u:aG}(r:eO xs us)(ru:RelV y u)(i:Nat):eO (o6 xs i y) (o6 us i u):=(r.take i).append (.cons ru (r.drop i))
theorem JH:Vi X "list.insert" OU:=by
 intro pins s σ H x vs v us Q I rx rv h;obtain⟨l,xs,j,y,rfl,rfl,hH,h0,hi,hz,q⟩:=h;cases rx;obtain⟨u1,u2,rfl,Z9,Uh⟩:=rv.two;obtain⟨t,rfl⟩:=Z9;obtain⟨z,its,n,r,hl,e⟩:=I.R4 hH;have KS:nB j=true:=by
  have:=du;unfold nB;simp;omega
 refine j_ F.slot_list_insert ⟨_,e,rfl⟩ F.entry_list_insert (F.args_list_insert_3 _ _ _) (PySem.AutoSeq1.list_insert_list_int_val_1 l its.toArray n j t u2 (by rw[KS];decide) (by rw[bD];omega)) ⟨e,?_⟩
 refine⟨.non,_,I.Vj (its':=o6 its j.toNat u2) hH e ?_ (r.ins Uh j.toNat) ?_,rfl,q⟩
 ·show(its.toArray.extract 0 (if j<0 then(j+((its.toArray.size:Nat):Int)).toNat else min j.toNat its.toArray.size)).push u2++its.toArray.extract (if j<0 then(j+((its.toArray.size:Nat):Int)).toNat else min j.toNat its.toArray.size)=_
  rw[qQ2 (by omega),bD,oB (by omega)]
  unfold o6;apply Array.toList_inj.mp;simp;rw[dO (by simp)]
 ·unfold o6
  rw[aH,aX,bK,cW];omega
theorem dz.ins{v:V}(r:dz K H xs ds)(rv:Rep K H v d)(i:Nat):dz K H (o6 xs i v) (o6 ds i d):=(r.take i).append (.cons rv (r.drop i))
theorem LQ(G:wC X.K B0 B a ps gs H0 H σ δ)(ig:Nat){j m:Nat}{p0 p4 ap:Pos}(Uj:δ[ig]?=some (.ref a))(ha:VE X ea δ (.int j))(hp:ps[j]?=some p)(hg:gs[j]?=some ds)(h1:VE X e1 (δ.set ig (.val (.list (gs.map .list)))) (.int m))(hn1:noOwn (δ.set ig (.val (.list (gs.map .list))))=true)(hm:m<=ds.length)(h2:VE X e2 δ d)(hz:ds.length<sizeLine)
  (q:∀σ' e9 H',wC X.K B0 B a ps (gs.set j (o6 ds m d)) e9 H' σ' δ->D.nx σ' H')(hig:X.N[ig]?=some x:=by rfl)
  (hv:FG X.env.scope x:=by first|exact bq rfl|exact di (bq rfl)|exact di (di rfl))(hd:(x==("__debug__":Str))=false:=by decide)(rQ:(x==("__classdict__":Str))=false:=by decide)(pT:tY ea:=by intro _ _;rfl)
  (hs:starEach [e1,e2] X.env=(false,eval e1 X.env)::starEach [e2] X.env:=by rfl)(rG:starEach [e2] X.env=(false,eval e2 X.env)::starEach [] X.env:=by rfl)(oI:attributeBase (.Subscript (.Name x p0) ea p4) "insert" X.env (eval (.Subscript (.Name x p0) ea p4) X.env)=eval (.Subscript (.Name x p0) ea p4) X.env:=by rfl)
  (u0:((backTo px (starEach [e1,e2] X.env)).all (λx=>!x.1)&&(backToKw px (keywordEach [] X.env)).all (λx=>x.1.isSome)&&decide (([e1,e2]:List cx).length+([]:List jz).length+(if([]:List jz).isEmpty then 0 else 1)<30))=true:=by rfl)
  (hline:(ap.endLine==px.line)=true:=by rfl)(lb:(backTo px (starEach [e2] X.env)).any (·.1)=false:=by rfl)(D_:swapsWith (.Call (.Attribute (.Subscript (.Name x p0) ea p4) "insert" ap) [e1,e2] [] px) none pos.line X.env=pure false:=by rfl):
  cS X (.Expr (.Call (.Attribute (.Subscript (.Name x p0) ea p4) "insert" ap) [e1,e2] [] px) pos) D σ H:=λpins s I=>by
 refine qJ (zh ju PySem.F.slot_list_insert PySem.F.type_list_insert JH (Qn CG (iH hig hv hd rQ) d_ pT) (dG d_ (dG d_ gI rG) hs) oI u0 hline hs lb) D_ pins s σ H D I ?_
 refine⟨.ref a,G.fr.slot ig _ Uj,?_⟩
 refine ha H0 H σ H0 H _ G.own λv H1 eQ g r=>?_
 cases r;have G1:=G.go (G.own.grow g) G.no;obtain⟨c1,c2,xs,c3,c4⟩:=G1.cell j p ds hp hg;refine .inl ⟨a,_,_,.ref p,rfl,rfl,mJ.of G1.arr,ck (by rw[aW,hp];rfl),.inl ⟨rfl,_,mJ.of c3⟩,?_⟩
 obtain⟨Ha,sm,ff⟩:=G1.freeze Uj;refine h1 Ha eQ σ Ha eQ _ (ff.re hn1 (.refl ff.sub)) λv Hb H2 g2 r2=>?_
 cases r2;have G2:wC X.K B0 B a ps gs H1 H2 σ δ:=G1.go (G1.own.grow (.far G1.fr.sub g2.big)) G1.no;refine h2 H1 H2 σ H1 H2 _ G2.own λw H3 yw g3 r3=>?_
 have G3:=G2.go (G2.own.grow g3) G2.no;obtain⟨k1,k2,ys,k3,k4⟩:=G3.cell j p ds hp hg;refine⟨p,ys,m,w,rfl,rfl,k3,by omega,by rw[k4.length];omega,by rw[k4.length];exact hz,q σ H3 _ ?_⟩
 have Z_:j<gs.length:=(aP.mp hg).1;have hpa:a≠p:=λz=>G.na (by rw[z];exact bF hp)
 refine⟨G3.fr.touch k1 k2 (nq G.no),G.no,by rw[aY hpa];exact G3.arr,G3.a0,G.aB,G.na,G.nd,by rw[Ar];exact G.len,λi p' Jw e1 e2=>?_⟩
 by_cases hi:i=j
 ·subst hi
  rw[hp]at e1;cases e1;rw[bo Z_]at e2;cases e2;exact⟨k1,k2,_,bQ,by rw[fN];exact k4.ins r3 m⟩
 ·rw[bh (bY hi)]at e2
  obtain⟨k1,k2,ys,k3,k4⟩:=G3.cell i p' Jw e1 e2;have np:p'≠p:=λz=>by
   subst z;have l1:=(aP.mp e1);have l2:=(aP.mp hp);exact hi ((List.getElem_inj G.nd (h₀:=l1.1) (h₁:=l2.1)).mp (by rw[l1.2,l2.2]))
  exact⟨k1,k2,ys,by rw[aY np];exact k3,k4⟩
theorem SR(G:wC X.K B0 B a ps gs H0 H σ δ){o:Out}(Uj:δ[ig]?=some (.ref a))(h:vB X rest (δ.set ig (.val (.list (gs.map .list)))) o)(q:∀Ha,eC H0 Ha->sS X.K B0 B Ha D o):HY X rest D σ H:=by
 obtain⟨Ha,sm,ff⟩:=G.freeze Uj;exact h B0 B σ Ha H D ff (q Ha sm)
end
section
variable{X:Cx}{a b c:cx}{δ:List Slot}{d1 d2 d3:ao}{pos px py pz:Pos}{x y z:Str}
theorem dz.three{vs:List V}(r:dz K H vs [d1,d2,d3]):∃v w u,vs=[v,w,u]/\Rep K H v d1/\Rep K H w d2/\Rep K H u d3:=by
 cases r with|cons a t=>cases t with|cons b t=>cases t with|cons c t=>cases t;exact⟨_,_,_,rfl,a,b,c⟩
theorem OV(i j k:Nat){FN: Pos}{kt k2}(h1:VE X a δ d1)(h2:VE X b δ d2)(h3:VE X c δ d3)(hc:X.calm=true)(hN:X.N.Nodup)(yr:i≠j)(hik:i≠k)(Fs:j≠k)(hi:X.N[i]?=some x:=by rfl)(hj:X.N[j]?=some y:=by rfl)(hk:X.N[k]?=some z:=by rfl)(hx:X.env.scope.names.lookup x=some .local:=by rfl)(hy:X.env.scope.names.lookup y=some .local:=by rfl)(hz:X.env.scope.names.lookup z=some .local:=by rfl)
  (hw:swappedStores [.Tuple [.Name x px,.Name y py,.Name z pz] kt pt] (.Tuple [a,b,c] k2 FN) X.env=pure (some [x,y,z]):=by rfl)(hs:swapsWithSole [.Tuple [.Name x px,.Name y py,.Name z pz] kt pt] (.Tuple [a,b,c] k2 FN) pos.line X.env=pure false:=by rfl)
  (DQ:starEach [a,b,c] X.env=(false,eval a X.env)::starEach [b,c] X.env:=by rfl)(rG:starEach [b,c] X.env=(false,eval b X.env)::starEach [c] X.env:=by rfl)(Zy:starEach [c] X.env=(false,eval c X.env)::starEach [] X.env:=by rfl):
  VS X (.Assign [.Tuple [.Name x px,.Name y py,.Name z pz] kt pt] (.Tuple [a,b,c] k2 FN) pos) δ (.nx (((δ.set i (.val d1)).set j (.val d2)).set k (.val d3))):=λB0 B σ H0 H D f ok pins s I=>by
 obtain⟨t,ha,qa⟩:=aq h1 (aq h2 (aq h3 a7 Zy) rG) DQ;have h:=qa B0 B σ H0 H (λvs H1=>∃v w u,vs=[v,w,u]/\D.nx (((σ.set i (some v)).set j (some w)).set k (some u)) H1) f λvs H1 eQ g rs=>by
  obtain⟨v,w,u,rfl,r1,r2,r3⟩:=rs.three;exact⟨v,w,u,rfl,ok _ H1 eQ g.iq ((((f.grow g).set r1).set r2).set r3)⟩
 rw[exec_Assign_arm];refine av (oU ?_)
 rw[hs];refine av (a_ ?_)
 rw[qQ2 (by decide)]
 refine av (Tuple_ (g8 (ha _ pins s σ H _ I h) λus s1 ⟨vs,H1,I1,r1,q1⟩=>?_))
 obtain⟨v,w,u,e1,q1⟩:=q1;subst e1;obtain⟨u1,u2,u3,rfl,rv,rR,ru⟩:∃u1 u2 u3,us=[u1,u2,u3]/\RelV v u1/\RelV w u2/\RelV u u3:=by
  cases r1 with
  |cons p q=>
   cases q with
   |cons p' q'=>
    cases q' with
    |cons p2 q2=>
     cases q2;exact⟨_,_,_,rfl,p,p',p2⟩
 refine fw ?_ (by show 3<=sizeLine;decide)
 have I2:Inv X pins σ H1 { s1 with heap:=s1.heap.push { cls:=.type "tuple",data:=.seq [u1,u2,u3].toArray } }:=I1.kept (t':=s1.toks) λb o e=>aF _ e
 rw[hw];refine av (a_ ?_)
 show wpAny (model X.prog X.w) X.A (do rule "assign.swapped-stores";let items <-unpackItems (.ref s1.heap.objs.size) 3 none;assignInOrder [λv=>bindName X.env z v,λv=>bindName X.env y v,λv=>bindName X.env x v] items.reverse;pure DT) _ _ _
 refine av (yN (av (unpackItems_tuple (items:=#[u1,u2,u3]) (I.ok.hd hc) (uy s1.heap _) λh' Y2=>?_)))
 have I3:=I2.kept (h':=h') (t':=s1.toks) λb o e=>Y2 b o (bu (a9 e)) e
 show wpAny _ _ (assignInOrder [λv=>bindName X.env z v,λv=>bindName X.env y v,λv=>bindName X.env x v] [u3,u2,u1] >>= λ_=>pure DT) _ _ _
 refine av (j5 (qH (ng I3 hN hk (.inl hz) ru (λs2 I4=>?_) (.inr hz))))
 refine j5 (qH (ng I4 hN hj (.inl hy) rR (λs3 I5=>?_) (.inr hy)))
 refine j5 (qH (ng I5 hN hi (.inl hx) rv (λs4 I6=>Ay (a_ ?_)) (.inr hx)))
 have e:((σ.set k (some u)).set j (some w)).set i (some v)=((σ.set i (some v)).set j (some w)).set k (some u):=by
  rw[vD _ _ (bY Fs),vD _ _ (bY hik),vD _ _ (bY yr)]
 rw[e]at I6;exact⟨_,H1,I6,q1⟩
theorem yC{k:Bool}(h:VE X a δ (.bool k)):VE X (.UnaryOp .Not a pos) δ (.bool (!k)):=.of (RA d_) λB0 B σ H0 H Q f q=>h B0 B σ H0 H _ f λv H1 eQ g r=>by
 cases r;exact⟨k,rfl,q _ H1 eQ g (.bl _)⟩
theorem vS{st:List jq}{o:Out}(h:∀B0 B σ H0 H D,iI X.K B0 B H0 H σ δ->sS X.K B0 B H0 D o->HY X st D σ H):vB X st δ o:=h
end
section
variable{X:Cx}{a:cx}{δ:List Slot}{pos p:Pos}{x:Str}{ds:List ao}
theorem AW:kJ X (.type "str") (λxs H Q=>∃x,xs=[.str x]/\Q (.str x) H):=by
 intro pins s σ H xs us Q I r h;obtain⟨x,rfl,q⟩:=h;obtain⟨u,rfl,t,rfl⟩:=vals1 r;exact PySem.P.str_of_str ⟨.str x,H,I,⟨t,rfl⟩,q⟩
theorem SV:qt K (λxs H Q=>∃x,xs=[.str x]/\Q (.str x) H) [.str x] (.str x):=λvs H0 H Q s r k=>by
 obtain⟨v,rfl,r1⟩:=r.one;cases r1;exact⟨x,rfl,k _ _ _ (.refl s) (.str _)⟩
theorem OW(h:VE X a δ (.str x))(hm:X.mg "str"=none)(hg:Gl X "str":=by rfl)(hs:starEach [a] X.env=(false,eval a X.env)::starEach [] X.env:=by rfl):VE X (.Call (.Name "str" p) [a] [] pos) δ (.str x):=mM AW SV (aq h a7 hs) hm rfl hg (he:=hs)
theorem OX:Qr K (λxs H Q=>∃p ys,xs=[.ref p]/\(mJ K H p ys\/rF K H p ys)/\∀l,H l=none->Q (.ref l) (upd H l (.lst ys))) [.tuple ds] ds:=λvs H0 H Q s r q=>by
 obtain⟨v,rfl,r1⟩:=r.one;cases r1 with
 |tup hq rs=>
  refine⟨_,_,rfl,.inr (s.qM hq),λl hl=>?_⟩
  exact q l _ H0 _ (.loose s hl) hl (s.free hl) bQ rs
end
section
variable{prog:bL}{w:cH}{A:ef}{E:aG->aU->Prop}{s:aU}
theorem AX{l:aR}{items:Array aG}(hh:A.handled=none)(hl:s.heap.IsTuple l items)(T:Nat->dw->Prop)
  (t0:∀led h',h'.get? s.heap.objs.size=some (kj led)->(∀b o,s.heap.get? b=some o->h'.get? b=some o)->T 0 h')
  (keep:∀i h h',T i h->(∀b o,b≠s.heap.objs.size+1->h.get? b=some o->h'.get? b=some o)->T i h')
  (add:∀i v (s':aU) (Q:Bool->aU->Prop) (E:aG->aU->Prop),i<items.size->items[i]?=some v->T i s'.heap->(∀h' tk b,s'.toks<=tk->kO s.heap.objs.size s'.heap h'->T (i+1) h'->Q b { s' with heap:=h',toks:=tk })->wpAny (model prog w) A.in1.in1.in1 (setAdd s.heap.objs.size v) Q E s')
  (h:∀(h':dw)(tk:Nat),T items.size h'->(∀b o,b<s.heap.objs.size->s.heap.get? b=some o->h'.get? b=some o)->Q (.ref s.heap.objs.size) { s with heap:=h',toks:=tk }):
  wpAny (model prog w) A (call (.type "set") [.ref l]) Q E s:=by
 obtain⟨c,tl,zfp⟩:=la.mro;have zcW:=la.made;have Jt:=la.sub;refine mG (codeAny_of_tree ?_)
 show wpAny _ _ (callAny (.type "set") _) _ _ _;refine a_ ⟨wA _ (by symm),vy F.entry_type_call ?_⟩
 rw[ef.under_plain (weight_type_call_type "set" [.ref l] []) rfl];have h1:=la.notType;have h2:=la.canCreate;have hct:=F.typeCall_set_1 (.ref l)
 repeat (any_goals (first|assumption|wp_step))
 refine lF (code_set_new_1 (.ref l) (E:=E) (Q₁:=λobj s₁=>∃led:Bool,obj=.ref s.heap.objs.size/\s₁={ s with heap:=s.heap.push (kj led) }) λled=>⟨led,rfl,rfl⟩) λr s₁ hr=>?_
 cases r with
 |error e=>exact hr
 |ok fl=>
  cases fl with
  |ret obj=>
   obtain⟨led,rfl,rfl⟩:=hr;have hS:(s.heap.push (kj led)).get? s.heap.objs.size=some (kj led):=bN _ rfl;have hT:aU.TypeIs { s with heap:=s.heap.push (kj led) } (.ref s.heap.objs.size) "set":=⟨_,hS,rfl⟩
   have hli:=la.init.lookup;have hbi:=la.init.bind (.ref s.heap.objs.size)
   repeat (any_goals (first|assumption|wp_step))
   refine lF (o5 (R:=wants (λr s₂=>r=.none/\∃h' tk,s₂={ s with heap:=h',toks:=tk }/\T items.size h'/\(∀b o,b<s.heap.objs.size->s.heap.get? b=some o->h'.get? b=some o)) E) la.init.plain F.entry_set_init (check_set_init_1 hT ?_)) λr₂ s₂ Z'=>?_
   ·obtain⟨ol,Ko,Kq,nl,Lx⟩:=hl
    obtain⟨zfq,V8,zcY,SW⟩:=ol;simp only at Kq Lx;subst Kq;subst Lx;have zaa:(s.heap.push (kj led)).get? l=some { cls:=.type "tuple",dict:=V8,data:=.seq items nl,slots:=SW }:=aF _ Ko;have zfr:=F.sub_tuple_set;have zfs:=F.sub_tuple_frozenset;have oW:(m_ "tuple"==m_ "dict")=false:=by decide
    have SD:(s.heap.push (kj led)).IsTuple l items:=⟨_,zaa,rfl,nl,rfl⟩;unfold qf.«set.__init__» noKeywords qf.Frozenset.updateFrom
    generalize hPI:pyIter=PI
    wp_walk
    subst hPI;refine yO SD ?_
    refine av (wpAny_runValue ?_)
    have hlS:l<s.heap.objs.size:=a9 Ko;have hh3:A.in1.in1.in1.handled=none:=by simp[hh]
    have AO:(s.heap.push (kj led)).objs.size=s.heap.objs.size+1:=gE _ _;have zab:l≠(s.heap.push (kj led)).objs.size:=by rw[AO];exact bu (mI hlS)
    have XW:s.heap.objs.size∉[(s.heap.push (kj led)).objs.size,l]:=by
     rw[AO];simp only[aE,aK,bB,or_false,not_or];exact⟨bu (kS _),fG hlS⟩
    refine K7 ((Walks.tuple hh3 _ l zab items).toS) s.heap.objs.size XW T (λi h h' t k=>keep i h h' t λb o hb e=>k b o ?_ e) (λi v s' Q E hi hv t q=>add i v s' Q E hi hv t q) (items.size-0) 0 _ (by omega) (bj _)
     ⟨⟨_,bN _ rfl,rfl,rfl⟩,(SD.push _)⟩ ?hS0 ?hR
    ·rw[AO]
     intro z;rw[aK]at z;exact hb z
    case hS0=>
     exact t0 led _ (aF _ hS) λb o e=>aF _ (aF _ e)
    case hR=>
     intro s' hm Vu;obtain⟨h',g',d',V0,N1⟩:=s';have eg:g'=s.gens:=hm.gens;have ed:d'=s.drawn:=hm.drawn;have eo:N1=s.os:=hm.os;subst eg;subst ed;subst eo;show wpAny _ _ _ _ _ _;refine a_ ?_
     show wpAny _ _ (ret fe) _ _ _;refine a_ ⟨rfl,h',V0,rfl,Vu,λb o hb e=>?_⟩
     have OY:b≠s.heap.objs.size:=bu hb;have hb2:b≠(s.heap.push (kj led)).objs.size:=by rw[AO];exact bu (mI hb)
     exact hm.heap b o (by simp only[aE,aK,bB,or_false,not_or];exact⟨OY,hb2⟩) (aF _ (aF _ e))
   ·cases r₂ with
    |error e=>exact Z'
    |ok fl₂=>
     cases fl₂ with
     |ret r=>
      obtain⟨rfl,h',tk,rfl,Vu,Nx⟩:=Z'
      repeat (any_goals (first|assumption|wp_step))
      exact h _ _ Vu Nx
     |_=>exact Z'.elim
  |_=>exact hr.elim
end
section
variable{X:Cx}{a b c e:cx}{δ:List Slot}{d d1 d2:ao}{ds:List ao}{pos p p2 yj:Pos}{k:Nat}
def SX(K:au):List V->Hp->VK->Prop:=λxs H Q=>∃(a:aR)(ss:List Str),xs=[.ref a]/\rF K H a (ss.map V.str)/\ss.length<4000/\∀l,H l=none->Q (.ref l) (upd H l (.ext (Jz l (dd [] ss).length)))
theorem zC(hc:X.calm=true):kJ X (.type "set") (SX X.K):=by
 intro pins s σ H xs us Q I r h;obtain⟨a,ss,rfl,hq,h4,q⟩:=h;obtain⟨u,rfl,rx⟩:=vals1 r;cases rx;obtain⟨its,rv,pl,hz⟩:=I.tuple hq;have hlv:=rv.length;simp only[aj]at hlv;have hsz:its.toArray.size=ss.length:=by simp only[bD];omega
 refine AX (I.ok.hd hc) (show s.heap.IsTuple _ _ from pl) (λi h=>(∀b o,s.heap.get? b=some o->h.get? b=some o)/\h.SetOf (strKind X.prog X.w) s.heap.objs.size (λk=>decide (k∈dd [] (ss.take i))) (dd [] (ss.take i)).length) (λled h' e k=>?_) (λi h h' ⟨k1,T⟩ k=>?_) (λi v s' Q' E' hi hv ⟨k1,T⟩ q'=>?_) (λh' tk ⟨k1,T⟩ _=>?_)
 ·have n0:dd [] (ss.take 0)=[]:=by rw[A7];rfl
  refine⟨k,?_⟩
  rw[n0];refine⟨_,#[],0,.fresh 0 0 led,e,⟨rfl,rfl,rfl⟩,rfl,(λe he=>by cases he),(λk=>⟨λz=>by simp at z,λ⟨e,he,_⟩=>by cases he⟩),(by show 0<scanBound;unfold scanBound;omega),rfl,rfl⟩
 ·refine⟨λb o e=>k b o ?_ (k1 b o e),?_⟩
  ·have:=a9 e
   exact bu (mI this)
  ·obtain⟨o,es,ep,t,ho,rest⟩:=T
   exact⟨o,es,ep,t,k _ _ (bu (kS _)) ho,rest⟩
 ·rw[hsz]at hi
  have NZ:its[i]?=some v:=by simpa using hv
  obtain⟨x,t,hx,rfl⟩:=Bt rv i v NZ;have his:(strKind X.prog X.w).is x (.str x t)=true:=by show vw x (.str x t)=true;simp[vw]
  have hle:=wY (ss.take i) [];simp only[cz,sC,bK]at hle;have etk:ss.take (i+1)=ss.take i ++ [x]:=by rw[ej,hx];rfl
  unfold setAdd;refine mr (av ((strKind X.prog X.w).pyHash his ?_))
  refine wpAny_setAddHashed_of (knd:=strKind X.prog X.w) (s:={ s' with toks:=s'.toks+1 }) his rfl T (by unfold scanBound;omega) λh' sb T'=>q' h' _ _ (jL _) sb ⟨λb o e=>?_,?_⟩
  ·have hb:=a9 e
   rw[sb.2 b (bu hb)];exact k1 b o e
  ·have ed:dd [] (ss.take (i+1))=if decide (x∈dd [] (ss.take i))=true then dd [] (ss.take i)else dd [] (ss.take i) ++ [x]:=by rw[etk,Bs];rfl
   rw[ed];by_cases hm:decide (x∈dd [] (ss.take i))=true
   ·rw[qQ3 hm]at T' ⊢
    refine SetOf_congr T' (λk=>?_) rfl
    by_cases hk:k=x
    ·subst hk;rw[hm];rfl
    ·simp[hk]
   ·rw[qQ2 hm]at T' ⊢
    refine SetOf_congr T' (λk=>?_) (by simp)
    rw[gN];simp
 ·rw[hsz,fF]at T
  exact⟨.ref s.heap.objs.size,_,I.laid k1 (ay _) (SetOf.ZV T).ok,rfl,q _ (I.hok.fresh (ay _))⟩
theorem Ei{ss:List Str}(h:VE X a δ (.tuple (ss.map .str)))(hl:ss.length<4000)(hc:X.calm=true)(m1:X.mg "len"=none)(m2:X.mg "set"=none)(hg:Gl X "len":=by rfl)(hg2:Gl X "set":=by rfl)
  (hs:starEach [a] X.env=(false,eval a X.env)::starEach [] X.env:=by rfl)(rG:starEach [.Call (.Name "set" p2) [a] [] yj] X.env=(false,eval (.Call (.Name "set" p2) [a] [] yj) X.env)::starEach [] X.env:=by rfl)(pT:(backTo yj (starEach [] X.env)).any (·.1)=false:=by rfl)(zac:(backTo pos (starEach [] X.env)).any (·.1)=false:=by rfl):
  VE X (.Call (.Name "len" p) [.Call (.Name "set" p2) [a] [] yj] [] pos) δ (.int (dd [] ss).length):=
 .of (sL AU hg m1 ur (dG (tW (zC hc) hg2 m2 (by rfl) (dG d_ gI hs) (by decide) (by decide) hs pT) gI rG) (by decide) (by decide) rG zac) λB0 B σ H0 H Q f q=>h B0 B σ H0 H _ f λv H1 eQ g r=>by
  cases r with
  |tup hq rs=>
   have e:=rs.strs;subst e;have:=wY ss [];exact⟨_,ss,rfl,g.sub.qM hq,hl,λl VZ=>⟨l,_,rfl,bQ,by simp at this;omega,q _ H1 _ (g.trans (.loose g.sub VZ)) (.int _)⟩⟩
def rJ:List Bool->Bool:=λl=>l.any id
theorem LR(hc:X.calm=true):kJ X (.builtin "any") (λxs H Q=>∃p bs,xs=[.ref p]/\mJ X.K H p (bs.map V.bl)/\Q (.bl (rJ bs)) H):=by
 intro pins s σ H xs us Q I r h;obtain⟨p,bs,rfl,hq,q⟩:=h;obtain⟨u,rfl,rx⟩:=vals1 r;cases rx;obtain⟨its,rv,pl,hz⟩:=I.list hq;have hl:=rv.length;simp only[aj]at hl;refine call_any_walkS (rX pl.isList ?_)
 have oW:p≠s.heap.objs.size:=bu (a9 pl.isList.choose_spec.1);have ZW:∀(i:Nat)v,its.toArray[i]?=some v->v=.bool (bs.getD i false):=λi v hv=>by
  have NZ:its[i]?=some v:=by simpa using hv
  have e:=rv.getD i;have e2:its.getD i fe=v:=by rw[aJ,NZ];rfl
  have hi:i<bs.length:=by have:=(aP.mp NZ).1;omega
  have e3:(bs.map V.bl).getD i .non=.bl (bs.getD i false):=by
   rw[aJ,aW,aJ,ax hi];rfl
  rw[e2,e3]at e;exact e
 refine⟨_,_,_,_,_,_,_,λi=>bs.getD i false,rfl,(Walks.list (by simp[I.ok.hd hc]) _ p oW its.toArray).toS,⟨⟨_,bN _ rfl,rfl,rfl⟩,pl.isList.push _⟩,?_,λs' hm=>?_⟩
 ·intro i v Q' E' s' hv q'
  rw[ZW i v hv];exact fW q'
 ·have ea:(cv its.toArray.size).any (λi=>bs.getD i false)=rJ bs:=by
   rw[bD,<-hl];unfold rJ;rw[gN,nD,nD]
   constructor
   ·rintro⟨i,hi,h⟩
    have hi:=dB.mp hi;rw[aJ,ax hi]at h;exact⟨_,dv hi,h⟩
   ·rintro⟨x,hx,h⟩
    obtain⟨i,hi⟩:=tU.mp hx;refine⟨i,dB.mpr (aP.mp hi).1,?_⟩
    rw[aJ,hi];exact h
  rw[ea];obtain⟨h',g',d',V0,N1⟩:=s';have eg:g'=s.gens:=hm.gens;have ed:d'=s.drawn:=hm.drawn;have eo:N1=s.os:=hm.os;subst eg;subst ed;subst eo;refine⟨.bl _,H,I.kept (t':=V0) λb o e=>hm.heap b o ?_ (aF _ e),rfl,q⟩
  have:=a9 e;simp only[aK];exact bu this
theorem V9{bs:List Bool}:qt K (λxs H Q=>∃p bs,xs=[.ref p]/\mJ K H p (bs.map V.bl)/\Q (.bl (rJ bs)) H) [.list (bs.map .bool)] (.bool (rJ bs)):=λvs H0 H Q s r q=>by
 obtain⟨v,rfl,r1⟩:=r.one;cases r1 with
 |lst hq rs=>
  have e:=rs.ZX;subst e;exact⟨_,bs,rfl,s.seq hq,q _ _ _ (.refl s) (.bl _)⟩
theorem xg:fillsNumberSlot (.type "tuple") "mul"=pure false:=
 PySem.fillsNumberSlot_seq (id:="tuple.__mul__") (r:=some (.builtin "tuple.__rmul__")) sD.lookup (by symm) F.slot_tuple_rmul.lookup (by symm)
theorem C8:seqRepeat? (.type "tuple")=pure (some (.builtin "tuple.__mul__")):=by
 unfold seqRepeat?;rw[PySem.seqSlot_of (T:="tuple") (name:="__mul__") (id:="tuple.__mul__") sD.lookup (by symm),PySem.seqSlot_of (T:="tuple") (name:="__rmul__") (id:="tuple.__rmul__") F.slot_tuple_rmul.lookup (by symm)]
 rfl
theorem zD(i:Int)(t:Tok)(l:aR)(items:Array aG)(n:Nat)(dd:Option aR)(sl:Array (Option aG)):
  Meets (qf.«int.__rmul__» ⟨[.int i t,.ref l],[]⟩) (λ_ R s=>s.heap.get? l=some { cls:=.type "tuple",dict:=dd,data:=.seq items n,slots:=sl }/\R (.ok (.ret aG.notImplemented)) s):=
 .of_wp λprog w A R s h=>by obtain⟨hp,g,d,tk,os⟩:=s;obtain⟨hl,h⟩:=h;wp_walk;exact⟨_,rfl,h⟩
theorem AY(l:aR)(items:Array aG)(n:Nat)(dd:Option aR)(sl:Array (Option aG))(t:Tok):
  Meets (qf.«tuple.__mul__» ⟨[.ref l,.int 1 t],[]⟩) (λ_ R s=>s.heap.get? l=some { cls:=.type "tuple",dict:=dd,data:=.seq items n,slots:=sl }/\R (.ok (.ret (.ref l))) s):=
 .of_wp λprog w A R s h=>by
  obtain⟨hp,g,d,tk,os⟩:=s;obtain⟨hl,h⟩:=h;have f1:=HB;have f2:=As;have c1:(items.isEmpty||(1:Int)==1)=true:=by simp
  wp_walk using g7 hl
  exact⟨_,rfl,h⟩
theorem zE(l:aR)(its:List aG)(n:Nat)(dd:Option aR)(sl:Array (Option aG))(k:Int)(t:Tok)(hk:2<=k)(hk2:k<2^63)(oW:its≠[])(hsz:its.length*k.toNat<=sizeLine):
  Meets (qf.«tuple.__mul__» ⟨[.ref l,.int k t],[]⟩) (λ_ R s=>s.heap.get? l=some { cls:=.type "tuple",dict:=dd,data:=.seq its.toArray n,slots:=sl }/\R (.ok (.ret (.ref s.heap.objs.size))) { s with heap:=s.heap.push { cls:=m_ "tuple",data:=Data.seq (aT k.toNat its).flatten.toArray } }):=
 .of_wp λprog w A R s h=>by
  obtain⟨hp,g,d,tk,os⟩:=s;obtain⟨hl,h⟩:=h;have f1:=HB;have f2:=As;have V_:its.toArray.isEmpty=false:=by cases its with|nil=>exact qQ7 rfl oW|cons _ _=>rfl
  have zfA:its.toArray.size*k.toNat<=sizeLine:=by rw[bD];exact hsz
  have V':A4 (λx1 x2=>x1++x2) #[] (aT k.toNat its.toArray)=(aT k.toNat its).flatten.toArray:=by
   have:=foldl_rep its k.toNat [];rw[oq]at this;exact this
  generalize hI:its.toArray=items at *
  have X6:¬(decide (k < -2^63)||decide (k>=2^63))=true:=by simp;omega
  have hc1:¬(items.isEmpty||k==1)=true:=by rw[V_];simp;omega
  have XQ:¬(decide (k<=0)||items.isEmpty)=true:=by rw[V_];simp;omega
  have hmul:(items.size:Int)*k=((items.size*k.toNat:Nat):Int):=by rw[Int.natCast_mul,Int.toNat_of_nonneg (by omega)]
  have hsl:(sizeLine:Int)<=(2^63-1)/8:=by decide
  have hc3:¬((items.size:Int)*k>(2^63-1)/8):=by rw[hmul];omega
  have hc4:¬vI ((items.size:Int)*k)=true:=by unfold vI;rw[hmul];simp only[gt_iff_lt,decide_eq_true_eq];omega
  wp_walk using g7 hl
  refine mB (qQ0 X6) ?_
  wp_walk using g7 hl
  refine mB (qQ0 hc1) ?_
  wp_walk using g7 hl
  refine mB (qQ0 XQ) ?_
  wp_walk using g7 hl
  refine mB (qQ0 hc3) ?_
  wp_walk using g7 hl
  refine mB (qQ0 hc4) ?_
  wp_walk using g7 hl
  rw[V'];refine mB (qQ0 ?_) ?_
  ·rw[bD,len_rep]
   have:items.size=its.length:=by rw[<-hI,bD]
   rw[Fy];omega
  wp_walk
  exact⟨_,rfl,h⟩
def Wb(K:au):R2:=λx y H Q=>∃a k xs,x=.ref a/\y=.int k/\rF K H a xs/\1<=k/\k<2^63/\xs≠[]/\xs.length*k.toNat<=sizeLine/\(k=1->Q (.ref a) H)/\(k≠1->∀p,H p=none->Q (.ref p) (upd H p (.tup (aT k.toNat xs).flatten)))
theorem OZ:tV X (binaryOp .Mult) (Wb X.K):=by
 intro pins s σ H x y v u Q I rx ry h;obtain⟨a,k,xs,rfl,rfl,ha,h1,h2,hx,hz,q1,q2⟩:=h;cases rx;obtain⟨t,rfl⟩:=ry;obtain⟨its,r1,p1,_⟩:=I.tuple ha;obtain⟨⟨cls,dd,data,sl⟩,ho,hc,n,hd⟩:=id p1;simp only at hc hd;subst hc hd;refine Hv (T:="tuple") (U:="int") (by decide) ⟨_,ho,rfl⟩ (λs'=>yR s' k t) xg F.fills_int_mul uA C8 F.slot_int_index.lookup
  (j_ uA (yR s k t) F.entry_int_rmul (F.args_int_rmul_2 _ _) (zD k t a its.toArray n dd sl) ⟨ho,rfl,⟨_,ho,rfl⟩,?_⟩)
 by_cases hk:k=1
 ·subst hk
  exact j_ sD ⟨_,ho,rfl⟩ F.entry_tuple_mul (F.args_tuple_mul_2 _ _) (AY a its.toArray n dd sl t) ⟨ho,.ref a,H,I,rfl,q1 rfl⟩
 ·refine j_ sD ⟨_,ho,rfl⟩ F.entry_tuple_mul (F.args_tuple_mul_2 _ _) (zE a its n dd sl k t (by omega) h2 (λz=>hx (r1.yt.mp z)) (by rw[<-r1.length];exact hz)) ⟨ho,?_⟩
  refine⟨.ref s.heap.objs.size,_,I.laid (t':=s.toks) (o:=.tup (aT k.toNat xs).flatten) (λb ob q=>aF _ q) (ay _) ?_,rfl,q2 hk _ (I.hok.fresh (ay _))⟩
  exact⟨by rw[len_rep,Fy];exact hz,_,r1.rep k.toNat,uy _ _⟩
theorem O1{n:Int}(h1:VE X a δ (.tuple ds))(h2:VE X b δ (.int n))(hn:1<=n)(KH:n<=1000)(hz:ds.length<=100)(oW:ds≠[]):VE X (.BinOp a .Mult b pos) δ (.tuple (aT n.toNat ds).flatten):=by
 refine .of (DX OZ d_ d_) λB0 B σ H0 H Q f q=>h1 B0 B σ H0 H _ f λv H1 eQ g1 r1=>h2 B0 B σ H1 eQ _ (f.grow g1) λu H2 jH g2 r2=>?_
 cases r2;cases r1 with
 |tup hq rs=>
  rename_i ad xs
  have gg:=g1.trans g2;have hl:=rs.length;have h63:(1000:Int)<2^63:=by decide
  have Ui:=rs.mono g2.iq;have go:∀m,dz X.K H2 (aT m xs).flatten (aT m ds).flatten:=by
   intro m
   induction m with
   |zero=>exact .nil
   |succ m ih=>rw[dJ,dX,dJ,dX];exact Ui.append ih
  refine⟨_,n,_,rfl,rfl,g2.sub.qM (g2.iq.qM hq),hn,by omega,λz=>?_,?_,λe=>?_,λ_ p hp=>?_⟩
  ·rw[z]at hl
   exact oW (nU hl.symm)
  ·rw[du,hl]
   have:n.toNat<=1000:=by omega
   have:=ic hz this;omega
  ·refine q _ H2 jH gg ?_
   have e2:(aT n.toNat ds).flatten=ds:=by rw[e];simp
   rw[e2];exact .tup (g2.iq.qM hq) Ui
  ·exact q _ _ _ (gg.trans (.laid g2.sub hp)) (.tup (rF.of bQ) ((go _).mono (eL.laid g2.sub hp).iq))
end
def uv(as:List aR)(H H0:Hp):Hp:=λq=>if q∈as then H q else H0 q
theorem yD{H0: Hp}(h:q∈as):uv as H H0 q=H q:=qQ3 h
theorem vT{H0: Hp}(h:q∉as):uv as H H0 q=H0 q:=qQ2 h
abbrev OR:=Hp->Hp->List aR->Prop
def vU(R:OR):Prop:=∀H0 H Ha Hb as,R H0 H as->eC H0 Ha->(∀a∈as,Hb a=H a)->R Ha Hb as
structure OF(K:au)(B0 B:Hp)(R:OR)(H0 H:Hp)(σ:St)(δ:List Slot):Prop where
 fr:iI K B0 B H0 H σ δ
 no:noOwn δ=true
 ex:∃as:List aR,(∀a∈as,H0 a=none/\B a=none/\H a≠none)/\R H0 H as
section
variable{K:au}{B0 B H0 H e9 H' C0 C Ha Hb:Hp}{σ σ':St}{δ δ':List Slot}{R R':OR}
theorem eC.eq{H': Hp}(s:eC H H')(h:H a≠none):H' a=H a:=by
 cases e:H a with
 |none=>exact qQ7 e h
 |some o=>exact s a o e
theorem OF.go(m:vU R)(G:OF K B0 B R H0 H σ δ)(f':iI K H0 H Ha Hb σ' δ')(hn:noOwn δ'=true):OF K B0 B R Ha Hb σ' δ':=by
 obtain⟨as,h1,h2⟩:=G.ex;refine⟨f'.re hn (G.fr.ent.trans f'.ent),hn,as,λa ha=>?_,m _ _ _ _ _ h2 f'.ent.iq λa ha=>f'.ent.big.eq (h1 a ha).2.2⟩
 obtain⟨z1,z2,z3⟩:=h1 a ha;cases e:H a with
 |none=>exact qQ7 e z3
 |some o=>exact⟨f'.ent.still z1 e,z2,f'.ent.big.ne z3⟩
theorem OF.from(G:OF K B0 B R H0 H σ δ)(g:eL C0 B H0 H):OF K C0 B R H0 H σ δ:=⟨G.fr.re G.no g,G.no,G.ex⟩
theorem OF.own(G:OF K B0 B R H0 H σ δ):iI K H0 H H0 H σ δ:=G.fr.re G.no (.refl G.fr.sub)
theorem OF.forget(m:vU R)(G:OF K B0 B R H0 H σ δ)(hf:Nu δ δ')(hn:noOwn δ'=true):OF K B0 B R H0 H σ δ':=G.go m (G.own.forget hf.len hf.at) hn
theorem sX(sb:eC H0 H):eC H0 (uv as H H0):=λb u e=>by
 by_cases hb:b∈as
 ·rw[yD hb];exact sb b u e
 ·rw[vT hb];exact e
theorem C9(sb:eC H0 H):eC (uv as H H0) H:=λb u e=>by
 by_cases hb:b∈as
 ·rw[yD hb]at e;exact e
 ·rw[vT hb]at e;exact sb b u e
theorem OF.look(G:OF K B0 B R H0 H σ δ){i:Nat}(hi:δ[i]?=some (.ref p))(hR:∀Ha Hb as,eC Ha Hb->R Ha Hb as->Rep K (uv as Hb Ha) (.ref p) d):∃C0,iI K C0 H C0 H σ (δ.set i (.val d)):=by
 obtain⟨as,h1,h2⟩:=G.ex;have sm:=sX (as:=as) G.fr.sub;have hs:σ[i]?=some (some (.ref p)):=G.fr.slot i _ hi;have f0:iI K (uv as H H0) H (uv as H H0) H σ δ:=by
  refine⟨.refl (C9 G.fr.sub),G.fr.len,λi sl e=>?_,G.fr.apart⟩
  have q:=G.fr.slot i sl e;cases sl with
  |un=>trivial
  |ref _=>exact q
  |val d=>obtain⟨v,g1,g2⟩:=q;exact⟨v,g1,g2.mono sm⟩
  |own ds=>exact qQ7 e (nq G.no i ds)
 have f1:=f0.u_ (i:=i) (v:=.ref p) (sl:=.val d) ⟨_,rfl,hR H0 H as G.fr.sub h2⟩ rfl;have e:σ.set i (some (.ref p))=σ:=by
  apply kf;intro j;by_cases h:j=i
  ·subst h;rw[bo (aP.mp hs).1,hs]
  ·rw[bh (bY h)]
 rw[e]at f1;exact⟨_,f1⟩
theorem OF.rep(G:OF K B0 B R H0 H σ δ)(hR:∀Ha Hb as,eC Ha Hb->R Ha Hb as->Rep K (uv as Hb Ha) (.ref p) d):∃Ha,eL B0 B Ha H/\Rep K Ha (.ref p) d:=by
 obtain⟨as,h1,h2⟩:=G.ex;refine⟨uv as H H0,⟨G.fr.ent.big,G.fr.ent.iq.trans (sX G.fr.sub),C9 G.fr.sub,λb e=>?_⟩,hR H0 H as G.fr.sub h2⟩
 by_cases hb:b∈as
 ·exact .inr (h1 b hb).2.1
 ·rw[vT hb]at e;exact G.fr.ent.new b e
end
section
variable{X:Cx}{B0 B H0 H e9 H' Ha Hb:Hp}{σ σ':St}{D:Ends}{st:jq}{rest body orelse:List jq}{δ δ':List Slot}{a p:aR}{e c tg iter:cx}{d dp:ao}{ds:List ao}{pos px yi:Pos}{x y:Str}{R:OR}
theorem zF(m:vU R)(G:OF X.K B0 B R H0 H σ δ)(h:VS X st δ (.nx δ'))(hn:noOwn δ'=true)(q:∀σ' e9 H',OF X.K B0 B R e9 H' σ' δ'->D.nx σ' H'):cS X st D σ H:=
 h H0 H σ H0 H D G.own λσ' Ha Hb sm f'=>q σ' Ha Hb (G.go m f' hn)
theorem Gi(m:vU R)(G:OF X.K B0 B R H0 H σ δ)(i j:Nat)(hi:δ[i]?=some (.ref p))(hR:∀Ha Hb as,eC Ha Hb->R Ha Hb as->Rep X.K (uv as Hb Ha) (.ref p) dp)(h:VE X e (δ.set i (.val dp)) d)(hs:Qs d=true)(hn:noOwn (δ.set j (.val d))=true)(q:∀σ' e9 H',OF X.K B0 B R e9 H' σ' (δ.set j (.val d))->D.nx σ' H')(hN:X.N.Nodup)
  (hj:X.N[j]?=some y:=by rfl)(hx:Loc X.env.scope y:=by first|exact bq rfl|exact di rfl)(D_:swapsWith e (some (.Name y px)) pos.line X.env=pure false:=by rfl)(hf:X.fn y=true\/X.env.scope.names.lookup y=some .local:=by first|exact .inl rfl|exact .inr rfl):
  cS X (.Assign [.Name y px] e pos) D σ H:=λpins s I=>by
 refine wN (i:=j) hN hj hx d_ D_ hf pins s σ H D I ?_
 obtain⟨C0,f1⟩:=G.look hi hR;refine h C0 H σ C0 H _ f1 λv C1 H1 g1 r=>?_
 have G1:OF X.K B0 B R H0 H1 σ δ:=G.go m (G.own.grow (.far G.fr.sub g1.big)) G.no;exact q _ H0 H1 (G1.go m (G1.own.u_ (v:=v) (sl:=.val d) ⟨_,rfl,r.ZP hs⟩ rfl) hn)
theorem Wc{tgt:H_}(Rs:Nat->OR)(m:∀k,vU (Rs k))(G:OF X.K B0 B (Rs 0) H0 H σ δ)(hp:B_ (model X.prog X.w) X.A X.env X.xe)(hc:X.calm=true)(hi:VI X tg iter δ ds)(hg:PG X tg (Nr X.K tgt))
  (step:∀k d,ds[k]?=some d->∃δ',zp tgt d δ=some δ'/\noOwn δ'=true/\∀(D:Ends)C0 σ' e9 H',OF X.K C0 B (Rs k) e9 H' σ' δ'->(∀σ2 Ha Hb,OF X.K C0 B (Rs (k+1)) Ha Hb σ2 δ->D.nx σ2 Hb)->HY X body D σ' H')
  (q:∀σ2 Ha Hb,OF X.K B0 B (Rs ds.length) Ha Hb σ2 δ->D.nx σ2 Hb)
  (hs:∀x,foldedSetIterable iter X.env x=pure x:=by intro _;rfl):cS X (.For tg iter body [] pos) D σ H:=λpins s I=>by
 obtain⟨wi,pi,qi⟩:=hi;refine Cw hp hc pi hg nW hs pins s σ H D I ?_
 refine qi H0 H σ H0 H _ G.own λJ H1 eQ g it=>?_
 have G1:=G.go (m 0) (G.own.grow g) G.no;refine⟨λi mm σ' H'=>i<=ds.length/\mm=ds.length-i/\∃Ha,OF X.K H1 B (Rs i) Ha H' σ' δ,⟨ds.length,bj _,rfl,H1,G1.from ⟨G1.fr.ent.big,eC.refl _,G1.fr.sub,λ_ z=>.inl z⟩⟩,?_⟩
 rintro i mm σ' H' ⟨hi,rfl,Ha,Ga⟩
 obtain⟨i1,i2,i3⟩:=it Ha H' Ga.fr.ent.iq Ga.fr.sub i;by_cases t_:i<ds.length
 ·have hd:ds[i]?=some ds[i]:=by simp[t_]
  obtain⟨δ',e1,e2,e3⟩:=step i _ hd;refine .inr ⟨i1 t_,λσ'' Av=>∃Hb,OF X.K H1 B (Rs (i+1)) Hb Av σ'' δ,λσ'' Av ⟨Hb,z⟩=>⟨ds.length-(i+1),by omega,t_,rfl,Hb,z⟩,λv H2 y=>?_⟩
  obtain⟨Hb,g2,rx⟩:=i3 v H2 _ hd y;refine qQ (Ga.own.grow g2) rx e1 λσ3 f3=>?_
  exact e3 _ H1 σ3 Hb H2 (Ga.go (m i) f3 e2) λσ2 Hc Hd z=>⟨Hc,z⟩
 ·have e:i=ds.length:=by omega
  subst e;refine .inl ⟨i2 (ay _),q σ' Ha H' (Ga.from ⟨Ga.fr.ent.big,G1.fr.ent.iq.trans Ga.fr.ent.iq,Ga.fr.sub,λb z=>?_⟩)⟩
  rcases Ga.fr.ent.new b z with z|z
  ·exact G1.fr.ent.new b z
  ·exact .inr z
theorem Wf(G:OF X.K B0 B R H0 H σ δ)(i:Nat)(hi:δ[i]?=some (.ref p))(hR:∀Ha Hb as,eC Ha Hb->R Ha Hb as->Rep X.K (uv as Hb Ha) (.ref p) d)(q:∀v e9 H',eL B0 B e9 H'->Rep X.K e9 v d->D.rt v H')
  (hN:X.N[i]?=some x:=by rfl)(hv:FG X.env.scope x:=by first|exact bq rfl|exact di (bq rfl)|exact di (di rfl))(hd:(x==("__debug__":Str))=false:=by decide)(rQ:(x==("__classdict__":Str))=false:=by decide):
  cS X (.Return (some (.Name x px)) pos) D σ H:=λpins s I=>y0 (iH hN hv hd rQ) pins s σ H D I (by
 obtain⟨Ha,g,r⟩:=G.rep hR;exact⟨_,G.fr.slot i _ hi,q _ Ha H g r⟩)
def Iq(K:au)(S:Type)(PR:aR->S->OR)(ok:S->ao->S->Prop):Sp:=λvs H Q _=>∃(H0:Hp)(p:aR)(v:V)(as:List aR)(s s':S)(d:ao),vs=[.ref p,v]/\eC H0 H/\Rep K H0 v d/\(∀a∈as,H0 a=none/\H a≠none)/\PR p s H0 H as/\ok s d s'/\
 ∀(e9 H':Hp)(as':List aR),eC H0 e9->eC e9 H'->(∀a,e9 a≠none->H0 a≠none\/H a=none)->(∀a∈as',e9 a=none/\H' a≠none/\(a∈as\/H a=none))->(∀b o,H b=some o->b∉as->H' b=some o)->PR p s' e9 H' as'->Q .non H'
theorem Qz{S:Type}{PR:aR->S->OR}{ok:S->ao->S->Prop}{k:Nat}{f:Str}{ps:List Str}{p0 p1 pc:Pos}{s s':S}(C:bO X.prog X.w X.K X.mg X.base k f ps (Iq X.K S PR ok))(hr:gj k X.A)(G:OF X.K B0 B (PR p s) H0 H σ δ)(m:vU (PR p s))(i:Nat)(hi:δ[i]?=some (.ref p))(h:VE X e δ d)(hok:ok s d s')
  (q:∀e9 H',OF X.K B0 B (PR p s') e9 H' σ δ->D.nx σ H')
  (hN:X.N[i]?=some x:=by rfl)(hv:FG X.env.scope x:=by first|exact bq rfl|exact di (bq rfl)|exact di (di rfl))(hd:(x==("__debug__":Str))=false:=by decide)(rQ:(x==("__classdict__":Str))=false:=by decide)
  (hg:Gl X f:=by rfl)(rS:(f==("__debug__":Str))=false:=by decide)(he:starEach [.Name x p0,e] X.env=(false,eval (.Name x p0) X.env)::starEach [e] X.env:=by rfl)(VB:starEach [e] X.env=(false,eval e X.env)::starEach [] X.env:=by rfl)(pT:(backTo pc (starEach [e] X.env)).any (·.1)=false:=by rfl)
  (D_:swapsWith (.Call (.Name f p1) [.Name x p0,e] [] pc) none pos.line X.env=pure false:=by rfl):
  cS X (.Expr (.Call (.Name f p1) [.Name x p0,e] [] pc) pos) D σ H:=λpins s0 I=>by
 obtain⟨fa,fd,F,hm,hk,hb⟩:=C;refine qJ (CB F hr hg hm hk hb .nil D6 (dG (iH hN hv hd rQ) (dG d_ gI VB) he) rS he pT) D_ pins s0 σ H D I ?_
 refine⟨.ref p,G.fr.slot i _ hi,?_⟩
 refine h H0 H σ H0 H _ G.own λv H1 eQ g r=>?_
 have G1:=G.go m (G.own.grow g) G.no;obtain⟨as,h1,h2⟩:=G1.ex;refine⟨H1,p,v,as,s,s',d,rfl,G1.fr.sub,r,λa ha=>⟨(h1 a ha).1,(h1 a ha).2.2⟩,h2,hok,λe9 H' as' a1 a2 a3 a4 a5 a6=>?_⟩
 have hB:∀b,B b≠none->b∉as:=λb hb z=>hb (h1 b z).2.1
 refine q e9 H' ⟨⟨⟨λb u e=>a5 b u (G1.fr.ent.big b u e) (hB b (by rw[e];simp)),G1.fr.ent.iq.trans a1,a2,λb z=>?_⟩,G1.fr.len,λj sl e=>?_,G1.fr.apart⟩,G.no,as',λa ha=>?_,a6⟩
 ·rcases a3 b z with z|z
  ·exact G1.fr.ent.new b z
  ·exact .inr (G1.fr.ent.big.free z)
 ·have qq:=G1.fr.slot j sl e
  cases sl with
  |un=>trivial
  |ref _=>exact qq
  |val d=>obtain⟨v,g1,g2⟩:=qq;exact⟨v,g1,g2.mono a1⟩
  |own ds=>exact qQ7 e (nq G.no j ds)
 ·obtain⟨z1,z2,z3⟩:=a4 a ha
  refine⟨z1,?_,z2⟩
  rcases z3 with z3|z3
  ·exact(h1 a z3).2.1
  ·exact G1.fr.ent.big.free z3
end
section
variable{X:Cx}{pins:List (aR×Obj)}{σ:St}{H:Hp}{s:aU}{a:aR}{kvs:List (Key×V)}{k:Key}{d:V}{u r:aG}{A:ef}{E:aG->aU->Prop}
theorem LV(I:Inv X pins σ H s)(e:H a=some (.dK kvs))(ry:RelV (kV k) u)(rd:RelV d r)(hl:kvs.length<sizeLine)(h1:∀v w' s',jI kvs k=some v->Inv X pins σ H s'->RelV v w'->Q w' s')
  (h2:∀s',jI kvs k=none->Inv X pins σ (upd H a (.dK (putK kvs k d))) s'->Q r s'):wpAny (model X.prog X.w) A (call (.builtin "dict.setdefault") [.ref a,u,r]) Q E s:=by
 obtain⟨z,hd,vs,rel,dd⟩:=KZ I.hok e;have rv:=rel.val k;refine call_meetsIn yc dd.typeIs PySem.F.entry_dict_setdefault (PySem.F.args_dict_setdefault_3 _ _ _) (kt_meets_setdefault (gq X.prog X.w) a (uE ry) hd r) ⟨vs,dd,by rw[<-rel.length];exact z,λv hv=>?_,λhn h' D7 hs=>?_⟩
 ·rw[hv]at rv
  cases ev:jI kvs k with
  |none=>rw[ev]at rv;exact rv.elim
  |some w=>rw[ev]at rv;exact h1 w v _ ev (I.tok _) rv
 ·have SG:(putK kvs k d).length<=sizeLine:=by have:=pC kvs k d;omega
  have he:∃q,h'.get? a=some q:=let⟨q,_,_,hq,_⟩:=D7;⟨q,hq⟩;rw[hn]at rv;refine h2 _ ?_ (yu I (by rw[e];exact gD) hs he (CM SG hd (rel.put k rd) D7))
  cases ev:jI kvs k with
  |none=>rfl
  |some w=>rw[ev]at rv;exact rv.elim
end
def Wh(td ty tx:TE):TE:=λσ H Q=>td σ H λx H1=>∃a,x=.ref a/\Zr H1 a/\ty σ H1 λy H2=>tx σ H2 λz H3=>∃kvs k,H3 a=some (.dK kvs)/\y=kV k/\kvs.length<sizeLine/\
 (∀v,jI kvs k=some v->Q v H3)/\(jI kvs k=none->Q z (upd H3 a (.dK (putK kvs k z))))
section
variable{X:Cx}{o e f:cx}{apos oH:Pos}{td ty tx:TE}
theorem O2(ho:PE X o td)(he:PE X e ty)(hf:PE X f tx)(m:M2 X o "setdefault" apos e f oH):PE X (.Call (.Attribute o "setdefault" apos) [e,f] [] oH) (Wh td ty tx):=by
 intro pins s σ H Q I h;refine wpAny_Call_method m.base m.few m.line A6 yc PySem.F.type_dict_setdefault (g8 (ho pins s σ H _ I h) λu s1 ⟨x,H1,I1,rx,a,ex,d,q1⟩=>?_)
 subst ex;obtain rfl:u=bA a:=rx;obtain⟨t1,t2,_⟩:=K4 I1 d;refine⟨t1,t2,?_⟩
 rw[m.trees];refine rM rfl (uq (lE (g8 (he pins s1 σ H1 _ I1 q1) λiv s2 ⟨y,H2,I2,ry,q2⟩=>
  lE (g8 (hf pins s2 σ H2 _ I2 q2) λfv s3 ⟨z,H3,I3,rz,kvs,k,ea,ey,hl,q3,q4⟩=>wH ?_))))
 subst ey;exact LV I3 ea ry rz hl (λv w' s' ev I4 rR=>⟨v,H3,I4,rR,q3 v ev⟩) λs' ev I4=>⟨z,_,I4,rz,q4 ev⟩
end
section
variable{X:Cx}{B0 B H0 H:Hp}{σ:St}{D:Ends}{st:jq}{rest body orelse:List jq}{δ δ':List Slot}{a p C dx:aR}{e c ek ev:cx}{d:ao}{pos px po ps pa pc:Pos}{x y fl:Str}{fs:List (Str×V)}{k:Nat}
theorem Wi(f:iI X.K B0 B H0 H σ δ)(h:VS X st δ (.nx δ'))(q:∀σ' Ha Hb,eC H0 Ha->iI X.K B0 B Ha Hb σ' δ'->D.nx σ' Hb):cS X st D σ H:=h B0 B σ H0 H D f q
theorem zG(f:iI X.K B0 B H0 H σ δ)(h:VT X c δ true)(q:∀Ha Hb,eL H0 H Ha Hb->HY X body D σ Hb):cS X (.If c body orelse pos) D σ H:=λpins s I=>
 Bc qN nW mK pins s σ H D I (h B0 B σ H0 H _ f λH1 eQ g=>Vo (q H1 eQ g))
theorem kZ(f:iI X.K B0 B H0 H σ δ)(h:VT X c δ false)(q:∀Ha Hb,eL H0 H Ha Hb->HY X orelse D σ Hb):cS X (.If c body orelse pos) D σ H:=λpins s I=>
 Bc qN mK nW pins s σ H D I (h B0 B σ H0 H _ f λH1 eQ g=>KY (q H1 eQ g))
theorem LW(i:Nat){fi:aR}{fd:gf}{ps':List Str}{sp:Sp}{j:Nat}{p0 pk:Pos}(M:Mk X.K C fi)(F:fA X.prog X.w X.K X.mg X.base kR j fi fd ps' sp)(hr:gj (j+1) X.A)(hm:X.mg x=some (.ref C))(hb:Binds X.K fd ps' [])
  (q:∀p dx E,H p=none->H dx=none->dx≠p->sp [.ref p] (upd (upd H dx (.own p)) p (.ins C dx [])) (λv H2=>v=.non/\D.nx (σ.set i (some (.ref p))) H2) E)
  (hN:X.N.Nodup)(hi:X.N[i]?=some y:=by rfl)(hx:Loc X.env.scope y:=by first|exact bq rfl|exact di rfl)(hs:swapsWith (.Call (.Name x p0) [] [] pk) (some (.Name y px)) pos.line X.env=pure false:=by rfl)(hf:X.fn y=true\/X.env.scope.names.lookup y=some .local:=by first|exact .inl rfl|exact .inr rfl)
  (hg:Gl X x:=by rfl)(rS:(x==("__debug__":Str))=false:=by decide):cS X (.Assign [.Name y px] (.Call (.Name x p0) [] [] pk) pos) D σ H:=λpins s I=>by
 refine wN (i:=i) hN hi hx (KN M F hr hg hm hb .nil D6 rS) hs hf pins s σ H D I ?_
 exact λp dx h1 h2 h3=>q p dx _ h1 h2 h3
theorem LX(f:iI X.K B0 B H0 H σ δ)(hr:gj k X.A)(i:Nat)(hi:δ[i]?=some (.ref p))(ins:H p=some (.ins C dx fs))(cl:DZ X.K C)(na:gP X.K C fl)(lk:fs.lookup fl=some (.ref a))(hd:H a=some (.dK kvs))(hk:VE X ek δ (.str y))(hv:VE X ev δ d)(hl:kvs.length<sizeLine)
  (q:∀v Ha Hb,eL H0 H Ha Hb->Rep X.K Ha v d->D.nx σ (upd Hb a (.dK (putK kvs (b9 y) v))))
  (hN:X.N[i]?=some x:=by rfl)(C_:FG X.env.scope x:=by first|exact bq rfl|exact di (bq rfl)|exact di (di rfl))(rS:(x==("__debug__":Str))=false:=by decide)(rQ:(x==("__classdict__":Str))=false:=by decide)
  (hb:attributeBase (.Name x px) fl X.env (eval (.Name x px) X.env)=eval (.Name x px) X.env:=by rfl)(hs:swapsWith ev (some (.Subscript (.Attribute (.Name x px) fl po) ek ps)) pos.line X.env=pure false:=by rfl):
  cS X (.Assign [.Subscript (.Attribute (.Name x px) fl po) ek ps] ev pos) D σ H:=λpins s I=>by
 refine CN (Qw hr) (y8 (iH hN C_ rS rQ) hb) d_ d_ hs pins s σ H D I ?_
 refine hv B0 B σ H0 H _ f λv H1 eQ g1 r1=>?_
 refine⟨.ref p,f.slot i _ hi,p,C,dx,fs,.ref a,rfl,g1.big _ _ ins,cl,na,lk,?_⟩
 refine hk B0 B σ H1 eQ _ (f.grow g1) λu H2 jH g2 r2=>?_
 cases r2;exact⟨a,_,rfl,CL.k (k:=b9 y) (g2.big _ _ (g1.big _ _ hd)) hl,q v H2 jH (g1.trans g2) (r1.mono g2.iq)⟩
theorem SY(f:iI X.K B0 B H0 H σ δ)(hr:gj k X.A)(i:Nat){kvs:List (List Key×V)}{e1 e2:cx}{z1 z2:Str}{x1}(hi:δ[i]?=some (.ref p))(ins:H p=some (.ins C dx fs))(cl:DZ X.K C)(na:gP X.K C fl)(lk:fs.lookup fl=some (.ref a))(hd:H a=some (.dT kvs))(Uc:VE X e1 δ (.str z1))(hk2:VE X e2 δ (.str z2))(hv:VE X ev δ d)(hl:kvs.length<sizeLine)
  (q:∀v t Ha Hb,eL H0 H Ha Hb->Hb t=none->Rep X.K Ha v d->D.nx σ (upd (upd Hb t (.tup [.str z1,.str z2])) a (.dT (putK kvs (wZ (z1,z2)) v))))
  (hN:X.N[i]?=some x:=by rfl)(C_:FG X.env.scope x:=by first|exact bq rfl|exact di (bq rfl)|exact di (di rfl))(rS:(x==("__debug__":Str))=false:=by decide)(rQ:(x==("__classdict__":Str))=false:=by decide)
  (hb:attributeBase (.Name x px) fl X.env (eval (.Name x px) X.env)=eval (.Name x px) X.env:=by rfl)(hs:swapsWith ev (some (.Subscript (.Attribute (.Name x px) fl po) (.Tuple [e1,e2] x1 pt) ps)) pos.line X.env=pure false:=by rfl)
  (DQ:starEach [e1,e2] X.env=(false,eval e1 X.env)::starEach [e2] X.env:=by rfl)(rG:starEach [e2] X.env=(false,eval e2 X.env)::starEach [] X.env:=by rfl):
  cS X (.Assign [.Subscript (.Attribute (.Name x px) fl po) (.Tuple [e1,e2] x1 pt) ps] ev pos) D σ H:=λpins s I=>by
 refine CN (Qw hr) (y8 (iH hN C_ rS rQ) hb) (y_ (dG d_ (dG d_ gI rG) DQ)) d_ hs pins s σ H D I ?_
 refine hv B0 B σ H0 H _ f λv H1 eQ g1 r1=>?_
 refine⟨.ref p,f.slot i _ hi,p,C,dx,fs,.ref a,rfl,g1.big _ _ ins,cl,na,lk,?_⟩
 refine Uc B0 B σ H1 eQ _ (f.grow g1) λu H2 jH g2 r2=>?_
 cases r2;refine hk2 B0 B σ H2 jH _ ((f.grow g1).grow g2) λu H3 yw g3 r3=>?_
 cases r3;have gg:=(g1.trans g2).trans g3;refine⟨by show 2<=sizeLine;rw[du];decide,λt ht=>?_⟩
 have Uk:(upd yw t (.tup [.str z1,.str z2])) a=some (.dT kvs):=by rw[aY (bC (gg.big _ _ hd) ht)];exact gg.big _ _ hd
 exact⟨a,_,rfl,CL.t (k:=wZ (z1,z2)) Uk bQ hl,q v t H3 yw gg ht ((r1.mono g2.iq).mono g3.iq)⟩
theorem Ej(f:iI X.K B0 B H0 H σ δ)(i:Nat)(hi:δ[i]?=some (.ref p))(ins:H p=some (.ins C dx fs))(cl:DZ X.K C)(na:gP X.K C fl)(lk:fs.lookup fl=some (.ref a))(hd:H a=some (.lst xs))(hv:VE X e δ d)(hl:xs.length<sizeLine)
  (q:∀v Ha Hb,eL H0 H Ha Hb->Rep X.K Ha v d->D.nx σ (upd Hb a (.lst (xs ++ [v]))))
  (hN:X.N[i]?=some x:=by rfl)(C_:FG X.env.scope x:=by first|exact bq rfl|exact di (bq rfl)|exact di (di rfl))(rS:(x==("__debug__":Str))=false:=by decide)(rQ:(x==("__classdict__":Str))=false:=by decide)
  (hb:attributeBase (.Name x px) fl X.env (eval (.Name x px) X.env)=eval (.Name x px) X.env:=by rfl)(oI:attributeBase (.Attribute (.Name x px) fl po) "append" X.env (eval (.Attribute (.Name x px) fl po) X.env)=eval (.Attribute (.Name x px) fl po) X.env:=by rfl)
  (hs:starEach [e] X.env=(false,eval e X.env)::starEach [] X.env:=by rfl)
  (u0:((backTo pc (starEach [e] X.env)).all (λx=>!x.1)&&(backToKw pc (keywordEach [] X.env)).all (λx=>x.1.isSome)&&decide (([e]:List cx).length+([]:List jz).length+(if([]:List jz).isEmpty then 0 else 1)<30))=true:=by rfl)
  (hline:(pa.endLine==pc.line)=true:=by rfl)(lb:(backTo pc (starEach [] X.env)).any (·.1)=false:=by rfl)(D_:swapsWith (.Call (.Attribute (.Attribute (.Name x px) fl po) "append" pa) [e] [] pc) none pos.line X.env=pure false:=by rfl):
  cS X (.Expr (.Call (.Attribute (.Attribute (.Name x px) fl po) "append" pa) [e] [] pc) pos) D σ H:=λpins s I=>by
 refine qJ (zh ju pQ pR tZ (y8 (iH hN C_ rS rQ) hb) (dG d_ gI hs) oI u0 hline hs lb) D_ pins s σ H D I ?_
 refine⟨.ref p,f.slot i _ hi,p,C,dx,fs,.ref a,rfl,ins,cl,na,lk,.inl ⟨rfl,_,mJ.of hd⟩,?_⟩
 refine hv B0 B σ H0 H _ f λv H1 eQ g1 r1=>?_
 exact⟨a,xs,v,rfl,rfl,g1.big _ _ hd,hl,q v H1 eQ g1 r1⟩
theorem LY(f:iI X.K B0 B H0 H σ δ)(i:Nat){pl Ir Ul:Pos}(hi:δ[i]?=some (.ref p))(ins:H p=some (.ins C dx fs))(cl:DZ X.K C)(na:gP X.K C fl)(lk:fs.lookup fl=some (.ref a))(hd:H a=some (.dK kvs))(hk:VE X ek δ (.str y))(hv:VE X e δ d)(hl:kvs.length<sizeLine)(Kn:noOwn δ=true)(ha0:H0 a=none)
  (hc:∀v,jI kvs (b9 y)=some v->∃c xs,v=.ref c/\H c=some (.lst xs)/\xs.length<sizeLine)
  (q1:∀c xs v t Ha Hb,jI kvs (b9 y)=some (.ref c)->H c=some (.lst xs)->H t=none->eL H0 H Ha Hb->Ha t=none->Rep X.K Ha v d->D.nx σ (upd Hb c (.lst (xs ++ [v]))))
  (q2:∀v c Ha Hb,jI kvs (b9 y)=none->H c=none->eC H0 Ha->eC Ha Hb->(∀b,Ha b≠none->H0 b≠none\/H b=none)->(∀b o,H b=some o->b≠a->Hb b=some o)->Hb a=some (.dK (putK kvs (b9 y) (.ref c)))->Hb c=some (.lst [])->Ha c=none->Ha a=none->Rep X.K Ha v d->D.nx σ (upd Hb c (.lst [v])))
  (hN:X.N[i]?=some x:=by rfl)(C_:FG X.env.scope x:=by first|exact bq rfl|exact di (bq rfl)|exact di (di rfl))(rS:(x==("__debug__":Str))=false:=by decide)(rQ:(x==("__classdict__":Str))=false:=by decide)
  (hb:attributeBase (.Name x px) fl X.env (eval (.Name x px) X.env)=eval (.Name x px) X.env:=by rfl)(m:M2 X (.Attribute (.Name x px) fl po) "setdefault" Ir ek (.List [] pl) Ul:=by exact⟨rfl,rfl,rfl,rfl⟩)
  (oI:attributeBase (.Call (.Attribute (.Attribute (.Name x px) fl po) "setdefault" Ir) [ek,.List [] pl] [] Ul) "append" X.env (eval (.Call (.Attribute (.Attribute (.Name x px) fl po) "setdefault" Ir) [ek,.List [] pl] [] Ul) X.env)=eval (.Call (.Attribute (.Attribute (.Name x px) fl po) "setdefault" Ir) [ek,.List [] pl] [] Ul) X.env:=by rfl)
  (hs:starEach [e] X.env=(false,eval e X.env)::starEach [] X.env:=by rfl)
  (u0:((backTo pc (starEach [e] X.env)).all (λx=>!x.1)&&(backToKw pc (keywordEach [] X.env)).all (λx=>x.1.isSome)&&decide (([e]:List cx).length+([]:List jz).length+(if([]:List jz).isEmpty then 0 else 1)<30))=true:=by rfl)
  (hline:(pa.endLine==pc.line)=true:=by rfl)(lb:(backTo pc (starEach [] X.env)).any (·.1)=false:=by rfl)(D_:swapsWith (.Call (.Attribute (.Call (.Attribute (.Attribute (.Name x px) fl po) "setdefault" Ir) [ek,.List [] pl] [] Ul) "append" pa) [e] [] pc) none pos.line X.env=pure false:=by rfl):
  cS X (.Expr (.Call (.Attribute (.Call (.Attribute (.Attribute (.Name x px) fl po) "setdefault" Ir) [ek,.List [] pl] [] Ul) "append" pa) [e] [] pc) pos) D σ H:=λpins s I=>by
 refine qJ (zh ju pQ pR tZ (O2 (y8 (iH hN C_ rS rQ) hb) d_ (Cz gI) m) (dG d_ gI hs) oI u0 hline hs lb) D_ pins s σ H D I ?_
 refine⟨.ref p,f.slot i _ hi,p,C,dx,fs,.ref a,rfl,ins,cl,na,lk,a,rfl,.inl ⟨kvs,.inl hd⟩,?_⟩
 refine hk B0 B σ H0 H _ f λu H1 eQ g1 r1=>?_
 cases r1;refine⟨by show 0<=sizeLine;exact bj _,λt ht=>?_⟩
 have hta:a≠t:=bC (g1.big _ _ hd) ht;have gl:eL H0 H H1 (upd eQ t (.lst [])):=g1.trans (.loose g1.sub ht);refine⟨kvs,b9 y,by rw[aY hta];exact g1.big _ _ hd,rfl,hl,λv Ek=>?_,λhn=>?_⟩
 ·obtain⟨c,xs,rfl,Kq,S0⟩:=hc v Ek
  have hct:c≠t:=bC (g1.big _ _ Kq) ht;refine⟨.inl ⟨rfl,_,mJ.of (by rw[aY hct];exact g1.big _ _ Kq)⟩,?_⟩
  refine hv B0 B σ H1 _ _ (f.grow gl) λv H2 jH g2 r2=>?_
  have gg:=gl.trans g2;refine⟨c,xs,v,rfl,rfl,gg.big _ _ Kq,S0,q1 c xs v t H2 jH Ek Kq (g1.big.free ht) gg ?_ r2⟩
  exact g2.still (g1.sub.free ht) bQ
 ·have hca:t≠a:=bY hta
  have ga:(upd eQ t (.lst [])) a=some (.dK kvs):=by rw[aY hta];exact g1.big _ _ hd
  refine⟨.inl ⟨rfl,_,mJ.of (by rw[aY hca];exact bQ)⟩,?_⟩
  have h1a:H1 a=none:=g1.still ha0 hd;have h1t:H1 t=none:=g1.sub.free ht
  generalize hM:upd (upd eQ t (.lst [])) a (.dK (putK kvs (b9 y) (.ref t)))=Hm
  have m0:∀b o,H b=some o->b≠a->Hm b=some o:=λb o e hb=>by
   rw[<-hM,aY hb,aY (bC (g1.big _ _ e) ht)];exact g1.big _ _ e
  have m1:Hm a=some (.dK (putK kvs (b9 y) (.ref t))):=by rw[<-hM];exact bQ
  have m2:Hm t=some (.lst []):=by rw[<-hM,aY hca];exact bQ
  have sm:eC H1 Hm:=λb u e=>by
   rw[<-hM,aY (bC e h1a),aY (bC e h1t)];exact g1.sub b u e
  have fm:iI X.K H1 Hm H1 Hm σ δ:=by
   have f1:=f.grow g1;refine⟨.refl sm,f1.len,λj sl e=>?_,f1.apart⟩
   have qq:=f1.slot j sl e;cases sl with
   |un=>trivial
   |ref _=>exact qq
   |val d=>exact qq
   |own ds=>exact qQ7 e (nq Kn j ds)
  refine hv H1 Hm σ H1 Hm _ fm λv H2 jH g2 r2=>?_
  refine⟨t,[],v,rfl,rfl,g2.big _ _ m2,by show 0<sizeLine;rw[du];decide,?_⟩
  refine q2 v t H2 jH hn (g1.big.free ht) (g1.iq.trans g2.iq) g2.sub (λb z=>?_) (λb o e hb=>g2.big _ _ (m0 b o e hb)) (g2.big _ _ m1) (g2.big _ _ m2) (g2.still h1t m2) (g2.still h1a m1) r2
  rcases g2.new b z with z|z
  ·exact g1.new b z
  ·refine .inr ?_
   cases e:H b with
   |none=>rfl
   |some o=>
    exfalso
    by_cases hb:b=a
    ·subst hb;rw[m1]at z;cases z
    ·rw[m0 b o e hb]at z;cases z
end
section
variable{X:Cx}{a b e:cx}{δ:List Slot}{d:ao}{ds:List ao}{pos:Pos}{k:Nat}
theorem O4(h:VE X e δ d)(hs:swapsWith e none pos.line X.env=pure false:=by rfl):VS X (.Expr e pos) δ (.nx δ):=λB0 B σ H0 H D f ok pins s I=>
 qJ d_ hs pins s σ H D I (h B0 B σ H0 H _ f λv H1 eQ g r=>ok σ H1 eQ g.iq (f.grow g))
end
end L2
namespace PySem
section
variable{prog:bL}{w:cH}{A:ef}{E:aG->aU->Prop}{h:dw}{g:Array uo}{d:Drawn}{t:Nat}{os:OsState}{a:aR}{items:Array aG}{n:Nat}{sl}
end
end PySem
namespace PySem.F
end PySem.F
namespace L2
open PySem PySem.Spec PyProof.Rows
section
variable{prog:bL}{w:cH}{A:ef}{R:uU->aU->Prop}{I:aR}{fp wr:List aR}{G:Array uo->Array uo->Prop}{n:Nat}{P:Nat->aG->Prop}{St:Nat->aU->Prop}
end
section
variable{prog:bL}{w:cH}{A:ef}{E:aG->aU->Prop}{s:aU}
end
section
variable{X:Cx}
end
section
variable{ε:Type}{X:Cx}{sc:mn}{own N:List Str}{cap:List Nat}{cl:List (Str×aR)}{tg elt iter:cx}{ifs:List cx}{δ:List Slot}{ds:List ao}{pos:Pos}{tgt:H_}{Er:Hp->V->ε->Prop}
end
section
variable{X:Cx}{a b c:cx}{δ:List Slot}{d:ao}{pos p:Pos}{k:Nat}{z1 z2:Str}
end
inductive QB:ao->Prop
 |non:QB .none
 |bl (b:Bool):QB (.bool b)
 |int (i:Int):QB (.int i)
 |str (x:Str):QB (.str x)
 |lst {ds:List ao}:(∀d∈ds,QB d)->QB (.list ds)
 |tup {ds:List ao}:(∀d∈ds,QB d)->QB (.tuple ds)
section
variable{K:au}{H:Hp}{p:aR}{kvs:List (Key×V)}
end
def u_(kv:List (Str×ao))(y:Str)(d:ao):List (Str×ao):=kv.map λq=>if q.1=y then(q.1,d)else q
section
variable{X:Cx}{B0 B H0 H:Hp}{σ:St}{D:Ends}{δ:List Slot}{ev:cx}{d:ao}{pos px ps pk:Pos}{x y:Str}{k:Nat}{jk}
theorem LZ{st:List jq}(h:vB X st δ (.rt d))(f:iI X.K B0 B H0 H σ δ)(ok:∀v e9 H',eL B0 B e9 H'->Rep X.K e9 v d->D.rt v H'):HY X st D σ H:=h B0 B σ H0 H D f ok
end
end L2
namespace L2
open PySem
variable{fI:aR}{us:Array aG}{env:Env}{base:dw}{out:List Env}{rest:List aG}{M:Model}{oe:Obj}{K:au}{Q:Unit->aU->Prop}
structure Bx(fr ex:List aR)(e:aR)(oe:Obj)(h h':dw):Prop where
 size:h.objs.size<=h'.objs.size
 keep:∀b o,h.get? b=some o->b∉fr->b∉ex->b≠e->h'.get? b=some o
 slot:∀b o,h.get? b=some o->b∈fr->b∉ex->b≠e->∃sl,h'.get? b=some { o with slots:=sl }
 there:∀b o,h.get? b=some o->∃o',h'.get? b=some o'
 exc:∃T oT ts,h.objs.size<=T/\h'.get? e=some (oe.mapFields (·.setIfInBounds 1 (bA T)))/\T≠e/\h'.get? T=some oT/\oT.data=.fields ts/\ts[3]?=some .none
section
variable{M:Model}{A:ef}{E:aG->aU->Prop}{s:aU}
theorem zH{L e:aR}{hd0:aG}{more:Bool}
  (fr:A.frames=some (env::out))(ff:s.heap.FunFrames base (env::out))(fL:env.frame=some L)
  (ge:s.heap.get? e=some oe)(de:oe.data=.fields us)(sz:1<us.size)
  (q:∀h',Bx ((env::out).filterMap (·.frame)) [] e oe s.heap h'->Q () { s with heap:=h' }):
  wpAny M A (do let a <-frameOf env;let pl <-entryPlaceOf L more;let b <-Cq hd0 a .none (rawInt L) .none pl;setField (.ref e) 1 b) (λ_ s'=>wpAny M A (setFlight (.ref e) none) Q E s') E s:=by
 have nf:e∉(env::out).filterMap (·.frame):=λhm=>by
  obtain⟨_,o,ho,hnf⟩:=ff.mem hm;rw[ge]at ho;injection ho with ho;subst ho;exact hnf us de
 refine av (wpAny_frameOf_fun fr ff fL λh1 DQ=>?_)
 refine av (wpAny_entryPlaceOf λpl pT=>?_)
 unfold Cq newFields
 generalize hts:([hd0,.ref L,.none,rawInt L,.none]++(if pl.isEmpty then aT 6 fe else pl)).toArray=tb
 have tsz:3<tb.size:=by rw[<-hts];simp only[bD,aH,aX,cz];omega
 refine av (fw ?_ (by rw[<-hts];exact pT.sizeOk5 _ _ _ _ _))
 have g1:h1.get? e=some oe:=(DQ.2.1 e nf).trans ge;have g2:=aF (h:=h1) { cls:=.type "traceback",dict:=none,data:=.fields tb } g1;refine nI g2 de sz ?_
 have X7:h1.objs.size≠e:=fG (a9 g1);have d3:=hU de (·.setIfInBounds 1 (bA h1.objs.size))
 have g3:=gU (lH (·.setIfInBounds 1 (bA h1.objs.size))) g2 (j' d3)
 have t3:=(dN (h1.push { cls:=.type "traceback",dict:=none,data:=.fields tb }) (lH (·.setIfInBounds 1 (bA h1.objs.size))) (bY X7)).trans (bN h1 rfl)
 unfold setFlight;refine av (eN g3 d3 (x:=.ref h1.objs.size) (by simp[sz]) ?_)
 rw[qQ3 (show(bA h1.objs.size != fe)=true from by simp)]
 refine nI t3 rfl tsz (q _ ?_)
 have kp:∀b o,b≠e->h1.get? b=some o->(((h1.push { cls:=.type "traceback",dict:=none,data:=.fields tb }).update e (lH (·.setIfInBounds 1 (bA h1.objs.size)))).update h1.objs.size
    (lH (·.setIfInBounds 3 ((none:Option aR).elim fe λf=>rawInt f)))).get? b=some o:=λb o be hb=>by
  rw[dN _ _ (fG (a9 hb)),dN _ _ (bY be)];exact aF _ hb
 refine⟨?_,λb o hb hf _ be=>kp b o be ((DQ.2.1 b hf).trans hb),λb o hb _ _ be=>?_,λb o hb=>?_,h1.objs.size,_,_,?_,?_,X7,gU _ t3 (j' (hU rfl _)),hU rfl _,by simp[tsz]⟩
 ·rw[mD,mD,gE,DQ.1]
  exact jL _
 ·obtain⟨sl,hsl⟩:=DQ.2.2 b o hb
  exact⟨sl,kp b _ be hsl⟩
 ·by_cases be:b=e
  ·subst be
   exact⟨_,(dN _ _ X7).trans g3⟩
  ·obtain⟨sl,hsl⟩:=DQ.2.2 b o hb
   exact⟨_,kp b _ be hsl⟩
 ·rw[DQ.1];exact ay _
 ·rw[dN _ _ X7];exact g3
theorem El{L e:aR}
  (fr:A.frames=some (env::out))(ff:s.heap.FunFrames base (env::out))(fL:env.frame=some L)
  (ge:s.heap.get? e=some oe)(de:oe.data=.fields us)(u1:us[1]?=some .none)
  (q:∀h',Bx ((env::out).filterMap (·.frame)) [] e oe s.heap h'->Q () { s with heap:=h' }):wpAny M A (leaving env (.ref e)) Q E s:=by
 unfold leaving noteFrame;simp only[fL];refine av (av (eN ge de u1 ?_))
 rw[qQ2 (by decide)]
 exact zH fr ff fL ge de (iR.mp u1).1 q
end
abbrev vb(C:aR)(dx:Option aR)(t:aR)(sl:Array (Option aG)):Obj:={ cls:=.ref C,dict:=dx,data:=.fields #[.ref t,.none,.none,.none,.bool false,.none],slots:=sl }
abbrev Gj(C t:aR):Obj:={ cls:=.ref C,data:=.fields #[.ref t,.none,.none,.none,.bool false,.none] }
abbrev vV(h:dw)(C:aR)(rest:List aG):dw:=(h.push { cls:=.type "tuple",data:=.seq rest.toArray }).push (Gj C h.objs.size)
section
variable{prog:bL}{w:cH}{A:ef}{E:aG->aU->Prop}{R:uU->aU->Prop}{h:dw}{g:Array uo}{d:Drawn}{t:Nat}{os:OsState}
variable{nm q:Str}{C N:aR}{bs bm S1:List aG}{hdct:Bool}{sn:List Str}{sub:List aG}{ab:Bool}{col:Option Bool}{dd:Option aR}{k0 k1 k2 k3 k5:Option aG}{B newId qS:String}
theorem Gk(F:qg B newId qS S1)(cB:(bA C::bm).contains (.type B)=true)
  (gC:h.get? C=some (excClassObj nm q C N bs bm hdct sn sub ab col dd k0 k1 k2 k3 k5 newId))(hq:Q () ⟨h,g,d,t,os⟩):wpAny M A (checkBuiltinCall newId ⟨.ref C::rest,[]⟩) Q E ⟨h,g,d,t,os⟩:=by
 have star:=F.noStar;simp only[F.newRow,F.newSplit,F.newKind,checkBuiltinCall]
 repeat (first|(refine iS gC ?_;rw[cB])|refine fy gC ?_|refine wpAny_madeBy_exc gC ?_|refine wpAny_staticBase_exc gC ?_|simp only[Bool.false_eq_true,bne_self_eq_false,if_false]|wp_step)
 exact hq
theorem Wj(F:qg B newId qS S1)(cB:(bA C::bm).contains (.type B)=true)(cA:(bA C::bm).contains (.type "AttributeError")=false)(cN:(bA C::bm).contains (.type "NameError")=false)
  (gC:h.get? C=some (excClassObj nm q C N bs bm hdct sn sub ab col dd k0 k1 k2 k3 k5 newId))(few:rest.length<=sizeLine)
  (hq:R (.ok (.ret (.ref (h.objs.size+1)))) ⟨(h.push { cls:=.type "tuple",data:=.seq rest.toArray }).push (Gj C h.objs.size),g,d,t,os⟩):
  codeAny (model prog w) A (.builtin newId ⟨.ref C::rest,[]⟩) R ⟨h,g,d,t,os⟩:=by
 have ends:=F.ends;refine codeAny_builtinAt F.entry ?_
 unfold qf.«BaseException.__new__»;refine wpAt_bind ?_
 show wpAt _ _ _ (stack >>= _) _ _ _;refine wpAt_bind (wpAt_stack λp below=>wpAt_of_wpAny ?_)
 wp_walk
 refine wpAt_of_wpAny ?_
 rw[F.owner]
 repeat (first|(with_reducible refine iS gC ?_;first|rw[cB]|rw[cN]|rw[cA])|with_reducible refine fy gC ?_|with_reducible refine wpAny_madeHere_exc F.canon gC ?_|wp_step)
 show R _ _;rw[gE];exact hq
theorem Gm(F:qg B newId qS S1)(cB:(bA C::bm).contains (.type B)=true)(cA:(bA C::bm).contains (.type "AttributeError")=false)(cN:(bA C::bm).contains (.type "NameError")=false)
  {Q:Fin->aU->Prop}(KX:K.In h)(gC:h.get? C=some (excClassObj nm q C N bs bm hdct sn sub ab col dd k0 k1 k2 k3 k5 newId))(hi:cp K (.ref C) "__init__"=some (some (.ref fI)))(cI:yP K (.ref fI)=some (.type "function"))
  (hq:wpAny (model prog w) A (call (.ref fI) (.ref (h.objs.size+1)::rest)) (λr s'=>r=.none/\Q (.done (.ret (.ref (h.objs.size+1)))) s') E ⟨vV h C rest,g,d,t,os⟩)(few:rest.length<=sizeLine):
  wpAny (model prog w) A (qf.«type.__call__» ⟨.ref C::rest,[]⟩) Q E ⟨h,g,d,t,os⟩:=by
 repeat (first|with_reducible refine wpAny_madeBy_exc gC ?_|with_reducible refine fy gC ?_|wp_step)
 refine codeAny_call_builtin_code (wA _ F.quiet) (Gk F cB gC ?_)
 refine Wj F cB cA cN gC few ?_
 show wpAny _ _ _ _ _ _;have up:∀b o,h.get? b=some o->((h.push { cls:=.type "tuple",data:=.seq rest.toArray }).push (Gj C h.objs.size)).get? b=some o:=λb o e=>aF _ (aF _ e)
 have gC1:=up _ _ gC;have KX1:K.In ((h.push { cls:=.type "tuple",data:=.seq rest.toArray }).push (Gj C h.objs.size)):=λa o e=>up _ _ (KX a o e)
 have ge:((h.push { cls:=.type "tuple",data:=.seq rest.toArray }).push (Gj C h.objs.size)).get? (h.objs.size+1)=some (Gj C h.objs.size):=by heap_get
 have hcC:(bA C::bm).contains (.ref C)=true:=by simp
 unfold isInstance
 repeat (first|(with_reducible refine iS gC1 ?_;rw[hcC])|with_reducible refine fy ge ?_|wp_step)
 show wpAny _ _ (typeLookup (.ref C) _) _ _ _;refine(sr KX1 hi).at ?_
 refine mr (av ?_)
 unfold bindSpecial;refine av ((PySem.W.looks_typeIn KX1 cI).at ?_)
 rw[qQ3 (by decide)]
 refine a_ (av (fq hq (λr s' hr=>?_) λ_ _ x=>x))
 obtain⟨rfl,hQ⟩:=hr
 wp_walk
 exact hQ
theorem S2(F:qg B newId qS S1)(cB:(bA C::bm).contains (.type B)=true)(cA:(bA C::bm).contains (.type "AttributeError")=false)(cN:(bA C::bm).contains (.type "NameError")=false)
  {Q:aG->aU->Prop}(KX:K.In h)(gC:h.get? C=some (excClassObj nm q C N bs bm hdct sn sub ab col dd k0 k1 k2 k3 k5 newId))(hi:cp K (.ref C) "__init__"=some (some (.ref fI)))(cI:yP K (.ref fI)=some (.type "function"))
  (hq:wpAny (model prog w) (A.under (.builtin "type.__call__" ⟨.ref C::rest,[]⟩)) (call (.ref fI) (.ref (h.objs.size+1)::rest)) (λr s'=>r=.none/\Q (.ref (h.objs.size+1)) s') E ⟨vV h C rest,g,d,t,os⟩)(few:rest.length<=sizeLine):
  wpAny (model prog w) A (call (.ref C) rest) Q E ⟨h,g,d,t,os⟩:=by
 have f1:=tc_lookup;have f2:=tc_bind (.ref C);have hT:(⟨h,g,d,t,os⟩:aU).TypeIs (.ref C) "type":=⟨_,gC,rfl⟩;refine mG (codeAny_of_tree ?_)
 show wpAny _ _ (callAny (.ref C) _) _ _ _
 repeat (any_goals (first|assumption|with_reducible refine fy gC ?_|wp_step))
 refine⟨rfl,?_⟩
 exact codeAny_call_builtin_at (wA _ (by symm)) entry_typeCall (wpAny_check_type_call_sub gC (Gm F cB cA cN KX gC hi cI hq few))
theorem Gn{s:aU}{x:Sem aG}{Q:Flow->aU->Prop}(hb:(bA C::bm).contains (.type "BaseException")=true)(hh:A.handled=none)
  (k:wpAny M A x (λv s1=>∃e dx t sl,v=.ref e/\s1.heap.get? C=some (excClassObj nm q C N bs bm hdct sn sub ab col dd k0 k1 k2 k3 k5 newId)/\s1.heap.get? e=some (vb C dx t sl)/\E (.ref e) s1) E s):
  wpAny M A (raiseStmt env (some x) none) Q E s:=by
 unfold raiseStmt;refine av (fq k (λv s1 k1=>?_) λ_ _ x=>x)
 obtain⟨e,dx,t,sl,rfl,gC,ge,hE⟩:=k1;obtain⟨hp,g,d,tk,os⟩:=s1
 repeat (first|with_reducible refine fy ge ?_|with_reducible refine fy gC ?_|(with_reducible refine iS gC ?_;rw[hb])|wp_step)
 exact wpAny_raiseNew_none hh hE
end
end L2
namespace L2
open PySem PySem.Spec PyProof.Rows
variable{C T dx e:aR}{A:ef}{sl:Array (Option aG)}{ts us:Array aG}{o1 o2:HO}{base h:dw}{H:Hp}{pins:List (aR×Obj)}{fs:List (Str×V)}{vs:List V}{rest:List aG}{M:Model}{P:bL}{s:aU}{Q:Unit->aU->Prop}{w:cH}
section
variable{prog:bL}{w:cH}{A:ef}{E:aG->aU->Prop}{R:uU->aU->Prop}{h:dw}{g:Array uo}{d:Drawn}{t:Nat}{os:OsState}
variable{nm q:Str}{C N e t0:aR}{bs bm S1:List aG}{hdct:Bool}{sn:List Str}{sub:List aG}{ab:Bool}{col:Option Bool}{dd dx:Option aR}{k0 k1 k2 k3 k5:Option aG}{B newId qS:String}{sl:Array (Option aG)}
theorem Em(F:qg B newId qS S1)(cB:(bA C::bm).contains (.type B)=true)
  (gC:h.get? C=some (excClassObj nm q C N bs bm hdct sn sub ab col dd k0 k1 k2 k3 k5 newId))(ge:h.get? e=some (vb C dx t0 sl))(hq:Q () ⟨h,g,d,t,os⟩):
  wpAny M A (checkBuiltinCall qS ⟨.ref e::rest,[]⟩) Q E ⟨h,g,d,t,os⟩:=by
 have short:=F.noStar;simp only[F.initRow,F.initSplit,F.initKind,checkBuiltinCall]
 repeat (first|with_reducible refine fy ge ?_|(with_reducible refine iS gC ?_;rw[cB])|with_reducible refine fy gC ?_|wp_step)
 refine sy ?_
 rw[show ∀(a b:String)(n:Nat),Bind.check ⟨.positional,"*",B,.self,[⟨"args",.varPos,false⟩]⟩ a b n (A8 (λx=>x.fst) ({ pos:=bA e::rest }:Args).kw)=pure () from
  λa b n=>PySem.check_star_args _ _ _ _ _ _]
 exact a_ hq
theorem S3(F:qg B newId qS S1)(cB:(bA C::bm).contains (.type B)=true){Q:aG->aU->Prop}
  (gC:h.get? C=some (excClassObj nm q C N bs bm hdct sn sub ab col dd k0 k1 k2 k3 k5 newId))(ge:h.get? e=some (vb C dx t0 sl))(few:rest.length<=sizeLine)
  (hq:∀h' t1,h'.get? e=some (vb C dx t1 sl)->(∀b o,b≠e->h.get? b=some o->h'.get? b=some o)->Q .none ⟨h',g,d,t,os⟩):
  wpAny (model prog w) A (call (.builtin qS) (.ref e::rest)) Q E ⟨h,g,d,t,os⟩:=by
 refine mG (o5 F.init.plain F.initEntry (Em F cB gC ge ?_))
 unfold qf.«BaseException.__init__»
 dsimp only
 rw[qQ2 (by simp)]
 unfold newTuple qf.BaseException.bexcPut;have ge1:=aF (h:=h) { cls:=.type "tuple",data:=.seq rest.toArray } ge;refine av (fw (av (av (eN ge1 rfl (x:=.ref t0) rfl (av (nI ge1 rfl (show 0<6 by decide) ?_))))) (by show rest.toArray.size<=sizeLine;rw[bD];exact few))
 refine DM (a_ (hq _ h.objs.size ?_ λb o be hb=>?_))
 ·rw[gU _ ge1 rfl]
  rfl
 ·rw[dN _ _ (bY be)]
  exact aF _ hb
end
section
variable{prog:bL}{w:cH}{A:ef}{E:aG->aU->Prop}{s:aU}{K:au}{C e t0 dx:aR}{sl:Array (Option aG)}{name:Str}{v:aG}{mA:Str->Option aG}
def sY:List aG->List aG
 | .ref _::r=>sY r
 |l=>l
def Bz:List aG:=[.type "ValueError",.type "Exception",.type "BaseException",.type "object"]
theorem BD(self:aG):∀{l:List aG},sY l=Bz->refuseLoop self "__setattr__" l=pure ()
 | [],h=>by cases h
 | .ref c::r,h=>by rw[refuseLoop_ref];exact BD self h
 | .type n::r,h=>by rw[show m_ n::r=Bz from h];exact PySem.F.store_ValueError.passes self
 | .none::r,h=>by cases h
 | .bool _::r,h=>by cases h
 | .int _ _::r,h=>by cases h
 | .str _ _::r,h=>by cases h
 | .builtin _::r,h=>by cases h
def Dc(K:au)(C:aR):Prop:=∃cd,PySem.W.clsIn K C=some cd/\sY cd.mro=Bz
theorem En:∀{l:List aG},sY l=Bz->l.contains (.type "object")=true
 | [],h=>by cases h
 | .ref c::r,h=>by
  rw[List.contains_cons,En (l:=r) h,rY]
 | .type n::r,h=>by rw[show m_ n::r=Bz from h];rfl
 | .none::r,h=>by cases h
 | .bool _::r,h=>by cases h
 | .int _ _::r,h=>by cases h
 | .str _ _::r,h=>by cases h
 | .builtin _::r,h=>by cases h
theorem BF{R:uU->aU->Prop}{x:aR}{ox:Obj}{od:Option Obj}{tk:Tok}{r:Option aG}(X:K.In s.heap)(I:ow s.heap x ox C od)(hp:Dc K C)(ht:k7 K C name=some r)
  (h:∀b:Bool,wpAny (model prog w) A.in1 (match r with
   |some a=>qf.ObjectAttr.setByDescriptor a (.ref x) v
   |none=>qf.ObjectAttr.storeInOwnDict (.ref x) (.ref C) (.str name tk) name v b) (λfin s'=>match fin with
    | .done f=>R (.ok f) s'
    | .again c'=>c'.quiet=true/\codeAny (model prog w) A c' R s') (λe s'=>R (.error e) s') s) :
  codeAny (model prog w) A (.call (.builtin "object.__setattr__") ⟨[.ref x,.str name tk,v],[]⟩) R s:=by
 have SF:=PySem.F.store_object;obtain⟨cd,hc,ho⟩:=hp;have ne:cd.mro.isEmpty=false:=by
  cases q:cd.mro with
  |nil=>rw[q]at ho;cases ho
  |cons _ _=>rfl
 have sub:AH (model prog w) s.heap (isInstance (.ref x) (.type "object")) true:=pS (qE I) (PySem.W.looks_mroIn X (by
  unfold uz;rw[hc]
  show(if cd.mro.isEmpty=true then none else some (cd.mro.contains (m_ "object")))=some true
  rw[ne,En ho];rfl))
 have pl:=SF.slot.plain;have en:=SF.entry;refine o5 pl en ?_
 have ar:=SF.args (.ref x) (.str name tk) v;have kd:=SF.kind;have spl:=SF.split;apply PySem.W.check_slot (i:="object.__setattr__") (owner:="object") (n:="__setattr__") (self:=.ref x) (rest:=[.str name tk,v]) (kw:=[]) kd spl sub ar;obtain⟨attr,ha,hr⟩:=Option.bind_eq_some_iff.mp ht;have hm:AH (model prog w) s.heap (mroOf (.ref C)) cd.mro:=pS (nS X hc) sE;have L3:AH (model prog w) s.heap (qf.ObjectAttr.storeTaker? attr) r:=by
  cases attr with
  |none=>cases hr;exact sE
  |some a=>
   obtain⟨b,hb,rfl⟩:=rD.mp hr;refine pS (PySem.W.looks_takesIn X hb) ?_
   cases b<;>exact sE
 rw[PySem.W.osa_eq,refuse_eq];refine av (av (gB (qE I) (av (gB hm ?_))))
 rw[BD _ ho];exact a_ (av (gB (qE I) (av (gB (sr X ha) (av (gB L3 (h attr.isSome)))))))
theorem Gp(X:K.In s.heap)(ge:s.heap.get? e=some (vb C none t0 sl))(hs:cp K (.ref C) "__setattr__"=some (some (.builtin "object.__setattr__")))(hp:Dc K C)(ht:k7 K C name=some none)(hh:hZ K C=true)
  (h:∀h',h'.get? e=some (vb C (some s.heap.objs.size) t0 sl)->h'.Ns1 s.heap.objs.size (λy=>if y=name then some v else none)->(∀b o,b≠e->s.heap.get? b=some o->h'.get? b=some o)->Q () { s with heap:=h',toks:=s.toks+2 }):
  wpAny (model prog w) A (setAttr (.ref e) name v) Q E s:=by
 have J:ow s.heap e (vb C none t0 sl) C none:=⟨ge,rfl,rfl,trivial⟩;refine vF X J hs (BF (s:={ s with toks:=s.toks+1 }) (r:=none) X J hp ht λb=>?_)
 obtain⟨cd,hc,AI⟩:=wF hh;refine av (a_ (av (av (wG ge (av (gB (s:={ s with toks:=s.toks+1 }) (nS X hc) ?_))))))
 rw[AI];have oW:s.heap.objs.size≠e:=fG (a9 ge);have ge1:(s.heap.push { cls:=.type "dict",data:=.dict #[] }).get? e=some (vb C none t0 sl):=aF _ ge;have gd1:(s.heap.push { cls:=.type "dict",data:=.dict #[] }).get? s.heap.objs.size=some { cls:=.type "dict",data:=.dict #[] }:=bN _ rfl;refine av (wpAny_alloc (av (wpAny_update ge1 ?_)))
 have ge2:((s.heap.push { cls:=.type "dict",data:=.dict #[] }).update e λo=>{ o with dict:=some s.heap.objs.size }).get? e=some (vb C (some s.heap.objs.size) t0 sl):=gU _ ge1 rfl
 have gd2:((s.heap.push { cls:=.type "dict",data:=.dict #[] }).update e λo=>{ o with dict:=some s.heap.objs.size }).get? s.heap.objs.size=some { cls:=.type "dict",data:=.dict #[] }:=(dN _ _ (bY oW)).trans gd1
 refine a_ ?_
 refine av (a_ (av ?_))
 refine wpAny_nsSet1 (Fx ⟨_,#[],_,gd2,rfl,(λz hz=>qQ7 hz (by simp)),λ_=>rfl⟩) λh' KH rG=>?_
 obtain⟨oD,esD,epD,U4,U5,Jj⟩:=KH.count (nY name v (ns:=[]) λy hy=>qQ7 rfl hy)
 refine av (Ca U4 (by rw[U5];exact Cb (cj Jj (yS (bj _)))) ?_)
 refine a_ (h _ ((rG.2 _ (bY oW)).trans ge2) KH λb o be hb=>?_)
 rw[rG.2 b (bu (a9 hb)),dN _ _ (bY be)];exact aF _ hb
theorem JK{ns:List Str}(X:K.In s.heap)(ge:s.heap.get? e=some (vb C (some dx) t0 sl))(gd:s.heap.Ns1 dx mA)(oW:dx≠e)(hs:cp K (.ref C) "__setattr__"=some (some (.builtin "object.__setattr__")))(hp:Dc K C)(ht:k7 K C name=some none)(hh:hZ K C=true)
  (hw:mq mA ns)(hsz:ns.length<=100)
  (h:∀h',h'.get? e=some (vb C (some dx) t0 sl)->h'.Ns1 dx (λy=>if y=name then some v else mA y)->(∀b o,b≠dx->s.heap.get? b=some o->h'.get? b=some o)->Q () { s with heap:=h',toks:=s.toks+2 }):
  wpAny (model prog w) A (setAttr (.ref e) name v) Q E s:=by
 obtain⟨od,god,_⟩:=wO gd;have J:ow s.heap e (vb C (some dx) t0 sl) C (some od):=⟨ge,rfl,rfl,god⟩;refine vF X J hs (BF (s:={ s with toks:=s.toks+1 }) (r:=none) X J hp ht λb=>?_)
 obtain⟨cd,hc,AI⟩:=wF hh;refine av (a_ (av (av (wG ge (av (gB (s:={ s with toks:=s.toks+1 }) (nS X hc) ?_))))))
 rw[AI];refine a_ (a:=some dx) (av (a_ (av ?_)))
 refine wpAny_nsSet1 (s:={ s with toks:=s.toks+1 }) gd λh' KH rG=>?_
 obtain⟨oD,esD,epD,U4,U5,Jj⟩:=KH.count (nY name v hw);refine av (Ca U4 (by rw[U5];exact Cb (cj Jj (by rw[aX,du];omega))) ?_)
 exact a_ (h _ ((rG.2 _ (bY oW)).trans ge) KH λb o be hb=>(rG.2 b be).trans hb)
end
def mN(C e:aR)(dx:Option aR):HO:=.ext λh=>∃t sl,h.get? e=some (vb C dx t sl)
def Aw(dx:aR)(fs:List (Str×V)):HO:=.ext λh=>∃mA,h.Ns1 dx mA/\(∀f,oF (fs.lookup f) (mA f))/\mq mA (fs.map (·.1))
theorem mN.ok{t: aR}{dx:Option aR}(g:h.get? e=some (vb C dx t sl)):iB P w H h e (mN C e dx):=
 ⟨⟨t,sl,g⟩,⟨_,g⟩,λh1 h2 ⟨t,sl,q⟩ k=>⟨t,sl,k _ q⟩⟩
theorem Aw.ok{mA:Str->Option aG}(n:h.Ns1 dx mA)(r:∀f,oF (fs.lookup f) (mA f))(wi:mq mA (fs.map (·.1))):iB P w H h dx (Aw dx fs):=by
 refine⟨⟨mA,n,r,wi⟩,?_,λh1 h2 ⟨mA,n,r,wi⟩ k=>⟨mA,n.at λo q=>k o q,r,wi⟩⟩
 obtain⟨o,_,_,e,_⟩:=n;exact⟨o,e⟩
theorem mN.at{dx:Option aR}(k:sj P w H h)(g:H e=some (mN C e dx)):∃t sl,h.get? e=some (vb C dx t sl):=(k e _ g).1
theorem Aw.at(k:sj P w H h)(g:H dx=some (Aw dx fs)):∃mA,h.Ns1 dx mA/\(∀f,oF (fs.lookup f) (mA f))/\mq mA (fs.map (·.1)):=(k dx _ g).1
structure Gq(K:au)(C:aR):Prop where
 ob:∃nm q N bs bm hdct sn sub ab col dd k0 k1 k2 k3 k5,K.lookup C=some (excClassObj nm q C N bs bm hdct sn sub ab col dd k0 k1 k2 k3 k5 "ValueError.__new__")/\(bA C::bm).contains (.type "ValueError")=true/\(bA C::bm).contains (.type "AttributeError")=false/\(bA C::bm).contains (.type "NameError")=false/\(bA C::bm).contains (.type "BaseException")=true
 sa:cp K (.ref C) "__setattr__"=some (some (.builtin "object.__setattr__"))
 po:Dc K C
 hd:hZ K C=true
 kp:ft K (.ref C)=true
section
variable{X:Cx}{pins:List (aR×Obj)}{σ:St}{H:Hp}{s:aU}{C e dx:aR}{f:Str}{y:V}{u:aG}{fs:List (Str×V)}{A:ef}{E:aG->aU->Prop}
theorem Gr(I:Inv X pins σ H s)(ge:H e=some (mN C e none))(c:Gq X.K C)(n:gP X.K C f)(ry:RelV y u)
  (q:∀dx s',H dx=none->dx≠e->Inv X pins σ (upd (upd H dx (Aw dx [(f,y)])) e (mN C e (some dx))) s'->Q () s'):wpAny (model X.prog X.w) A (setAttr (.ref e) f u) Q E s:=by
 obtain⟨t,sl,g⟩:=mN.at I.hok ge;refine Gp I.vA g c.sa c.po n.taker c.hd λh' g1 n1 k1=>?_
 obtain⟨od,es,ep,e1,rest⟩:=id n1;have oW:s.heap.objs.size≠e:=fG (a9 g);have hnf:od.isFreed=false:=(dw.get?_some_iff.mp e1).2
 have gm:(s.heap.push od).get? s.heap.objs.size=some od:=bN _ hnf;have I1:=I.laid (a:=s.heap.objs.size) (o:=Aw s.heap.objs.size [(f,y)]) (h':=s.heap.push od) (t':=s.toks) (λb u q=>aF _ q) (ay _)
  (Aw.ok (mA:=λz=>if z=f then some u else none) ⟨od,es,ep,gm,rest⟩ (λz=>by
   by_cases hz:z=f
   ·subst hz
    show oF (([(z,y)]:List (Str×V)).lookup z) (if z=z then some u else none)
    rw[qQ3 rfl,ei,beq_self_eq_true];exact ry
   ·show oF (([(f,y)]:List (Str×V)).lookup z) (if z=f then some u else none)
    rw[qQ2 hz,ei,beq_false_of_ne hz];exact gD) (nY f u (ns:=[]) λz hz=>qQ7 rfl hz))
 refine q s.heap.objs.size _ (I.hok.fresh (ay _)) oW ?_
 refine I1.write (x:=e) (e:=e) (h':=h') (t':=s.toks+2) (by rw[aY (bY oW),ge];exact gD) (.inl rfl) (λb o hb gb=>?_) ⟨_,g1⟩ (mN.ok g1)
 by_cases hbd:b=s.heap.objs.size
 ·subst hbd
  have X8:(s.heap.push od).get? s.heap.objs.size=some o:=gb;rw[gm]at X8;cases X8;exact e1
 ·have X8:(s.heap.push od).get? b=some o:=gb
  rcases dw.get?_push_cases X8 with⟨z,_⟩|z
  ·exact qQ7 z hbd
  ·exact k1 b o hb z
theorem JL(I:Inv X pins σ H s)(ge:H e=some (mN C e (some dx)))(gd:H dx=some (Aw dx fs))(oW:dx≠e)(c:Gq X.K C)(n:gP X.K C f)(hl:fs.length<50)(ry:RelV y u)
  (q:∀s',Inv X pins σ (upd H dx (Aw dx (lI f y fs))) s'->Q () s'):wpAny (model X.prog X.w) A (setAttr (.ref e) f u) Q E s:=by
 obtain⟨t,sl,g⟩:=mN.at I.hok ge;obtain⟨mA,n1,r,wi⟩:=Aw.at I.hok gd;refine JK I.vA g n1 oW c.sa c.po n.taker c.hd wi (by rw[aj];omega) λh' g1 n2 k1=>q _ ?_
 refine I.write (x:=dx) (e:=dx) (by rw[gd];exact gD) (.inl rfl) (λb o hb gb=>k1 b o hb gb) ?_ (Aw.ok n2 (λz=>?_) λz hz=>?_)
 ·obtain⟨o,_,_,e',_⟩:=n2;exact⟨o,e'⟩
 ·show oF ((lI f y fs).lookup z) (if z=f then some u else mA z)
  rw[sJ];by_cases hz:z=f
  ·rw[qQ3 hz,qQ3 hz];exact ry
  ·rw[qQ2 hz,qQ2 hz];exact r z
 ·by_cases hzf:z=f
  ·rw[hzf];exact(qk f y fs).1
  ·refine(qk f y fs).2 z (wi z λw=>hz ?_)
   show(if z=f then some u else mA z)=none
   rw[qQ2 hzf];exact w
end
section
variable{X:Cx}{o value a1 a2:cx}{f x y:Str}{pos pos' p p2 ap p3 p4:Pos}{j4:Nat}{ta tv:TE}{C M dx:aR}{i:Nat}
def S4(K:au)(ta tv:TE)(f:Str):TS:=λD σ H=>tv σ H λv H1=>ta σ H1 λx H2=>∃e C,x=.ref e/\H2 e=some (mN C e none)/\Gq K C/\gP K C f/\
 ∀dx,H2 dx=none->dx≠e->D.nx σ (upd (upd H2 dx (Aw dx [(f,v)])) e (mN C e (some dx)))
def S5(K:au)(ta tv:TE)(f:Str):TS:=λD σ H=>tv σ H λv H1=>ta σ H1 λx H2=>∃e C dx fs,x=.ref e/\H2 e=some (mN C e (some dx))/\H2 dx=some (Aw dx fs)/\dx≠e/\Gq K C/\gP K C f/\fs.length<50/\
 D.nx σ (upd H2 dx (Aw dx (lI f v fs)))
theorem L4(ha:PE X o ta)(hv:PE X value tv)(hs:swapsWith value (some (.Attribute o f pos')) pos.line X.env=pure false):PS X (.Assign [.Attribute o f pos'] value pos) (S4 X.K ta tv f):=by
 intro pins s σ H D I h;refine nZ (g8 (hv pins s σ H _ I h) λu s1 ⟨v,H1,I1,rv,q⟩=>g8 (ha pins s1 σ H1 _ I1 q) λov s2 ⟨x,H2,I2,rx,e,C,ex,ge,c,n,q2⟩=>?_) hs
 subst ex;obtain rfl:ov=bA e:=rx;exact Gr I2 ge c n rv λdx s3 h1 h2 I3=>⟨σ,_,I3,q2 dx h1 h2⟩
theorem L5(ha:PE X o ta)(hv:PE X value tv)(hs:swapsWith value (some (.Attribute o f pos')) pos.line X.env=pure false):PS X (.Assign [.Attribute o f pos'] value pos) (S5 X.K ta tv f):=by
 intro pins s σ H D I h;refine nZ (g8 (hv pins s σ H _ I h) λu s1 ⟨v,H1,I1,rv,q⟩=>g8 (ha pins s1 σ H1 _ I1 q) λov s2 ⟨x,H2,I2,rx,e,C,dx,fs,ex,ge,gd,oW,c,n,hl,q2⟩=>?_) hs
 subst ex;obtain rfl:ov=bA e:=rx;exact JL I2 ge gd oW c n hl rv λs3 I3=>⟨σ,_,I3,q2⟩
def Wk(x:Str)(ta:TE):TE:=λσ H Q=>ta σ H λv H1=>∃y,v=.str y/\y.length<=sizeLine/\(eS++x++y).length<=sizeLine/\Q (.str (eS++x++y)) H1
theorem O5(he:PE X a1 ta)(hx:(eS++x).length<=sizeLine):PE X (.JoinedStr [.Constant (.str x) j4 p3,.FormattedValue a1 (-1) none p4] p) (Wk x ta):=by
 intro pins s σ H Q I h;refine JoinedStr_many (joinParts_cons (Calls.Constant_str ⟨hx,joinParts_cons (FormattedValue_plain (g8 (he pins _ σ H _ (I.tok _) h) λv s1 ⟨v1,H1,I1,rv,y,ey,hy,X9,q⟩=>?_))⟩))
 subst ey;obtain⟨tk,rfl⟩:=rv;refine formatField_str (λt' tk=>⟨X9,joinParts_nil ⟨.str _,H1,(I1.tok _).tok _,⟨_,rfl⟩,q⟩ X9⟩) hy
def zah(K:au)(t:TA):TE:=λσ H Q=>t σ H λvs H1=>∃e C dx v2,vs=[.ref e,v2]/\H1 e=some (mN C e dx)/\Gq K C/\Q .non H1
theorem S6{pl:Sem Bool}{t:TA}(hg:Gl X x)(hm:X.mg x=some (.ref M))(hr:yd X.K M (.type "type")=true)(hf:ye X.K (.ref M) (.type "type") "__init__"=some (.val (.builtin "ValueError.__init__")))
  (AO:lK X.K (.ref M) "__getattribute__"=some (some (.builtin "type.__getattribute__")))(ha:PA X [a1,a2] t)(rS:(x==("__debug__":Str))=false:=by decide)
  (he:starEach [a1,a2] X.env=(false,eval a1 X.env)::starEach [a2] X.env:=by rfl)(pT:(backTo pos (starEach [a2] X.env)).any (·.1)=false:=by rfl)
  (ht:eval (.Call (.Attribute (.Name x p) "__init__" ap) [a1,a2] [] pos) X.env=(do
   let ov <-eval (.Name x p) X.env
   standAt ap.atName
   let(f,first) <-holding [ov] (getMethod ov "__init__" pl)
   callWith pos f first (backTo pos (starEach [a1,a2] X.env)) (backToKw pos (keywordEach [] X.env))):=by rfl):PE X (.Call (.Attribute (.Name x p) "__init__" ap) [a1,a2] [] pos) (zah X.K t):=by
 intro pins s σ H Q I h;refine PySem.W.methodCall_KW (pl:=pl) (qI I hg hm ?_ rS) ht
 refine PySem.W.method_cls I.vA AO (PySem.W.cls_value I.vA hr hf rfl ?_)
 refine callWith_builtin1 (g8 (ha pos pins _ σ H _ (I.tok _) h) λus s1 ⟨vs,H1,I1,r1,e,C,dx,v2,ev,ge,c,q⟩=>?_) he pT
 subst ev;obtain⟨u1,u2,rfl,Z9,Uh⟩:=vals2 r1;obtain rfl:u1=bA e:=Z9;obtain⟨t0,sl,g⟩:=mN.at I1.hok ge;obtain⟨nm,q0,N,bs,bm,hdct,sn,sub,ab,col,dd,k0,k1,k2,k3,k5,lk,cB,_⟩:=c.ob;obtain⟨hh,gg,d,tk,os⟩:=s1;refine S3 yU cB (I1.vA _ _ lk) g (by show 1<=sizeLine;rw[du];decide) λh' t1 g1 kk=>?_
 have hu:upd H1 e (mN C e dx)=H1:=by
  funext b
  by_cases hb:b=e
  ·subst hb;rw[bQ,ge]
  ·rw[aY hb]
 have I2:=I1.write (x:=e) (e:=e) (h':=h') (t':=tk) (by rw[ge];exact gD) (.inl rfl) (λb o hb gb=>kk b o hb gb) ⟨_,g1⟩ (mN.ok (dx:=dx) g1)
 rw[hu]at I2;exact⟨.non,H1,I2,rfl,q⟩
end
section
variable{X:Cx}{CX:Jk}{k:Nat}{f C:aR}{fd:gf}{ps:List Str}{sp:Sp}{E:XK}
structure X_(K:au)(C f:aR):Prop extends Gq K C where
 init:cp K (.ref C) "__init__"=some (some (.ref f))
 fn:vG K (.ref f)=true
theorem JM{σ:St}{Q:VK}{us:List aG}(M:X_ X.K C f)(F:fA X.prog X.w X.K X.mg X.base CX k f fd ps sp)(hr:gj (k+1) X.A)(hb:Binds X.K fd ps [])
  (hx:wQ CX X E)(I:Inv X pins σ H s)(r:eO vs us)(few:us.length<=sizeLine)
  (h:∀e,H e=none->s.heap.objs.size<=e->sp (.ref e::vs) (upd H e (mN C e none)) (λv H2=>v=.non/\Q (.ref e) H2) E):
  wpAny (model X.prog X.w) X.A (call (.ref C) us) (EP X pins σ Q) X.xe s:=by
 obtain⟨nm,q0,N,bs,bm,hdct,sn,sub,ab,col,dd,k0,k1,k2,k3,k5,lk,cB,cA,cN,_⟩:=M.ob;obtain⟨hh,gg,d,tk,os⟩:=s;have gC:=I.vA _ _ lk;refine S2 yU cB cA cN I.vA gC M.init (beq_iff_eq.mp M.fn) ?_ few
 have up:∀b o,hh.get? b=some o->(vV hh C us).get? b=some o:=λb o e=>aF _ (aF _ e)
 have ge:(vV hh C us).get? (hh.objs.size+1)=some (Gj C hh.objs.size):=by heap_get
 have I2:=I.laid (a:=hh.objs.size+1) (o:=mN C (hh.objs.size+1) none) (h':=vV hh C us) (t':=tk) up (jL _) (mN.ok (t:=hh.objs.size) (sl:=#[]) ge);have hq:=h (hh.objs.size+1) (I.hok.fresh (jL _)) (jL _);have r2:eO (V.ref (hh.objs.size+1)::vs) (bA (hh.objs.size+1)::us):=.cons rfl r;have hl:(bA (hh.objs.size+1)::us ++ []).length=ps.length:=by
  rw[cF];have e:=r2.length;rw[F.len _ _ _ _ hq]at e;exact e.symm
 refine mG (lF (F.run _ X.stack _ _ ⟨bA (hh.objs.size+1)::us,[]⟩ (bA (hh.objs.size+1)::us) _ _ E (hr.make C us []) (I2.env0.make C us []) ?_ r2 hq) λr s' CD=>?_)
 ·have:=hb _ (bA (hh.objs.size+1)::us) I2.vA hl
  rw[cF]at this;exact this
 cases r with
 |error e=>exact hx pins σ _ _ e s' I2 CD
 |ok fl=>
  cases fl with
  |ret u=>
   obtain⟨v,H',I3,rv,ev,q3⟩:=I2.after CD;subst ev;exact⟨rv,⟨V.ref (hh.objs.size+1),H',I3,rfl,q3⟩⟩
  |next=>exact fu CD
  |brk=>exact fu CD
  |cont=>exact fu CD
end
def qw(C e dx T:aR):HO:=.ext λh=>∃us sl,h.get? e=some { cls:=.ref C,dict:=some dx,data:=.fields us,slots:=sl }/\us[1]?=some (.ref T)
def BG(T:aR):HO:=.ext λh=>∃oT ts,h.get? T=some oT/\oT.data=.fields ts/\ts[3]?=some .none
theorem qw.ok(g:h.get? e=some { cls:=.ref C,dict:=some dx,data:=.fields us,slots:=sl })(u:us[1]?=some (.ref T)):iB P w H h e (qw C e dx T):=
 ⟨⟨us,sl,g,u⟩,⟨_,g⟩,λh1 h2 ⟨us,sl,q,u⟩ k=>⟨us,sl,k _ q,u⟩⟩
theorem BG.ok{oT:Obj}(g:h.get? T=some oT)(d:oT.data=.fields ts)(u:ts[3]?=some .none):iB P w H h T (BG T):=
 ⟨⟨oT,ts,g,d,u⟩,⟨_,g⟩,λh1 h2 ⟨oT,ts,q,d,u⟩ k=>⟨oT,ts,k _ q,d,u⟩⟩
def HL(H:Hp)(ex:List aR)(e T:aR)(o1 o2:HO):Hp:=λb=>if b=e then some o1 else if b=T then some o2 else if b∈ex then none else H b
section
variable{H:Hp}{ex:List aR}{e T b:aR}{o1 o2:HO}
theorem O6:HL H ex e T o1 o2 e=some o1:=qQ3 rfl
theorem O7(h:T≠e):HL H ex e T o1 o2 T=some o2:=by unfold HL;rw[qQ2 h,qQ3 rfl]
theorem sZ(h1:b≠e)(h2:b≠T)(h3:b∉ex):HL H ex e T o1 o2 b=H b:=by unfold HL;rw[qQ2 h1,qQ2 h2,qQ2 h3]
theorem Wm(h1:b≠e)(h2:b≠T)(h3:b∈ex):HL H ex e T o1 o2 b=none:=by unfold HL;rw[qQ2 h1,qQ2 h2,qQ3 h3]
end
def vW(o:Option HO):Prop:=∃φ,o=some (.ext φ)
section
variable{P:bL}{w:cH}{fs ex:List aR}{H0 H:Hp}{h0 h h':dw}{L e T:aR}{oe:Obj}{o1 o2:HO}
theorem L6(u:Un fs [] H0 H h0 h)(l:Bx (L::fs) ex e oe h h')(hL:h0.objs.size<=L)(he:h0.objs.size<=e)(hx:∀x∈ex,h0.objs.size<=x)(ie:vW (H e))(ix:∀x∈ex,vW (H x))(hT:h.get? T=none)(nT:H T=none):
  Un fs [] H0 (HL H ex e T o1 o2) h0 h':=by
 have nL:∀b o,h0.get? b=some o->b≠L:=λb o q z=>by subst z;exact qQ7 (a9 q) (Nat.not_lt.mpr hL)
 have ne:∀b o,h0.get? b=some o->b≠e:=λb o q z=>by subst z;exact qQ7 (a9 q) (Nat.not_lt.mpr he)
 have nx:∀b o,h0.get? b=some o->b∉ex:=λb o q z=>qQ7 (a9 q) (Nat.not_lt.mpr (hx b z))
 have L7:∀b (o:HO),H b=some o->(∀φ,o≠.ext φ)->b≠e/\b≠T/\b∉ex:=λb o q z=>by
  refine⟨λq2=>?_,λq2=>?_,λq2=>?_⟩
  ·obtain⟨φ,r⟩:=ie;rw[q2,r]at q;cases q;exact z φ rfl
  ·rw[q2,nT]at q;cases q
  ·obtain⟨φ,r⟩:=ix b q2;rw[r]at q;cases q;exact z φ rfl
 refine⟨λb o q n hf hb=>?_,λb o q n hf hb=>?_,λb o q n hb=>?_,λb o q hb=>?_,λb xs q=>?_,λb o u' q=>?_,λb ps q=>?_⟩
 ·refine l.keep b o (u.keep b o q n hf hb) ?_ (nx b o q) (ne b o q)
  intro z;rcases aE.mp z with z|z
  ·exact nL b o q z
  ·exact hf z
 ·obtain⟨sl,q1⟩:=u.slot b o q n hf hb
  obtain⟨Ua,q2⟩:=l.slot b _ q1 (aZ _ hf) (nx b o q) (ne b o q);exact⟨Ua,q2⟩
 ·have z:=u.free b o q n hb
  obtain⟨o',q1⟩:=u.there b o q hb;rw[sZ (ne b o q) (λz=>by subst z;rw[hT]at q1;cases q1) (nx b o q)]
  exact z
 ·obtain⟨o',q1⟩:=u.there b o q hb
  by_cases hf:b∈L::fs
  ·obtain⟨sl,q2⟩:=l.slot b o' q1 hf (nx b o q) (ne b o q)
   exact⟨_,q2⟩
  ·exact⟨_,l.keep b o' q1 hf (nx b o q) (ne b o q)⟩
 ·have z:=u.tups b xs q
  obtain⟨a1,a2,a3⟩:=L7 b _ z (by intro φ z;cases z)
  rw[sZ a1 a2 a3];exact z
 ·have z:=u.wL b o u' q
  obtain⟨a1,a2,a3⟩:=L7 b _ z (by intro φ z;cases z)
  rw[sZ a1 a2 a3];exact z
 ·obtain⟨more,z⟩:=u.yg b ps q
  obtain⟨a1,a2,a3⟩:=L7 b _ z (by intro φ z;cases z)
  exact⟨more,by rw[sZ a1 a2 a3];exact z⟩
theorem BH(k:sj P w H h)(l:Bx (L::fs) ex e oe h h')(nf:∀b∈L::fs,H b=none)(ie:vW (H e))(ix:∀x∈ex,vW (H x))(hT:h.get? T=none)(nT:H T=none)
  (n1:iB P w (HL H ex e T o1 o2) h' e o1)(n2:iB P w (HL H ex e T o1 o2) h' T o2):sj P w (HL H ex e T o1 o2) h':=by
 intro b o q;by_cases hb:b=e
 ·subst hb;rw[O6]at q;cases q;exact n1
 by_cases Um:b=T
 ·subst Um;rw[O7 hb]at q;cases q;exact n2
 by_cases Kr:b∈ex
 ·rw[Wm hb Um Kr]at q;cases q
 rw[sZ hb Um Kr]at q;have L7:∀c (o:HO),H c=some o->(∀φ,o≠.ext φ)->c≠e/\c≠T/\c∉ex:=λc o q z=>by
  refine⟨λq2=>?_,λq2=>?_,λq2=>?_⟩
  ·obtain⟨φ,r⟩:=ie;rw[q2,r]at q;cases q;exact z φ rfl
  ·rw[q2,nT]at q;cases q
  ·obtain⟨φ,r⟩:=ix c q2;rw[r]at q;cases q;exact z φ rfl
 refine(k b o q).stay (λc u hc r=>?_) (λc r=>?_) λc xs r=>?_
 ·rcases hc with rfl|hc
  ·exact l.keep c u r (λz=>by rw[nf c z]at q;cases q) Kr hb
  ·obtain⟨a1,a2,a3⟩:=L7 c _ hc (by intro φ z;cases z)
   exact l.keep c u r (λz=>by rw[nf c z]at hc;cases hc) a3 a1
 ·obtain⟨a1,a2,a3⟩:=L7 c _ r (by intro φ z;cases z)
  rw[sZ a1 a2 a3];exact r
 ·obtain⟨a1,a2,a3⟩:=L7 c _ r (by intro φ z;cases z)
  rw[sZ a1 a2 a3];exact r
theorem qT:∀{l:List Env},(∀b∈l.filterMap (·.frame),∀o,h.get? b=some o->∃o',h'.get? b=some o'/\o'.data=o.data)->h.FunFrames base l->h'.FunFrames base l
 | [],_,_=>trivial
 |env::rest,k,⟨hk,⟨L,o,hf,hn,ho,hd⟩,hr⟩=>by
  obtain⟨o',HD,AI⟩:=k L (by rw[iz,hf];exact aS) o ho
  exact⟨hk,⟨L,o',hf,hn,HD,λvs=>AI▸hd vs⟩,qT (λb hb=>k b (by rw[iz,hf];exact aZ _ hb)) hr⟩
end
def X'(P:bL)(w:cH):Jk:=λouter H s E e s'=>∃ea C dx T H',e=.ref ea/\s'.os=s.os/\rW s'.gens/\Un (DP outer) [] H H' s.heap s'.heap/\sj P w H' s'.heap/\
 H' ea=some (qw C ea dx T)/\H' T=some (BG T)/\T≠ea/\s.heap.objs.size<=ea/\s.heap.objs.size<=T/\E (.ref ea) (some T) H'
section
variable{P:bL}{w:cH}{K:au}{mg:Str->Option aG}{base:dw}{N:List Str}{qual:Str}{scope:mn}{f:aR}{cd:aG}{A:ef}{outer:List Env}{s0:aU}{H0:Hp}{E:XK}
variable{pins:List (aR×Obj)}{σ:St}{H:Hp}{s:aU}
abbrev Ya(P:bL)(w:cH)(K:au)(mg:Str->Option aG)(base:dw)(N:List Str)(qual:Str)(scope:mn)(f:aR)(cd:aG)(A:ef)(outer:List Env)(s0:aU)(H0:Hp)(E:XK):Cx:=uZ (X' P w) P w K mg base N qual scope f cd A outer s0 H0 E
theorem zI(I:Inv (Ya P w K mg base N qual scope f cd A outer s0 H0 E) pins σ H s):
  s.heap.FunFrames base (envOfC qual scope s0.heap.objs.size f cd::outer)/\s0.heap.objs.size<=s.heap.objs.size/\(∀b∈s0.heap.objs.size::DP outer,H b=none)/\(envOfC qual scope s0.heap.objs.size f cd::outer).filterMap (·.frame)=s0.heap.objs.size::DP outer:=by
 obtain⟨m,F5,_⟩:=I.loc;have hb:base.get? s0.heap.objs.size=none:=by
  cases q:base.get? s0.heap.objs.size with
  |none=>rfl
  |some o=>exact qQ7 (a9 (I.ok.bs _ o q).1) (jt _)
 have Wn:∀b∈DP outer,H0 b=none/\∃o,s0.heap.get? b=some o:=λb hb=>by
  obtain⟨_,o,ho,_⟩:=(show s0.heap.FunFrames base outer from I.ok.rP).mem hb
  exact⟨I.ok.Ku b hb,o,ho⟩
 refine⟨?_,?_,?_,rfl⟩
 ·refine yV (L:=s0.heap.objs.size) (m:=m) (by rw[show(envOfC qual scope s0.heap.objs.size f cd).scope.kind=.function from I.ok.kind];decide) rfl F5 hb (qT (λb hb o ho=>?_) (show s0.heap.FunFrames base outer from I.ok.rP))
  obtain⟨sl,q⟩:=I.base.any ho (Wn b hb).1 (by intro z;exact qQ7 (show b∈([]:List aR)from z) (by simp))
  exact⟨_,q,rfl⟩
 ·obtain⟨o,_,_,ho,_⟩:=F5
  exact oZ (a9 ho)
 ·intro b hb
  rcases aE.mp hb with rfl|hb
  ·exact I.free
  ·obtain⟨h1,o,ho⟩:=Wn b hb
   exact I.base.free b o ho h1 (by intro z;exact qQ7 (show b∈([]:List aR)from z) (by simp))
theorem L8(I:Inv (Ya P w K mg base N qual scope f cd A outer s0 H0 E) pins σ H s)(ge:H e=some (mN C e (some dx)))(he:s0.heap.objs.size<=e)(hE:∀T,H T=none->T≠e->E (.ref e) (some T) (HL H [] e T (qw C e dx T) (BG T))):
  (Ya P w K mg base N qual scope f cd A outer s0 H0 E).xe (.ref e) s:=by
 obtain⟨ff,sz,nf,Yb⟩:=zI I;obtain⟨t,sl,g⟩:=mN.at I.hok ge;show wpAny (model P w) _ (leaving _ _) _ _ s;refine El (base:=base) (L:=s0.heap.objs.size) I.ok.frames ff rfl g rfl rfl λh' l=>?_
 rw[Yb]at l;obtain⟨T,oT,ts,hT,g1,oW,g2,d2,t3⟩:=l.exc;have nT:H T=none:=I.hok.fresh hT;have gT:=ux hT;have ie:vW (H e):=⟨_,ge⟩;have gm:h'.get? e=some { cls:=.ref C,dict:=some dx,data:=.fields #[.ref t,.ref T,.none,.none,.bool false,.none],slots:=sl }:=g1;refine⟨e,C,dx,T,HL H [] e T (qw C e dx T) (BG T),rfl,I.os,I.bare,L6 I.base l (ay _) he (λx hx=>(nomatch hx)) ie (λx hx=>(nomatch hx)) gT nT,BH I.hok l nf ie (λx hx=>(nomatch hx)) gT nT (qw.ok gm rfl) (BG.ok g2 d2 t3),O6,O7 oW,oW,he,cj sz hT,hE T nT oW⟩
end
def Dd(C:aR):Sp:=λvs H Q _=>∃e v1 x2,vs=[.ref e,v1,.str x2]/\x2.length<=1000/\H e=some (mN C e none)/\
 ∀dx,H dx=none->dx≠e->Q .non (upd (upd (upd H dx (Aw dx [("place",v1)])) e (mN C e (some dx))) dx (Aw dx (lI "word" (.str x2) [("place",v1)])))
abbrev vX(p:Int)(wd:Str):List (Str×V):=lI "word" (.str wd) [("place",.int p)]
def Iu(C:aR)(p:Int)(wd:Str)(B0 B:Hp)(e dx:aR)(H:Hp):Prop:=∃H1,eL B0 B H1 H/\H1 e=none/\B e=none/\H1 dx=none/\B dx=none/\dx≠e/\H dx=some (Aw dx (vX p wd))
section
variable{X:Cx}{B0 B H0 H:Hp}{σ:St}{D:Ends}{δ:List Slot}{a1 a2 tg iter:cx}{p:Int}{wd x y:Str}{np oH pos:Pos}{k:Nat}{fI C:aR}{fd:gf}{body:List jq}{ds:List ao}
theorem O8(f:iI X.K B0 B H0 H σ δ)(M:X_ X.K C fI)(F:fA X.prog X.w X.K X.mg X.base kR k fI fd ["self","place","word"] (Dd C))(hr:gj (k+1) X.A)(hb:Binds X.K fd ["self","place","word"] [])(hg:Gl X x)(hm:X.mg x=some (.ref C))
  (h1:VE X a1 δ (.int p))(h2:VE X a2 δ (.str wd))(hl:wd.length<=1000)
  (hW:∀pins σ H2 s e dx,Inv X pins σ H2 s->H2 e=some (mN C e (some dx))->X.s₀.heap.objs.size<=e->Iu C p wd B0 B e dx H2->X.xe (.ref e) s)
  (hs0:∀pins σ H s,Inv X pins σ H s->X.s₀.heap.objs.size<=s.heap.objs.size)(hh:X.A.handled=none)
  (rS:(x==("__debug__":Str))=false:=by decide)(he:starEach [a1,a2] X.env=(false,eval a1 X.env)::starEach [a2] X.env:=by rfl)(VB:starEach [a2] X.env=(false,eval a2 X.env)::starEach [] X.env:=by rfl)(pT:(backTo oH (starEach [a2] X.env)).any (·.1)=false:=by rfl):
  cS X (.Raise (some (.Call (.Name x np) [a1,a2] [] oH)) none pos) D σ H:=λpins s I=>by
 obtain⟨nm,q0,N,bs,bm,hdct,sn,sub,ab,col,dd,k0,k1,k2,k3,k5,lk,_,_,_,cE⟩:=M.ob;show wpAny (model X.prog X.w) X.A (do standAt pos;raiseStmt X.env (some (do let v <-eval (.Call (.Name x np) [a1,a2] [] oH) X.env;standAt pos;pure v)) none) _ _ s
 refine av (oU (Gn (C:=C) (nm:=nm) (q:=q0) (N:=N) (bs:=bs) (bm:=bm) (hdct:=hdct) (sn:=sn) (sub:=sub) (ab:=ab) (col:=col) (dd:=dd) (k0:=k0) (k1:=k1) (k2:=k2) (k3:=k3) (k5:=k5) (newId:="ValueError.__new__") cE hh (av (fq ?_ (λv s1 q=>av (oU (a_ q))) λ_ _ z=>z))))
 refine j8 (qI I hg hm ?_ rS)
 have ha:=dG (X:=X) (e:=a1) (es:=[a2]) (d_ (X:=X) (e:=a1)) (dG (d_ (X:=X) (e:=a2)) gI VB) he;refine uV (h₀:=X.base) I.ok.mod.Rr M.kp (g8 (ha oH pins s σ H (λvs Hh=>∃Ha,eL B0 B Ha Hh/\vs=[.int p,.str wd]) I ?_) λus s1 ⟨vs,Hh,I1,r,Ha,g,ev⟩=>⟨I1.vA,?_⟩) he pT
 ·refine h1 B0 B σ H0 H _ f λv H1 eQ g1 r1=>?_
  cases r1;refine h2 B0 B σ H1 eQ _ (f.grow g1) λu H2 jH g2 r2=>?_
  cases r2;exact⟨H2,(f.ent.trans g1).trans g2,rfl⟩
 ·subst ev
  have few:us.length<=sizeLine:=by rw[<-r.length,du];show 2<=16777216;decide
  refine g8 (JM (CX:=kR) (E:=E0) (Q:=λv H2=>∃e dx,v=.ref e/\H2 e=some (mN C e (some dx))/\s1.heap.objs.size<=e/\Iu C p wd B0 B e dx H2) M F hr hb D6 I1 r few λe ne se=>?_) λu s2 ⟨v,H2,I2,rv,e,dx,ev,ge,se,wi⟩=>?_
  ·refine⟨e,.int p,wd,rfl,hl,bQ,λdx nd oW=>⟨rfl,e,dx,rfl,?_,se,Ha,⟨λb o q=>?_,g.iq,λb o q=>?_,g.new⟩,g.sub.free ne,g.big.free ne,?_,?_,oW,bQ⟩⟩
   ·rw[aY (bY oW),bQ]
   ·have OY:=g.big _ _ q
    have nd':Hh dx=none:=by rw[aY oW]at nd;exact nd
    have b1:=bC OY ne;have b2:=bC OY nd';rw[aY b2,aY b1,aY b2,aY b1];exact OY
   ·have OY:=g.sub _ _ q
    have nd':Hh dx=none:=by rw[aY oW]at nd;exact nd
    have b1:=bC OY ne;have b2:=bC OY nd';rw[aY b2,aY b1,aY b2,aY b1];exact OY
   ·rw[aY oW]at nd;exact g.sub.free nd
   ·rw[aY oW]at nd;exact g.big.free nd
  ·subst ev
   obtain rfl:u=bA e:=rv;obtain⟨t,sl,gg⟩:=mN.at I2.hok ge;exact⟨e,some dx,t,sl,rfl,I2.vA _ _ lk,gg,hW pins σ H2 s2 e dx I2 ge (cj (hs0 pins σ Hh s1 I1) se) wi⟩
end
section
variable{M:Model}{A:ef}{E:aG->aU->Prop}{s:aU}
theorem JN{env:Env}{out:List Env}{L: aR}{oe oT:Obj}
  (fr:A.frames=some (env::out))(ff:s.heap.FunFrames base (env::out))(fL:env.frame=some L)
  (ge:s.heap.get? e=some oe)(de:oe.data=.fields us)(u1:us[1]?=some (.ref T))(ne:T≠e)(gT:s.heap.get? T=some oT)(dT:oT.data=.fields ts)(t3:ts[3]?=some .none)
  (q:∀h',Bx ((env::out).filterMap (·.frame)) [T] e oe s.heap h'->Q () { s with heap:=h' }):wpAny M A (noteFrame (.ref e) env) (λ_ s2=>wpAny M A (setFlight (.ref e) none) Q E s2) E s:=by
 unfold noteFrame;simp only[fL];refine av (eN ge de u1 ?_)
 rw[qQ3 (show(bA T != fe)=true from by simp)]
 refine av (eN gT dT t3 ?_)
 rw[qQ2 (show ¬((fe==rawInt L)=true)from by simp[rawInt])]
 refine av (nI gT dT (iR.mp t3).1 ?_)
 have ot:∀b,b≠T->(s.heap.update T (lH (·.setIfInBounds 3 fe))).get? b=s.heap.get? b:=λb hb=>dN _ _ (bY hb)
 have noT:∀b o,s.heap.get? b=some o->(∀vs,o.data≠.fields vs)->b≠T:=λb o hb hn z=>by
  rw[z,gT]at hb;injection hb with hb;subst hb;exact hn ts dT
 refine zH fr (ff.of_keeps λb o hb hn=>⟨o,(ot b (noT b o hb hn)).trans hb,rfl⟩) fL ((ot e (bY ne)).trans ge) de (iR.mp u1).1 λh' l=>q h' ⟨?_,λb o hb hf hx be=>?_,λb o hb hf hx be=>?_,λb o hb=>?_,?_⟩
 ·have:=l.size
  rw[mD]at this;exact this
 ·exact l.keep b o ((ot b (by simpa using hx)).trans hb) hf (by simp) be
 ·exact l.slot b o ((ot b (by simpa using hx)).trans hb) hf (by simp) be
 ·by_cases Um:b=T
  ·subst Um
   exact l.there b _ (gU _ gT (j' (hU dT _)))
  ·exact l.there b o ((ot b Um).trans hb)
 ·obtain⟨T',oT',ts',h1,h2⟩:=l.exc
  rw[mD]at h1;exact⟨T',oT',ts',h1,h2⟩
end
section
variable{X:Cx}{pins:List (aR×Obj)}{σ:St}{H:Hp}{s:aU}{C M e dx T:aR}{E:aG->aU->Prop}
structure O9(K:au)(C M:aR):Prop where
 ob:∃nm q N bs bm hdct sn sub ab col dd k0 k1 k2 k3 k5 Yc q' N' Yd Uo Iv Ye O_ Yf Pa D7 Yg Yh Yi Yj Yk,K.lookup C=some (excClassObj nm q C N bs bm hdct sn sub ab col dd k0 k1 k2 k3 k5 "ValueError.__new__")/\K.lookup M=some (excClassObj Yc q' M N' Yd Uo Iv Ye O_ Yf Pa D7 Yg Yh Yi Yj Yk "ValueError.__new__")/\
  (bA C::bm).contains (.ref M)=true/\(bA M::Uo).contains (.type "BaseException")=true
theorem Eo{Q:Bool->aU->Prop}(KX:X.K.In s.heap)(c:O9 X.K C M)(ge:s.heap.get? e=some { cls:=.ref C,dict:=some dx,data:=.fields us,slots:=sl })(hq:Q true s):
  wpAny (model X.prog X.w) A (excMatches (.ref e) (.ref M)) Q E s:=by
 obtain⟨nm,q,N,bs,bm,hdct,sn,sub,ab,col,dd,k0,k1,k2,k3,k5,Yc,q',N',Yd,Uo,Iv,Ye,O_,Yf,Pa,D7,Yg,Yh,Yi,Yj,Yk,lC,lM,cM,cB⟩:=c.ob;obtain⟨hh,g,d,tk,os⟩:=s;have gC:=KX _ _ lC;have gM:=KX _ _ lM;have f:=tc_notTuple;unfold excMatches
 repeat (first|with_reducible refine fy ge ?_|with_reducible refine fy gM ?_|(with_reducible refine iS gM ?_;rw[cB])|(with_reducible refine iS gC ?_;rw[cM])|wp_step)
 exact hq
theorem JQ{M:Model}{i:Nat}{x:Str}{pos:Pos}(I:Inv X pins σ H s)(hN:X.N.Nodup)(hi:X.N[i]?=some x)(hk:X.env.scope.names.lookup x=some .local)(h:∀s',Inv X pins (σ.set i none) H s'->Q () s'):
  wpAny M A (do bindName X.env x .none;unbindBehindTheSuite X.env x pos) Q E s:=by
 obtain⟨m,hn,hl⟩:=id I.loc;have Ru:(X.env.scope.kind == .class||(X.env.scope.kind == .module&&X.env.locals != X.env.globals))=false:=by rw[I.ok.kind];rfl
 have hiσ:i < σ.length:=by rw[I.len];exact(aP.mp hi).1
 have Kv:=I.Kv;refine wpAny_nameGoes_keeps hk hn Ru λh' v YQ hs=>h _ ?_
 obtain⟨oL,_,_,hoL,_⟩:=id hn;refine⟨I.ok,I.os,I.bare,⟨λb o e n hb hx=>?_,λb o e n hb hx=>?_,I.base.free,λb o e hx=>?_,I.base.tups,I.base.wL,I.base.yg⟩,⟨_,YQ,λj y v' e1 e2 e3=>?_⟩,λy c e=>?_,I.free,I.pj,λp hp=>?_,λb ob e=>?_,by simpa using I.len⟩
 ·exact(hs.2 b (bu (bW (a9 e) I.ok.above))).trans (I.base.keep b o e n hb hx)
 ·obtain⟨sl,e1⟩:=I.base.slot b o e n hb hx
  exact⟨sl,(hs.2 b (bu (bW (a9 e) I.ok.above))).trans e1⟩
 ·obtain⟨o',e1⟩:=I.base.there b o e hx
  exact⟨o',(hs.2 b (bu (bW (a9 e) I.ok.above))).trans e1⟩
 ·by_cases hj:j=i
  ·subst hj
   rw[bo hiσ]at e2;cases e2
  ·rw[bh (bY hj)]at e2
   obtain⟨u',r',q⟩:=hl j y v' e1 e2 e3;refine⟨u',r',?_⟩
   rcases q with⟨k,e⟩|⟨k,c,e,z⟩
   ·refine .inl ⟨k,?_⟩
    have:y≠x:=λe=>hj (yX hN e1 (e▸hi))
    simp[this,e]
   ·exact .inr ⟨k,c,e,z.sameBut hs (Kv y c e)⟩
 ·obtain⟨w',z⟩:=I.cell y c e
  exact⟨w',z.sameBut hs (Kv y c e)⟩
 ·obtain⟨e,n,ne,nf,d⟩:=I.pin p hp
  exact⟨(hs.2 p.1 ne).trans e,n,ne,nf,d⟩
 ·refine(I.hok b ob e).stay (λc w' hc q=>(hs.2 c ?_).trans q) (λ_ q=>q) λ_ _ q=>q
  rintro rfl
  rcases hc with rfl|hc
  ·rw[I.free]at e;cases e
  ·rw[I.free]at hc;cases hc
abbrev Cx.held(X:Cx)(e:aR):Cx:={ X with A:=X.A.mark (some (.ref e)),calm:=false,xe:=λ_ _=>False }
theorem Inv.held(I:Inv X pins σ H s)(e:aR):Inv (X.held e) pins σ H s:=
 ⟨⟨I.ok.mod,I.ok.kind,I.ok.glob,I.ok.blt,I.ok.above,I.ok.inj,I.ok.has,I.ok.cab,(λz=>nomatch z),I.ok.frames,I.ok.stk,I.ok.XE,I.ok.bs,I.ok.Ni,I.ok.FH,I.ok.Jc,I.ok.rP,I.ok.Ku⟩,I.os,I.bare,I.base,I.loc,I.cell,I.free,I.pj,I.pin,I.hok,I.len⟩
theorem Inv.S7(I:Inv (X.held e) pins σ H s)(hc:X.calm=true->X.A.handled=none):Inv X pins σ H s:=
 ⟨⟨I.ok.mod,I.ok.kind,I.ok.glob,I.ok.blt,I.ok.above,I.ok.inj,I.ok.has,I.ok.cab,hc,I.ok.frames,I.ok.stk,I.ok.XE,I.ok.bs,I.ok.Ni,I.ok.FH,I.ok.Jc,I.ok.rP,I.ok.Ku⟩,I.os,I.bare,I.base,I.loc,I.cell,I.free,I.pj,I.pin,I.hok,I.len⟩
end
def S8(C:aR)(p:Int)(wd:Str)(B0 B:Hp)(e T dx:aR)(H:Hp):Prop:=H e=some (qw C e dx T)/\H T=some (BG T)/\T≠e/\H dx=some (Aw dx (vX p wd))/\dx≠e/\dx≠T/\B e=none/\B T=none/\B dx=none/\
 ∃H1,eL B0 B H1 H/\H1 e=none/\H1 T=none/\H1 dx=none
def spX(K:au)(C:aR)(R:List ao->Int->Str->Prop):Sp:=λvs H _ E=>∃H0 ds p wd,eC H0 H/\dz K H0 vs ds/\R ds p wd/\∀e T dx H',S8 C p wd H0 H e T dx H'->E (.ref e) (some T) H'
theorem Pb{A B Hx H':Hp}{T': aR}(g:eL A B Hx H')(be:B e=none)(bT:B T=none)(xe:Hx e=none)(xT:Hx T=none)(nT:H' T'=none):eL A B Hx (HL H' [T] e T' o1 o2):=by
 refine⟨λb o q=>?_,g.iq,λb o q=>?_,g.new⟩
 ·have z:=g.big _ _ q
  rw[sZ (bC q be) (bC z nT) (by rw[aK];exact bC q bT)];exact z
 ·have z:=g.sub _ _ q
  rw[sZ (bC q xe) (bC z nT) (by rw[aK];exact bC q xT)];exact z
theorem L9{A B Hx H':Hp}{T': aR}(g:eL A B Hx H')(be:B e=none)(xe:Hx e=none)(nT:H' T'=none):eL A B Hx (HL H' [] e T' o1 o2):=by
 refine⟨λb o q=>?_,g.iq,λb o q=>?_,g.new⟩
 ·have z:=g.big _ _ q
  rw[sZ (bC q be) (bC z nT) (by simp)];exact z
 ·have z:=g.sub _ _ q
  rw[sZ (bC q xe) (bC z nT) (by simp)];exact z
theorem Iu.fly{p:Int}{wd:Str}{B0 B: Hp}(w:Iu C p wd B0 B e dx H)(nT:H T=none)(ne:T≠e):S8 C p wd B0 B e T dx (HL H [] e T (qw C e dx T) (BG T)):=by
 obtain⟨H1,g,a1,a2,a3,a4,a5,a6⟩:=w;have Yl:dx≠T:=bC a6 nT;exact⟨O6,O7 ne,ne,by rw[sZ a5 Yl (by simp)];exact a6,a5,Yl,a2,g.big.free nT,a4,H1,L9 g a2 a1 nT,a1,g.sub.free nT,a3⟩
section
variable{X:Cx}{B0 B H0 H:Hp}{σ:St}{D:Ends}{δ:List Slot}{pins:List (aR×Obj)}{s:aU}
theorem Ep(I:Inv X pins σ H s)(Fq:X.stack=X.env::X.outer)(Wo:X.env.frame=some X.env.locals)(hex:X.ex=[]):
  s.heap.FunFrames X.base (X.env::X.outer)/\(∀b∈X.env.locals::X.fs,H b=none)/\(X.env::X.outer).filterMap (·.frame)=X.env.locals::X.fs:=by
 obtain⟨m,F5,_⟩:=I.loc;have nex:∀b:aR,b∉X.ex:=λb z=>by rw[hex]at z;cases z
 have hb:X.base.get? X.env.locals=none:=by
  cases q:X.base.get? X.env.locals with
  |none=>rfl
  |some o=>exact qQ7 (bW (a9 (I.ok.bs _ o q).1) I.ok.above) (jt _)
 have Wn:∀b∈X.fs,X.H₀ b=none/\∃o,X.s₀.heap.get? b=some o:=λb hb=>by
  obtain⟨_,o,ho,_⟩:=I.ok.rP.mem hb;exact⟨I.ok.Ku b hb,o,ho⟩
 refine⟨?_,?_,by rw[iz,Wo];rfl⟩
 ·refine yV (L:=X.env.locals) (m:=m) (by rw[I.ok.kind];decide) Wo F5 hb (qT (λb hb o ho=>?_) I.ok.rP)
  obtain⟨sl,q⟩:=I.base.any ho (Wn b hb).1 (nex b);exact⟨_,q,rfl⟩
 ·intro b hb
  rcases aE.mp hb with rfl|hb
  ·exact I.free
  ·obtain⟨h1,o,ho⟩:=Wn b hb
   exact I.base.free b o ho h1 (nex b)
theorem Pg{P:bL}{w:cH}{fr ex:List aR}{h': dw}{oe:Obj}(l:Bx fr ex e oe h h')(ie:vW (H e))(ix:∀x∈ex,vW (H x))(hT:h.get? T=none)(nT:H T=none):Un fr [] H (HL H ex e T o1 o2) h h':=by
 have ne:∀b,H b=none->b≠e/\b∉ex:=λb n=>by
  refine⟨λz=>?_,λz=>?_⟩
  ·obtain⟨φ,r⟩:=ie;rw[<-z,n]at r;cases r
  ·obtain⟨φ,r⟩:=ix b z;rw[n]at r;cases r
 have L7:∀b (o:HO),H b=some o->(∀φ,o≠.ext φ)->b≠e/\b≠T/\b∉ex:=λb o q z=>by
  refine⟨λq2=>?_,λq2=>?_,λq2=>?_⟩
  ·obtain⟨φ,r⟩:=ie;rw[q2,r]at q;cases q;exact z φ rfl
  ·rw[q2,nT]at q;cases q
  ·obtain⟨φ,r⟩:=ix b q2;rw[r]at q;cases q;exact z φ rfl
 refine⟨λb o q n hf hb=>?_,λb o q n hf hb=>?_,λb o q n hb=>?_,λb o q hb=>?_,λb xs q=>?_,λb o u' q=>?_,λb ps q=>?_⟩
 ·exact l.keep b o q hf (ne b n).2 (ne b n).1
 ·exact l.slot b o q hf (ne b n).2 (ne b n).1
 ·rw[sZ (ne b n).1 (λz=>by subst z;rw[hT]at q;cases q) (ne b n).2];exact n
 ·exact l.there b o q
 ·obtain⟨a1,a2,a3⟩:=L7 b _ q (by intro φ z;cases z)
  rw[sZ a1 a2 a3];exact q
 ·obtain⟨a1,a2,a3⟩:=L7 b _ q (by intro φ z;cases z)
  rw[sZ a1 a2 a3];exact q
 ·obtain⟨a1,a2,a3⟩:=L7 b _ q (by intro φ z;cases z)
  exact⟨#[],by rw[sZ a1 a2 a3,Array.append_empty];exact q⟩
theorem iI.unset(f:iI X.K B0 B H0 H σ δ){i:Nat}:iI X.K B0 B H0 H (σ.set i none) (δ.set i .un):=by
 refine⟨f.ent,by simp[f.len],λj sl e=>?_,λj k ds es p Fs e1 e2 e3=>?_⟩
 ·by_cases hj:j=i
  ·subst hj
   rw[bo (by simpa using(aP.mp e).1)]at e
   cases e
   trivial
  ·rw[bh (bY hj)]at e ⊢
   exact f.slot j sl e
 ·by_cases hj:j=i
  ·subst hj
   rw[bo (by simpa using(aP.mp e1).1)]at e1
   cases e1
  by_cases hk:k=i
  ·subst hk
   rw[bo (by simpa using(aP.mp e2).1)]at e2
   cases e2
  rw[bh (bY hj)]at e1 e3;rw[bh (bY hk)]at e2 ⊢;exact f.apart j k ds es p Fs e1 e2 e3
end
section
variable{X:Cx}{CX:Jk}{k:Nat}{f:aR}{fd:gf}{ps:List Str}{sp:Sp}{E:XK}{Ex:aG->aU->Prop}
theorem Ph{σ:St}{Q:VK}{us:List aG}(F:fA X.prog X.w X.K X.mg X.base CX k f fd ps sp)(hr:gj k X.A)(hb:Binds X.K fd ps [])(hx:∀e s',CX X.stack H s E e s'->Ex e s')
  (I:Inv X pins σ H s)(r:eO vs us)(h:sp vs H Q E):wpAny (model X.prog X.w) X.A (call (.ref f) us) (EP X pins σ Q) Ex s:=by
 have hl:(us ++ []).length=ps.length:=by rw[cF,<-r.length];exact F.len _ _ _ _ h
 have XT:=hb s us I.vA hl;rw[cF]at XT;refine mG (lF (F.run X.A X.stack s H ⟨us,[]⟩ us vs Q E hr I.env0 XT r h) λr s' hq=>?_)
 cases r with
 |error e=>exact hx e s' hq
 |ok fl=>
  cases fl with
  |ret u=>exact I.after hq
  |next=>exact fu hq
  |brk=>exact fu hq
  |cont=>exact fu hq
end
section
variable{X:Cx}{B0 B H0 H:Hp}{σ:St}{D:Ends}{δ:List Slot}{C M fa:aR}{fd:gf}{ps:List Str}{ds:List ao}{R:List ao->Int->Str->Prop}{k jn jc:Nat}{p:Int}{wd y g xM n xc:Str}{a:cx}{as:List cx}{p1 p2 p3 p4 p5 p6 p7 p8 hp pos:Pos}
end
end L2
namespace L2
open PySem PySem.Spec PyProof.Rows PySem.W
variable{expr:Bool}{odd:Obj}{tk:Tok}{Q:aG->aU->Prop}
structure JR(K:au)(C:aR):Prop where
 ga:findIn K (.ref C) "__getattribute__"=some (some (.builtin "BaseException.__getattribute__"))
 gh:findIn K (.ref C) "__getattr__"=some none
 mb:mroIn K C (.type "BaseException")=some true
 hd:hasDictIn K C=true
 cl:findIn K (.ref C) "__class__"=some (some (.builtin "object.__class__"))
 cg:specialIn K (.builtin "object.__class__") "__get__"=some (some (.builtin "getset_descriptor.__get__"))
 ct:takesIn K (.builtin "object.__class__")=some true
 mo:mroIn K C (.type "object")=some true
section
variable{prog:bL}{w:cH}{A:ef}{E:aG->aU->Prop}{s:aU}{K:au}{x C:aR}{ox:Obj}{od:Option Obj}{name:Str}
theorem L_{R:uU->aU->Prop}(KX:K.In s.heap)(I:InstAt s.heap x ox C od)(hm:mroIn K C (.type "BaseException")=some true)
  (h:wpAny (model prog w) A.in1 (qf.«object.__getattribute__» ⟨[.ref x,.str name tk],[]⟩) (λfin s'=>match fin with | .done f=>R (.ok f) s' | .again c'=>c'.quiet=true/\codeAny (model prog w) A c' R s') (λe s'=>R (.error e) s') s):
  codeAny (model prog w) A (.call (.builtin "BaseException.__getattribute__") ⟨[.ref x,.str name tk],[]⟩) R s:=
 o5 A9.ga.plain PySem.F.entry_bexc_ga (@check_slot (model prog w) _ _ s "BaseException.__getattribute__" "BaseException" "__getattribute__" (.ref x) [.str name tk] [] _ (by symm) (by symm) (I.type.andThen (looks_mroIn KX hm)) (PySem.F.args_bexc_ga _ _) h)
theorem BI{fill: Bool}(KX:K.In s.heap)(I:InstAt s.heap x ox C od)(c:JR K C)
  (h:wpAny (model prog w) A.in1 (qf.«object.__getattribute__» ⟨[.ref x,.str name tk],[]⟩) (λfin s'=>match fin with | .done (.ret v)=>wpAny (model prog w) A (handedOut v) Q E s'|_=>False) (λ_ _=>False) s):
  wpAny (model prog w) A (getAttrBy (.ref x) (.str name tk) fill expr) Q E s:=by
 have L0:=I.type (M:=model prog w);have L1:=looks_findIn (M:=model prog w) KX c.ga;have L2:Looks (model prog w) s.heap (hookBefore (.ref C)) none:=looks_hook KX (by rw[qQ3 (show onTheHeap (.ref C)=true from rfl)];exact c.gh)
 refine mr (av (L0 _ _ _ _ (λ_ _ e=>e) (av (L1 _ _ _ _ (λ_ _ e=>e) ?_))))
 dsimp only
 rw[show(onTheHeap (bA C)&&nE "BaseException.__getattribute__"==nE "object.__getattribute__")=false from by rw[show(nE "BaseException.__getattribute__"==nE "object.__getattribute__")=false from by symm,uD],qQ2 (by decide)]
 refine av (L2 _ _ _ _ (λ_ _ e=>e) (av (yn (mr ?_))))
 unfold callGetattribute;rw[show(expr&&onTheHeap (nE "BaseException.__getattribute__"))=false from uD _,qQ2 (by decide)]
 unfold boundAndCalled;rw[A9.ga.bind];refine av (a_ ?_)
 show wpAny _ _ (call (.builtin "BaseException.__getattribute__") [.ref x,.str name tk]) _ _ _;refine mG (L_ KX I c.mb (fq h (λfin s' z=>?_) λ_ _ z=>z.elim))
 rcases fin with(_|_|_|_)|_<;>first|exact z|exact z.elim
theorem Gs{v:aG}(KX:K.In s.heap)(I:InstAt s.heap x ox C od)(c:JR K C)(hf:findObj K C od name=some (.value v))(hh:handedIn v=true)(h:Q v { s with toks:=s.toks+1 }):
  wpAny (model prog w) A (getAttr (.ref x) name expr) Q E s:=by
 refine av (wpAny_mkText (BI (s:={ s with toks:=s.toks+1 }) KX I c ?_))
 obtain⟨hh',g,d,t,os⟩:=s;have L0:=I.type (M:=model prog w);have L1:=looks_find (M:=model prog w) KX I hf;refine av (a_ (av (a_ (av (L0.at (av (L1.at ?_)))))))
 refine a_ ?_
 show wpAny _ _ (handedOut v) _ _ _;rw[handedOut_of hh];exact a_ h
theorem Gu{Q:Option aG->aU->Prop}(KX:K.In s.heap)(I:InstAt s.heap x ox C (some odd))(c:JR K C)(h:Q (some (.ref C)) { s with toks:=s.toks+1 }):wpAny (model prog w) A (getAttr? (.ref x) "__class__") Q E s:=by
 have hf:findObj K C (some odd) "__class__"=some (.bind (.builtin "getset_descriptor.__get__") (.builtin "object.__class__")):=findObj_data (by obtain⟨cd,hc,_⟩:=any_some c.hd;rw[hc];rfl) c.cl c.cg c.ct
 unfold getAttr? getAttrBy?;refine av (wpAny_mkText (av (yn (BI (s:={ s with toks:=s.toks+1 }) KX I c ?_))))
 obtain⟨hh',g,d,t,os⟩:=s;have L0:=I.type (M:=model prog w);have L1:=looks_find (M:=model prog w) KX I hf;refine av (a_ (av (a_ (av (L0.at (av (L1.at ?_)))))))
 show wpAny _ _ (holding [nE "object.__class__"] (call (.builtin "getset_descriptor.__get__") [.builtin "object.__class__",.ref x,.ref C]) >>= ret) _ _ _;refine av (mr (mG (class_get (ox:=ox) (od:=some odd) KX I c.mo (a_ ?_))))
 show wpAny _ _ (handedOut (.ref C)) _ _ _;exact handed_on rfl (a_ h)
theorem Gv(c:JR K C):KitX K (.ref x) (.ref C) (λh=>InstAt h x ox C (some odd)) where
 ty:=λ_ _ _ I=>I.type
 it:=λ_ _ X _=>by
  obtain⟨cdD,Jj,_⟩:=any_some c.hd;unfold clsIn at Jj
  split at Jj
  ·rename_i c' d' cd' Rt ho
   intro A' Q' E' s' k q;unfold isType loadHead;exact av (wG (k _ _ (X _ _ ho)) (a_ q))
  ·cases Jj
 ne:=λh tp dd its n sl X htp=>by
  obtain⟨cdD,Jj,_⟩:=any_some c.hd;refine Bool.eq_false_iff.mpr λq=>?_
  have e:C=tp:=bA.inj (beq_iff_eq.mp q);subst e;unfold clsIn at Jj
  split at Jj
  ·rename_i c' d' cd' Rt ho
   have z:=(X _ _ ho).symm.trans htp;cases z
  ·cases Jj
 ca:=λX I k=>Gu X I c k
end
end L2
namespace L2
open PySem PySem.Spec PyProof.Rows
variable{a:aR}{kv:List (Str×ao)}{d:ao}{K:au}{y:Str}
structure pV(K:au)(H:Hp)(e C:aR)(p:Int)(wd:Str):Prop where
 ex:∃dx T,H e=some (qw C e dx T)/\H dx=some (Aw dx (vX p wd))/\dx≠e
 gt:JR K C
 np:gP K C "place"
 nw:gP K C "word"
section
variable{X:Cx}{pins:List (aR×Obj)}{σ:St}{H H':Hp}{s:aU}{e C:aR}{p:Int}{wd f x:Str}
theorem pV.mono(c:pV K H e C p wd)(s:eC H H'):pV K H' e C p wd:=by
 obtain⟨dx,T,a,b,d⟩:=c.ex;exact⟨⟨dx,T,s _ _ a,s _ _ b,d⟩,c.gt,c.np,c.nw⟩
theorem pV.inst(c:pV X.K H e C p wd)(I:Inv X pins σ H s):∃(ox od:Obj)(mA:Str->Option aG),ow s.heap e ox C (some od)/\(∀f,oF ((vX p wd).lookup f) (mA f))/\∀name,sk name od=some (mA name):=by
 obtain⟨dx,T,ge,gd,oW⟩:=c.ex;obtain⟨us,sl,g,_⟩:=(I.hok e _ ge).1;obtain⟨mA,n1,r,_⟩:=Aw.at I.hok gd;obtain⟨od,god,hl⟩:=wO n1;exact⟨_,od,mA,⟨g,rfl,rfl,god⟩,r,hl⟩
theorem Pj:kJ X (.builtin "isinstance") (λxs H Q=>∃e C p wd M b,xs=[.ref e,.ref M]/\pV X.K H e C p wd/\dH X.K (.ref C) (.ref M)=some b/\Q (.bl b) H):=by
 intro pins s σ H xs us Q I r h;obtain⟨e,C,p,wd,M,b,rfl,c,hk,q⟩:=h;obtain⟨u1,u2,rfl,r1,r2⟩:=vals2 r;cases r1;cases r2;obtain⟨ox,od,mA,J,_,_⟩:=c.inst I;exact PySem.W.kia_one (Gv (ox:=ox) (odd:=od) c.gt) I.vA J hk (λz=>nomatch z) λtk=>⟨.bl b,H,I.tok tk,rfl,q⟩
theorem S9:kJ X (.builtin "isinstance") (λxs H Q=>∃e C p wd tn b,xs=[.ref e,.ty tn]/\pV X.K H e C p wd/\dH X.K (.ref C) (.type tn)=some b/\Q (.bl b) H):=by
 intro pins s σ H xs us Q I r h;obtain⟨e,C,p,wd,tn,b,rfl,c,hk,q⟩:=h;obtain⟨u1,u2,rfl,r1,r2⟩:=vals2 r;cases r1;cases r2;obtain⟨ox,od,mA,J,_,_⟩:=c.inst I;exact PySem.W.kia_one (Gv (ox:=ox) (odd:=od) c.gt) I.vA J hk (λz=>nomatch z) λtk=>⟨.bl b,H,I.tok tk,rfl,q⟩
theorem Pk:kJ X (.builtin "isinstance") (λxs H Q=>∃e C p wd t M1 M2 M3 b,xs=[.ref e,.ref t]/\pV X.K H e C p wd/\H t=some (.tup [.ref M1,.ref M2,.ref M3])/\yW X.K (.ref C) [.ref M1,.ref M2,.ref M3]=some b/\Q (.bl b) H):=by
 intro pins s σ H xs us Q I r h;obtain⟨e,C,p,wd,t,M1,M2,M3,b,rfl,c,ht,hk,q⟩:=h;obtain⟨u1,u2,rfl,r1,r2⟩:=vals2 r;cases r1;cases r2;obtain⟨ox,od,mA,J,_,_⟩:=c.inst I;obtain⟨_,its,rv,ob,g,hc,n,hd⟩:=I.hok t _ ht;obtain⟨oc,odd,odt,HQ⟩:=ob;simp only at hc hd;subst hc;subst hd;obtain rfl:its=[.ref M1,.ref M2,.ref M3]:=by
  cases rv with|cons a rv=>cases rv with|cons b rv=>cases rv with|cons d rv=>cases rv;cases a;cases b;cases d;rfl
 exact PySem.W.kia_tup (Gv (ox:=ox) (odd:=od) c.gt) I.vA J g hk (λz=>nomatch z) λtk=>⟨.bl b,H,I.tok tk,rfl,q⟩
def Wp(K:au)(i:Nat)(f:Str):TE:=λσ H Q=>∃e C p wd v,σ[i]?=some (some (.ref e))/\pV K H e C p wd/\gP K C f/\(vX p wd).lookup f=some v/\Q v H
theorem Iw{i:Nat}{px pos:Pos}(hN:X.N[i]?=some x)(hv:FG X.env.scope x)(hb:attributeBase (.Name x px) f X.env (eval (.Name x px) X.env)=eval (.Name x px) X.env)(hd:(x==("__debug__":Str))=false:=by decide)(rQ:(x==("__classdict__":Str))=false:=by decide):
  PE X (.Attribute (.Name x px) f pos) (Wp X.K i f):=by
 intro pins s σ H Q I h;obtain⟨e,C,p,wd,v,hs,c,na,hl,q⟩:=h;refine HP hb (g8 (iH (i:=i) hN hv hd rQ pins s σ H (λy H1=>y=.ref e/\H1=H) I ⟨.ref e,hs,rfl,rfl⟩) λu s1 ⟨y,H1,I1,ry,ey,eH⟩=>?_)
 subst ey;subst eH;obtain rfl:u=bA e:=ry;obtain⟨ox,od,mA,J,r,ZI⟩:=c.inst I1;obtain⟨u,hu,ru⟩:=oF.some_of (v:=v) (o:=mA f) (by rw[<-hl];exact r f)
 exact Gs I1.vA J c.gt (Fm c.gt.hd na rfl (by rw[ZI,hu])) (Be ru) ⟨v,H1,I1.tok _,ru,q⟩
end
section
variable{X:Cx}{δ:List Slot}{pos px:Pos}{a b e:cx}{x:Str}{d:ao}{ds:List ao}{k:Int}{j:Nat}
def BJ(P:bL)(w:cH)(K:au)(mg:Str->Option aG)(base:dw)(k:Nat)(x:Str)(ps:List Str)(C:aR)(R:List ao->Int->Str->Prop):Prop:=
 ∃f fd,fA P w K mg base (X' P w) k f fd ps (spX K C R)/\mg x=some (.ref f)/\ft K (.ref f)=true/\Binds K fd ps []
end
section
variable{X:Cx}{sc:mn}{own N:List Str}{cap:List Nat}{cl:List (Str×aR)}{tg elt iter:cx}{ifs:List cx}{δ:List Slot}{ds rs:List ao}{pos px yi:Pos}{tgt:H_}{x:Str}
end
section
variable{X:Cx}{δ:List Slot}{pos px p:Pos}{a e:cx}{x:Str}{d:ao}
end
section
variable{X:Cx}{δ:List Slot}{pos:Pos}{a b c e:cx}
end
section
variable{P:bL}{w:cH}{K:au}{mg:Str->Option aG}{base:dw}{N:List Str}{qual:Str}{scope:mn}{f0:aR}{cd:aG}{A:ef}{outer:List Env}{s0:aU}{H00:Hp}{E:XK}{B0 B H0 H:Hp}{σ:St}{D:Ends}{δ:List Slot}{C fa:aR}{fd:gf}{ps:List Str}{ds:List ao}{R:List ao->Int->Str->Prop}{k:Nat}{p:Int}{wd g:Str}{a:cx}{as:List cx}{p1 p2 pos:Pos}
end
def JT(kv:List (Str×ao))(y:Str)(d:ao):List (Str×ao):=if(kv.any λq=>decide (q.1=y))=true then u_ kv y d else kv ++ [(y,d)]
def DR(K:au)(a:aR)(kv:List (Str×ao)):OR:=λH0 H as=>as=[a]/\∃kvs:List (Key×V),H a=some (.dK kvs)/\kvs.map (·.1)=kv.map (λp=>(b9 p.1:Key))/\dz K H0 (kvs.map (·.2)) (kv.map (·.2))
theorem DR.mono:vU (DR K a kv):=λH0 H Ha Hb as ⟨e,kvs,h1,h2,h3⟩ sm hb=>⟨e,kvs,by rw[hb a (by rw[e];simp)];exact h1,h2,h3.mono sm⟩
theorem DR.rep(Ha Hb:Hp)(as:List aR)(s:eC Ha Hb)(h:DR K a kv Ha Hb as):Rep K (uv as Hb Ha) (.ref a) (sV kv):=by
 obtain⟨e,kvs,h1,h2,h3⟩:=h;refine .dct (kvs:=kvs) (by rw[yD (by rw[e];simp)];exact h1) ?_ ?_
 ·have e2:=qQ6 (A8 wW) h2
  rw[bf,bf]at e2;rw[bf];exact e2.symm
 ·rw[bf]
  exact h3.mono (sX s)
theorem Iy:∀{kv:List (Str×ao)}{kvs:List (Key×V)},kvs.map (·.1)=kv.map (λp=>(b9 p.1:Key))->(kvs.any λz=>decide (z.1=(b9 y:Key)))=kv.any λq=>decide (q.1=y)
 | [],[],_=>rfl
 | [],_::_,e=>by simp at e
 |_::_,[],e=>by simp at e
 |q::kv,z::kvs,e=>by
  rw[aN,aN]at e
  injection e with e1 e2
  rw[nH,nH,Iy e2,e1]
  congr 1
  by_cases h:q.1=y
  ·rw[qQ1 h,qQ1 (by rw[h])]
  ·rw[qQ0 h,qQ0 λz=>h (xA z)]
theorem Ma{H:Hp}{v:V}(r:Rep K H v d):∀{kv:List (Str×ao)}{kvs:List (Key×V)},kvs.map (·.1)=kv.map (λp=>(b9 p.1:Key))->dz K H (kvs.map (·.2)) (kv.map (·.2))->
  (kvs.map λq=>if q.1=b9 y then(q.1,v)else q).map (·.1)=(u_ kv y d).map (λp=>(b9 p.1:Key))/\dz K H ((kvs.map λq=>if q.1=b9 y then(q.1,v)else q).map (·.2)) ((u_ kv y d).map (·.2))
 | [],[],_,_=>⟨rfl,.nil⟩
 | [],_::_,e,_=>by simp at e
 |_::_,[],e,_=>by simp at e
 |q::kv,z::kvs,e,t=>by
  rw[aN,aN]at e t
  injection e with e1 e2
  cases t with
  |cons a t=>
   obtain⟨g1,g2⟩:=Ma r e2 t;unfold u_ at g1 g2 ⊢;rw[aN,aN,aN,aN,aN,aN];by_cases h:q.1=y
   ·have hz:z.1=(b9 y:Key):=by rw[e1,h]
    rw[qQ3 h,qQ3 hz,g1];exact⟨by rw[e1],.cons r g2⟩
   ·have hz:¬z.1=(b9 y:Key):=λz'=>h (xA (e1.symm.trans z'))
    rw[qQ2 h,qQ2 hz,g1];exact⟨by rw[e1],.cons a g2⟩
theorem Pm{H:Hp}{v:V}(r:Rep K H v d){kvs:List (Key×V)}(h1:kvs.map (·.1)=kv.map (λp=>(b9 p.1:Key)))(h2:dz K H (kvs.map (·.2)) (kv.map (·.2))):
  (putK kvs (b9 y) v).map (·.1)=(JT kv y d).map (λp=>(b9 p.1:Key))/\dz K H ((putK kvs (b9 y) v).map (·.2)) ((JT kv y d).map (·.2)):=by
 unfold putK JT;rw[Iy h1]
 split
 ·exact Ma r h1 h2
 ·rw[aV,aV,aV,aV,h1]
  exact⟨rfl,h2.append (.cons r .nil)⟩
section
variable{K:au}{B0 B H0 H:Hp}{σ:St}{δ:List Slot}{R:OR}{d:ao}{p:aR}
theorem OF.done(G:OF K B0 B R H0 H σ δ){i:Nat}(hi:δ[i]?=some (.ref p))(hR:∀Ha Hb as,eC Ha Hb->R Ha Hb as->Rep K (uv as Hb Ha) (.ref p) d):∃Ha,eC H0 Ha/\iI K B0 B Ha H σ (δ.set i (.val d)):=by
 obtain⟨as,h1,h2⟩:=G.ex;have sm:=sX (as:=as) G.fr.sub;have hs:σ[i]?=some (some (.ref p)):=G.fr.slot i _ hi;have f0:iI K B0 B (uv as H H0) H σ δ:=by
  refine⟨⟨G.fr.ent.big,G.fr.ent.iq.trans sm,C9 G.fr.sub,λb e=>?_⟩,G.fr.len,λi sl e=>?_,G.fr.apart⟩
  ·by_cases hb:b∈as
   ·exact .inr (h1 b hb).2.1
   ·rw[vT hb]at e;exact G.fr.ent.new b e
  have q:=G.fr.slot i sl e;cases sl with
  |un=>trivial
  |ref _=>exact q
  |val d=>obtain⟨v,g1,g2⟩:=q;exact⟨v,g1,g2.mono sm⟩
  |own ds=>exact qQ7 e (nq G.no i ds)
 have f1:=f0.u_ (i:=i) (v:=.ref p) (sl:=.val d) ⟨_,rfl,hR H0 H as G.fr.sub h2⟩ rfl;have e:σ.set i (some (.ref p))=σ:=by
  apply kf;intro j;by_cases h:j=i
  ·subst h;rw[bo (aP.mp hs).1,hs]
  ·rw[bh (bY h)]
 rw[e]at f1;exact⟨_,sm,f1⟩
end
section
variable{X:Cx}{B0 B H0 H:Hp}{σ:St}{D:Ends}{δ:List Slot}{a:aR}{ek ev:cx}{d:ao}{pos px pd ps:Pos}{x y:Str}{kv:List (Str×ao)}{k:Nat}
theorem S_(G:OF X.K B0 B (DR X.K a kv) H0 H σ δ)(hr:gj k X.A)(i:Nat)(hi:δ[i]?=some (.ref a))(hk:VE X ek δ (.str y))(hv:VE X ev δ d)(hl:kv.length<sizeLine)(q:∀e9 H',OF X.K B0 B (DR X.K a (JT kv y d)) e9 H' σ δ->D.nx σ H')
  (hN:X.N[i]?=some x:=by rfl)(C_:FG X.env.scope x:=by first|exact bq rfl|exact di (bq rfl)|exact di (di rfl))(rS:(x==("__debug__":Str))=false:=by decide)(rQ:(x==("__classdict__":Str))=false:=by decide)
  (hs:swapsWith ev (some (.Subscript (.Name x px) ek ps)) pos.line X.env=pure false:=by rfl):
  cS X (.Assign [.Subscript (.Name x px) ek ps] ev pos) D σ H:=λpins s I=>by
 refine CN (Qw hr) (iH hN C_ rS rQ) d_ d_ hs pins s σ H D I ?_
 refine hv H0 H σ H0 H _ G.own λv H1 eQ g1 r1=>?_
 have G1:=G.go DR.mono (G.own.grow g1) G.no;refine⟨.ref a,G1.fr.slot i _ hi,hk H1 eQ σ H1 eQ _ G1.own λu H2 jH g2 r2=>?_⟩
 cases r2;have G2:=G1.go DR.mono (G1.own.grow g2) G1.no;obtain⟨as,h1,e,kvs,ha,Uc,Ek⟩:=G2.ex;subst e;obtain⟨p1,p2⟩:=Pm (y:=y) (r1.mono g2.iq) Uc Ek;obtain⟨z1,z2,z3⟩:=h1 a (by simp)
 have hlen:kvs.length=kv.length:=by have:=qQ6 iG Uc;simpa using this
 refine⟨a,_,rfl,CL.k (k:=b9 y) ha (by omega),q H2 _ ⟨G2.fr.touch z1 z2 (nq G2.no),G2.no,[a],λb hb=>?_,rfl,_,bQ,p1,p2⟩⟩
 rw[aK.mp hb];exact⟨z1,z2,by rw[bQ];simp⟩
end
section
variable{X:Cx}{a b:cx}{δ:List Slot}{pos yj p p2:Pos}
end
end L2
namespace PySem
open Sem (wp)
section
variable{prog:bL}{w:cH}{A:ef}{E:aG->aU->Prop}{s:aU}{r:aR}{a b c:Int}{t u v:Tok}{n:Nat}
end
section
variable{prog:bL}{w:cH}{A:ef}{E:aG->aU->Prop}{s:aU}{r:aR}{a b c:Int}{t u v:Tok}{n:Nat}
end
end PySem
namespace L2
open PySem PySem.Spec PyProof.Rows
section
variable{X:Cx}{a b:cx}{δ:List Slot}{pos yj p p2:Pos}
end
section
variable{X:Cx}{B0 B H0 H:Hp}{σ:St}{D:Ends}{body:List jq}{tg iter:cx}{ds:List ao}{pos:Pos}
end
section
variable{X:Cx}{B0 B H0 H:Hp}{σ:St}{D:Ends}{δ:List Slot}{C M fa:aR}{fd:gf}{ps:List Str}{ds:List ao}{R:List ao->Int->Str->Prop}{k jn jc:Nat}{p:Int}{wd y g xM n xc:Str}{a:cx}{as:List cx}{p1 p2 p3 p4 p5 p6 p7 p8 hp pos:Pos}
theorem Pn(fr:iI X.K B0 B H0 H σ δ)(hx:∀e s,X.xe e s->False)(Fq:X.stack=X.env::X.outer)(Wo:X.env.frame=some X.env.locals)(hex:X.ex=[])(hcm:X.calm=true->X.A.handled=none)
  (F:fA X.prog X.w X.K X.mg X.base (X' X.prog X.w) k fa fd ps (spX X.K C R))(hr:gj k X.A)(hb:Binds X.K fd ps [])(hg:Gl X g)(hm:X.mg g=some (.ref fa))(hk:ft X.K (.ref fa)=true)(ha:VA X (a::as) δ ds)(hR:R ds p wd)
  (hgM:Gl X xM)(hmM:X.mg xM=some (.ref M))(sub:O9 X.K C M)(hN:X.N.Nodup)(Ym:X.N[jn]?=some n)(Pp:X.env.scope.names.lookup n=some .local)(hjc:X.N[jc]?=some xc)(hkc:Loc X.env.scope xc)(hfc:X.fn xc=true\/X.env.scope.names.lookup xc=some .local)(oW:jc≠jn)
  (q:∀e dx T σ' Ha Hb,iI X.K B0 B Ha Hb σ' (((δ.set jn .un).set jc (.ref e)).set jn .un)->Hb e=some (qw C e dx T)->Hb dx=some (Aw dx (vX p wd))->Ha e=none->Ha dx=none->B e=none->B dx=none->dx≠e->D.nx σ' Hb)
  (rS:(g==("__debug__":Str))=false:=by decide)(hdM:(xM==("__debug__":Str))=false:=by decide)(S':(n==("__debug__":Str))=false:=by decide)(hcn:(n==("__classdict__":Str))=false:=by decide)
  (hs:swapsWith (.Call (.Name g p1) (a::as) [] p2) none p4.line X.env=pure false:=by rfl)(rG:swapsWith (.Name n p6) (some (.Name xc p7)) p8.line X.env=pure false:=by rfl)
  (he:starEach (a::as) X.env=(false,eval a X.env)::starEach as X.env:=by rfl)(pT:(backTo p2 (starEach as X.env)).any (·.1)=false:=by rfl):
  cS X (.Try [.Expr (.Call (.Name g p1) (a::as) [] p2) p4] [.ExceptHandler (some (.Name xM p5)) (some n) [.Assign [.Name xc p7] (.Name n p6) p8] hp] [] [] pos) D σ H:=λpins s I=>by
 obtain⟨t,pa,Yn⟩:=ha;refine wpAny_Try_except (B9 (wpAny_Expr_any (fq (Q:=λ_ _=>False) ?_ (λ_ _ z=>z.elim) λ_ _ z=>z) I.quiet hs))
 refine j8 (qI I hg hm ?_ rS)
 refine uV (h₀:=X.base) I.ok.mod.Rr hk (fq (pa p2 pins s σ H (λvs Hh=>∃Ha,eL H0 H Ha Hh/\dz X.K Ha vs ds) I ?_) (λus s1 ⟨vs,Hh,I1,r,Ha,g1,rs⟩=>⟨I1.vA,?_⟩) λe s z=>(hx e s z).elim) he pT
 ·exact Yn B0 B σ H0 H _ fr λvs H1 eQ g1 rs=>⟨H1,g1,rs⟩
 refine g8 (Ph (Q:=λ_ _=>False) (E:=λv To H'=>∃e T dx,v=.ref e/\To=some T/\S8 C p wd Ha Hh e T dx H') F hr hb (λe s' hq=>?_) I1 r ⟨Ha,ds,p,wd,g1.sub,rs,hR,λe T dx H' x=>⟨e,T,dx,rfl,rfl,x⟩⟩) λu s2 ⟨v,H2,_,_,z⟩=>z.elim
 obtain⟨ea,C',dx',T',H',rfl,os,bare,un,hok,ge',gT',ne',se,sT,e1,T0,dx,z1,z2,x⟩:=hq;cases z1;cases z2;obtain⟨hh,gg,d,tk,N1⟩:=s';obtain rfl:N1=s1.os:=os;have I2:Inv X pins σ H' ⟨hh,gg,d,tk,s1.os⟩:=I1.call (h':=hh) (g':=gg) (d':=d) (t':=tk) (ch:=[]) un hok bare (λb z=>qQ7 z (by simp))
 obtain⟨ff,nf,Yb⟩:=Ep I2 Fq Wo hex;obtain⟨ge,gT,ne,gd,hde,Yl,b1,b2,b3,H1x,gx,c1,c2,c3⟩:=x;obtain⟨us0,sl,g0,u1⟩:=(I2.hok ea _ ge).1;obtain⟨oT,ts,gt,dt,t3⟩:=(I2.hok T' _ gT).1;refine JN (base:=X.base) (L:=X.env.locals) (out:=X.outer) (by rw[I.ok.frames,Fq]) ff Wo g0 rfl u1 ne gt dt t3 λh' l=>?_
 rw[Yb]at l;obtain⟨T,oT2,ts2,hT,g1',zal,g2,d2,t32⟩:=l.exc;have nT:H' T=none:=I2.hok.fresh hT;have gTn:=ux hT;have ie:vW (H' ea):=⟨_,ge⟩;have ix:∀x∈[T'],vW (H' x):=λx hx=>by rw[aK.mp hx];exact⟨_,gT⟩
 have gm:h'.get? ea=some { cls:=.ref C,dict:=some dx,data:=.fields (us0.setIfInBounds 1 (.ref T)),slots:=sl }:=g1';have hsz:1<us0.size:=(iR.mp u1).1;have Wq:3<ts2.size:=(iR.mp t32).1;have zam:sj X.prog X.w (HL H' [T'] ea T (qw C ea dx T) (BG T)) h':=BH I2.hok l nf ie ix gTn nT (qw.ok gm (by simp[hsz])) (BG.ok g2 d2 t32)
 have un3:Un (DP X.stack) [] H' (HL H' [T'] ea T (qw C ea dx T) (BG T)) hh h':=by
  have e0:DP X.stack=X.env.locals::X.fs:=by rw[Fq];exact Yb
  rw[e0];exact Pg (P:=X.prog) (w:=X.w) l ie ix gTn nT
 have I3:Inv X pins σ (HL H' [T'] ea T (qw C ea dx T) (BG T)) ⟨h',gg,d,tk,s1.os⟩:=Inv.call (s:=⟨hh,gg,d,tk,s1.os⟩) (H:=H') (h':=h') (g':=gg) (d':=d) (t':=tk) (ch:=[]) I2 un3 zam bare (λb z=>qQ7 z (by simp))
 have gx':=Pb (T':=T) (o1:=qw C ea dx T) (o2:=BG T) gx b1 b2 c1 c2 nT;have gdx:HL H' [T'] ea T (qw C ea dx T) (BG T) dx=some (Aw dx (vX p wd)):=by rw[sZ hde (bC gd nT) (by rw[aK];exact Yl)];exact gd
 have geF:HL H' [T'] ea T (qw C ea dx T) (BG T) ea=some (qw C ea dx T):=O6;have gTF:HL H' [T'] ea T (qw C ea dx T) (BG T) T=some (BG T):=O7 zal
 generalize HL H' [T'] ea T (qw C ea dx T) (BG T)=Hc at *
 show wpAny (model X.prog X.w) X.A (handleBy (.ref ea) X.env _) _ _ _;refine wpAny_handleBy_cons (codeAny_handlers_test (qI (X:=X.held ea) (I3.held ea) hgM hmM ?_ hdM)) (by intro q;cases q)
 refine Eo (X:=X) I3.vA sub gm ?_
 show codeAny _ _ (.handlers (.ref ea) [.ExceptHandler none (some n) _ _] X.env) _ _;refine codeAny_handlers_suite_as ?_
 have gt4:=gU (lH (·.setIfInBounds 3 fe)) g2 (j' (hU d2 _))
 refine wpAny_setFlight_none gm rfl (by simp[hsz]) g2 d2 Wq ?_
 have hu:upd Hc T (BG T)=Hc:=by
  funext b
  by_cases hb:b=T
  ·subst hb;rw[bQ,gTF]
  ·rw[aY hb]
 have I4:=I3.write (x:=T) (e:=T) (h':=h'.update T (lH (·.setIfInBounds 3 fe))) (t':=tk) (by rw[gTF];exact gD) (.inl rfl) (λb o hb gb=>(dN _ _ (bY hb)).trans gb) ⟨_,gt4⟩ (BG.ok gt4 (hU d2 _) (by simp[Wq]))
 rw[hu]at I4;refine ng I4 hN Ym (.inl Pp) (v:=.ref ea) rfl (λs5 I5=>?_) (.inr Pp)
 have suite:=yq (wN (X:=X.held ea) (i:=jc) (pos:=p8) (pos':=p7) hN hjc hkc (iH (X:=X.held ea) (i:=jn) (pos:=p6) Ym (.inl Pp) S' hcn) rG hfc);have ZH:jn < σ.length:=by rw[fr.len];have:=fr.len;rw[<-fr.len,I.len];exact(aP.mp Ym).1
 refine fq (suite pins s5 (σ.set jn (some (.ref ea))) Hc { nx:=λσ' H2=>σ'=(σ.set jn (some (.ref ea))).set jc (some (.ref ea))/\H2=Hc,rt:=λ_ _=>False } (I5.held ea) ⟨.ref ea,bo ZH,rfl,rfl⟩) (λf s6 h6=>?_) λ_ _ z=>z.elim
 cases f with
 |next=>
  obtain⟨σ6,H6,I6,rfl,rfl⟩:=h6;refine JQ (I6.S7 hcm) hN Ym Pp λs7 I7=>⟨_,_,I7,?_⟩
  have fr2:=((fr.grow g1).grow gx');have XJ:=(((fr2.u_ (i:=jn) (v:=.ref ea) (sl:=.un) trivial rfl).u_ (i:=jc) (v:=.ref ea) (sl:=.ref ea) rfl rfl).unset (i:=jn));exact q ea dx T _ H1x _ XJ geF gdx c1 c3 ((fr.grow g1).ent.big.free b1) ((fr.grow g1).ent.big.free b3) hde
 |ret v=>obtain⟨_,_,_,_,_,z⟩:=h6;exact z.elim
 |brk=>obtain⟨_,_,_,z⟩:=h6;exact z.elim
 |cont=>obtain⟨_,_,_,z⟩:=h6;exact z.elim
end
section
variable{X:Cx}{B0 B H0 H:Hp}{σ:St}{D:Ends}{δ:List Slot}{body:List jq}{tg iter:cx}{ds:List ao}{pos:Pos}
theorem Ta{tgt:H_}(Rs:Nat->OR)(m:∀k,vU (Rs k))(G:OF X.K B0 B (Rs 0) H0 H σ δ)(hp:B_ (model X.prog X.w) X.A X.env X.xe)(hc:X.calm=true)(hi:VI X tg iter δ ds)(hg:PG X tg (Nr X.K tgt))(M:Nat)(hM:M<ds.length)
  (step:∀k d,k<M->ds[k]?=some d->∃δ',zp tgt d δ=some δ'/\noOwn δ'=true/\∀(D:Ends)C0 σ' e9 H',OF X.K C0 B (Rs k) e9 H' σ' δ'->(∀σ2 Ha Hb,OF X.K C0 B (Rs (k+1)) Ha Hb σ2 δ->D.nx σ2 Hb)->HY X body D σ' H')
  (last:∀d,ds[M]?=some d->∃δ',zp tgt d δ=some δ'/\noOwn δ'=true/\∀(D':Ends)σ' Ha Hb,OF X.K B0 B (Rs M) Ha Hb σ' δ'->HY X body D' σ' Hb)
  (hs:∀x,foldedSetIterable iter X.env x=pure x:=by intro _;rfl):cS X (.For tg iter body [] pos) D σ H:=λpins s I=>by
 obtain⟨wi,pi,qi⟩:=hi;refine Cw hp hc pi hg nW hs pins s σ H D I ?_
 refine qi H0 H σ H0 H _ G.own λJ H1 eQ g it=>?_
 have G1:=G.go (m 0) (G.own.grow g) G.no;refine⟨λi mm σ' H'=>i<=M/\mm=M+1-i/\∃Ha,OF X.K H1 B (Rs i) Ha H' σ' δ,⟨M+1,bj _,rfl,H1,G1.from ⟨G1.fr.ent.big,eC.refl _,G1.fr.sub,λ_ z=>.inl z⟩⟩,?_⟩
 rintro i mm σ' H' ⟨hi,rfl,Ha,Ga⟩
 obtain⟨i1,i2,i3⟩:=it Ha H' Ga.fr.ent.iq Ga.fr.sub i;have hl:i<ds.length:=by omega
 have hd:ds[i]?=some ds[i]:=by simp[hl]
 by_cases t_:i<M
 ·obtain⟨δ',e1,e2,e3⟩:=step i _ t_ hd
  refine .inr ⟨i1 hl,λσ'' Av=>∃Hb,OF X.K H1 B (Rs (i+1)) Hb Av σ'' δ,λσ'' Av ⟨Hb,z⟩=>⟨M+1-(i+1),by omega,t_,rfl,Hb,z⟩,λv H2 y=>?_⟩
  obtain⟨Hb,g2,rx⟩:=i3 v H2 _ hd y;refine qQ (Ga.own.grow g2) rx e1 λσ3 f3=>?_
  exact e3 _ H1 σ3 Hb H2 (Ga.go (m i) f3 e2) λσ2 Hc Hd z=>⟨Hc,z⟩
 ·have e:i=M:=by omega
  subst e;obtain⟨δ',e1,e2,e3⟩:=last _ hd;refine .inr ⟨i1 hl,λ_ _=>False,λ_ _ z=>z.elim,λv H2 y=>?_⟩
  obtain⟨Hb,g2,rx⟩:=i3 v H2 _ hd y;refine qQ (Ga.own.grow g2) rx e1 λσ3 f3=>?_
  have G3:=Ga.go (m i) f3 e2;refine e3 _ σ3 Hb H2 (G3.from ⟨G3.fr.ent.big,G1.fr.ent.iq.trans G3.fr.ent.iq,G3.fr.sub,λb z=>?_⟩)
  rcases G3.fr.ent.new b z with z|z
  ·exact G1.fr.ent.new b z
  ·exact .inr z
end
section
variable{X:Cx}{B0 B H0 H:Hp}{σ:St}{D:Ends}{δ:List Slot}{e:cx}{pos yj px p:Pos}{x:Str}{kv:List (Str×ao)}
theorem Gw:kJ X (.type "dict") (λxs H Q=>∃a kvs,xs=[.ref a]/\H a=some (.dK kvs)/\∀p,H p=none->Q (.ref p) (upd H p (.dK kvs))):=by
 intro pins s σ H xs us Q I r h;obtain⟨a,kvs,rfl,ha,q⟩:=h;obtain⟨u,rfl,rx⟩:=vals1 r;cases rx;exact K6 I (.of ha) λp s' hp I'=>⟨.ref p,_,I',rfl,q p hp⟩
theorem Pq(f:iI X.K B0 B H0 H σ δ)(i:Nat)(hN:X.N.Nodup)(hn:∀p,noOwn (δ.set i (.ref p))=true)(he:VE X e δ (sV kv))(hm:X.mg "dict"=none)(q:∀p σ' e9 H',eC H0 e9->OF X.K B0 B (DR X.K p kv) e9 H' σ' (δ.set i (.ref p))->D.nx σ' H')(hg:Gl X "dict":=by rfl)
  (hi:X.N[i]?=some x:=by rfl)(hx:Loc X.env.scope x:=by first|exact bq rfl|exact di rfl)(hs:swapsWith (.Call (.Name "dict" p) [e] [] yj) (some (.Name x px)) pos.line X.env=pure false:=by rfl)(hf:X.fn x=true\/X.env.scope.names.lookup x=some .local:=by first|exact .inl rfl|exact .inr rfl)
  (DQ:starEach [e] X.env=(false,eval e X.env)::starEach [] X.env:=by rfl)(pT:(backTo yj (starEach [] X.env)).any (·.1)=false:=by rfl):
  cS X (.Assign [.Name x px] (.Call (.Name "dict" p) [e] [] yj) pos) D σ H:=λpins s I=>by
 refine wN (i:=i) hN hi hx (tW Gw hg hm (by rfl) (dG d_ gI DQ) (by decide) (by decide) DQ pT) hs hf pins s σ H D I ?_
 refine he B0 B σ H0 H _ f λv H1 eQ g r=>?_
 obtain⟨a,kvs,rfl,ha,hk,hv⟩:=r.sW;refine⟨a,kvs,rfl,g.sub _ _ ha,λp hp=>?_⟩
 have f1:=f.grow g;refine q p _ H1 _ g.iq ⟨(f1.grow (.loose f1.sub hp)).u_ (v:=.ref p) (sl:=.ref p) rfl rfl,hn p,[p],λb hb=>?_,rfl,kvs,bQ,hk,hv⟩
 rw[aK.mp hb];exact⟨f1.sub.free hp,f1.ent.big.free hp,by rw[bQ];simp⟩
end
end L2
namespace Mg
open L2 PySem PyProof.Rows
def top(i:Nat):jq:=PySem.Challenge.pw_mergeline_k04_twice_lacking_and_room.main.body.getD i (.Pass ⟨0,0,0,0⟩)
theorem small{n:Nat}(h:n<=1000000):n<=sizeLine:=cj h (by rw[du];decide)
theorem fV{n:Nat}(h:n<=1000000):n<sizeLine:=Nat.lt_of_le_of_lt h (by rw[du];decide)
def nO(x:Str):Prop:=cX (.str x)=true
theorem cn(a b:Str):dF (.str a) (.str b)=decide (a=b):=by
 rw[dF,gN];simp
theorem oh(a b:Int):dF (.int a) (.int b)=decide (a=b):=by
 rw[dF,gN];simp
end Mg
namespace L2
open PySem PySem.Spec PyProof.Rows
section
variable{X:Cx}{a b c e:cx}{δ:List Slot}{d d1 d2 d3:ao}{pos:Pos}{k:Nat}
theorem Es{op op':Fw}{r r':R2}{k1 k2:Bool}(ho:tV X (compareOp op) r)(HD:tV X (compareOp op') r')(od1:CV X.K r d1 d2 (.bool k1))(od2:CV X.K r' d2 d3 (.bool k2))(h1:VE X a δ d1)(h2:VE X b δ d2)(h3:k1=true->VE X c δ d3)
  (hm:lastMarks [op,op'] [b,c]=false:=by with_unfolding_all rfl):VE X (.Compare a [op,op'] [b,c] pos) δ (.bool (k1&&k2)):=by
 cases k1 with
 |true=>
  refine .of (DY ho HD d_ d_ d_ hm) λB0 B σ H0 H Q f q=>h1 B0 B σ H0 H _ f λv H1 eQ g1 r1=>h2 B0 B σ H1 eQ _ (f.grow g1) λu H2 jH g2 r2=>od1 v u H2 jH _ g2.sub (r1.mono g2.iq) r2 λz H3 yw g3 r3=>?_
  cases r3;refine⟨true,rfl,?_⟩
  rw[qQ3 rfl];exact h3 rfl B0 B σ H3 yw _ (((f.grow g1).grow g2).grow g3) λx H4 ZZ g4 r4=>od2 u x H4 ZZ _ g4.sub ((r2.mono g3.iq).mono g4.iq) r4 λy H5 H5' g5 r5=>q y H5 H5' ((((g1.trans g2).trans g3).trans g4).trans g5) r5
 |false=>
  refine .of (DY ho HD d_ d_ zx hm) λB0 B σ H0 H Q f q=>h1 B0 B σ H0 H _ f λv H1 eQ g1 r1=>h2 B0 B σ H1 eQ _ (f.grow g1) λu H2 jH g2 r2=>od1 v u H2 jH _ g2.sub (r1.mono g2.iq) r2 λz H3 yw g3 r3=>?_
  cases r3;refine⟨false,rfl,?_⟩
  rw[qQ2 cQ];exact q _ H3 yw ((g1.trans g2).trans g3) (.bl false)
theorem Mb{x:Str}{s:Str}{t:Tok}(hm:X.mg x=some (.str s t))(hg:Gl X x:=by rfl)(hd:(x==("__debug__":Str))=false:=by decide):VE X (.Name x pos) δ (.str s):=.of (pq hg hm (v:=.str s) ⟨t,rfl⟩ hd) λ_ _ _ _ _ _ f k=>k _ _ _ (.refl f.sub) (.str s)
theorem Iz{x:Str}{i:Int}{t:Tok}(hm:X.mg x=some (.int i t))(hg:Gl X x:=by rfl)(hd:(x==("__debug__":Str))=false:=by decide):VE X (.Name x pos) δ (.int i):=.of (pq hg hm (v:=.int i) ⟨t,rfl⟩ hd) λ_ _ _ _ _ _ f k=>k _ _ _ (.refl f.sub) (.int i)
end
end L2
namespace Mg
open L2 PySem PyProof.Rows
seal L2.VE L2.VS L2.vB L2.VT L2.VO L2.Ox
variable{fd:gf}{kinds:List (Str×Option Int)}{ds:List ao}{c i:Nat}{d:ao}{x:Str}
structure Nw(mg:Str->Option aG):Prop where
 len:mg "len"=none
 all:mg "all"=none
 Nv:mg "enumerate"=none
 let_:∃t,mg "LETTERS"=some (.str "abcdefghijklmnopqrstuvwxyz" t)
 fig:∃t,mg "FIGURES"=some (.str "0123456789" t)
 lna:∃t,mg "LONGEST_NAME"=some (.int 8 t)
 lnu:∃t,mg "LONGEST_NUMBER"=some (.int 6 t)
def one(c:Nat):Str:=⟨#[c]⟩
def pW(signs:Str)(longest:Int)(w:Str):Bool:=(decide (1<=(w.length:Int))&&decide ((w.length:Int)<=longest))&&w.cps.toList.all λc=>C6 (one c) signs
def QC(signs:Str):ao->Option ao
 | .str x=>some (.bool (C6 x signs))
 |_=>none
theorem JV(signs w:Str):(jR w).filterMap (QC signs)=(w.cps.toList.map λc=>C6 (one c) signs).map .bool:=by
 unfold jR;rw[cw,bf];exact filterMap_some λc _=>rfl
def isName(w:Str):Bool:=pW "abcdefghijklmnopqrstuvwxyz" 8 w
def isNumber(w:Str):Bool:=pW "0123456789" 6 w&&(decide (w="0") || !decide ((w.cps.toList.head?.map one).getD eS="0"))
def wordsOf(row:Str):List Str:=(cR row " ").filter λw=>decide (w≠"")
def rowsOf(text:Str):List (Nat×List Str):=(cR text "\n").zipIdx.filterMap λp=>if(wordsOf p.1).isEmpty then none else some (p.2,wordsOf p.1)
theorem oi(x:Str):nO x↔∀c∈x.cps.toList,c<0x110000:=by
 show(x.cps.all λc=>decide (c<0x110000))=true↔_
 rw[<-Array.all_toList,dU];exact⟨λh c hc=>qQ4 (h c hc),λh c hc=>qQ1 (h c hc)⟩
theorem Tb(h:nO x)(hc:c∈x.cps.toList):nO (one c):=by
 rw[oi]at h ⊢;intro z hz;have:z=c:=by simpa[one]using hz
 rw[this];exact h c hc
def wD(x:Str):Prop:=x.length<=100000/\nO x
section
variable{P:bL}{w:cH}{K:au}{mg:Str->Option aG}{base:dw}{f:aR}{k:Nat}
abbrev Wr:List Str:=["signs","longest","word"]
theorem Ws:c7 Wr Wr (bV (top 13)):=⟨rfl,rfl,rfl,by symm,rfl,by symm,by symm⟩
def Rmo(ds:List ao)(d:ao):Prop:=∃(signs:Str)(longest:Int)(x:Str),ds=[.str signs,.int longest,.str x]/\x.length<=100000/\d=.bool (pW signs longest x)
theorem zao(F:mw K "is_made_of" "is_made_of" (top 13) f fd)(n:Nw mg):fA P w K mg base kR 1 f fd Wr (iE K Rmo):=
 ko F Ws (λ_ _ h=>by obtain⟨_,_,_,rfl,_⟩:=h;rfl) λ_ _ h=>by
  obtain⟨signs,longest,x,rfl,hx,rfl⟩:=h;intro iD A outer s H E hr;have nc:(["sign","signs"]:List Str).Nodup:=by symm
  have hl:(jR x).length<=100000:=by unfold jR;rw[aj,df];exact hx
  refine bw (cD (VE.to (oK (Es HM HM (Ea 1 x.length) (Ea x.length longest) aD (Ik (ai 2 rfl) (small (by omega)) n.len) (λ_=>ai 1 rfl)) (λ_=>kr (km (sU rfl) Ee (aq (VO.ve (VO.to (fJ (own:=["sign"]) (cap:=[0]) (N:=["sign","signs"]) (tgt:=.one 0) (F:=QC signs) (ds:=jR x) rfl ⟨rfl,by symm,by symm,rfl,rfl,?_⟩ (CZ (ai 2 rfl)) (λf s3 H3=>bP (i:=0) nc rfl (bq rfl)) rfl
   (small (by omega)) (λd hd=>?_)) (JV signs x))) a7) n.all rfl))) ?_))
  ·intro j hj
   rcases aE.mp hj with rfl|hj
   ·exact⟨(by show(0:Nat)<3;decide),bq rfl,rfl⟩
   ·cases hj
  ·obtain⟨c,_,rfl⟩:=aA.mp hd
   exact⟨_,rfl,λf s3 H3=>fQ,λr jT f s3 H3=>by cases jT;exact Sv (ai 0 rfl) (ai 1 rfl)⟩
  ·unfold pW mE
   rw[rZ];rfl
theorem Wt:c7 ["word"] ["word"] (bV (top 14)):=⟨rfl,rfl,rfl,by symm,rfl,by symm,by symm⟩
theorem Wu:c7 ["word"] ["word"] (bV (top 15)):=⟨rfl,rfl,rfl,by symm,rfl,by symm,by symm⟩
def Wv(ds:List ao)(d:ao):Prop:=∃x:Str,ds=[.str x]/\x.length<=100000/\d=.bool (isName x)
def Yo(ds:List ao)(d:ao):Prop:=∃x:Str,ds=[.str x]/\wD x/\d=.bool (isNumber x)
theorem zap(F:mw K "is_name" "is_name" (top 14) f fd)(n:Nw mg)(C:bO P w K mg base 1 "is_made_of" Wr (iE K Rmo)):fA P w K mg base kR 2 f fd ["word"] (iE K Wv):=
 ko F Wt (λ_ _ h=>by obtain⟨_,rfl,_⟩:=h;rfl) λ_ _ h=>by
  obtain⟨x,rfl,hx,rfl⟩:=h;intro iD A outer s H E hr;obtain⟨t1,m1⟩:=n.let_;obtain⟨t2,m2⟩:=n.lna;exact bw (cD (bU C hr (aq (Mb m1) (aq (Iz m2) (aq (ai 0 rfl) a7))) ⟨_,8,x,rfl,hx,rfl⟩))
theorem zaq(F:mw K "is_number" "is_number" (top 15) f fd)(n:Nw mg)(C:bO P w K mg base 1 "is_made_of" Wr (iE K Rmo)):fA P w K mg base kR 2 f fd ["word"] (iE K Yo):=
 ko F Wu (λ_ _ h=>by obtain⟨_,rfl,_⟩:=h;rfl) λ_ _ h=>by
  obtain⟨x,rfl,⟨hx,okx⟩,rfl⟩:=h;intro iD A outer s H E hr;obtain⟨t1,m1⟩:=n.fig;obtain⟨t2,m2⟩:=n.lnu;have o0:Lay 20 (.str "0"):=bH (by symm)
  cases em:pW "0123456789" 6 x with
  |false=>
   refine bw (cD (VE.to (oK (k1:=false) (k2:=false) (VE.to (bU C hr (aq (Mb m1) (aq (Iz m2) (aq (ai 0 rfl) a7))) ⟨_,6,x,rfl,hx,rfl⟩) (by rw[em])) (λz=>by cases z)) ?_))
   unfold isNumber;rw[em];rfl
  |true=>
   obtain⟨c,hc⟩:∃c,x.cps.toList.head?=some c:=by
    cases e:x.cps.toList with
    |cons c l=>exact⟨c,rfl⟩
    |nil=>
     exfalso
     have:x.length=0:=by
      have:=qQ6 iG e;rw[df]at this;exact this
     unfold pW at em;rw[this]at em;cases em
   have h0:tX x.cps.toList 0=some c:=by
    cases e:x.cps.toList with
    |nil=>rw[e]at hc;cases hc
    |cons a l=>rw[e]at hc;cases hc;exact ck (j:=0) rfl
   have okc:nO (one c):=by
    have hm:c∈x.cps.toList:=by
     cases e:x.cps.toList with
     |nil=>rw[e]at hc;cases hc
     |cons a l=>rw[e]at hc;cases hc;exact aS
    exact Tb okx hm
   refine bw (cD (VE.to (oK (k1:=true) (VE.to (bU C hr (aq (Mb m1) (aq (Iz m2) (aq (ai 0 rfl) a7))) ⟨_,6,x,rfl,hx,rfl⟩) (by rw[em])) (λ_=>kr (uJ (sP hr (bH okx) o0 (ai 0 rfl) aL) (λ_=>kr (Lk hr (bH okc) o0 (C5 (ai 0 rfl) aD (small (by omega)) h0) aL))))) ?_))
   unfold isNumber;rw[em,cn,cn,hc];rfl
end
theorem Et{y p:Str}:∀{zs:List Str},p∈zs->c∈p.cps.toList->c∈(cL y zs).cps.toList
 | [],h,_=>by cases h
 | [x],h,hc=>by
  rw[aK]at h;subst h;exact hc
 |x::x2::zs,h,hc=>by
  show c∈(x++y++cL y (x2::zs)).cps.toList;have e:(x++y++cL y (x2::zs)).cps.toList=(x.cps.toList++y.cps.toList)++(cL y (x2::zs)).cps.toList:=by
   show(x.cps++y.cps++(cL y (x2::zs)).cps).toList=_
   simp
  rw[e];rcases aE.mp h with rfl|h
  ·exact cq _ (cq _ hc)
  ·exact bX _ (Et h hc)
theorem Eu{y p: Str}(h:wD x)(hp:p∈cR x y):wD p:=by
 refine⟨cj (part_short hp) h.1,(oi p).mpr λc hc=>(oi x).mp h.2 c ?_⟩
 have:=Et (y:=y) hp hc;rw[oC]at this;exact this
def IA:ao->Option ao
 | .str w=>if decide (w≠"")=true then some (.str w)else none
 |_=>none
theorem JW(l:List Str):(l.map aQ).filterMap IA=(l.filter λw:Str=>decide (w≠"")).map aQ:=by
 induction l with
 |nil=>rfl
 |cons w l ih=>
  rw[aN,e8];by_cases h:decide (w≠"")=true
  ·rw[qQ3 h,eA (f:=IA) (b:=.str w) (by show(if _ then _ else _)=_;rw[qQ3 h]),ih];rfl
  ·rw[qQ2 h,fU (f:=IA) (by show(if _ then _ else _)=_;rw[qQ2 h]),ih]
def uK(p:Nat×List Str):ao:=.tuple [.int p.1,.list (p.2.map .str)]
def qU(text:Str)(i:Nat):List (Nat×List Str):=((cR text "\n").zipIdx.take i).filterMap λp=>if(wordsOf p.1).isEmpty then none else some (p.2,wordsOf p.1)
theorem xJ{text row:Str}(h:(cR text "\n")[i]?=some row):qU text (i+1)=qU text i++(if(wordsOf row).isEmpty then []else [(i,wordsOf row)]):=by
 unfold qU;rw[ej,kH,h];simp only[nV,oV,jZ,sC]
 congr 1
 cases e:(wordsOf row).isEmpty
 ·rw[eA (b:=(i,wordsOf row)) (by simp only[e];rfl)];rfl
 ·rw[fU (by simp only[e];rfl)];rfl
theorem Gx(text:Str):qU text (cR text "\n").length=rowsOf text:=by
 unfold qU rowsOf;rw[dO (by simp)]
theorem Gy(text:Str)(i:Nat):(qU text i).length<=i:=by
 unfold qU;exact cj (hX _ _) (by rw[bK];omega)
theorem xK{y: Str}(h:x.length<=100000):(cR x y).length<=100002:=by
 have e1:=DJ x y 0 x.length (x.length+1);unfold cR
 split
 ·show 1<=100002;omega
 ·split
  ·show 1<=100002;omega
  ·rw[x9];omega
section
variable{P:bL}{w:cH}{K:au}{mg:Str->Option aG}{base:dw}{f:aR}{k:Nat}
theorem Ww:c7 ["row"] ["row"] (bV (top 16)):=⟨rfl,rfl,rfl,by symm,rfl,by symm,by symm⟩
def Rwo(ds es:List ao):Prop:=∃x:Str,ds=[.str x]/\wD x/\es=(wordsOf x).map .str
theorem zar(F:mw K "words_of" "words_of" (top 16) f fd):fA P w K mg base kR 1 f fd ["row"] (Ib K Rwo):=
 Lh F Ww (λ_ _ h=>by obtain⟨_,rfl,_⟩:=h;rfl) λ_ _ h=>by
  obtain⟨x,rfl,ok,rfl⟩:=h;intro iD A outer s H E hr;have nc:(["word"]:List Str).Nodup:=by symm
  have hx:=ok.1;refine bw (yz (VO.to (fJ (own:=["word"]) (cap:=[]) (N:=["word"]) (cl:=[]) (tgt:=.one 0) (F:=IA) (ds:=(cR x " ").map aQ) rfl ⟨rfl,by symm,by symm,rfl,rfl,by simp⟩ (gK (VO.ve (qu (ai 0 rfl) aL rfl (small (by omega))))) (λf s3 H3=>bP (i:=0) nc rfl (bq rfl)) rfl
   (small (by rw[aj];have:=xK (y:=" ") hx;omega)) (λd hd=>?_)) (JW _)))
  obtain⟨p,hp,rfl⟩:=aA.mp hd;have Up:=Eu ok hp;refine⟨_,rfl,λf s3 H3=>?_,λr jT f s3 H3=>?_⟩
  ·refine yy (VT.to (pE (k:=0) hr (bH Up.2) (bH (x:="") (by symm)) (ai 0 rfl) aL) ?_)
   rw[cn]
   show(!decide (p=""))=(if decide (p≠"")=true then some (aQ p)else none).isSome
   by_cases h:p=""
   ·subst h;rfl
   ·rw[qQ3 (by simpa using h),qQ0 h];rfl
  ·have Tc:(if decide (p≠"")=true then some (aQ p)else none)=some r:=jT
   split at Tc
   ·cases Tc;exact ai 0 rfl
   ·cases Tc
abbrev Nro:List Str:=["text","rows","number","row","words"]
theorem QD:c7 Nro ["text"] (bV (top 17)):=⟨rfl,rfl,rfl,by symm,rfl,by symm,by symm⟩
def Rro(ds es:List ao):Prop:=∃x:Str,ds=[.str x]/\wD x/\es=(rowsOf x).map uK
theorem zat(F:mw K "rows_of" "rows_of" (top 17) f fd)(n:Nw mg)(C:bO P w K mg base 1 "words_of" ["row"] (Ib K Rwo)):fA P w K mg base kR 2 f fd ["text"] (Ib K Rro):=
 Lh F QD (λ_ _ h=>by obtain⟨_,rfl,_⟩:=h;rfl) λ_ _ h=>by
  obtain⟨x,rfl,ok,rfl⟩:=h;intro iD A outer s H E hr;have nd:Nro.Nodup:=QD.nd;have hx:=ok.1;have hc:=xK (y:="\n") hx;refine aI (jj 1 (fh a7) nd) ?_
  refine aI (lO (tgt:=.tup [2,3]) (o:=.nx [.val (.str x),.own ((qU x (cR x "\n").length).map uK),.un,.un,.un]) dP rfl (og (ds:=(cR x "\n").map aQ) (VO.ve (qu (ai 0 rfl) aL rfl (small (by omega)))) n.Nv)
   (ik rfl (b_ (bP (i:=2) nd rfl (bq rfl)) (b_ (bP (i:=3) nd rfl (bq rfl)) fP))) (λi=>[.val (.str x),.own ((qU x i).map uK),.un,.un,.un]) (cR x "\n").length rfl (by rw[dM];simp) (λi d hi hd=>?_) (.inl ⟨by rw[dM];simp,rfl⟩)) ?_
  ·obtain⟨y,hy,rfl⟩:=jM hd
   obtain⟨row,xh⟩:∃row,(cR x "\n")[i]?=some row:=⟨(cR x "\n")[i],by simp[hi]⟩
   rw[aW,xh]at hy;cases hy;have Uq:=Eu ok (bF xh);have hle:=Gy x i;refine⟨_,rfl,?_⟩
   refine aI (dq 4 (VO.ve (pG C hr (aq (ai 3 rfl) a7) ⟨row,rfl,Uq,rfl⟩)) nd) ?_
   cases ew:(wordsOf row).isEmpty with
   |true=>
    refine iP (bw (cy (VT.to (oJ (ai 4 rfl) rfl) (by cases e:wordsOf row with|nil=>rfl|cons _ _=>rw[e]at ew;cases ew)) bS)) ⟨.inr rfl,.inr ?_,.inl rfl,.inl rfl,.inl rfl,trivial⟩
    rw[xJ xh,ew,qQ3 rfl,cF]
   |false=>
    refine iP (bw (eu (VT.to (oJ (ai 4 rfl) rfl) (by cases e:wordsOf row with|nil=>rw[e]at ew;cases ew|cons _ _=>rfl)) (bw (eU 1 rfl (d:=uK (i,wordsOf row)) (gu (aq (ai 2 rfl) (aq (ai 4 rfl) a7))) (fV (by rw[aj];omega)))))) ⟨.inr rfl,.inr ?_,.inl rfl,.inl rfl,.inl rfl,trivial⟩
    rw[xJ xh,ew,qQ2 cQ,aV];rfl
  ·rw[Gx]
   exact bw (Ia 1 rfl)
end
def pH(ns:List Int):ao:=.list (ns.map .int)
def cY(c k:Int):Int:=((c%2147483629+k*k*7919+11)*48271%2147483647)*((c%2147483629+k*k*7919+11)*48271%2147483647)%1999999973
theorem De(c k:Int):0<=cY c k:=bE _ (by decide)
theorem Pr(c k:Int):cY c k<1999999973:=bG _ (by decide)
abbrev ABC:Str:="abcdefghijklmnopqrstuvwxyz"
theorem Ew:(ABC:Str).cps.toList=(cv 26).map (97 + ·):=by symm
def Ey(i:Int):Str:=one (97+i.toNat)
theorem Gz{i:Int}(h0:0<=i)(h1:i<26):tX (ABC:Str).cps.toList i=some (97+i.toNat):=by
 obtain⟨n,rfl⟩:=lY h0;refine ck (j:=n) ?_
 have hn:n<26:=by omega
 rw[Ew,aW,oA hn];rfl
def cZ(x:Str):Prop:=1<=x.cps.toList.length/\x.cps.toList.length<=8/\∀c∈x.cps.toList,97<=c/\c<123
theorem Pt(h:97<=c/\c<123):c∈(ABC:Str).cps.toList:=by
 rw[Ew];exact aA.mpr ⟨c-97,dB.mpr (by omega),by omega⟩
theorem cZ.is(h:cZ x):isName x=true:=by
 obtain⟨h1,h2,h3⟩:=h;rw[df]at h1 h2;have e:x.length=x.cps.size:=rfl;unfold isName pW;rw[qQ1 (by omega),qQ1 (by omega),ly,ly,dU]
 intro c hc;show C6 (one c) ABC=true;have:C6 (one c) ABC=decide (c∈(ABC:Str).cps.toList):=vJ ..;rw[this];exact qQ1 (Pt (h3 c hc))
theorem cZ.ok(h:cZ x):wD x:=by
 obtain⟨h1,h2,h3⟩:=h;rw[df]at h1 h2;refine⟨by show x.cps.size<=_;omega,(oi x).mpr λc hc=>?_⟩
 have:=h3 c hc;omega
theorem Ez(x:Str):∀n,(jY x n).cps.toList=(aT n x.cps.toList).flatten
 |0=>rfl
 |n+1=>by
  have e:(jY x (n+1)).cps.toList=x.cps.toList++(jY x n).cps.toList:=by
   show(x.cps++(jY x n).cps).toList=_
   simp
  rw[e,Ez x n];rfl
theorem yE(c n:Nat):(jY (one c) n).cps.toList=aT n c:=by
 rw[Ez]
 induction n with
 |zero=>rfl
 |succ n ih=>
  rw[dJ,dX,ih];rfl
def nameA(m:Int)(many k:Nat):Str:=jY (Ey (m/3%26)) (many-k)
def stemOf(m:Int):Str:=jY (Ey (m/4992%26)) (1+m/78%8).toNat
def uL(m:Int)(k:Nat):Str:=kU (stemOf m) none (some (m/624%(1+m/78%8)))++Ey ((m/3+5*k)%26)++kU (stemOf m) (some (m/624%(1+m/78%8)+1)) none
def namesOf(cell:Int)(many:Nat):List Str:=if cY cell 3%3=0/\many<9 then(cv many).map (nameA (cY cell 3) many) else(cv many).map (uL (cY cell 3))
theorem iJ(cell:Int)(many:Nat):(namesOf cell many).length=many:=by unfold namesOf;split<;>simp
theorem ub(m:Int):(stemOf m).cps.toList=aT (1+m/78%8).toNat (97+(m/4992%26).toNat):=yE _ _
theorem Md(m:Int){many k:Nat}(h:k<many)(h9:many<9):cZ (nameA m many k):=by
 have e:(nameA m many k).cps.toList=aT (many-k) (97+(m/3%26).toNat):=yE _ _;refine⟨by rw[e,c9];omega,by rw[e,c9];omega,λc hc=>?_⟩
 rw[e]at hc;have:=(iU.mp hc).2;omega
theorem Mf(m:Int)(k:Nat):cZ (uL m k):=by
 have hs:=ub m;have hl:(stemOf m).cps.toList.length=(1+m/78%8).toNat:=by rw[hs,c9]
 have b1:0<=m/78%8:=bE _ (by decide)
 have b2:m/78%8<8:=bG _ (by decide)
 have p1:0<=m/624%(1+m/78%8):=bE _ (by omega)
 have p2:m/624%(1+m/78%8)<1+m/78%8:=bG _ (by omega)
 have e1:kU (stemOf m) none (some (m/624%(1+m/78%8)))=_:=DU (x:=stemOf m) ⟨p1,by rw[hl];omega⟩
 have e2:kU (stemOf m) (some (m/624%(1+m/78%8)+1)) none=_:=Cr (x:=stemOf m) ⟨by omega,by rw[hl];omega⟩
 have e:(uL m k).cps.toList=(stemOf m).cps.toList.take (m/624%(1+m/78%8)).toNat ++ [97+((m/3+5*k)%26).toNat]++(stemOf m).cps.toList.drop (m/624%(1+m/78%8)+1).toNat:=by
  unfold uL;rw[e1,e2]
  show((_++_++_:Array Nat)).toList=_
  simp only[HC,my,Int.sub_zero,Ey,one];rw[dO (l:=List.drop _ _) (by rw[cW];omega)]
 have l1:(uL m k).cps.toList.length=(1+m/78%8).toNat:=by
  rw[e,aH,aH,bK,cW,hl];simp only[gS];omega
 refine⟨by rw[l1];omega,by rw[l1];omega,λc hc=>?_⟩
 rw[e,hs]at hc;have q1:0<=(m/3+5*k)%26:=bE _ (by decide)
 have q2:(m/3+5*k)%26<26:=bG _ (by decide)
 have r1:0<=m/4992%26:=bE _ (by decide)
 have r2:m/4992%26<26:=bG _ (by decide)
 rcases bp.mp hc with hc|hc
 ·rcases bp.mp hc with hc|hc
  ·have:=(iU.mp (dR hc)).2
   omega
  ·have:=aK.mp hc
   omega
 ·have:=(iU.mp (er hc)).2
  omega
theorem lj{cell:Int}{many:Nat}(h:x∈namesOf cell many):cZ x:=by
 unfold namesOf at h
 split at h
 ·rename_i hh
  obtain⟨k,hk,rfl⟩:=aA.mp h;exact Md _ (dB.mp hk) hh.2
 ·obtain⟨k,hk,rfl⟩:=aA.mp h
  exact Mf _ _
abbrev Ng(mg:Str->Option aG):Prop:=Nm mg
section
variable{P:bL}{w:cH}{K:au}{mg:Str->Option aG}{base:dw}{f:aR}{k:Nat}
def IB(ds:List ao)(d:ao):Prop:=∃(ns:List Int)(k:Nat),ds=[pH ns,.int k]/\d=.int (ns.getD k 0)
theorem Pu:c7 ["_law_script","_law_k"] ["_law_script","_law_k"] (bV (top 40)):=⟨rfl,rfl,rfl,by symm,rfl,by symm,by symm⟩
theorem Td(m1:mg "len"=none)(h:IB ds d):Br P w K mg base ["_law_script","_law_k"] "_law_cell_at" (top 40) f k ds (.rt d):=by
 obtain⟨ns,n,rfl,rfl⟩:=h;intro iD A outer s H E hr;by_cases hn:n<ns.length
 ·refine dS (eu (VT.to (xG (ai 1 rfl) (jg (ai 0 rfl) m1)) (by simp only[aj];exact qQ1 (by omega))) (bw (cD (eX (ai 0 rfl) (ai 1 rfl) (ck ?_))))) rfl
  rw[aW,aJ,ax hn];rfl
 ·refine aI (cy (VT.to (xG (ai 1 rfl) (jg (ai 0 rfl) m1)) (by simp only[aj];exact qQ0 (by omega))) bS) ?_
  have e:ns.getD n 0=0:=by rw[aJ,iW (by omega)];rfl
  rw[e];exact bw (cD aD)
theorem Te(F:mw K "_law_cell_at" "_law_cell_at" (top 40) f fd)(m1:mg "len"=none):fA P w K mg base kR 1 f fd ["_law_script","_law_k"] (iE K IB):=ko F Pu (λ_ _ h=>by obtain⟨_,_,rfl,_⟩:=h;rfl) λ_ _ h=>Td m1 h
def GA(ds:List ao)(d:ao):Prop:=∃(c k:Int),ds=[.int c,.int k]/\0<=k/\k<=1000/\d=.int (cY c k)
abbrev Tf:List Str:=["_law_cell","_law_k","_law_m"]
theorem Mh:c7 Tf ["_law_cell","_law_k"] (bV (top 41)):=⟨rfl,rfl,rfl,by symm,rfl,by symm,by symm⟩
theorem Wx(h:GA ds d):Br P w K mg base Tf "_law_mix" (top 41) f k ds (.rt d):=by
 obtain⟨c,n,rfl,h0,h1,rfl⟩:=h;intro iD A outer s H E hr;have nd:Tf.Nodup:=Mh.nd;have q1:0<=(c%2147483629+n*n*7919+11)*48271%2147483647:=bE _ (by decide)
 have q2:(c%2147483629+n*n*7919+11)*48271%2147483647<2147483647:=bG _ (by decide)
 refine aI (dq 2 (cU (u6 (eM (eM (cU (ai 0 rfl) aD (by decide)) (u6 (u6 (ai 1 rfl) (ai 1 rfl) (.inl ⟨by omega,by omega⟩)) aD (.inr ⟨by decide,by decide⟩))) aD) aD (.inr ⟨by decide,by decide⟩)) aD (by decide)) nd) ?_
 exact bw (cD (cU (u6 (ai 2 rfl) (ai 2 rfl) (.inl ⟨by omega,by omega⟩)) aD (by decide)))
theorem Wy(F:mw K "_law_mix" "_law_mix" (top 41) f fd):fA P w K mg base kR 1 f fd ["_law_cell","_law_k"] (iE K GA):=ko F Mh (λ_ _ h=>by obtain⟨_,_,rfl,_⟩:=h;rfl) λ_ _ h=>Wx h
abbrev Nnm:List Str:=["_law_cell","_law_many","_law_letters","_law_m","_law_size","_law_place","_law_stem"]
theorem QF:c7 Nnm ["_law_cell","_law_many"] (bV (top 42)):=⟨rfl,rfl,rfl,by symm,rfl,by symm,by symm⟩
def Rnm(ds es:List ao):Prop:=∃(c:Int)(many:Nat),ds=[.int c,.int many]/\many<=60/\es=(namesOf c many).map .str
def FA(m:Int)(many:Nat):ao->Option ao
 | .int k=>some (.str (nameA m many k.toNat))
 |_=>none
def FB(m:Int):ao->Option ao
 | .int k=>some (.str (uL m k.toNat))
 |_=>none
theorem Tg(m:Int)(many:Nat):(lg many).filterMap (FA m many)=((cv many).map (nameA m many)).map .str:=by
 unfold lg;rw[cw,bf];exact filterMap_some λk _=>by show some _=some _;rw[fN];rfl
theorem Ti(m:Int)(many:Nat):(lg many).filterMap (FB m)=((cv many).map (uL m)).map .str:=by
 unfold lg;rw[cw,bf];exact filterMap_some λk _=>by show some _=some _;rw[fN];rfl
theorem xi:(ABC:Str).length<=sizeLine:=small (by symm)
theorem zav(F:mw K "_law_names" "_law_names" (top 42) f fd)(n:Ng mg)(C:bO P w K mg base 1 "_law_mix" ["_law_cell","_law_k"] (iE K GA)):fA P w K mg base kR 2 f fd ["_law_cell","_law_many"] (Ib K Rnm):=
 Lh F QF (λ_ _ h=>by obtain⟨_,_,rfl,_⟩:=h;rfl) λ_ _ h=>by
  obtain⟨c,many,rfl,hm,rfl⟩:=h;intro iD A outer s H E hr;have nd:Nnm.Nodup:=QF.nd;have nk:(["_law_k","_law_many","_law_letters","_law_m"]:List Str).Nodup:=by symm
  have lo:=De c 3;refine aI (dq 2 aL nd) ?_
  refine aI (dq 3 (d:=.int (cY c 3)) (bU C hr (aq (ai 0 rfl) (aq aD a7)) ⟨c,3,rfl,by decide,by decide,rfl⟩) nd) ?_
  by_cases hh:cY c 3%3=0/\many<9
  ·have e:namesOf c many=(cv many).map (nameA (cY c 3) many):=by unfold namesOf;rw[qQ3 hh]
   rw[e];refine dS (eu (VT.to (qO (b0 (k:=1) (hr.mono (by omega)) (c0 20 _) (c0 20 _) (cU (ai 3 rfl) aD (by decide)) aD) (λ_=>xG (ai 1 rfl) aD)) ?_) (bw (yz (VO.to (fJ (own:=["_law_k"]) (cap:=[1,2,3]) (N:=["_law_k","_law_many","_law_letters","_law_m"]) (tgt:=.one 0) (F:=FA (cY c 3) many) (ds:=lg many) rfl ⟨rfl,by symm,by symm,rfl,rfl,?_⟩ (zr (n:=(many:Int)) (ai 1 rfl) n.rng (by omega) (by omega)) (λf s3 H3=>bP (i:=0) nk rfl (bq rfl)) rfl
    (small (by rw[pU];omega)) (λd hd=>?_)) (Tg _ _))))) rfl
   ·rw[oh,qQ1 hh.1,qQ1 (by omega)];rfl
   ·intro j hj
    rcases aE.mp hj with rfl|hj
    ·exact⟨(by show(1:Nat)<7;decide),bq rfl,rfl⟩
    ·rcases aE.mp hj with rfl|hj
     ·exact⟨(by show(2:Nat)<7;decide),bq rfl,rfl⟩
     ·rcases aE.mp hj with rfl|hj
      ·exact⟨(by show(3:Nat)<7;decide),bq rfl,rfl⟩
      ·cases hj
   ·obtain⟨i,hi,rfl⟩:=aA.mp hd
    have hi:=dB.mp hi;refine⟨_,rfl,λf s3 H3=>fQ,λr jT f s3 H3=>?_⟩
    cases jT;refine VE.to (Ij (C5 (ai 2 rfl) (cU (fB (ai 3 rfl) aD ⟨by decide,by decide⟩) aD (by decide)) xi (Gz (bE _ (by decide)) (bG _ (by decide)))) (Si (ai 1 rfl) (ai 0 rfl)) (by omega) (by omega) (by show 1<=1000;decide)) ?_
    unfold nameA;have e:((many:Int)-(i:Int)).toNat=many-((i:Nat):Int).toNat:=by omega
    rw[e];rfl
  ·have e:namesOf c many=(cv many).map (uL (cY c 3)):=by unfold namesOf;rw[qQ2 hh]
   rw[e];have nk2:(["_law_k","_law_letters","_law_m","_law_place","_law_stem"]:List Str).Nodup:=by symm
   have b1:0<=cY c 3/78%8:=bE _ (by decide)
   have b2:cY c 3/78%8<8:=bG _ (by decide)
   have p1:0<=cY c 3/624%(1+cY c 3/78%8):=bE _ (by omega)
   have p2:cY c 3/624%(1+cY c 3/78%8)<1+cY c 3/78%8:=bG _ (by omega)
   have sl:(stemOf (cY c 3)).length<=8:=by
    show(stemOf (cY c 3)).cps.size<=8
    rw[<-df,ub,c9];omega
   refine aI (cy (VT.to (qO (b0 (k:=1) (hr.mono (by omega)) (c0 20 _) (c0 20 _) (cU (ai 3 rfl) aD (by decide)) aD) (λ_=>xG (ai 1 rfl) aD)) ?_) bS) ?_
   ·rw[oh]
    by_cases h0:cY c 3%3=0
    ·rw[qQ1 h0,ly]
     exact qQ0 λz=>hh ⟨h0,by omega⟩
    ·rw[qQ0 h0];rfl
   refine aI (dq 4 (eM aD (cU (fB (ai 3 rfl) aD ⟨by decide,by decide⟩) aD (by decide))) nd) ?_
   refine aI (dq 5 (cU (fB (ai 3 rfl) aD ⟨by decide,by decide⟩) (ai 4 rfl) (by omega)) nd) ?_
   refine aI (dq 6 (d:=.str (stemOf (cY c 3))) (Ij (C5 (ai 2 rfl) (cU (fB (ai 3 rfl) aD ⟨by decide,by decide⟩) aD (by decide)) xi (Gz (bE _ (by decide)) (bG _ (by decide)))) (ai 4 rfl) (by omega) (by omega) (by show 1<=1000;decide)) nd) ?_
   refine bw (yz (VO.to (fJ (own:=["_law_k"]) (cap:=[2,3,5,6]) (N:=["_law_k","_law_letters","_law_m","_law_place","_law_stem"]) (tgt:=.one 0) (F:=FB (cY c 3)) (ds:=lg many) rfl ⟨rfl,by symm,by symm,rfl,rfl,?_⟩ (zr (n:=(many:Int)) (ai 1 rfl) n.rng (by omega) (by omega)) (λf s3 H3=>bP (i:=0) nk2 rfl (bq rfl)) rfl
    (small (by rw[pU];omega)) (λd hd=>?_)) (Ti _ _)))
   ·intro j hj
    rcases aE.mp hj with rfl|hj
    ·exact⟨(by show(2:Nat)<7;decide),bq rfl,rfl⟩
    ·rcases aE.mp hj with rfl|hj
     ·exact⟨(by show(3:Nat)<7;decide),bq rfl,rfl⟩
     ·rcases aE.mp hj with rfl|hj
      ·exact⟨(by show(5:Nat)<7;decide),bq rfl,rfl⟩
      ·rcases aE.mp hj with rfl|hj
       ·exact⟨(by show(6:Nat)<7;decide),bq rfl,rfl⟩
       ·cases hj
   ·obtain⟨i,hi,rfl⟩:=aA.mp hd
    have hi:=dB.mp hi;refine⟨_,rfl,λf s3 H3=>fQ,λr jT f s3 H3=>?_⟩
    cases jT;have l1:=Fz (stemOf (cY c 3)) none (some (cY c 3/624%(1+cY c 3/78%8)));have l2:=Fz (stemOf (cY c 3)) (some (cY c 3/624%(1+cY c 3/78%8)+1)) none;have l3:(Ey ((cY c 3/3+5*(i:Int))%26)).length=1:=rfl;refine VE.to (gv (gv (w_ (ai 4 rfl) (small (by omega)) .no (.yes (ai 3 rfl))) (C5 (ai 1 rfl) (cU (eM (fB (ai 2 rfl) aD ⟨by decide,by decide⟩) (u6 aD (ai 0 rfl) (.inl ⟨by decide,by decide⟩))) aD (by decide)) xi (Gz (bE _ (by decide)) (bG _ (by decide)))) (small ?_)) (w_ (ai 4 rfl) (small (by omega)) (.yes (eM (ai 3 rfl) aD)) .no) (small ?_)) ?_
    ·show _+(Ey ((cY c 3/3+5*(i:Int))%26)).length<=_
     omega
    ·rw[bJ]
     show _+(Ey ((cY c 3/3+5*(i:Int))%26)).length+_<=_;omega
    ·rfl
end
inductive Rl where
 |meet
 |gather (most age:Int)
 |many (most:Int)
 |rank (bound:Option Int)
 |turns (shares:List Int)
 |eldest
def o7:Option Int->ao
 |none=>.none
 |some i=>.int i
def pX:Rl->Str
 | .meet=>"meet"
 | .gather _ _=>"gather"
 | .many _=>"many"
 | .rank _=>"rank"
 | .turns _=>"turns"
 | .eldest=>"eldest"
def tf:Rl->List ao
 | .meet=>[]
 | .gather m a=>[.int m,.int a]
 | .many m=>[.int m]
 | .rank b=>[o7 b]
 | .turns s=>[.tuple (s.map .int)]
 | .eldest=>[]
def IC(r:Rl):ao:=.tuple (.str (pX r)::tf r)
def Df(rest:Int)(k:Nat):Int:=1+rest/((k:Int)*k+1)%3
def lP(m:Int)(many:Nat):Rl:=
 if m%6=5/\1<many then .meet
 else if m%6=4 then .gather (1+m/6%4) (m/6/4%9)
 else if m%6=3 then .many (1+m/6%4)
 else if m%6=2 then .rank (if m/6%2=0 then none else some (m/6/2%9))
 else if m%6=1 then .turns ((cv many).map (Df (m/6)))
 else .eldest
def fH:Rl->Nat->Int
 | .many m,_=>m
 | .gather m _,_=>m
 | .meet,n=>n
 |_,_=>1
section
variable{P:bL}{w:cH}{K:au}{mg:Str->Option aG}{base:dw}{f:aR}{k:Nat}
abbrev Nrl:List Str:=["_law_m","_law_many","_law_rest"]
theorem QG:c7 Nrl ["_law_m","_law_many"] (bV (top 43)):=⟨rfl,rfl,rfl,by symm,rfl,by symm,by symm⟩
def Rrl(ds:List ao)(d:ao):Prop:=∃(m:Int)(many:Nat),ds=[.int m,.int many]/\0<=m/\m<1999999973/\many<=60/\d=IC (lP m many)
def Mi(rest:Int):ao->Option ao
 | .int k=>some (.int (1+rest/(k*k+1)%3))
 |_=>none
theorem GB(rest:Int)(many:Nat):(lg many).filterMap (Mi rest)=((cv many).map (Df rest)).map .int:=by
 unfold lg;rw[cw,bf];exact filterMap_some λk _=>rfl
theorem zaw(F:mw K "_law_rule" "_law_rule" (top 43) f fd)(n:Ng mg):fA P w K mg base kR 1 f fd ["_law_m","_law_many"] (iE K Rrl):=
 ko F QG (λ_ _ h=>by obtain⟨_,_,rfl,_⟩:=h;rfl) λ_ _ h=>by
  obtain⟨m,many,rfl,h0,h1,hm,rfl⟩:=h;intro iD A outer s H E hr;have nd:Nrl.Nodup:=QG.nd;have nk:(["_law_k","_law_rest"]:List Str).Nodup:=by symm
  have r0:0<=m/6:=Int.ediv_nonneg h0 (by decide)
  have r1:m/6<1999999973:=by omega
  refine aI (dq 2 (fB (ai 0 rfl) aD ⟨by decide,by decide⟩) nd) ?_
  have ev:∀j:Int,dF (.int (m%6)) (.int j)=decide (m%6=j):=λj=>oh _ _
  unfold lP;by_cases c5:m%6=5/\1<many
  ·rw[qQ3 c5]
   refine dS (eu (VT.to (qO (b0 hr (c0 20 _) (c0 20 _) (cU (ai 0 rfl) aD (by decide)) aD) (λ_=>Bo (ai 1 rfl) aD)) ?_) (bw (cD (VE.to (gu (aq aL a7)) rfl)))) rfl
   rw[ev,qQ1 c5.1,qQ1 (by omega)];rfl
  rw[qQ2 c5];refine aI (cy (VT.to (qO (b0 hr (c0 20 _) (c0 20 _) (cU (ai 0 rfl) aD (by decide)) aD) (λ_=>Bo (ai 1 rfl) aD)) ?_) bS) ?_
  ·rw[ev]
   by_cases h5:m%6=5
   ·rw[qQ1 h5,ly]
    exact qQ0 λz=>c5 ⟨h5,by omega⟩
   ·rw[qQ0 h5];rfl
  by_cases c4:m%6=4
  ·rw[qQ3 c4]
   refine dS (eu (VT.to (b0 hr (c0 20 _) (c0 20 _) (cU (ai 0 rfl) aD (by decide)) aD) (by rw[ev,qQ1 c4])) (bw (cD (VE.to (gu (aq aL (aq (eM aD (cU (ai 2 rfl) aD (by decide))) (aq (cU (fB (ai 2 rfl) aD ⟨by decide,by decide⟩) aD (by decide)) a7)))) rfl)))) rfl
  rw[qQ2 c4];refine aI (cy (VT.to (b0 hr (c0 20 _) (c0 20 _) (cU (ai 0 rfl) aD (by decide)) aD) (by rw[ev,qQ0 c4])) bS) ?_
  by_cases c3:m%6=3
  ·rw[qQ3 c3]
   refine dS (eu (VT.to (b0 hr (c0 20 _) (c0 20 _) (cU (ai 0 rfl) aD (by decide)) aD) (by rw[ev,qQ1 c3])) (bw (cD (VE.to (gu (aq aL (aq (eM aD (cU (ai 2 rfl) aD (by decide))) a7))) rfl)))) rfl
  rw[qQ2 c3];refine aI (cy (VT.to (b0 hr (c0 20 _) (c0 20 _) (cU (ai 0 rfl) aD (by decide)) aD) (by rw[ev,qQ0 c3])) bS) ?_
  by_cases c2:m%6=2
  ·rw[qQ3 c2]
   refine dS (eu (VT.to (b0 hr (c0 20 _) (c0 20 _) (cU (ai 0 rfl) aD (by decide)) aD) (by rw[ev,qQ1 c2])) (bw (cD (VE.to (gu (aq aL (aq (eX (d:=o7 (if m/6%2=0 then none else some (m/6/2%9))) (VO.ve (fh (aq jP (aq (cU (fB (ai 2 rfl) aD ⟨by decide,by decide⟩) aD (by decide)) a7)))) (cU (ai 2 rfl) aD (by decide)) ?_) a7))) rfl)))) rfl
   rcases Int.emod_two_eq (m/6)with e|e
   ·rw[e,qQ3 rfl];rfl
   ·rw[e,qQ2 (by decide)];rfl
  rw[qQ2 c2];refine aI (cy (VT.to (b0 hr (c0 20 _) (c0 20 _) (cU (ai 0 rfl) aD (by decide)) aD) (by rw[ev,qQ0 c2])) bS) ?_
  by_cases c1:m%6=1
  ·rw[qQ3 c1]
   refine dS (eu (VT.to (b0 hr (c0 20 _) (c0 20 _) (cU (ai 0 rfl) aD (by decide)) aD) (by rw[ev,qQ1 c1])) (bw (cD (VE.to (gu (aq aL (aq (mM mU yx (aq (VO.ve (VO.to (fJ (own:=["_law_k"]) (cap:=[2]) (N:=["_law_k","_law_rest"]) (tgt:=.one 0) (F:=Mi (m/6)) (ds:=lg many) rfl ⟨rfl,by symm,by symm,rfl,rfl,?_⟩ (zr (n:=(many:Int)) (ai 1 rfl) n.rng (by omega) (by omega)) (λf s3 H3=>bP (i:=0) nk rfl (bq rfl)) rfl
    (small (by rw[pU];omega)) (λd hd=>?_)) (GB _ _))) a7) n.tup rfl) a7))) rfl)))) rfl
   ·intro j hj
    rcases aE.mp hj with rfl|hj
    ·exact⟨(by show(2:Nat)<3;decide),bq rfl,rfl⟩
    ·cases hj
   ·obtain⟨i,hi,rfl⟩:=aA.mp hd
    have hi:=dB.mp hi;have hii:(0:Int)<=(i:Int)*i:=Int.mul_nonneg (by omega) (by omega)
    have zge:(i:Int)*i<=60*60:=Int.mul_le_mul (by omega) (by omega) (by omega) (by omega)
    refine⟨_,rfl,λf s3 H3=>fQ,λr jT f s3 H3=>?_⟩
    cases jT;exact eM aD (cU (fB (ai 1 rfl) (eM (u6 (ai 0 rfl) (ai 0 rfl) (.inl ⟨by omega,by omega⟩)) aD) ⟨by omega,by omega⟩) aD (by decide))
  rw[qQ2 c1];refine aI (cy (VT.to (b0 hr (c0 20 _) (c0 20 _) (cU (ai 0 rfl) aD (by decide)) aD) (by rw[ev,qQ0 c1])) bS) ?_
  exact bw (cD (VE.to (gu (aq aL a7)) rfl))
theorem Wz:c7 ["_law_rule_here","_law_many"] ["_law_rule_here","_law_many"] (bV (top 44)):=⟨rfl,rfl,rfl,by symm,rfl,by symm,by symm⟩
def Yp(ds:List ao)(d:ao):Prop:=∃(r:Rl)(many:Nat),ds=[IC r,.int many]/\d=.int (fH r many)
theorem zax(F:mw K "_law_greatest" "_law_greatest" (top 44) f fd):fA P w K mg base kR 1 f fd ["_law_rule_here","_law_many"] (iE K Yp):=
 ko F Wz (λ_ _ h=>by obtain⟨_,_,rfl,_⟩:=h;rfl) λ_ _ h=>by
  obtain⟨r,many,rfl,rfl⟩:=h;unfold IC;intro iD A outer s H E hr;have hl:(tf r).length<=2:=by cases r<;>simp[tf]
  have x1:∃x,(aQ (pX r)::tf r ++ [.int 0])[1]?=some x/\((jv [(("many":Str),x),("gather",x),("meet",.int many)] (pX r)).getD (.int 1))=.int (fH r many):=by
   cases r<;>exact⟨_,rfl,rfl⟩
  obtain⟨x,hx,hv⟩:=x1;have hn3:([(("many":Str),x),("gather",x),("meet",iO many)].map (·.1)).Nodup:=(show([("many":Str),"gather","meet"]).Nodup by symm)
  have hx1:tX (aQ (pX r)::tf r ++ [.int 0]) 1=some x:=ck (j:=1) hx;have hx0:tX (aQ (pX r)::tf r) 0=some (.str (pX r)):=ck (j:=0) rfl;have hz:(aQ (pX r)::tf r).length + [iO 0].length<=sizeLine:=small (by simp only[aX,cz];omega)
  have oW:(aQ (pX r)::tf r)≠[]:=by simp
  generalize tf r=ra at *
  generalize pX r=rR at *
  refine bw (cD (VE.to (LN hr (Ip (kvs:=[(("many":Str),x),("gather",x),("meet",.int many)]) (.cons aL ?_ (.cons aL ?_ (.cons aL (ai 1 rfl) .nil))) hn3 (by simp) (by show 3<=15;decide)) (x:=rR) ?_ (d:=.int 1) aD) hv))
  ·exact cC (yB (d1:=.str rR::ra) (d2:=[.int 0]) (ai 0 rfl) (gu (aq aD a7)) oW hz) aD hx1
  ·exact cC (yB (d1:=.str rR::ra) (d2:=[.int 0]) (ai 0 rfl) (gu (aq aD a7)) oW hz) aD hx1
  ·exact cC (ds:=.str rR::ra) (ai 0 rfl) aD hx0
end
structure Dk where
 name:Str
 to:Str
 rule:Rl
 places:List Str
variable{iY:List Dk}
def fE(l:List Str):ao:=.list (l.map .str)
def eE(d:Dk):ao:=.tuple [.str d.name,.str d.to,IC d.rule,.tuple (d.places.map .str)]
def gJ(cell:Int)(nn k:Nat):Nat:=if k<nn then k else(cY cell (40+k)%nn).toNat
def zJ(cell:Int)(k len:Nat):Nat:=(cY cell (60+k)%(len+1)).toNat
def eD(cell:Int)(nn:Nat)(places:List Str):Nat->List (List Str)
 |0=>aT nn []
 |k+1=>(eD cell nn places k).set (gJ cell nn k) (o6 ((eD cell nn places k).getD (gJ cell nn k) []) (zJ cell k ((eD cell nn places k).getD (gJ cell nn k) []).length) (places.getD k ""))
def GC(cell:Int)(lines:List Str)(k:Nat):Str:=(lines ++ [("":Str)]).getD (cY cell (80+k)%(lines.length+1)).toNat ""
def zK(cell:Int)(names lines:List Str)(taken:List (List Str))(k:Nat):Dk:=⟨names.getD k "",GC cell lines k,lP (cY cell (90+k)) (taken.getD k []).length,taken.getD k []⟩
def lz(cell:Int)(n:Nat):Nat:=(1+cY cell 32%(if(n:Int)<4 then(n:Int)else 4)).toNat
def bZ(cell:Int)(places lines:List Str):List Dk:=(cv (lz cell places.length)).map (zK cell (namesOf (cY cell 31) (lz cell places.length)) lines (eD cell (lz cell places.length) places places.length))
theorem iK(cell:Int)(nn:Nat)(places:List Str):∀k,(eD cell nn places k).length=nn
 |0=>by simp[eD]
 |k+1=>by rw[eD,Ar,iK cell nn places k]
theorem ky(cell:Int){n:Nat}(h:1<=n):1<=lz cell n/\lz cell n<=4/\lz cell n<=n:=by
 unfold lz
 split
 ·rename_i hn
  have a1:0<=cY cell 32%(n:Int):=bE _ (by omega)
  have a2:cY cell 32%(n:Int)<n:=bG _ (by omega)
  omega
 ·have a1:0<=cY cell 32%4:=bE _ (by omega)
  have a2:cY cell 32%4<4:=bG _ (by omega)
  omega
theorem BK(cell:Int){nn:Nat}(h:1<=nn)(k:Nat):gJ cell nn k<nn:=by
 unfold gJ
 split
 ·assumption
 ·have a1:0<=cY cell (40+k)%(nn:Int):=bE _ (by omega)
  have a2:cY cell (40+k)%(nn:Int)<nn:=bG _ (by omega)
  omega
theorem Mj(cell:Int)(k len:Nat):zJ cell k len<=len:=by
 unfold zJ;have a1:0<=cY cell (60+k)%((len:Int)+1):=bE _ (by omega)
 have a2:cY cell (60+k)%((len:Int)+1)<(len:Int)+1:=bG _ (by omega)
 omega
theorem xN{α:Type}(l:List α)(i:Nat)(y:α):(o6 l i y).length=l.length+1:=by
 unfold o6;rw[aH,aX,bK,cW];omega
theorem Ml{α:Type}{l:List α}{x y:α}(h:x∈o6 l i y):x∈l\/x=y:=by
 unfold o6 at h;rcases bp.mp h with h|h
 ·exact .inl (dR h)
 ·rcases aE.mp h with h|h
  ·exact .inr h
  ·exact .inl (er h)
theorem uc(cell:Int)(nn:Nat)(places:List Str):∀k,∀row∈eD cell nn places k,row.length<=k/\(k<=places.length->∀x∈row,x∈places)
 |0,row,h=>by
  obtain⟨_,rfl⟩:=iU.mp h;exact⟨ay _,λ_ x hx=>by cases hx⟩
 |k+1,row,h=>by
  have ih:=uc cell nn places k;rcases List.mem_or_eq_of_mem_set (show row∈List.set _ _ _ from h)with h|h
  ·exact⟨Nat.le_succ_of_le (ih row h).1,λhk=>(ih row h).2 (by omega)⟩
  ·have hg:(eD cell nn places k).getD (gJ cell nn k) []=[]\/(eD cell nn places k).getD (gJ cell nn k) []∈eD cell nn places k:=by
    rw[aJ];cases e:(eD cell nn places k)[gJ cell nn k]? with
    |none=>exact .inl rfl
    |some r=>exact .inr (bF e)
   generalize(eD cell nn places k).getD (gJ cell nn k) []=g at *
   subst h;have hgl:g.length<=k/\(k<=places.length->∀x∈g,x∈places):=by
    rcases hg with rfl|hg
    ·exact⟨bj _,λ_ x hx=>by cases hx⟩
    ·exact ih g hg
   refine⟨by rw[xN];omega,λhk x hx=>?_⟩
   rcases Ml hx with hx|rfl
   ·exact hgl.2 (by omega) x hx
   ·rw[aJ,ax (by omega)]
    exact dv _
theorem Dg(cell:Int)(lines:List Str)(k:Nat):tX ((lines ++ [("":Str)]).map aQ) (cY cell (80+k)%((lines.length:Int)+1))=some (.str (GC cell lines k))/\GC cell lines k∈lines ++ [("":Str)]:=by
 have a1:0<=cY cell (80+k)%((lines.length:Int)+1):=bE _ (by omega)
 have a2:cY cell (80+k)%((lines.length:Int)+1)<(lines.length:Int)+1:=bG _ (by omega)
 unfold GC
 generalize cY cell (80+k)%((lines.length:Int)+1)=j at *
 obtain⟨i,rfl⟩:=lY a1;have hi:i<(lines ++ [("":Str)]).length:=by simp;omega
 have e:(lines ++ [("":Str)]).getD ((i:Int)).toNat ""=(lines ++ [("":Str)])[i]:=by
  rw[fN,aJ,ax hi];rfl
 rw[e];exact⟨ck (by rw[aW,ax hi];rfl),dv hi⟩
section
variable{P:bL}{w:cH}{K:au}{mg:Str->Option aG}{base:dw}{f:aR}{k:Nat}
abbrev Ndk:List Str:=["_law_cell","_law_places","_law_lines","_law_names_here","_law_taken","_law_k","_law_place","_law_at","_law_desks_here","_law_name","_law_to"]
theorem QH:c7 Ndk ["_law_cell","_law_places","_law_lines"] (bV (top 45)):=⟨rfl,rfl,rfl,by symm,rfl,by symm,by symm⟩
def Rdk(ds es:List ao):Prop:=∃(cell:Int)(places lines:List Str),ds=[.int cell,fE places,fE lines]/\1<=places.length/\places.length<=12/\lines.length<=12/\es=(bZ cell places lines).map eE
theorem zaz(F:mw K "_law_desks" "_law_desks" (top 45) f fd)(n:Ng mg)(C1:bO P w K mg base 1 "_law_mix" ["_law_cell","_law_k"] (iE K GA))(C2:bO P w K mg base 2 "_law_names" ["_law_cell","_law_many"] (Ib K Rnm))(C3:bO P w K mg base 1 "_law_rule" ["_law_m","_law_many"] (iE K Rrl)):fA P w K mg base kR 3 f fd ["_law_cell","_law_places","_law_lines"] (Ib K Rdk):=
 Lh F QH (λ_ _ h=>by obtain⟨_,_,_,rfl,_⟩:=h;rfl) λ_ _ h=>by
  obtain⟨cell,places,lines,rfl,h1,h12,Tj,rfl⟩:=h;intro iD A outer s H E hr;have nd:Ndk.Nodup:=QH.nd;have nc:(["_law_name"]:List Str).Nodup:=by symm
  have qd:gj 1 _:=hr.mono (by omega)
  obtain⟨nn1,nn4,nnp⟩:=ky cell h1;unfold bZ;have enn:((lz cell places.length:Nat):Int)=1+cY cell 32%(if(places.length:Int)<4 then(places.length:Int)else 4):=by
   unfold lz;have a1:0<=cY cell 32%(if(places.length:Int)<4 then(places.length:Int)else 4):=bE _ (by split<;>omega)
   omega
  generalize lz cell places.length=nn at *
  have nl:=iJ (cY cell 31) nn
  generalize hnm:namesOf (cY cell 31) nn=names at *
  refine aI (dq 3 (d:=fE names) (VO.ve (pG C2 hr (aq (bU C1 qd (aq (ai 0 rfl) (aq aD a7)) ⟨cell,31,rfl,by decide,by decide,rfl⟩) (aq (VE.to (k:=.int nn) (eM aD (cU (bU C1 qd (aq (ai 0 rfl) (aq aD a7)) ⟨cell,32,rfl,by decide,by decide,rfl⟩) (km (Jh rfl) (SQ 4 (places.length:Int)) (aq aD (aq (VE.to (jg (ai 1 rfl) n.len) (by simp)) a7)) n.min rfl) (by split<;>omega))) (by rw[enn])) a7)) ⟨cY cell 31,nn,rfl,by omega,by rw[hnm]⟩)) nd) ?_
  refine vS λB0 B σ H0 Hh D fr ok=>?_
  refine eP (Oz 4 (ds:=names.map aQ) (own:=["_law_name"]) (cap:=[]) (N:=["_law_name"]) (cl:=[]) (tgt:=.one 0) fr rfl rfl ⟨rfl,by symm,by symm,rfl,rfl,by simp⟩ (gK (ai 3 rfl)) (λf s3 H3=>bP (i:=0) nc rfl (bq rfl)) rfl (small (by rw[aj];omega)) (λd hd=>⟨_,rfl⟩) nd (λσ1 a ps H1 eQ G=>?_) (λa=>rfl))
  refine eP (VY (tgt:=.tup [5,6]) (ds:=Bp (places.map .str)) G dP rfl (og (ds:=places.map .str) (ai 1 rfl) n.Nv)
   (ik rfl (b_ (bP (i:=5) nd rfl (bq rfl)) (b_ (bP (i:=6) nd rfl (bq rfl)) fP))) (λi=>(eD cell nn places i).map λr=>r.map aQ) ?_ (λi d hd=>?_) (λσ2 Ha Hb G2=>?_))
  ·show(aT nn []).map _=_
   rw[wB,aj,nl];rfl
  ·obtain⟨x,hx,rfl⟩:=jM hd
   obtain⟨hip,rfl⟩:i<places.length/\x=.str (places.getD i ""):=by
    rw[aW]at hx;cases e:places[i]? with
    |none=>rw[e]at hx;cases hx
    |some p=>
     rw[e]at hx;cases hx;exact⟨(aP.mp e).1,by rw[aJ,e];rfl⟩
   refine⟨[.val (.int cell),.val (fE places),.val (fE lines),.val (fE names),.ref a,.val (.int i),.val (.str (places.getD i "")),.un,.un,.un,.un],rfl,rfl,λD C0 σ' e9 H' G q=>?_⟩
   have hR:=iK cell nn places i;have hj:=BK cell nn1 i;have pT:ps.length=nn:=G.len.trans (by simp[hR])
   obtain⟨p,hp⟩:∃p,ps[gJ cell nn i]?=some p:=⟨ps[gJ cell nn i]'(by omega),ax _⟩
   have xh:(eD cell nn places i)[gJ cell nn i]?=some ((eD cell nn places i).getD (gJ cell nn i) []):=by
    rw[aJ,ax (by omega)];rfl
   have zm:=bF xh;have hlen:=(uc cell nn places i _ zm).1;have egs:((eD cell nn places (i+1)).map λr=>r.map aQ)=((eD cell nn places i).map λr=>r.map aQ).set (gJ cell nn i) (o6 (((eD cell nn places i).getD (gJ cell nn i) []).map aQ) (zJ cell i ((eD cell nn places i).getD (gJ cell nn i) []).length) (.str (places.getD i ""))):=by
    show(List.set _ _ _).map _=_
    rw[List.map_set]
    congr 1
    unfold o6;rw[aV,aN,DN,qF]
   have hgj:((eD cell nn places i).map λr=>r.map aQ)[gJ cell nn i]?=some (((eD cell nn places i).getD (gJ cell nn i) []).map aQ):=by
    rw[aW,xh];rfl
   rw[egs]at q
   generalize(eD cell nn places i).getD (gJ cell nn i) []=row at *
   refine eP (Li G (dq 7 (ai 5 rfl) nd) rfl λσ1 Ha Hb G1=>?_)
   refine eP (Li G1 (VW (o:=.nx [.val (.int cell),.val (fE places),.val (fE lines),.val (fE names),.ref a,.val (.int i),.val (.str (places.getD i "")),.val (.int (gJ cell nn i)),.un,.un,.un]) (Qq (ai 5 rfl) (jg (ai 3 rfl) n.len)) (λhk=>?_) (λhk=>?_)) rfl λσ2 Hc Hd G2=>?_)
   ·have hk:¬i<nn:=by
     have:=qQ4 hk;rw[aj,nl]at this;omega
    have e:((gJ cell nn i:Nat):Int)=cY cell (40+i)%(nn:Int):=by
     unfold gJ;rw[qQ2 hk];have a1:0<=cY cell (40+i)%(nn:Int):=bE _ (by omega)
     omega
    rw[e];exact bw (dq 7 (cU (bU C1 qd (aq (ai 0 rfl) (aq (eM aD (ai 5 rfl)) a7)) ⟨cell,40+(i:Int),rfl,by omega,by omega,rfl⟩) (VE.to (jg (ai 3 rfl) n.len) (by rw[aj,nl])) (by omega)) nd)
   ·have hk:i<nn:=by
     have:=qQ5 hk;rw[aj,nl]at this;omega
    have e:gJ cell nn i=i:=by unfold gJ;rw[qQ3 hk]
    rw[e];exact bS
   have em:((zJ cell i row.length:Nat):Int)=cY cell (60+i)%((row.length:Int)+1):=by
    unfold zJ;have a1:0<=cY cell (60+i)%((row.length:Int)+1):=bE _ (by omega)
    omega
   refine dE (LQ G2 4 (j:=gJ cell nn i) (m:=zJ cell i row.length) (p:=p) (ds:=row.map .str) (d:=.str (places.getD i "")) rfl (ai 7 rfl) hp hgj (VE.to (cU (bU C1 qd (aq (ai 0 rfl) (aq (eM aD (ai 5 rfl)) a7)) ⟨cell,60+(i:Int),rfl,by omega,by omega,rfl⟩) (eM (jg (ds:=row.map .str) (eX (ai 4 rfl) (ai 7 rfl) (ck (by rw[aW,hgj];rfl))) n.len) aD) (by omega)) (by rw[em,aj])) rfl (by rw[aj];exact Mj _ _ _) (ai 6 rfl) (fV (by rw[aj];omega)) (λσ6 Hk Hl G6=>?_))
   exact q _ _ _ (G6.forget ⟨.inr rfl,.inr rfl,.inr rfl,.inr rfl,.inr rfl,.inl rfl,.inl rfl,.inl rfl,.inr rfl,.inr rfl,.inr rfl,trivial⟩ rfl)
  ·refine SR G2 (ig:=4) (o:=.ro ((cv nn).map (zK cell names lines (eD cell nn places places.length)) |>.map eE)) rfl ?_ (λHx _=>sS.ret rfl rfl ok)
   rw[dM,aj];have tl:=iK cell nn places places.length;have tr:=uc cell nn places places.length
   generalize eD cell nn places places.length=taken at *
   refine aI (jj 8 (fh a7) nd) ?_
   refine aI (lO (tgt:=.tup [5,9]) (o:=.nx [.val (.int cell),.val (fE places),.val (fE lines),.val (fE names),.val (.list ((taken.map λr=>r.map aQ).map .list)),.un,.un,.un,.own (((cv nn).map (zK cell names lines taken)).map eE),.un,.un]) dP rfl (og (ds:=names.map .str) (ai 3 rfl) n.Nv)
    (ik rfl (b_ (bP (i:=5) nd rfl (bq rfl)) (b_ (bP (i:=9) nd rfl (bq rfl)) fP))) (λi=>[.val (.int cell),.val (fE places),.val (fE lines),.val (fE names),.val (.list ((taken.map λr=>r.map aQ).map .list)),.un,.un,.un,.own (((cv i).map (zK cell names lines taken)).map eE),.un,.un]) nn rfl (by rw[dM,aj,nl];exact ay _) (λi d hi hd=>?_) (.inl ⟨by rw[dM,aj,nl],rfl⟩)) (bw (Ia 8 rfl))
   obtain⟨x,hx,rfl⟩:=jM hd;obtain rfl:x=.str (names.getD i ""):=by
    rw[aW,ax (by omega)]at hx
    cases hx;rw[aJ,ax (by omega)];rfl
   have xh:taken[i]?=some (taken.getD i []):=by
    rw[aJ,ax (by omega)];rfl
   have WB:=(tr _ (bF xh)).1;obtain⟨ht,_⟩:=Dg cell lines i;have lo:=De cell (90+i);have hi':=Pr cell (90+i);refine⟨_,rfl,?_⟩
   refine aI (dq 10 (d:=.str (GC cell lines i)) (eX (ds:=(lines ++ [("":Str)]).map .str) (VE.to (VO.ve (iw (d1:=lines.map .str) (d2:=[.str ""]) (ai 2 rfl) (VO.ve (fh (aq aL a7))) (small (by simp only[aj,aX,cz];omega)))) (by rw[aV];rfl)) (VE.to (cU (bU C1 qd (aq (ai 0 rfl) (aq (eM aD (ai 5 rfl)) a7)) ⟨cell,80+(i:Int),rfl,by omega,by omega,rfl⟩) (eM (jg (ai 2 rfl) n.len) aD) (by omega)) (by rw[aj])) ht) nd) ?_
   refine iP (bw (eU 8 rfl (d:=eE (zK cell names lines taken i)) (gu (aq (ai 9 rfl) (aq (ai 10 rfl) (aq ?_ (aq ?_ a7))))) (fV (by simp only[aj,dZ];omega)))) ⟨.inr rfl,.inr rfl,.inr rfl,.inr rfl,.inr rfl,.inl rfl,.inl rfl,.inl rfl,.inr ?_,.inl rfl,.inl rfl,trivial⟩
   ·exact bU C3 qd (aq (bU C1 qd (aq (ai 0 rfl) (aq (eM aD (ai 5 rfl)) a7)) ⟨cell,90+(i:Int),rfl,by omega,by omega,rfl⟩) (aq (jg (ds:=(taken.getD i []).map .str) (eX (ai 4 rfl) (ai 5 rfl) (ck (by rw[aW,aW,xh];rfl))) n.len) a7)) ⟨cY cell (90+i),(taken.getD i []).length,by rw[aj],by omega,by omega,by omega,rfl⟩
   ·exact mM mU yx (aq (eX (ds:=(taken.map λr=>r.map aQ).map .list) (d:=.list ((taken.getD i []).map .str)) (ai 4 rfl) (ai 5 rfl) (ck (by rw[aW,aW,xh];rfl))) a7) n.tup rfl
   ·rw[sF,aV,aV];rfl
end
def g_(ns:List Int):Int:=ns.getD 0 0
def bR(ns:List Int):Int:=ns.getD 1 0
def fY(ns:List Int):Int:=ns.getD 2 0
def kK(p:Str×Option Int):ao:=.tuple [.str p.1,o7 p.2]
def vd(m:Int):Option Int:=if m%3=2 then some (1+m/3%30)else none
def kindAt(a:Int)(names:List Str)(k:Nat):Str×Option Int:=(names.getD k "",vd (cY a (10+k)))
def jC(a:Int):Nat:=(1+cY a 1%4).toNat
def cG(a:Int):List (Str×Option Int):=(cv (jC a)).map (kindAt a (namesOf a (jC a)))
def hV(b:Int):Nat:=(1+cY b 2%3).toNat
def placesOf(b:Int):List Str:=namesOf (cY b 4) (hV b+(cY b 5%4).toNat)
def nP(b:Int)(n:Nat):Nat:=(cY b 6%n).toNat
def orderOf(b:Int):List Str:=(placesOf b).drop (nP b (placesOf b).length)++(placesOf b).take (nP b (placesOf b).length)
def h8(b:Int):List Str:=(placesOf b).take (hV b)
def linesOf(b:Int):List Str:=(placesOf b).drop (hV b)
def iL(iY:List Dk)(name:Str):List Int:=iY.filterMap λd=>if decide (d.to=name)=true then some (fH d.rule d.places.length)else none
def maxOf(l:List Int):Int:=l.foldl (λm z=>if m<z then z else m) 1
def roomAt(b:Int)(iY:List Dk)(lines:List Str)(k:Nat):Str×Int:=(lines.getD k "",maxOf (iL iY (lines.getD k ""))+cY b (20+k)%3)
def jU(p:Str×Int):ao:=.tuple [.str p.1,.int p.2]
def rK(p:Str×Str×Int):ao:=.tuple [.str p.1,.str p.2.1,.int p.2.2]
def tj(p:Str×Int×Int):ao:=.tuple [.str p.1,.int p.2.1,.int p.2.2]
def vf(m:Int)(dn:Str)(p:(Str×Option Int)×Nat):Option (Str×Str×Int):=if decide (0<m/((p.2:Int)+7)%3)=true then some (dn,p.1.1,1+m/((p.2:Int)*p.2+2)%6)else none
def gO(m:Int)(dn:Str)(kinds:List (Str×Option Int))(j:Nat):List (Str×Str×Int):=(kinds.zipIdx.take j).filterMap (vf m dn)
def k6(m:Int)(dn:Str):List (Str×Int×Int):=if m/5%4=0 then [(dn,m/20%9,9+m/180%20),(dn,25+m/3600%20,50+m/72000%40)]else []
def h_(c:Int)(iY:List Dk)(kinds:List (Str×Option Int))(i:Nat):List (Str×Str×Int):=(iY.zipIdx.take i).flatMap λp=>gO (cY c (110+p.2)) p.1.name kinds kinds.length
def jl(c:Int)(iY:List Dk)(i:Nat):List (Str×Int×Int):=(iY.zipIdx.take i).flatMap λp=>k6 (cY c (110+p.2)) p.1.name
structure Pl where
 kinds:List (Str×Option Int)
 gates:List Str
 lines:List (Str×Int)
 desks:List Dk
 times:List (Str×Str×Int)
 hours:List (Str×Int×Int)
 paces:List (Str×Str×Int×Int)
def uM(p:Str×Str×Int×Int):ao:=.tuple [.str p.1,.str p.2.1,.int p.2.2.1,.int p.2.2.2]
def dQ(ns:List Int):Pl:=
 let kds:=cG (g_ ns)
 let lns:=linesOf (bR ns)
 let iY:=bZ (fY ns) (orderOf (bR ns)) lns
 ⟨kds,h8 (bR ns),(cv lns.length).map (roomAt (bR ns) iY lns),iY,h_ (fY ns) iY kds iY.length,jl (fY ns) iY iY.length,[]⟩
def kD(p:Pl):List (Str×ao):=[("kinds",.list (p.kinds.map kK)),("gates",fE p.gates),("lines",.list (p.lines.map jU)),("desks",.list (p.desks.map eE)),("times",.list (p.times.map rK)),("hours",.list (p.hours.map tj)),("paces",.list (p.paces.map uM))]
def eZ(p:Pl):ao:=sV (kD p)
theorem oM(l:List Int):maxOf l∈(1::l)/\∀z∈(1::l),z<=maxOf l:=by
 have go:∀(l:List Int)(m0:Int),(l.foldl (λm z=>if m<z then z else m) m0)∈m0::l/\∀z∈m0::l,z<=l.foldl (λm z=>if m<z then z else m) m0:=by
  intro l
  induction l with
  |nil=>intro m0;exact⟨aS,λz hz=>by simp at hz;rw[hz];exact Int.le_refl _⟩
  |cons x l ih=>
   intro m0;obtain⟨h1,h2⟩:=ih (if m0<x then x else m0)
   rw[lG];refine⟨?_,λz hz=>?_⟩
   ·rcases aE.mp h1 with h|h
    ·rw[h]
     split<;>simp
    ·exact aZ _ (aZ _ h)
   ·have hm:=h2 _ aS
    rcases aE.mp hz with rfl|hz
    ·refine Int.le_trans ?_ hm
     split<;>omega
    ·rcases aE.mp hz with rfl|hz
     ·refine Int.le_trans ?_ hm
      split<;>omega
     ·exact h2 z (aZ _ hz)
 exact go l 1
theorem uN{m:Int}{dn:Str}{j:Nat}{p:Str×Option Int}(h:kinds[j]?=some p):gO m dn kinds (j+1)=gO m dn kinds j++(vf m dn (p,j)).toList:=by
 unfold gO;rw[ej,kH,h];simp only[nV,oV,jZ,sC];cases e:vf m dn (p,j) with
 |none=>rw[fU e];rfl
 |some r=>rw[eA e];rfl
theorem tq(m:Int)(dn:Str)(kinds:List (Str×Option Int))(j:Nat):(gO m dn kinds j).length<=j:=by
 unfold gO;exact cj (hX _ _) (by rw[bK];omega)
theorem qV{c:Int}{d:Dk}(h:iY[i]?=some d):h_ c iY kinds (i+1)=h_ c iY kinds i++gO (cY c (110+i)) d.name kinds kinds.length:=by
 unfold h_;rw[ej,kH,h];simp
theorem vY{c:Int}{d:Dk}(h:iY[i]?=some d):jl c iY (i+1)=jl c iY i++k6 (cY c (110+i)) d.name:=by
 unfold jl;rw[ej,kH,h];simp
theorem EA(m:Int)(dn:Str):(k6 m dn).length<=2:=by unfold k6;split<;>simp
theorem qX(c:Int)(iY:List Dk)(kinds:List (Str×Option Int))(hk:kinds.length<=4):∀i,i<=iY.length->(h_ c iY kinds i).length<=4*i
 |0,_=>by simp[h_]
 |i+1,h=>by
  have ih:=qX c iY kinds hk i (by omega)
  have:=tq (cY c (110+i)) iY[i].name kinds kinds.length;rw[qV (ax (by omega)),aH]
  omega
theorem qY(c:Int)(iY:List Dk):∀i,i<=iY.length->(jl c iY i).length<=2*i
 |0,_=>by simp[jl]
 |i+1,h=>by
  have ih:=qY c iY i (by omega)
  have:=EA (cY c (110+i)) iY[i].name;rw[vY (ax (by omega)),aH]
  omega
theorem kz(a:Int):1<=jC a/\jC a<=4:=by
 unfold jC;have a1:0<=cY a 1%4:=bE _ (by omega)
 have a2:cY a 1%4<4:=bG _ (by omega)
 omega
theorem ja(b:Int):1<=hV b/\hV b<=3:=by
 unfold hV;have a1:0<=cY b 2%3:=bE _ (by omega)
 have a2:cY b 2%3<3:=bG _ (by omega)
 omega
theorem pY(b:Int):(placesOf b).length=hV b+(cY b 5%4).toNat:=iJ _ _
theorem jG(b:Int):hV b<=(placesOf b).length/\(placesOf b).length<=6:=by
 have:=ja b;have a1:0<=cY b 5%4:=bE _ (by omega)
 have a2:cY b 5%4<4:=bG _ (by omega)
 rw[pY];omega
theorem ou(b:Int){n:Nat}(h:1<=n):nP b n<n:=by
 unfold nP;have a1:0<=cY b 6%(n:Int):=bE _ (by omega)
 have a2:cY b 6%(n:Int)<n:=bG _ (by omega)
 omega
theorem lQ(cell:Int)(places lines:List Str):(bZ cell places lines).length=lz cell places.length:=by simp[bZ]
theorem Pw(m:Int):tX [ao.none,.none,.int (1+m/3%30)] (m%3)=some (o7 (vd m)):=by
 unfold vd;have a1:0<=m%3:=bE _ (by omega)
 have a2:m%3<3:=bG _ (by omega)
 rcases(by omega:m%3=0\/m%3=1\/m%3=2)with e|e|e<;>rw[e]<;>rfl
def xj(r:ao)(n:Nat):Int:=match r with
 | .tuple [.str w,.int m]=>if w="many" then m else 1
 | .tuple [.str w,.int m,_]=>if w="gather" then m else 1
 | .tuple [.str w]=>if w="meet" then n else 1
 |_=>1
theorem Dh(r:Rl)(n:Nat):xj (IC r) n=fH r n:=by
 cases r with
 |rank b=>cases b<;>rfl
 |_=>rfl
def IE(name:Str):ao->Option ao
 | .tuple [_,.str to,r,.tuple ps]=>if decide (to=name)=true then some (.int (xj r ps.length))else none
 |_=>none
theorem vg(name:Str)(d:Dk):IE name (eE d)=(if decide (d.to=name)=true then some (.int (fH d.rule d.places.length))else none):=by
 show(if decide (d.to=name)=true then some (iO (xj (IC d.rule) (d.places.map aQ).length))else none)=_
 rw[Dh,aj]
theorem JX(name:Str)(iY:List Dk):(iY.map eE).filterMap (IE name)=(iL iY name).map .int:=by
 unfold iL;rw[cw,List.map_filterMap]
 congr 1
 funext d
 show IE name (eE d)=_;rw[vg]
 split<;>rfl
section
variable{P:bL}{w:cH}{K:au}{mg:Str->Option aG}{base:dw}{f:aR}{k:Nat}
abbrev Npl:List Str:=["_law_script","_law_a","_law_b","_law_c","_law_kinds","_law_k","_law_name","_law_m","_law_many","_law_places","_law_gates","_law_lines","_law_order","_law_desks_here","_law_rooms","_law_loads","_law_times","_law_hours","_law_desk","_law_j","_law_kind"]
theorem QI:c7 Npl ["_law_script"] (bV (top 46)):=⟨rfl,rfl,rfl,by symm,rfl,by symm,by symm⟩
def Rpl(ds:List ao)(d:ao):Prop:=∃ns:List Int,ds=[pH ns]/\d=eZ (dQ ns)
end
theorem ud{α β:Type}(g:α->β)(l:List α)(lo hi:Option Int):L2.cutD (l.map g) lo hi=(L2.cutD l lo hi).map g:=by
 unfold L2.cutD;rw[aj,DN,qF]
theorem lR{α:Type}(l:List α)(n:Nat):L2.cutD l (some (n:Int)) none=l.drop n:=by
 unfold L2.cutD;rw[HT.pw,HT.D2];by_cases h:n<=l.length
 ·rw[oB h,dO (by rw[cW];omega)]
 ·rw[Nat.min_eq_right (by omega),r9 (ay _),r9 (by omega)];simp
section
variable{P:bL}{w:cH}{K:au}{mg:Str->Option aG}{base:dw}{f:aR}{k:Nat}
theorem zaB(F:mw K "_law_plant" "_law_plant" (top 46) f fd)(n:Ng mg)(C0:bO P w K mg base 1 "_law_cell_at" ["_law_script","_law_k"] (iE K IB))(C1:bO P w K mg base 1 "_law_mix" ["_law_cell","_law_k"] (iE K GA))(C2:bO P w K mg base 2 "_law_names" ["_law_cell","_law_many"] (Ib K Rnm))(C3:bO P w K mg base 1 "_law_greatest" ["_law_rule_here","_law_many"] (iE K Yp))(C4:bO P w K mg base 3 "_law_desks" ["_law_cell","_law_places","_law_lines"] (Ib K Rdk)):fA P w K mg base kR 4 f fd ["_law_script"] (iE K Rpl):=
 ko F QI (λ_ _ h=>by obtain⟨_,rfl,_⟩:=h;rfl) λ_ _ h=>by
  obtain⟨ns,rfl,rfl⟩:=h;intro iD A outer s H E hr;have nd:Npl.Nodup:=QI.nd;have qd:gj 1 _:=hr.mono (by omega)
  have QJ:gj 2 _:=hr.mono (by omega)
  have e0:dQ ns=⟨(cG (g_ ns)),(placesOf (bR ns)).take (hV (bR ns)),((cv (linesOf (bR ns)).length).map (roomAt (bR ns) (bZ (fY ns) (orderOf (bR ns)) (linesOf (bR ns))) (linesOf (bR ns)))),(bZ (fY ns) (orderOf (bR ns)) (linesOf (bR ns))),h_ (fY ns) (bZ (fY ns) (orderOf (bR ns)) (linesOf (bR ns))) (cG (g_ ns)) (bZ (fY ns) (orderOf (bR ns)) (linesOf (bR ns))).length,jl (fY ns) (bZ (fY ns) (orderOf (bR ns)) (linesOf (bR ns))) (bZ (fY ns) (orderOf (bR ns)) (linesOf (bR ns))).length,[]⟩:=rfl;rw[e0];obtain⟨k1,k4⟩:=kz (g_ ns);have knl:(namesOf (g_ ns) (jC (g_ ns))).length=jC (g_ ns):=iJ _ _;have hkd:(cv (jC (g_ ns))).map (kindAt (g_ ns) (namesOf (g_ ns) (jC (g_ ns))))=(cG (g_ ns)):=rfl;have hkl:(cG (g_ ns)).length=jC (g_ ns):=by simp[cG]
  obtain⟨g1,g3⟩:=ja (bR ns);obtain⟨p1,p6⟩:=jG (bR ns);have pl:=pY (bR ns);have Tj:(placesOf (bR ns)).drop (hV (bR ns))=(linesOf (bR ns)):=rfl;have hll:(linesOf (bR ns)).length<=6:=by rw[<-Tj,cW];omega
  have hor:(placesOf (bR ns)).drop (nP (bR ns) (placesOf (bR ns)).length)++(placesOf (bR ns)).take (nP (bR ns) (placesOf (bR ns)).length)=(orderOf (bR ns)):=rfl;have Ko:(orderOf (bR ns)).length=(placesOf (bR ns)).length:=by rw[<-hor,aH,cW,bK];have:=ou (bR ns) (n:=(placesOf (bR ns)).length) (by omega);omega
  have Lx:(bZ (fY ns) (orderOf (bR ns)) (linesOf (bR ns))).length<=4:=by rw[lQ];exact(ky (fY ns) (by omega)).2.1
  have ek:((jC (g_ ns):Nat):Int)=1+cY (g_ ns) 1%4:=by
   unfold jC;have a1:0<=cY (g_ ns) 1%4:=bE _ (by omega)
   omega
  have eg:(((hV (bR ns)):Nat):Int)=1+cY (bR ns) 2%3:=by
   unfold hV;have a1:0<=cY (bR ns) 2%3:=bE _ (by omega)
   omega
  have ep:((((hV (bR ns))+(cY (bR ns) 5%4).toNat:Nat)):Int)=((hV (bR ns)):Int)+cY (bR ns) 5%4:=by
   have a1:0<=cY (bR ns) 5%4:=bE _ (by omega)
   omega
  have et:((nP (bR ns) (placesOf (bR ns)).length:Nat):Int)=cY (bR ns) 6%((placesOf (bR ns)).length:Int):=by
   unfold nP;have a1:0<=cY (bR ns) 6%((placesOf (bR ns)).length:Int):=bE _ (by omega)
   omega
  refine aI (OV 1 2 3 (d1:=.int (g_ ns)) (d2:=.int (bR ns)) (d3:=.int (fY ns)) (bU C0 qd (aq (ai 0 rfl) (aq aD a7)) ⟨ns,0,rfl,rfl⟩) (bU C0 qd (aq (ai 0 rfl) (aq aD a7)) ⟨ns,1,rfl,rfl⟩) (bU C0 qd (aq (ai 0 rfl) (aq aD a7)) ⟨ns,2,rfl,rfl⟩) rfl nd (by decide) (by decide) (by decide)) ?_
  refine aI (jj 4 (fh a7) nd) ?_
  refine aI (lO (tgt:=.tup [5,6]) (o:=.nx [.val (pH ns),.val (.int (g_ ns)),.val (.int (bR ns)),.val (.int (fY ns)),.own (((cv (jC (g_ ns))).map (kindAt (g_ ns) (namesOf (g_ ns) (jC (g_ ns))))).map kK),.un,.un,.un,.un,.un,.un,.un,.un,.un,.un,.un,.un,.un,.un,.un,.un]) dP rfl (og (ds:=(namesOf (g_ ns) (jC (g_ ns))).map .str) (VO.ve (pG C2 QJ (aq (ai 1 rfl) (aq (VE.to (k:=.int (jC (g_ ns):Nat)) (eM aD (cU (bU C1 qd (aq (ai 1 rfl) (aq (aD) a7)) ⟨g_ ns,1,rfl,by first|decide|omega,by first|decide|omega,rfl⟩) aD (by decide))) (by rw[ek])) a7)) ⟨g_ ns,jC (g_ ns),rfl,by omega,rfl⟩)) n.Nv)
   (ik rfl (b_ (bP (i:=5) nd rfl (by first|exact bq rfl|exact di rfl)) (b_ (bP (i:=6) nd rfl (by first|exact bq rfl|exact di rfl)) (fP)))) (λi=>[.val (pH ns),.val (.int (g_ ns)),.val (.int (bR ns)),.val (.int (fY ns)),.own (((cv (i)).map (kindAt (g_ ns) (namesOf (g_ ns) (jC (g_ ns))))).map kK),.un,.un,.un,.un,.un,.un,.un,.un,.un,.un,.un,.un,.un,.un,.un,.un]) (jC (g_ ns)) rfl (by rw[dM,aj,knl];exact ay _) (λi d hi hd=>?_) (.inl ⟨by rw[dM,aj,knl],rfl⟩)) ?_
  ·obtain⟨x,hx,rfl⟩:=jM hd
   obtain rfl:x=.str ((namesOf (g_ ns) (jC (g_ ns))).getD i ""):=by
    rw[aW,ax (by omega)]at hx
    cases hx;rw[aJ,ax (by omega)];rfl
   refine⟨_,rfl,?_⟩
   refine aI (dq 7 (d:=.int (cY (g_ ns) (10+i))) (bU C1 qd (aq (ai 1 rfl) (aq (eM aD (ai 5 rfl)) a7)) ⟨g_ ns,10+(i:Int),rfl,by first|decide|omega,by first|decide|omega,rfl⟩) nd) ?_
   refine iP (bw (eU 4 rfl (d:=kK (kindAt (g_ ns) (namesOf (g_ ns) (jC (g_ ns))) i)) (gu (aq (ai 6 rfl) (aq (eX (VO.ve (fh (aq jP (aq jP (aq (eM aD (cU (fB (ai 7 rfl) aD ⟨by decide,by decide⟩) aD (by decide))) a7))))) (cU (ai 7 rfl) aD (by decide)) (Pw _)) a7))) (fV (by simp only[aj,dZ];omega)))) ⟨.inr rfl,.inr rfl,.inr rfl,.inr rfl,.inr ?_,.inl rfl,.inl rfl,.inl rfl,.inl rfl,.inl rfl,.inl rfl,.inl rfl,.inl rfl,.inl rfl,.inl rfl,.inl rfl,.inl rfl,.inl rfl,.inl rfl,.inl rfl,.inl rfl,trivial⟩
   rw[sF,aV,aV];rfl
  rw[hkd];refine eY 4 rfl ?_
  refine aI (dq 8 (d:=.int ((hV (bR ns)):Nat)) (VE.to (eM aD (cU (bU C1 qd (aq (ai 2 rfl) (aq (aD) a7)) ⟨bR ns,2,rfl,by first|decide|omega,by first|decide|omega,rfl⟩) aD (by decide))) (by rw[eg])) nd) ?_
  refine aI (dq 9 (d:=fE (placesOf (bR ns))) (VO.ve (pG C2 QJ (aq (bU C1 qd (aq (ai 2 rfl) (aq (aD) a7)) ⟨bR ns,4,rfl,by first|decide|omega,by first|decide|omega,rfl⟩) (aq (VE.to (k:=.int ((hV (bR ns))+(cY (bR ns) 5%4).toNat:Nat)) (eM (ai 8 rfl) (cU (bU C1 qd (aq (ai 2 rfl) (aq (aD) a7)) ⟨bR ns,5,rfl,by first|decide|omega,by first|decide|omega,rfl⟩) aD (by decide))) (by rw[ep])) a7)) ⟨cY (bR ns) 4,(hV (bR ns))+(cY (bR ns) 5%4).toNat,rfl,by omega,rfl⟩)) nd) ?_
  refine aI (Sl 10 11 (d1:=fE ((placesOf (bR ns)).take (hV (bR ns)))) (d2:=fE (linesOf (bR ns))) (VE.to (VO.ve (jJ (ds:=(placesOf (bR ns)).map .str) (ai 9 rfl) .no (.yes (ai 8 rfl)))) (by rw[ud,zv];rfl)) (VE.to (VO.ve (jJ (ds:=(placesOf (bR ns)).map .str) (ai 9 rfl) (.yes (ai 8 rfl)) .no)) (by rw[ud,lR];rfl)) rfl nd (by decide)) ?_
  refine aI (dq 12 (d:=fE (orderOf (bR ns))) (VE.to (VO.ve (iw (VO.ve (VO.to (k:=((placesOf (bR ns)).drop (nP (bR ns) (placesOf (bR ns)).length)).map aQ) (jJ (ds:=(placesOf (bR ns)).map .str) (ai 9 rfl) (.yes (VE.to (k:=.int (nP (bR ns) (placesOf (bR ns)).length:Nat)) (cU (bU C1 qd (aq (ai 2 rfl) (aq (aD) a7)) ⟨bR ns,6,rfl,by first|decide|omega,by first|decide|omega,rfl⟩) (jg (ds:=(placesOf (bR ns)).map .str) (ai 9 rfl) n.len) (by rw[aj];omega)) (by rw[et,aj]))) .no) (by rw[ud,lR]))) (VO.ve (VO.to (k:=((placesOf (bR ns)).take (nP (bR ns) (placesOf (bR ns)).length)).map aQ) (jJ (ds:=(placesOf (bR ns)).map .str) (ai 9 rfl) .no (.yes (VE.to (k:=.int (nP (bR ns) (placesOf (bR ns)).length:Nat)) (cU (bU C1 qd (aq (ai 2 rfl) (aq (aD) a7)) ⟨bR ns,6,rfl,by first|decide|omega,by first|decide|omega,rfl⟩) (jg (ds:=(placesOf (bR ns)).map .str) (ai 9 rfl) n.len) (by rw[aj];omega)) (by rw[et,aj])))) (by rw[ud,zv]))) (small (by simp only[aj,cW,bK];omega)))) (by rw[<-aV,hor];rfl)) nd) ?_
  refine aI (dq 13 (d:=.list ((bZ (fY ns) (orderOf (bR ns)) (linesOf (bR ns))).map eE)) (VO.ve (pG C4 hr (aq (ai 3 rfl) (aq (ai 12 rfl) (aq (ai 11 rfl) a7))) ⟨fY ns,(orderOf (bR ns)),(linesOf (bR ns)),rfl,by omega,by omega,by omega,rfl⟩)) nd) ?_
  refine aI (jj 14 (fh a7) nd) ?_
  have Yq:∀d∈(bZ (fY ns) (orderOf (bR ns)) (linesOf (bR ns))),nO d.to:=λd hd=>by
   obtain⟨j,_,rfl⟩:=aA.mp hd;have hm:=(Dg (fY ns) (linesOf (bR ns)) j).2;rcases bp.mp hm with hm|hm
   ·exact(lj (er (show GC (fY ns) (linesOf (bR ns)) j∈(placesOf (bR ns)).drop (hV (bR ns))from hm))).ok.2
   ·show nO (GC (fY ns) (linesOf (bR ns)) j)
    rw[aK.mp hm];show cX (.str ("":Str))=true;symm
  refine aI (lO (tgt:=.tup [5,6]) (o:=.nx [.val (pH ns),.val (.int (g_ ns)),.val (.int (bR ns)),.val (.int (fY ns)),.val (.list ((cG (g_ ns)).map kK)),.un,.un,.un,.val (.int (hV (bR ns))),.val (fE (placesOf (bR ns))),.val (fE ((placesOf (bR ns)).take (hV (bR ns)))),.val (fE (linesOf (bR ns))),.val (fE (orderOf (bR ns))),.val (.list ((bZ (fY ns) (orderOf (bR ns)) (linesOf (bR ns))).map eE)),.own (((cv ((linesOf (bR ns)).length)).map (roomAt (bR ns) (bZ (fY ns) (orderOf (bR ns)) (linesOf (bR ns))) (linesOf (bR ns)))).map jU),.un,.un,.un,.un,.un,.un]) dP rfl (og (ds:=(linesOf (bR ns)).map .str) (ai 11 rfl) n.Nv)
   (ik rfl (b_ (bP (i:=5) nd rfl (by first|exact bq rfl|exact di rfl)) (b_ (bP (i:=6) nd rfl (by first|exact bq rfl|exact di rfl)) (fP)))) (λi=>[.val (pH ns),.val (.int (g_ ns)),.val (.int (bR ns)),.val (.int (fY ns)),.val (.list ((cG (g_ ns)).map kK)),.un,.un,.un,.val (.int (hV (bR ns))),.val (fE (placesOf (bR ns))),.val (fE ((placesOf (bR ns)).take (hV (bR ns)))),.val (fE (linesOf (bR ns))),.val (fE (orderOf (bR ns))),.val (.list ((bZ (fY ns) (orderOf (bR ns)) (linesOf (bR ns))).map eE)),.own (((cv (i)).map (roomAt (bR ns) (bZ (fY ns) (orderOf (bR ns)) (linesOf (bR ns))) (linesOf (bR ns)))).map jU),.un,.un,.un,.un,.un,.un]) (linesOf (bR ns)).length rfl (by rw[dM,aj];exact ay _) (λi d hi hd=>?_) (.inl ⟨by rw[dM,aj],rfl⟩)) ?_
  ·obtain⟨x,hx,rfl⟩:=jM hd
   obtain⟨rfl,zm⟩:x=.str ((linesOf (bR ns)).getD i "")/\(linesOf (bR ns)).getD i ""∈(linesOf (bR ns)):=by
    rw[aW,ax (by omega)]at hx
    cases hx;rw[aJ,ax (by omega)]
    exact⟨rfl,dv _⟩
   have okn:nO ((linesOf (bR ns)).getD i ""):=(lj (er (show(linesOf (bR ns)).getD i ""∈(placesOf (bR ns)).drop (hV (bR ns))from zm))).ok.2
   have nc:(["_law_desk","_law_name"]:List Str).Nodup:=by symm
   have hlo:(iL (bZ (fY ns) (orderOf (bR ns)) (linesOf (bR ns))) ((linesOf (bR ns)).getD i "")).length<=4:=cj (hX _ _) Lx;refine⟨_,rfl,?_⟩
   refine aI (Ie 15 (own:=["_law_desk"]) (cap:=[6]) (N:=["_law_desk","_law_name"]) (tgt:=.one 0) (F:=IE ((linesOf (bR ns)).getD i "")) (ds:=(bZ (fY ns) (orderOf (bR ns)) (linesOf (bR ns))).map eE) rfl ⟨rfl,by symm,by symm,rfl,rfl,?_⟩ (gK (ai 13 rfl)) (λf s3 H3=>bP (i:=0) nc rfl (bq rfl)) rfl (small (by rw[aj];omega)) (λd hd=>?_) nd) ?_
   ·intro j hj
    rcases aE.mp hj with rfl|hj
    ·exact⟨(by show(6:Nat)<21;decide),bq rfl,rfl⟩
    ·cases hj
   ·obtain⟨dk,Di,rfl⟩:=aA.mp hd
    refine⟨_,rfl,λf s3 H3=>?_,λr jT f s3 H3=>?_⟩
    ·refine yy (VT.to (b0 (k:=1) qd (bH (Yq dk Di)) (bH okn) (cC (ai 0 rfl) aD rfl) (ai 1 rfl)) ?_)
     rw[vg,cn];by_cases h:dk.to=(linesOf (bR ns)).getD i ""
     ·rw[qQ1 h,qQ3 rfl];rfl
     ·rw[qQ0 h,qQ2 cQ];rfl
    ·rw[vg]at jT
     split at jT
     ·cases jT
      exact bU C3 qd (aq (cC (ai 0 rfl) aD rfl) (aq (n_ (ds:=dk.places.map .str) (cC (ai 0 rfl) aD rfl) n.len) a7)) ⟨dk.rule,dk.places.length,by rw[aj],rfl⟩
     ·cases jT
   refine eY 15 rfl ?_
   rw[JX];obtain⟨mx1,mx2⟩:=oM (iL (bZ (fY ns) (orderOf (bR ns)) (linesOf (bR ns))) ((linesOf (bR ns)).getD i ""));refine iP (bw (eU 14 rfl (d:=jU (roomAt (bR ns) (bZ (fY ns) (orderOf (bR ns)) (linesOf (bR ns))) (linesOf (bR ns)) i)) (gu (aq (ai 6 rfl) (aq (eM (km (Jy rfl) (VX (ns:=1::iL (bZ (fY ns) (orderOf (bR ns)) (linesOf (bR ns))) ((linesOf (bR ns)).getD i "")) mx1 mx2) (aq (VO.ve (iw (d1:=[.int 1]) (d2:=(iL (bZ (fY ns) (orderOf (bR ns)) (linesOf (bR ns))) ((linesOf (bR ns)).getD i "")).map .int) (VO.ve (fh (ds:=[.int 1]) (aq aD a7))) (ai 15 rfl) (small (by simp only[aj,aX,cz];omega)))) a7) n.max rfl) (cU (bU C1 qd (aq (ai 2 rfl) (aq (eM aD (ai 5 rfl)) a7)) ⟨bR ns,20+(i:Int),rfl,by first|decide|omega,by first|decide|omega,rfl⟩) aD (by decide))) a7))) (fV (by simp only[aj,dZ];omega)))) ⟨.inr rfl,.inr rfl,.inr rfl,.inr rfl,.inr rfl,.inl rfl,.inl rfl,.inl rfl,.inr rfl,.inr rfl,.inr rfl,.inr rfl,.inr rfl,.inr rfl,.inr ?_,.inl rfl,.inl rfl,.inl rfl,.inl rfl,.inl rfl,.inl rfl,trivial⟩
   rw[sF,aV,aV];rfl
  refine eY 14 rfl ?_
  refine aI (OS 16 17 (fh a7) (fh a7) rfl nd (by decide)) ?_
  refine aI (lO (tgt:=.tup [5,18]) (o:=.nx [.val (pH ns),.val (.int (g_ ns)),.val (.int (bR ns)),.val (.int (fY ns)),.val (.list ((cG (g_ ns)).map kK)),.un,.un,.un,.val (.int (hV (bR ns))),.val (fE (placesOf (bR ns))),.val (fE ((placesOf (bR ns)).take (hV (bR ns)))),.val (fE (linesOf (bR ns))),.val (fE (orderOf (bR ns))),.val (.list ((bZ (fY ns) (orderOf (bR ns)) (linesOf (bR ns))).map eE)),.val (.list (((cv (linesOf (bR ns)).length).map (roomAt (bR ns) (bZ (fY ns) (orderOf (bR ns)) (linesOf (bR ns))) (linesOf (bR ns)))).map jU)),.un,.own ((h_ (fY ns) (bZ (fY ns) (orderOf (bR ns)) (linesOf (bR ns))) (cG (g_ ns)) ((bZ (fY ns) (orderOf (bR ns)) (linesOf (bR ns))).length)).map rK),.own ((jl (fY ns) (bZ (fY ns) (orderOf (bR ns)) (linesOf (bR ns))) ((bZ (fY ns) (orderOf (bR ns)) (linesOf (bR ns))).length)).map tj),.un,.un,.un]) dP rfl (og (ds:=(bZ (fY ns) (orderOf (bR ns)) (linesOf (bR ns))).map eE) (ai 13 rfl) n.Nv)
   (ik rfl (b_ (bP (i:=5) nd rfl (by first|exact bq rfl|exact di rfl)) (b_ (bP (i:=18) nd rfl (by first|exact bq rfl|exact di rfl)) (fP)))) (λi=>[.val (pH ns),.val (.int (g_ ns)),.val (.int (bR ns)),.val (.int (fY ns)),.val (.list ((cG (g_ ns)).map kK)),.un,.un,.un,.val (.int (hV (bR ns))),.val (fE (placesOf (bR ns))),.val (fE ((placesOf (bR ns)).take (hV (bR ns)))),.val (fE (linesOf (bR ns))),.val (fE (orderOf (bR ns))),.val (.list ((bZ (fY ns) (orderOf (bR ns)) (linesOf (bR ns))).map eE)),.val (.list (((cv (linesOf (bR ns)).length).map (roomAt (bR ns) (bZ (fY ns) (orderOf (bR ns)) (linesOf (bR ns))) (linesOf (bR ns)))).map jU)),.un,.own ((h_ (fY ns) (bZ (fY ns) (orderOf (bR ns)) (linesOf (bR ns))) (cG (g_ ns)) (i)).map rK),.own ((jl (fY ns) (bZ (fY ns) (orderOf (bR ns)) (linesOf (bR ns))) (i)).map tj),.un,.un,.un]) (bZ (fY ns) (orderOf (bR ns)) (linesOf (bR ns))).length rfl (by rw[dM,aj];exact ay _) (λi d hi hd=>?_) (.inl ⟨by rw[dM,aj],rfl⟩)) ?_
  ·obtain⟨x,hx,rfl⟩:=jM hd
   obtain⟨dk,Di,rfl⟩:∃dk,(bZ (fY ns) (orderOf (bR ns)) (linesOf (bR ns)))[i]?=some dk/\x=eE dk:=by
    rw[aW,ax (by omega)]at hx
    cases hx;exact⟨_,ax (by omega),rfl⟩
   refine⟨_,rfl,?_⟩
   refine aI (dq 7 (d:=.int (cY (fY ns) (110+i))) (bU C1 qd (aq (ai 3 rfl) (aq (eM aD (ai 5 rfl)) a7)) ⟨fY ns,110+(i:Int),rfl,by first|decide|omega,by first|decide|omega,rfl⟩) nd) ?_
   have tsu:=qV (c:=fY ns) (kinds:=(cG (g_ ns))) Di;have hsu:=vY (c:=fY ns) Di;have tle:=qX (fY ns) (bZ (fY ns) (orderOf (bR ns)) (linesOf (bR ns))) (cG (g_ ns)) (by omega) i (by omega)
   have hle:=qY (fY ns) (bZ (fY ns) (orderOf (bR ns)) (linesOf (bR ns))) i (by omega)
   rw[tsu,hsu];have m0:=De (fY ns) (110+i)
   generalize cY (fY ns) (110+i)=m at *
   refine aI (lO (tgt:=.tup [19,20]) (o:=.nx [.val (pH ns),.val (.int (g_ ns)),.val (.int (bR ns)),.val (.int (fY ns)),.val (.list ((cG (g_ ns)).map kK)),.val (.int i),.un,.val (.int m),.val (.int (hV (bR ns))),.val (fE (placesOf (bR ns))),.val (fE ((placesOf (bR ns)).take (hV (bR ns)))),.val (fE (linesOf (bR ns))),.val (fE (orderOf (bR ns))),.val (.list ((bZ (fY ns) (orderOf (bR ns)) (linesOf (bR ns))).map eE)),.val (.list (((cv (linesOf (bR ns)).length).map (roomAt (bR ns) (bZ (fY ns) (orderOf (bR ns)) (linesOf (bR ns))) (linesOf (bR ns)))).map jU)),.un,.own ((h_ (fY ns) (bZ (fY ns) (orderOf (bR ns)) (linesOf (bR ns))) (cG (g_ ns)) i++gO m dk.name (cG (g_ ns)) ((cG (g_ ns)).length)).map rK),.own ((jl (fY ns) (bZ (fY ns) (orderOf (bR ns)) (linesOf (bR ns))) (i)).map tj),.val (eE dk),.un,.un]) dP rfl (og (ds:=(cG (g_ ns)).map kK) (ai 4 rfl) n.Nv)
    (ik rfl (b_ (bP (i:=19) nd rfl (by first|exact bq rfl|exact di rfl)) (b_ (bP (i:=20) nd rfl (by first|exact bq rfl|exact di rfl)) (fP)))) (λj=>[.val (pH ns),.val (.int (g_ ns)),.val (.int (bR ns)),.val (.int (fY ns)),.val (.list ((cG (g_ ns)).map kK)),.val (.int i),.un,.val (.int m),.val (.int (hV (bR ns))),.val (fE (placesOf (bR ns))),.val (fE ((placesOf (bR ns)).take (hV (bR ns)))),.val (fE (linesOf (bR ns))),.val (fE (orderOf (bR ns))),.val (.list ((bZ (fY ns) (orderOf (bR ns)) (linesOf (bR ns))).map eE)),.val (.list (((cv (linesOf (bR ns)).length).map (roomAt (bR ns) (bZ (fY ns) (orderOf (bR ns)) (linesOf (bR ns))) (linesOf (bR ns)))).map jU)),.un,.own ((h_ (fY ns) (bZ (fY ns) (orderOf (bR ns)) (linesOf (bR ns))) (cG (g_ ns)) i++gO m dk.name (cG (g_ ns)) (j)).map rK),.own ((jl (fY ns) (bZ (fY ns) (orderOf (bR ns)) (linesOf (bR ns))) (i)).map tj),.val (eE dk),.un,.un]) (cG (g_ ns)).length (by show([.val (pH ns),.val (.int (g_ ns)),.val (.int (bR ns)),.val (.int (fY ns)),.val (.list ((cG (g_ ns)).map kK)),.val (.int i),.un,.val (.int m),.val (.int (hV (bR ns))),.val (fE (placesOf (bR ns))),.val (fE ((placesOf (bR ns)).take (hV (bR ns)))),.val (fE (linesOf (bR ns))),.val (fE (orderOf (bR ns))),.val (.list ((bZ (fY ns) (orderOf (bR ns)) (linesOf (bR ns))).map eE)),.val (.list (((cv (linesOf (bR ns)).length).map (roomAt (bR ns) (bZ (fY ns) (orderOf (bR ns)) (linesOf (bR ns))) (linesOf (bR ns)))).map jU)),.un,.own ((h_ (fY ns) (bZ (fY ns) (orderOf (bR ns)) (linesOf (bR ns))) (cG (g_ ns)) i++gO m dk.name (cG (g_ ns)) (0)).map rK),.own ((jl (fY ns) (bZ (fY ns) (orderOf (bR ns)) (linesOf (bR ns))) (i)).map tj),.val (eE dk),.un,.un]:List Slot)=_;rw[show gO m dk.name (cG (g_ ns)) 0=[]from rfl,cF];rfl) (by rw[dM,aj];exact ay _) (λj d hj hd=>?_) (.inl ⟨by rw[dM,aj],rfl⟩)) ?_
   ·obtain⟨x,hx,rfl⟩:=jM hd
    obtain⟨kd,zaD,rfl⟩:∃kd,(cG (g_ ns))[j]?=some kd/\x=kK kd:=by
     rw[aW,ax (by omega)]at hx
     cases hx;exact⟨_,ax (by omega),rfl⟩
    have rle:=tq m dk.name (cG (g_ ns)) j;have jj0:(0:Int)<=(j:Int)*j:=Int.mul_nonneg (by omega) (by omega)
    have jj1:(j:Int)*j<=60*60:=Int.mul_le_mul (by omega) (by omega) (by omega) (by omega)
    refine⟨_,rfl,?_⟩
    rw[uN zaD];by_cases ht:decide (0<m/((j:Int)+7)%3)=true
    ·have et:vf m dk.name (kd,j)=some (dk.name,kd.1,1+m/((j:Int)*j+2)%6):=by show(if _ then _ else _)=_;rw[qQ3 ht]
     rw[et];refine iP (bw (eu (VT.to (Bo (cU (fB (ai 7 rfl) (eM (ai 19 rfl) aD) ⟨by omega,by omega⟩) aD (by decide)) aD) ht) (bw (eU 16 rfl (d:=rK (dk.name,kd.1,1+m/((j:Int)*j+2)%6)) (gu (aq (cC (ai 18 rfl) aD rfl) (aq (cC (ai 20 rfl) aD rfl) (aq (eM aD (cU (fB (ai 7 rfl) (eM (u6 (ai 19 rfl) (ai 19 rfl) (.inl ⟨by omega,by omega⟩)) aD) ⟨by omega,by omega⟩) aD (by decide))) a7)))) (fV (by simp only[aj,aH];omega)))))) ⟨.inr rfl,.inr rfl,.inr rfl,.inr rfl,.inr rfl,.inr rfl,.inl rfl,.inr rfl,.inr rfl,.inr rfl,.inr rfl,.inr rfl,.inr rfl,.inr rfl,.inr rfl,.inl rfl,.inr ?_,.inr rfl,.inr rfl,.inl rfl,.inl rfl,trivial⟩
     rw[<-c6,aV (l₂:=Option.toList _)];rfl
    ·have et:vf m dk.name (kd,j)=none:=by show(if _ then _ else _)=_;rw[qQ2 ht]
     rw[et];refine iP (bw (cy (VT.to (Bo (cU (fB (ai 7 rfl) (eM (ai 19 rfl) aD) ⟨by omega,by omega⟩) aD (by decide)) aD) (by simpa using ht)) bS)) ⟨.inr rfl,.inr rfl,.inr rfl,.inr rfl,.inr rfl,.inr rfl,.inl rfl,.inr rfl,.inr rfl,.inr rfl,.inr rfl,.inr rfl,.inr rfl,.inr rfl,.inr rfl,.inl rfl,.inr ?_,.inr rfl,.inr rfl,.inl rfl,.inl rfl,trivial⟩
     rw[Option.toList_none,cF]
   have rle:=tq m dk.name (cG (g_ ns)) (cG (g_ ns)).length;have e5:dF (.int (m/5%4)) (.int 0)=decide (m/5%4=0):=oh _ _;by_cases h5:m/5%4=0
   ·have eh:k6 m dk.name=[(dk.name,m/20%9,9+m/180%20),(dk.name,25+m/3600%20,50+m/72000%40)]:=by unfold k6;rw[qQ3 h5]
    rw[eh];refine iP (bw (eu (VT.to (b0 (k:=1) qd (c0 20 _) (c0 20 _) (cU (fB (ai 7 rfl) aD ⟨by decide,by decide⟩) aD (by decide)) aD) (by rw[e5,qQ1 h5])) (aI (eU 17 rfl (d:=tj (dk.name,m/20%9,9+m/180%20)) (gu (aq (cC (ai 18 rfl) aD rfl) (aq (cU (fB (ai 7 rfl) aD ⟨by decide,by decide⟩) aD (by decide)) (aq (eM aD (cU (fB (ai 7 rfl) aD ⟨by decide,by decide⟩) aD (by decide))) a7)))) (fV (by simp only[aj];omega))) (bw (eU 17 rfl (d:=tj (dk.name,25+m/3600%20,50+m/72000%40)) (gu (aq (cC (ai 18 rfl) aD rfl) (aq (eM aD (cU (fB (ai 7 rfl) aD ⟨by decide,by decide⟩) aD (by decide))) (aq (eM aD (cU (fB (ai 7 rfl) aD ⟨by decide,by decide⟩) aD (by decide))) a7)))) (fV (by simp only[aj,aH,aX,cz];omega))))))) ⟨.inr rfl,.inr rfl,.inr rfl,.inr rfl,.inr rfl,.inl rfl,.inl rfl,.inl rfl,.inr rfl,.inr rfl,.inr rfl,.inr rfl,.inr rfl,.inr rfl,.inr rfl,.inl rfl,.inr rfl,.inr ?_,.inl rfl,.inl rfl,.inl rfl,trivial⟩
    rw[aV (l₂:=[_,_]),c6];rfl
   ·have eh:k6 m dk.name=[]:=by unfold k6;rw[qQ2 h5]
    rw[eh,cF];exact iP (bw (cy (VT.to (b0 (k:=1) qd (c0 20 _) (c0 20 _) (cU (fB (ai 7 rfl) aD ⟨by decide,by decide⟩) aD (by decide)) aD) (by rw[e5,qQ0 h5])) bS)) ⟨.inr rfl,.inr rfl,.inr rfl,.inr rfl,.inr rfl,.inl rfl,.inl rfl,.inl rfl,.inr rfl,.inr rfl,.inr rfl,.inr rfl,.inr rfl,.inr rfl,.inr rfl,.inl rfl,.inr rfl,.inr rfl,.inl rfl,.inl rfl,.inl rfl,trivial⟩
  refine eY 16 rfl ?_
  refine eY 17 rfl ?_
  refine bw (cD (Ip (.cons aL (ai 4 rfl) (.cons aL (ai 10 rfl) (.cons aL (ai 14 rfl) (.cons aL (ai 13 rfl) (.cons aL (ai 16 rfl) (.cons aL (ai 17 rfl) (.cons aL (VO.ve (fh a7)) .nil))))))) (show([("kinds":Str),"gates","lines","desks","times","hours","paces"]).Nodup by symm) (by simp[kD]) (by show 7<=15;decide)))
end
end Mg
namespace Mg
open L2 PySem PyProof.Rows
variable{n:Int}{c:Nat}{x:Str}
theorem qx(p:Pl):jv (kD p) "kinds"=some (.list (p.kinds.map kK)):=fZ rfl
theorem tD(p:Pl):jv (kD p) "gates"=some (fE p.gates):=(cP (show ¬(("kinds":Str)="gates") by symm)).trans (fZ rfl)
theorem oN(p:Pl):jv (kD p) "lines"=some (.list (p.lines.map jU)):=(cP (show ¬(("kinds":Str)="lines") by symm)).trans ((cP (show ¬(("gates":Str)="lines") by symm)).trans (fZ rfl))
theorem vZ(p:Pl):jv (kD p) "desks"=some (.list (p.desks.map eE)):=(cP (show ¬(("kinds":Str)="desks") by symm)).trans ((cP (show ¬(("gates":Str)="desks") by symm)).trans ((cP (show ¬(("lines":Str)="desks") by symm)).trans (fZ rfl)))
theorem EB(p:Pl):jv (kD p) "times"=some (.list (p.times.map rK)):=(cP (show ¬(("kinds":Str)="times") by symm)).trans ((cP (show ¬(("gates":Str)="times") by symm)).trans ((cP (show ¬(("lines":Str)="times") by symm)).trans ((cP (show ¬(("desks":Str)="times") by symm)).trans (fZ rfl))))
theorem Mm(p:Pl):jv (kD p) "hours"=some (.list (p.hours.map tj)):=(cP (show ¬(("kinds":Str)="hours") by symm)).trans ((cP (show ¬(("gates":Str)="hours") by symm)).trans ((cP (show ¬(("lines":Str)="hours") by symm)).trans ((cP (show ¬(("desks":Str)="hours") by symm)).trans ((cP (show ¬(("times":Str)="hours") by symm)).trans (fZ rfl)))))
theorem EC(p:Pl):jv (kD p) "paces"=some (.list (p.paces.map uM)):=(cP (show ¬(("kinds":Str)="paces") by symm)).trans ((cP (show ¬(("gates":Str)="paces") by symm)).trans ((cP (show ¬(("lines":Str)="paces") by symm)).trans ((cP (show ¬(("desks":Str)="paces") by symm)).trans ((cP (show ¬(("times":Str)="paces") by symm)).trans ((cP (show ¬(("hours":Str)="paces") by symm)).trans (fZ rfl))))))
def pickOf{α:Type}(l:List α)(d:α)(j:Int):α:=l.getD (j%l.length).toNat d
theorem jm{α:Type}{l:List α}{d:α}{F:α->ao}(h:1<=l.length)(j:Int):tX (l.map F) (j%(l.length:Int))=some (F (pickOf l d j))/\pickOf l d j∈l:=by
 unfold pickOf;have a1:0<=j%(l.length:Int):=bE _ (by omega)
 have a2:j%(l.length:Int)<l.length:=bG _ (by omega)
 generalize j%(l.length:Int)=i at *
 obtain⟨n,rfl⟩:=lY a1;have hn:n<l.length:=by omega
 have e:l.getD ((n:Int)).toNat d=l[n]:=by rw[fN,aJ,ax hn];rfl
 rw[e];exact⟨ck (by rw[aW,ax hn];rfl),dv hn⟩
structure Ka(K:au):Prop where
 ss:dH K (.type "str") (.type "str")=some true
 is:dH K (.type "int") (.type "str")=some false
 ts:dH K (.type "tuple") (.type "str")=some false
 ls:dH K (.type "list") (.type "str")=some false
 ii:dH K (.type "int") (.type "int")=some true
 ti:dH K (.type "tuple") (.type "int")=some false
 li:dH K (.type "list") (.type "int")=some false
 ib:dH K (.type "int") (.type "bool")=some false
 tt:dH K (.type "tuple") (.type "tuple")=some true
 tl:dH K (.type "tuple") (.type "list")=some false
 lt:dH K (.type "list") (.type "tuple")=some false
 ll:dH K (.type "list") (.type "list")=some true
def zaE:ao->Bool
 | .none=>true
 |_=>false
theorem tE{K:au}{d:ao}:CV K (λx y H Q=>y=.non/\Q (.bl (decide (x=.non))) H) d .none (.bool (zaE d)):=λv u H0 H Q s r1 r2 k=>by
 cases r2;refine⟨rfl,k _ _ _ (.refl s) ?_⟩
 cases r1<;>exact .bl _
structure Na(mg:Str->Option aG):Prop extends Nm mg where
 str:mg "str"=none
 all:mg "all"=none
def BL(c:Nat):List (List Nat)->List Nat
 | []=>[]
 | [x]=>x
 |x::y::r=>x++c::BL c (y::r)
theorem ED:∀{a b r s:List Nat},c∉a->c∉b->a++c::r=b++c::s->a=b/\r=s
 | [],[],r,s,_,_,h=>⟨rfl,(kM h).2⟩
 | [],y::b,r,s,_,hb,h=>qQ7 (kM h).1 (λz=>hb (by rw[z];exact aS))
 |x::a,[],r,s,ha,_,h=>qQ7 (kM h).1 (λz=>ha (by rw[<-z];exact aS))
 |x::a,y::b,r,s,ha,hb,h=>by
  obtain⟨h1,h2⟩:=kM h;obtain⟨h3,h4⟩:=ED (λz=>ha (aZ _ z)) (λz=>hb (aZ _ z)) h2
  exact⟨by rw[h1,h3],h4⟩
theorem BM{c:Nat}:∀{ps qs:List (List Nat)},ps≠[]->qs≠[]->(∀p∈ps,c∉p)->(∀p∈qs,c∉p)->BL c ps=BL c qs->ps=qs
 | [],_,h,_,_,_,_=>qQ7 rfl h
 |_,[],_,h,_,_,_=>qQ7 rfl h
 | [x],[y],_,_,_,_,h=>by have h:x=y:=h;rw[h]
 | [x],y::y2::qs,_,_,hp,_,h=>by
  have h:x=y++c::BL c (y2::qs):=h;exact qQ7 (by rw[h];exact bX _ aS) (hp x aS)
 |x::x2::ps,[y],_,_,_,hq,h=>by
  have h:x++c::BL c (x2::ps)=y:=h;exact qQ7 (by rw[<-h];exact bX _ aS) (hq y aS)
 |x::x2::ps,y::y2::qs,_,_,hp,hq,h=>by
  obtain⟨h1,h2⟩:=ED (hp x aS) (hq y aS) h;have:=BM (ps:=x2::ps) (qs:=y2::qs) (by simp) (by simp) (λp z=>hp p (aZ _ z)) (λp z=>hq p (aZ _ z)) h2
  rw[h1,this]
theorem add_list(x y:Str):(x++y).cps.toList=x.cps.toList++y.cps.toList:=by
 show(x.cps++y.cps).toList=_
 simp
theorem str_inj{y: Str}(h:x.cps.toList=y.cps.toList):x=y:=Str.ext' (Array.toList_inj.mp h)
theorem join_list(c:Nat):∀ps:List Str,(cL (one c) ps).cps.toList=BL c (ps.map λp=>p.cps.toList)
 | []=>rfl
 | [x]=>rfl
 |x::y::r=>by
  show(x++one c++cL (one c) (y::r)).cps.toList=_
  rw[add_list,add_list,join_list c (y::r)];show x.cps.toList ++ [c]++_=x.cps.toList++c::_;simp
theorem v3(x y:Str):cR x y≠[]:=by
 intro h;unfold cR at h
 split at h
 ·cases h
 ·split at h
  ·cases h
  ·have:=qQ6 iG h
   rw[x9]at this;simp at this
theorem qZ{ps:List Str}(h:ps≠[])(hf:∀p∈ps,c∉p.cps.toList):cR (cL (one c) ps) (one c)=ps:=by
 have h1:=oC (cL (one c) ps) (one c);have h2:=oE (cL (one c) ps) c;have h3:=v3 (cL (one c) ps) (one c)
 generalize hq:cR (cL (one c) ps) (one c)=qs at *
 have h2:∀p∈qs,c∉p.cps.toList:=by rw[<-hq];exact oE (cL (one c) ps) c
 have e:=qQ6 (λs:Str=>s.cps.toList) h1
 simp only[join_list]at e;have:=BM (c:=c) (ps:=qs.map λp=>p.cps.toList) (qs:=ps.map λp=>p.cps.toList) (by simpa using h3) (by simpa using h)
  (λp hp=>by obtain⟨q,hq,rfl⟩:=aA.mp hp;exact h2 q hq) (λp hp=>by obtain⟨q,hq,rfl⟩:=aA.mp hp;exact hf q hq) e
 have inj:∀{l m:List Str},(l.map λp=>p.cps.toList)=(m.map λp=>p.cps.toList)->l=m:=by
  intro l
  induction l with
  |nil=>intro m hm;cases m with|nil=>rfl|cons _ _=>cases hm
  |cons x l ih=>
   intro m hm;cases m with
   |nil=>cases hm
   |cons y m=>
    obtain⟨a1,a2⟩:=kM hm;rw[str_inj a1,ih a2]
 exact inj this
theorem EE(c:Nat):∀{ps qs:List Str},ps≠[]->qs≠[]->cL (one c) (ps++qs)=cL (one c) ps++one c++cL (one c) qs
 | [],_,h,_=>qQ7 rfl h
 | [x],q::qs,_,_=>rfl
 | [x],[],_,h=>qQ7 rfl h
 |x::y::r,qs,_,h=>by
  show x++one c++cL (one c) ((y::r)++qs)=_;rw[EE c (ps:=y::r) (by simp) h]
  apply str_inj;show _=(x++one c++cL (one c) (y::r)++one c++cL (one c) qs).cps.toList;simp only[add_list,c6]
theorem JY(c:Nat)(x y:Str):cR (x++one c++y) (one c)=cR x (one c)++cR y (one c):=by
 have e:x++one c++y=cL (one c) (cR x (one c)++cR y (one c)):=by
  rw[EE c (v3 _ _) (v3 _ _),oC,oC]
 rw[e];refine qZ (by simp[v3]) λp hp=>?_
 rcases bp.mp hp with hp|hp
 ·exact oE x c p hp
 ·exact oE y c p hp
theorem zL(h:c∉x.cps.toList):cR x (one c)=[x]:=by
 have:=qZ (c:=c) (ps:=[x]) (by simp) (λp hp=>by rw[aK.mp hp];exact h)
 exact this
theorem xm:(" ":Str)=one 32:=by symm
theorem Mp:("\n":Str)=one 10:=by symm
theorem mO(x y:Str):wordsOf (x++" "++y)=wordsOf x++wordsOf y:=by
 unfold wordsOf;rw[xm,JY,o9]
theorem vh:wordsOf ""=[]:=by
 unfold wordsOf;rw[xm,zL (by symm)]
 rfl
theorem xn{w:Str}(h:w≠"")(hb:32∉w.cps.toList):wordsOf w=[w]:=by
 unfold wordsOf;rw[xm,zL hb,e8,qQ3 (by simpa using h)]
 rfl
theorem eV(x y z:Str):x++y++z=x++(y++z):=by
 apply str_inj;simp only[add_list,c6]
theorem JZ(x:Str):x++""=x:=by
 apply str_inj;rw[add_list];show x.cps.toList ++ []=_;simp
theorem empty_app(x:Str):""++x=x:=by
 apply str_inj;rw[add_list];rfl
theorem zM(x:Str)(n:Nat):jY x (n+1)=x++jY x n:=by
 apply str_inj;rw[add_list]
 show(x.cps++(jY x n).cps).toList=_
 simp
theorem GF(n:Nat)(y:Str):wordsOf (jY " " n++y)=wordsOf y:=by
 induction n with
 |zero=>rw[show jY " " 0="" from rfl,empty_app]
 |succ n ih=>
  have e:jY " " (n+1)++y=""++" "++(jY " " n++y):=by rw[zM,empty_app,eV]
  rw[e,mO,vh,ih];rfl
theorem J0(n:Nat)(x y:Str):wordsOf (x++jY " " (n+1)++y)=wordsOf x++wordsOf y:=by
 have e:x++jY " " (n+1)++y=x++" "++(jY " " n++y):=by rw[zM];apply str_inj;simp only[add_list,c6]
 rw[e,mO,GF]
theorem zN(n:Nat):∀{ws:List Str},(∀w∈ws,w≠""/\32∉w.cps.toList)->wordsOf (cL (jY " " (n+1)) ws)=ws
 | [],_=>vh
 | [w],h=>xn (h w aS).1 (h w aS).2
 |w::v::ws,h=>by
  show wordsOf (w++jY " " (n+1)++cL (jY " " (n+1)) (v::ws))=_;rw[J0,xn (h w aS).1 (h w aS).2,zN n (λu hu=>h u (aZ _ hu))]
  rfl
theorem nr{ws:List Str}(h:∀w∈ws,w≠""/\32∉w.cps.toList):wordsOf (cL " " ws)=ws:=by
 have e:jY " " (0+1)=" ":=by rw[zM,show jY " " 0="" from rfl,JZ]
 have:=zN 0 h;rw[e]at this;exact this
theorem BO{rows:List Str}(h0:rows≠[])(h:∀r∈rows,10∉r.cps.toList):rowsOf (cL "\n" rows)=rows.zipIdx.filterMap λp=>if(wordsOf p.1).isEmpty then none else some (p.2,wordsOf p.1):=by
 unfold rowsOf;rw[Mp,qZ h0 h]
def cK(n:Int):Str:=o4 (toString n)
theorem Dj{m:Nat}(h:¬m<10):ji 10 m=ji 10 (m/10) ++ [Nat.digitChar (m%10)]:=by
 have hm:m%10<10:=Nat.mod_lt m (by decide)
 have t:ji 10 (m/10)++ji 10 (m%10)=ji 10 (10*(m/10)+m%10):=Nat.toDigits_append_toDigits (by decide) (by omega) hm
 rw[Nat.div_add_mod]at t;rw[<-t,lZ hm]
theorem IG:∀(k m:Nat),1<=k->m<10^k->(ji 10 m).length<=k
 |0,_,h,_=>by omega
 |k+1,m,_,h=>by
  by_cases hm:m<10
  ·rw[lZ hm];simp
  ·rw[Dj hm,aH]
   have hk:1<=k:=by
    rcases wI k with rfl|hk
    ·exact qQ7 h (by simpa using hm)
    ·exact hk
   have h10:m/10<10^k:=by rw[Nat.div_lt_iff_lt_mul (by decide)];rw[Nat.pow_succ]at h;exact h
   have:=IG k (m/10) hk h10;simp only[gS];omega
theorem Px(m:Nat):1<=(ji 10 m).length:=by
 by_cases hm:m<10
 ·rw[lZ hm];simp
 ·rw[Dj hm,aH];simp
theorem Mq(m:Nat)(h:0<m):∃c,(ji 10 m).head?=some c/\c≠'0':=by
 induction m using Nat.strongRecOn with
 |_ m ih=>
  by_cases hm:m<10
  ·rw[lZ hm]
   refine⟨_,rfl,?_⟩
   have:∀d:Nat,d<10->0<d->Nat.digitChar d≠'0':=by decide
   exact this m hm h
  ·obtain⟨c,h1,h2⟩:=ih (m/10) (by omega) (by omega)
   refine⟨c,?_,h2⟩
   rw[Dj hm,List.head?_append,h1]
   rfl
theorem xo(h0:0<=n):(cK n).cps.toList=(ji 10 n.toNat).map Char.toNat:=by
 obtain⟨m,rfl⟩:=lY h0;exact PySem.W.KIN.signs_num m
theorem mP(h0:0<=n)(hc:c∈(cK n).cps.toList):48<=c/\c<=57:=by
 rw[xo h0]at hc;obtain⟨ch,Kl,e⟩:=aA.mp hc;have r:=digit_range (Nat.isDigit_of_mem_toDigits (by decide) (by decide) Kl)
 rw[<-e];exact r
theorem yF(h0:0<=n)(h1:n<1000000):1<=(cK n).length/\(cK n).length<=6:=by
 have e:(cK n).length=(ji 10 n.toNat).length:=by
  show(cK n).cps.size=_
  rw[<-df,xo h0,aj]
 rw[e];exact⟨Px _,IG 6 _ (by decide) (by omega)⟩
theorem EF:("0123456789":Str).cps.toList=(cv 10).map (48 + ·):=by symm
theorem nQ(h0:0<=n)(h1:n<1000000):wD (cK n):=by
 refine⟨by have:=yF h0 h1;omega,(oi _).mpr λc hc=>?_⟩
 have:=mP h0 hc;omega
theorem zO(h0:0<=n)(h1:n<1000000):isNumber (cK n)=true:=by
 obtain⟨l1,l2⟩:=yF h0 h1;have em:pW "0123456789" 6 (cK n)=true:=by
  unfold pW;rw[qQ1 (by omega),qQ1 (by omega),ly,ly,dU]
  intro c hc;have hd:=mP h0 hc;have:C6 (one c) "0123456789"=decide (c∈("0123456789":Str).cps.toList):=vJ ..;rw[this,EF];exact qQ1 (aA.mpr ⟨c-48,dB.mpr (by omega),by omega⟩)
 unfold isNumber;rw[em,ly];by_cases hn:n=0
 ·subst hn
  rw[qQ1 (show cK 0="0" by symm)]
  rfl
 ·obtain⟨c,c1,c2⟩:=Mq n.toNat (by omega)
  have hh:(cK n).cps.toList.head?=some c.toNat:=by
   rw[xo h0,List.head?_map,c1]
   rfl
  rw[hh];have:one c.toNat≠"0":=by
   intro z;have z2:(one c.toNat).cps.toList=("0":Str).cps.toList:=by rw[z]
   have z3:[c.toNat]=[48]:=z2;have z4:c.toNat=48:=by simpa using z3
   exact c2 (Char.toNat_inj.mp z4)
  show(_ || !decide (one c.toNat="0"))=true
  rw[qQ0 this];simp
theorem num_reads(h0:0<=n)(h1:n<1000000):intText? (cK n)=some n:=PySem.W.KIN.num_reads h0 (by omega)
theorem lS(h0:0<=n)(h1:n<1000000):cK n≠""/\32∉(cK n).cps.toList/\10∉(cK n).cps.toList:=by
 refine⟨λz=>?_,λz=>?_,λz=>?_⟩
 ·have:=(yF h0 h1).1
  rw[z]at this;exact qQ7 this (by decide)
 ·have:=mP h0 z;omega
 ·have:=mP h0 z;omega
theorem gy(h:cZ x):x≠""/\32∉x.cps.toList/\10∉x.cps.toList:=by
 refine⟨λz=>?_,λz=>?_,λz=>?_⟩
 ·have:=h.1
  rw[z]at this;exact qQ7 this (by decide)
 ·have:=h.2.2 _ z;omega
 ·have:=h.2.2 _ z;omega
end Mg
namespace Mg
open L2 PySem PyProof.Rows
seal L2.VE L2.VS L2.vB L2.VT L2.VO L2.Ox
variable{fd:gf}
def cV(i:Int):Prop:=0<=i/\i<1000000
theorem cV.log{i:Int}(h:cV i):i.natAbs.log2<1920:=by
 have:i.natAbs<2^20:=by have:=h.1;have:=h.2;omega
 have h2:i.natAbs.log2<=20:=by
  rcases wI i.natAbs with e|e
  ·rw[e];decide
  ·exact oZ ((Nat.log2_lt (by omega)).mpr this)
 omega
def GH:ao->Prop
 | .none=>True
 | .int i=>cV i
 | .str x=>x=""\/cZ x
 |_=>False
def eT:ao->Str
 | .str x=>if x="" then "-" else x
 | .int i=>cK i
 |_=>"-"
section
variable{P:bL}{w:cH}{K:au}{mg:Str->Option aG}{base:dw}{f:aR}{k:Nat}
theorem WC:c7 ["_law_thing"] ["_law_thing"] (bV (top 47)):=⟨rfl,rfl,rfl,by symm,rfl,by symm,by symm⟩
def Rda(ds:List ao)(d:ao):Prop:=∃x,ds=[x]/\GH x/\d=.str (eT x)
theorem zaG(F:mw K "_law_dash" "_law_dash" (top 47) f fd)(n:Na mg):fA P w K mg base kR 1 f fd ["_law_thing"] (iE K Rda):=
 ko F WC (λ_ _ h=>by obtain⟨_,rfl,_⟩:=h;rfl) λ_ _ h=>by
  obtain⟨x,rfl,ho,rfl⟩:=h;intro iD A outer s H E hr;have l0:Lay 20 (.str ""):=bH (by symm)
  cases x with
  |none=>exact dS (eu (VT.to (kY (k2:=true) (jQ oG tE (ai 0 rfl) jP (jF _)) (λz=>by cases z)) rfl) (bw (cD aL))) rfl
  |int i=>
   refine aI (cy (VT.to (kY (jQ oG tE (ai 0 rfl) jP (jF _)) (λ_=>b0 hr (c0 20 _) l0 (ai 0 rfl) aL)) rfl) bS) ?_
   exact bw (cD (mV (ai 0 rfl) (cV.log ho) n.str))
  |str z=>
   have oz:nO z:=by
    rcases ho with rfl|ho
    ·show cX (.str ("":Str))=true;symm
    ·exact ho.ok.2
   by_cases hz:z=""
   ·refine dS (eu (VT.to (kY (jQ oG tE (ai 0 rfl) jP (jF _)) (λ_=>b0 hr (bH oz) l0 (ai 0 rfl) aL)) ?_) (bw (cD (VE.to aL ?_)))) rfl
    ·rw[cn,qQ1 hz];rfl
    ·show aQ "-"=.str (if z="" then "-" else z);rw[qQ3 hz]
   ·refine aI (cy (VT.to (kY (jQ oG tE (ai 0 rfl) jP (jF _)) (λ_=>b0 hr (bH oz) l0 (ai 0 rfl) aL)) ?_) bS) ?_
    ·rw[cn,qQ0 hz];rfl
    ·refine bw (cD (VE.to (OW (ai 0 rfl) n.str) ?_))
     show aQ z=.str (if z="" then "-" else z);rw[qQ2 hz]
  |_=>exact ho.elim
def v5:Rl->Prop
 | .meet=>True
 | .gather m a=>cV m/\cV a
 | .many m=>cV m
 | .rank none=>True
 | .rank (some b)=>cV b
 | .turns s=>s.length<=60/\∀z∈s,cV z
 | .eldest=>True
def dm:Rl->List Str
 | .turns s=>"turns"::s.map cK
 |r=>pX r::(tf r).map eT
def eI(r:Rl):Str:=cL " " (dm r)
theorem WD:c7 ["_law_rule_here"] ["_law_rule_here"] (bV (top 48)):=⟨rfl,rfl,rfl,by symm,rfl,by symm,by symm⟩
def Rrt(ds:List ao)(d:ao):Prop:=∃r,ds=[IC r]/\v5 r/\d=.str (eI r)
def WG:ao->Option ao
 | .int i=>some (.str (cK i))
 |_=>none
theorem Mr(l:List Int):(l.map iO).filterMap WG=(l.map cK).map .str:=by
 rw[cw,bf];exact filterMap_some λk _=>rfl
def QK:ao->Option ao:=λd=>some (.str (eT d))
theorem J1(l:List ao):l.filterMap QK=(l.map eT).map .str:=by
 rw[bf];exact filterMap_some λk _=>rfl
theorem fM{i:Int}(h:cV i):(cK i).length<=6:=(yF h.1 h.2).2
theorem qy:∀{l:List Str}{b:Nat},(∀x∈l,x.length<=b)->(l.map (·.length)).sum<=l.length*b
 | [],_,_=>by simp
 |x::l,b,h=>by
  have h1:=h x aS;have h2:=qy λy hy=>h y (aZ _ hy)
  rw[aN,qG,aX,Nat.add_mul];omega
theorem lq{d:ao}(h:GH d):(eT d).length<=8:=by
 cases d with
 |none=>decide
 |int i=>exact cj (fM h) (by decide)
 |str x=>
  show(if x="" then("-":Str)else x).length<=8
  split
  ·decide
  ·rename_i hx
   rcases h with h|h
   ·exact qQ7 h hx
   ·have:=h.2.1
    rw[df]at this;exact this
 |_=>exact h.elim
theorem zP{r:Rl}(ht:∀s,r≠.turns s)(h:v5 r):∀d∈tf r,GH d:=by
 intro d hd;cases r with
 |meet=>cases hd
 |eldest=>cases hd
 |gather m a=>
  rcases aE.mp hd with rfl|hd
  ·exact h.1
  ·rw[aK.mp hd];exact h.2
 |many m=>rw[aK.mp hd];exact h
 |rank b=>rw[aK.mp hd];cases b with|none=>trivial|some b=>exact h
 |turns s=>exact qQ7 rfl (ht s)
theorem zaH(F:mw K "_law_rule_text" "_law_rule_text" (top 48) f fd)(n:Na mg)(C:bO P w K mg base 1 "_law_dash" ["_law_thing"] (iE K Rda)):fA P w K mg base kR 2 f fd ["_law_rule_here"] (iE K Rrt):=
 ko F WD (λ_ _ h=>by obtain⟨_,rfl,_⟩:=h;rfl) λ_ _ h=>by
  obtain⟨r,rfl,ho,rfl⟩:=h;intro iD A outer s H E hr;have oR:nO (pX r):=by cases r<;>dsimp only[pX,nO]<;>symm
  have lT:Lay 20 (.str "turns"):=bH (by symm)
  have h0:tX (aQ (pX r)::tf r) 0=some (.str (pX r)):=ck (j:=0) rfl;by_cases ht:∃sh,r=.turns sh
  ·obtain⟨sh,rfl⟩:=ht
   have nc:(["_law_share"]:List Str).Nodup:=by symm
   refine dS (eu (VT.to (b0 (k:=1) hr (bH oR) lT (cC (ai 0 rfl) aD h0) aL) (by rw[cn];exact qQ1 rfl)) (bw (cD (mW (zs:=dm (.turns sh)) aL (VE.to (VO.ve (iw (d1:=[.str "turns"]) (d2:=(sh.map cK).map .str) (VO.ve (fh (aq aL a7))) (VO.ve (VO.to (fJ (own:=["_law_share"]) (cap:=[]) (N:=["_law_share"]) (cl:=[]) (tgt:=.one 0) (F:=WG) (ds:=sh.map .int) rfl ⟨rfl,by symm,by symm,rfl,rfl,by simp⟩ (zq (cC (d:=.tuple (sh.map .int)) (ai 0 rfl) aD (ck (j:=1) rfl))) (λf s3 H3=>bP (i:=0) nc rfl (bq rfl)) rfl
    (small (by rw[aj];have:=ho.1;omega)) (λd hd=>?_)) (Mr _))) (small (by simp only[aj,aX,cz];have:=ho.1;omega)))) rfl) ?_)))) rfl
   ·obtain⟨z,hz,rfl⟩:=aA.mp hd
    refine⟨_,rfl,λf s3 H3=>fQ,λr jT f s3 H3=>?_⟩
    cases jT;exact mV (ai 0 rfl) (cV.log (ho.2 z hz)) n.str
   ·have h1:=qy (l:=dm (.turns sh)) (b:=6) λx hx=>by
     rcases aE.mp hx with rfl|hx
     ·decide
     ·obtain⟨z,hz,rfl⟩:=aA.mp hx
      exact fM (ho.2 z hz)
    have h2:(dm (.turns sh)).length=sh.length+1:=by simp[dm]
    have h3:=ho.1;have h4:(" ":Str).length=1:=by decide
    rw[h4];omega
  ·have Dl:∀sh,r≠.turns sh:=λsh z=>ht ⟨sh,z⟩
   have hw:pX r≠"turns":=by
    cases r with
    |turns sh=>exact qQ7 rfl (Dl sh)
    |_=>dsimp only[pX];symm
   have Ms:dm r=pX r::(tf r).map eT:=by
    cases r with
    |turns sh=>exact qQ7 rfl (Dl sh)
    |_=>rfl
   have hl:(tf r).length<=2:=by cases r<;>simp[tf]
   have R6:(pX r).length<=8:=by cases r<;>dsimp only[pX]<;>symm
   have hok:=zP Dl ho;unfold eI;rw[Ms];unfold IC
   generalize tf r=ra at *
   generalize pX r=rR at *
   have nc:(["_law_one"]:List Str).Nodup:=by symm
   have GJ:L2.cutD (aQ rR::ra) (some 1) none=ra:=(lR (aQ rR::ra) 1).trans rfl;refine aI (cy (VT.to (b0 (k:=1) hr (bH oR) lT (cC (ai 0 rfl) aD h0) aL) (by rw[cn];exact qQ0 hw)) bS) ?_
   refine bw (cD (mW (zs:=rR::ra.map eT) aL (VE.to (VO.ve (iw (d1:=[.str rR]) (d2:=(ra.map eT).map .str) (VO.ve (fh (aq (cC (ai 0 rfl) aD h0) a7))) (VO.ve (VO.to (fJ (own:=["_law_one"]) (cap:=[]) (N:=["_law_one"]) (cl:=[]) (tgt:=.one 0) (F:=QK) (ds:=ra) rfl ⟨rfl,by symm,by symm,rfl,rfl,by simp⟩ (zq (VE.to (ua (ds:=.str rR::ra) (ai 0 rfl) (.yes aD) .no ?_) (by rw[GJ]))) (λf s3 H3=>bP (i:=0) nc rfl (bq rfl)) rfl
    (small (by omega)) (λd hd=>?_)) (J1 _))) (small (by simp only[aj,aX,cz];omega)))) rfl) ?_))
   ·intro z
    have:=z.1;rw[show(1:Int)=((1:Nat):Int)from rfl,HT.pw,aX]at this
    omega
   ·refine⟨_,rfl,λf s3 H3=>fQ,λr jT f s3 H3=>?_⟩
    cases jT;exact bU C hr (aq (ai 0 rfl) a7) ⟨d,rfl,hok d hd,rfl⟩
   ·have h1:=qy (l:=rR::ra.map eT) (b:=8) λx hx=>by
     rcases aE.mp hx with rfl|hx
     ·exact R6
     ·obtain⟨z,hz,rfl⟩:=aA.mp hx
      exact lq (hok z hz)
    have h2:(rR::ra.map eT).length=ra.length+1:=by simp
    have h4:(" ":Str).length=1:=by decide
    rw[h4];omega
end
def pI(p:Str×Option Int):Str:="kind "++p.1++" "++eT (o7 p.2)
def mX(g:Str):Str:="gate "++g
def mY(p:Str×Int):Str:="line "++p.1++" "++cK p.2
def nu(d:Dk):Str:="desk "++d.name++" to "++eT (.str d.to)++" by "++eI d.rule
def kE(d:Dk):Str:=nu d++" from "++cL " " d.places
def mZ(p:Str×Str×Int):Str:=cL " " ["time",p.1,p.2.1,cK p.2.2]
def oj(p:Str×Int×Int):Str:=cL " " ["open",p.1,cK p.2.1,cK p.2.2]
def m8(p:Str×Str×Int×Int):Str:=cL " " ["pace",p.1,p.2.1,cK p.2.2.1,cK p.2.2.2]
structure jA(p:Pl):Prop where
 kn:p.kinds.length<=60
 gn:p.gates.length<=60
 ln:p.lines.length<=60
 dn:p.desks.length<=60
 tn:p.times.length<=600
 hn:p.hours.length<=600
 kinds:∀q∈p.kinds,cZ q.1/\GH (o7 q.2)
 gates:∀g∈p.gates,cZ g
 lines:∀q∈p.lines,cZ q.1/\cV q.2
 desks:∀d∈p.desks,cZ d.name/\(d.to=""\/cZ d.to)/\v5 d.rule/\d.places.length<=60/\∀x∈d.places,cZ x
 times:∀q∈p.times,cZ q.1/\cZ q.2.1/\cV q.2.2
 hours:∀q∈p.hours,cZ q.1/\cV q.2.1/\cV q.2.2
 an:p.paces.length<=60
 paces:∀q∈p.paces,cZ q.1/\cZ q.2.1/\cV q.2.2.1/\cV q.2.2.2
theorem cZ.short{x:Str}(h:cZ x):x.length<=8:=by
 have:=h.2.1;rw[df]at this;exact this
theorem gQ{y:Str}(hy:y.length<=1):∀{l:List Str}{b:Nat},(∀x∈l,x.length<=b)->(cL y l).length<=l.length*(b+1)
 | [],_,_=>by show 0<=_;exact bj _
 | [x],b,h=>by
  have:=h x aS;show x.length<=1*(b+1);omega
 |x::z::l,b,h=>by
  have h1:=h x aS;have h2:=gQ hy (l:=z::l) λu hu=>h u (aZ _ hu)
  show(x++y++cL y (z::l)).length<=(z::l).length.succ*(b+1)
  rw[bJ,bJ,x8];omega
theorem lU{r:Rl}(h:v5 r):(eI r).length<=700:=by
 have hl:(dm r).length<=61/\∀x∈dm r,x.length<=8:=by
  by_cases ht:∃sh,r=.turns sh
  ·obtain⟨sh,rfl⟩:=ht
   refine⟨by have:=h.1;simp[dm];omega,λx hx=>?_⟩
   rcases aE.mp hx with rfl|hx
   ·decide
   ·obtain⟨z,hz,rfl⟩:=aA.mp hx
    exact cj (fM (h.2 z hz)) (by decide)
  ·have Dl:∀sh,r≠.turns sh:=λsh z=>ht ⟨sh,z⟩
   have hok:=zP Dl h;have Ms:dm r=pX r::(tf r).map eT:=by
    cases r with
    |turns sh=>exact qQ7 rfl (Dl sh)
    |_=>rfl
   have hl:(tf r).length<=2:=by cases r<;>simp[tf]
   have R6:(pX r).length<=8:=by cases r<;>dsimp only[pX]<;>symm
   rw[Ms];refine⟨by rw[aX,aj];omega,λx hx=>?_⟩
   rcases aE.mp hx with rfl|hx
   ·exact R6
   ·obtain⟨z,hz,rfl⟩:=aA.mp hx
    exact lq (hok z hz)
 have:=gQ (y:=" ") (by decide) hl.2
 unfold eI;have h9:(dm r).length*(8+1)<=61*9:=ic hl.1 (ay _);omega
def Fkr:ao->Option ao
 | .tuple [.str a,k]=>some (.str ("kind "++a++" "++eT k))
 |_=>none
def Fgr:ao->Option ao
 | .str a=>some (.str (mX a))
 |_=>none
def Flr:ao->Option ao
 | .tuple [.str a,.int i]=>some (.str (mY (a,i)))
 |_=>none
def Ftr:ao->Option ao
 | .tuple [.str a,.str b,.int i]=>some (.str (mZ (a,b,i)))
 |_=>none
def Fhr:ao->Option ao
 | .tuple [.str a,.int i,.int j]=>some (.str (oj (a,i,j)))
 |_=>none
theorem Py(l:List (Str×Option Int)):(l.map kK).filterMap Fkr=(l.map pI).map .str:=by
 rw[cw,bf];exact filterMap_some λk _=>rfl
theorem Pz(l:List Str):(l.map aQ).filterMap Fgr=(l.map mX).map .str:=by
 rw[cw,bf];exact filterMap_some λk _=>rfl
theorem PB(l:List (Str×Int)):(l.map jU).filterMap Flr=(l.map mY).map .str:=by
 rw[cw,bf];exact filterMap_some λk _=>rfl
theorem PD(l:List (Str×Str×Int)):(l.map rK).filterMap Ftr=(l.map mZ).map .str:=by
 rw[cw,bf];exact filterMap_some λk _=>rfl
theorem PF(l:List (Str×Int×Int)):(l.map tj).filterMap Fhr=(l.map oj).map .str:=by
 rw[cw,bf];exact filterMap_some λk _=>rfl
def nX(p:Pl):List Str:=p.kinds.map pI++p.gates.map mX++p.lines.map mY
def ny(p:Pl):List Str:=nX p++p.desks.map kE++p.times.map mZ++p.hours.map oj
def dI(p:Pl):List Str:=ny p++p.paces.map m8
def yG(p:Pl):Str:=cL "\n" (dI p)
section
variable{P:bL}{w:cH}{K:au}{mg:Str->Option aG}{base:dw}{f:aR}{k:Nat}
abbrev Npt:List Str:=["_law_h","_law_rows","_law_name","_law_to","_law_rule_here","_law_places","_law_row","_law_gate","_law_kind","_law_burst","_law_gap"]
theorem QL:c7 Npt ["_law_h"] (bV (top 49)):=⟨rfl,rfl,rfl,by symm,rfl,by symm,by symm⟩
def Rpt(ds:List ao)(d:ao):Prop:=∃p,ds=[eZ p]/\jA p/\d=.str (yG p)
theorem zaI(F:mw K "_law_plant_text" "_law_plant_text" (top 49) f fd)(n:Na mg)(C1:bO P w K mg base 1 "_law_dash" ["_law_thing"] (iE K Rda))(C2:bO P w K mg base 2 "_law_rule_text" ["_law_rule_here"] (iE K Rrt)):fA P w K mg base kR 3 f fd ["_law_h"] (iE K Rpt):=
 ko F QL (λ_ _ h=>by obtain⟨_,rfl,_⟩:=h;rfl) λ_ _ h=>by
  obtain⟨p,rfl,ok,rfl⟩:=h;intro iD A outer s H E hr;have nd:Npt.Nodup:=QL.nd;have qd:gj 1 _:=hr.mono (by omega)
  have b1:=ok.kn;have b2:=ok.gn;have b3:=ok.ln;have b4:=ok.dn;have b5:=ok.tn;have b6:=ok.hn;have nk:(["_law_name","_law_keep"]:List Str).Nodup:=by symm
  refine aI (Ie 1 (own:=["_law_name","_law_keep"]) (cap:=[]) (N:=["_law_name","_law_keep"]) (cl:=[]) (tgt:=.tup [0,1]) (F:=Fkr) (ds:=p.kinds.map kK) rfl ⟨rfl,by symm,by symm,rfl,rfl,by simp⟩ (gK (fk qd (ai 0 rfl) aL (qx p))) (λf s3 H3=>ik rfl (b_ (bP (i:=0) nk rfl (bq rfl)) (b_ (bP (i:=1) nk rfl (bq rfl)) fP))) rfl (small (by rw[aj];omega)) (λd hd=>?_) nd) ?_
  ·obtain⟨q,hq,rfl⟩:=aA.mp hd
   obtain⟨h1,h2⟩:=ok.kinds q hq;refine⟨_,rfl,λf s3 H3=>fQ,λr jT f s3 H3=>?_⟩
   cases jT;have s1:=h1.short;have s2:=lq h2;have e1:("kind ":Str).length=5:=by decide
   have e2:(" ":Str).length=1:=by decide
   exact gv (gv (gv aL (ai 0 rfl) (small (by omega))) aL (small (by simp only[bJ];omega))) (bU C1 qd (aq (ai 1 rfl) a7) ⟨_,rfl,h2,rfl⟩) (small (by simp only[bJ];omega))
  rw[Py];refine eY 1 rfl ?_
  have n1:(["_law_name"]:List Str).Nodup:=by symm
  refine aI (jj 1 (ds:=(p.kinds.map pI++p.gates.map mX).map .str) (VO.to (iw (d2:=(p.gates.map mX).map .str) (ai 1 rfl) (VO.ve (VO.to (fJ (own:=["_law_name"]) (cap:=[]) (N:=["_law_name"]) (cl:=[]) (tgt:=.one 0) (F:=Fgr) (ds:=p.gates.map .str) rfl ⟨rfl,by symm,by symm,rfl,rfl,by simp⟩ (gK (fk qd (ai 0 rfl) aL (tD p))) (λf s3 H3=>bP (i:=0) n1 rfl (bq rfl)) rfl (small (by rw[aj];omega)) (λd hd=>?_)) (Pz _))) (small (by simp only[aj];omega))) (by rw[aV])) nd) ?_
  ·obtain⟨q,hq,rfl⟩:=aA.mp hd
   have s1:=(ok.gates q hq).short;have e1:("gate ":Str).length=5:=by decide
   refine⟨_,rfl,λf s3 H3=>fQ,λr jT f s3 H3=>?_⟩
   cases jT;exact gv aL (ai 0 rfl) (small (by omega))
  refine eY 1 rfl ?_
  have n2:(["_law_name","_law_room"]:List Str).Nodup:=by symm
  refine aI (jj 1 (ds:=(nX p).map .str) (VO.to (iw (d2:=(p.lines.map mY).map .str) (ai 1 rfl) (VO.ve (VO.to (fJ (own:=["_law_name","_law_room"]) (cap:=[]) (N:=["_law_name","_law_room"]) (cl:=[]) (tgt:=.tup [0,1]) (F:=Flr) (ds:=p.lines.map jU) rfl ⟨rfl,by symm,by symm,rfl,rfl,by simp⟩ (gK (fk qd (ai 0 rfl) aL (oN p))) (λf s3 H3=>ik rfl (b_ (bP (i:=0) n2 rfl (bq rfl)) (b_ (bP (i:=1) n2 rfl (bq rfl)) fP))) rfl (small (by rw[aj];omega)) (λd hd=>?_)) (PB _))) (small (by simp only[aj,aH];omega))) (by unfold nX;rw[aV (l₂:=A8 mY _)])) nd) ?_
  ·obtain⟨⟨qa,qi⟩,hq,rfl⟩:=aA.mp hd
   obtain⟨h1,h2⟩:cZ qa/\cV qi:=ok.lines (qa,qi) hq;have s1:=h1.short;have s2:=fM h2;have e1:("line ":Str).length=5:=by decide
   have e2:(" ":Str).length=1:=by decide
   refine⟨_,rfl,λf s3 H3=>fQ,λr jT f s3 H3=>?_⟩
   cases jT;exact VE.to (gv (x:="line "++qa++" ") (y:=cK qi) (gv (x:="line "++qa) (gv (y:=qa) aL (ai 0 rfl) (small (by omega))) aL (small (by simp only[bJ];omega))) (mV (ai 1 rfl) (cV.log h2) n.str) (small (by simp only[bJ];omega))) rfl
  have r1:(nX p).length=p.kinds.length+p.gates.length+p.lines.length:=by unfold nX;simp only[aH,aj]
  refine aI (lO (tgt:=.tup [2,3,4,5]) (o:=.nx [.val (eZ p),.own ((nX p++(p.desks.take p.desks.length).map kE).map .str),.un,.un,.un,.un,.un,.un,.un,.un,.un]) dP rfl (gK (fk qd (ai 0 rfl) aL (vZ p)))
   (ik rfl (b_ (bP (i:=2) nd rfl (by first|exact bq rfl|exact di rfl)) (b_ (bP (i:=3) nd rfl (by first|exact bq rfl|exact di rfl)) (b_ (bP (i:=4) nd rfl (by first|exact bq rfl|exact di rfl)) (b_ (bP (i:=5) nd rfl (by first|exact bq rfl|exact di rfl)) fP))))) (λi=>[.val (eZ p),.own ((nX p++(p.desks.take i).map kE).map .str),.un,.un,.un,.un,.un,.un,.un,.un,.un]) p.desks.length (by show([.val (eZ p),.own ((nX p++(p.desks.take 0).map kE).map .str),.un,.un,.un,.un,.un,.un,.un,.un,.un]:List Slot)=_;rw[A7,fX,cF];rfl) (by rw[aj];exact ay _) (λi d hi hd=>?_) (.inl ⟨by rw[aj],rfl⟩)) ?_
  ·obtain⟨dk,Di,rfl⟩:∃dk,p.desks[i]?=some dk/\d=eE dk:=by
    rw[aW,ax (by omega)]at hd
    cases hd;exact⟨_,ax (by omega),rfl⟩
   obtain⟨h1,h2,h3,h4,h5⟩:=ok.desks dk (bF Di);have Ur:GH (.str dk.to):=h2;have s1:=h1.short;have s2:=lq Ur;have s3:=lU h3;have s4:=gQ (y:=" ") (by decide) (l:=dk.places) (b:=8) λx hx=>(h5 x hx).short
   have s5:dk.places.length*(8+1)<=60*9:=ic h4 (ay _);have s6:=qy (l:=dk.places) (b:=8) λx hx=>(h5 x hx).short
   have e1:("desk ":Str).length=5:=by decide
   have e2:(" to ":Str).length=4:=by decide
   have e3:(" by ":Str).length=4:=by decide
   have e4:(" from ":Str).length=6:=by decide
   have e5:(" ":Str).length=1:=by decide
   have eh:(nu dk).length<=800:=by unfold nu;simp only[bJ];omega
   refine⟨_,rfl,?_⟩
   refine aI (dq 6 (d:=.str (nu dk)) (gv (gv (gv (gv (gv aL (ai 2 rfl) (small (by omega))) aL (small (by simp only[bJ];omega))) (bU C1 qd (aq (ai 3 rfl) a7) ⟨_,rfl,Ur,rfl⟩) (small (by simp only[bJ];omega))) aL (small (by simp only[bJ];omega))) (bU C2 hr (aq (ai 4 rfl) a7) ⟨_,rfl,h3,rfl⟩) (small (by simp only[bJ];omega))) nd) ?_
   refine iP (bw (eU 1 rfl (d:=.str (kE dk)) (gv (gv (ai 6 rfl) aL (small (by omega))) (mW (zs:=dk.places) aL (VO.ve (Jx CK OX (aq (ai 5 rfl) a7) n.lst rfl)) (by rw[e5];omega)) (small (by simp only[bJ];omega))) (fV (by simp only[aj,aH,bK];omega)))) ⟨.inr rfl,.inr ?_,.inl rfl,.inl rfl,.inl rfl,.inl rfl,.inl rfl,.inr rfl,.inr rfl,.inr rfl,.inr rfl,trivial⟩
   rw[ej,Di];simp only[oV,aV,aN,fX,c6]
  rw[fF];refine eY 1 rfl ?_
  have n3:(["_law_desk","_law_kind","_law_work"]:List Str).Nodup:=by symm
  refine aI (jj 1 (ds:=(nX p++p.desks.map kE++p.times.map mZ).map .str) (VO.to (iw (d2:=(p.times.map mZ).map .str) (ai 1 rfl) (VO.ve (VO.to (fJ (own:=["_law_desk","_law_kind","_law_work"]) (cap:=[]) (N:=["_law_desk","_law_kind","_law_work"]) (cl:=[]) (tgt:=.tup [0,1,2]) (F:=Ftr) (ds:=p.times.map rK) rfl ⟨rfl,by symm,by symm,rfl,rfl,by simp⟩ (gK (fk qd (ai 0 rfl) aL (EB p))) (λf s3 H3=>ik rfl (b_ (bP (i:=0) n3 rfl (bq rfl)) (b_ (bP (i:=1) n3 rfl (bq rfl)) (b_ (bP (i:=2) n3 rfl (bq rfl)) fP)))) rfl (small (by rw[aj];omega)) (λd hd=>?_)) (PD _))) (small (by simp only[aj,aH];omega))) (by rw[aV (l₂:=A8 mZ _)])) nd) ?_
  ·obtain⟨⟨qa,qb,qi⟩,hq,rfl⟩:=aA.mp hd
   obtain⟨h1,h2,h3⟩:cZ qa/\cZ qb/\cV qi:=ok.times (qa,qb,qi) hq;have s1:=h1.short;have s2:=h2.short;have s3:=fM h3;have e1:("time":Str).length=4:=by decide
   have e2:(" ":Str).length=1:=by decide
   refine⟨_,rfl,λf s3 H3=>fQ,λr jT f s3 H3=>?_⟩
   cases jT;exact mW (zs:=["time",qa,qb,cK qi]) aL (VO.ve (fh (aq aL (aq (ai 0 rfl) (aq (ai 1 rfl) (aq (mV (ai 2 rfl) (cV.log h3) n.str) a7)))) (small (by show 4<=_;decide)))) (by rw[e2];simp only[aN,fX,qG,Fo,aX,cz];omega)
  refine eY 1 rfl ?_
  have n4:(["_law_desk","_law_begin","_law_end"]:List Str).Nodup:=by symm
  refine aI (jj 1 (ds:=(ny p).map .str) (VO.to (iw (d2:=(p.hours.map oj).map .str) (ai 1 rfl) (VO.ve (VO.to (fJ (own:=["_law_desk","_law_begin","_law_end"]) (cap:=[]) (N:=["_law_desk","_law_begin","_law_end"]) (cl:=[]) (tgt:=.tup [0,1,2]) (F:=Fhr) (ds:=p.hours.map tj) rfl ⟨rfl,by symm,by symm,rfl,rfl,by simp⟩ (gK (fk qd (ai 0 rfl) aL (Mm p))) (λf s3 H3=>ik rfl (b_ (bP (i:=0) n4 rfl (bq rfl)) (b_ (bP (i:=1) n4 rfl (bq rfl)) (b_ (bP (i:=2) n4 rfl (bq rfl)) fP)))) rfl (small (by rw[aj];omega)) (λd hd=>?_)) (PF _))) (small (by simp only[aj,aH];omega))) (by unfold ny;rw[aV (l₂:=A8 oj _)])) nd) ?_
  ·obtain⟨⟨qa,qb,qi⟩,hq,rfl⟩:=aA.mp hd
   obtain⟨h1,h2,h3⟩:cZ qa/\cV qb/\cV qi:=ok.hours (qa,qb,qi) hq;have s1:=h1.short;have s2:=fM h2;have s3:=fM h3;have e1:("open":Str).length=4:=by decide
   have e2:(" ":Str).length=1:=by decide
   refine⟨_,rfl,λf s3 H3=>fQ,λr jT f s3 H3=>?_⟩
   cases jT;exact mW (zs:=["open",qa,cK qb,cK qi]) aL (VO.ve (fh (aq aL (aq (ai 0 rfl) (aq (mV (ai 1 rfl) (cV.log h2) n.str) (aq (mV (ai 2 rfl) (cV.log h3) n.str) a7)))) (small (by show 4<=_;decide)))) (by rw[e2];simp only[aN,fX,qG,Fo,aX,cz];omega)
  refine aI (lO (tgt:=.tup [7,8,9,10]) (o:=.nx [.val (eZ p),.own ((ny p++(p.paces.take p.paces.length).map m8).map .str),.un,.un,.un,.un,.un,.un,.un,.un,.un]) dP rfl (gK (fk qd (ai 0 rfl) aL (EC p)))
   (ik rfl (b_ (bP (i:=7) nd rfl (by first|exact bq rfl|exact di rfl)) (b_ (bP (i:=8) nd rfl (by first|exact bq rfl|exact di rfl)) (b_ (bP (i:=9) nd rfl (by first|exact bq rfl|exact di rfl)) (b_ (bP (i:=10) nd rfl (by first|exact bq rfl|exact di rfl)) fP))))) (λi=>[.val (eZ p),.own ((ny p++(p.paces.take i).map m8).map .str),.un,.un,.un,.un,.un,.un,.un,.un,.un]) p.paces.length (by show([.val (eZ p),.own ((ny p++(p.paces.take 0).map m8).map .str),.un,.un,.un,.un,.un,.un,.un,.un,.un]:List Slot)=_;rw[A7,fX,cF];rfl) (by rw[aj];exact ay _) (λi d hi hd=>?_) (.inl ⟨by rw[aj],rfl⟩)) ?_
  ·obtain⟨⟨qa,qb,qi,qj⟩,Di,rfl⟩:∃dk,p.paces[i]?=some dk/\d=uM dk:=by
    rw[aW,ax (by omega)]at hd
    cases hd;exact⟨_,ax (by omega),rfl⟩
   obtain⟨h1,h2,h3,h4⟩:cZ qa/\cZ qb/\cV qi/\cV qj:=ok.paces (qa,qb,qi,qj) (bF Di);have s1:=h1.short;have s2:=h2.short;have s3:=fM h3;have s4:=fM h4;have e1:("pace":Str).length=4:=by decide
   have e2:(" ":Str).length=1:=by decide
   have b7:=ok.an;have r6:(ny p).length<=1440:=by unfold ny;simp only[aH,aj];omega
   refine⟨_,rfl,?_⟩
   refine iP (bw (eU 1 rfl (d:=.str (m8 (qa,qb,qi,qj))) (mW (zs:=["pace",qa,qb,cK qi,cK qj]) aL (VO.ve (fh (aq aL (aq (ai 7 rfl) (aq (ai 8 rfl) (aq (mV (ai 9 rfl) (cV.log h3) n.str) (aq (mV (ai 10 rfl) (cV.log h4) n.str) a7))))) (small (by show 5<=_;decide)))) (by rw[e2];simp only[aN,fX,qG,Fo,aX,cz];omega)) (fV (by simp only[aj,aH,bK];omega)))) ⟨.inr rfl,.inr ?_,.inr rfl,.inr rfl,.inr rfl,.inr rfl,.inr rfl,.inl rfl,.inl rfl,.inl rfl,.inl rfl,trivial⟩
   rw[ej,Di];simp only[oV,aV,aN,fX,c6]
  rw[fF];rw[show ny p++p.paces.map m8=dI p from rfl]
  refine eY 1 rfl ?_
  refine bw (cD (mW (zs:=dI p) aL (ai 1 rfl) ?_))
  have e5:("\n":Str).length=1:=by decide
  have e2:(" ":Str).length=1:=by decide
  have b7:=ok.an;have hl:(dI p).length<=1500:=by unfold dI ny;simp only[aH,aj];omega
  have hs:=qy (l:=dI p) (b:=2000) λx hx=>by
   unfold dI ny nX at hx;simp only[bp,aA]at hx;rcases hx with(((((⟨q,hq,rfl⟩|⟨q,hq,rfl⟩)|⟨q,hq,rfl⟩)|⟨dk,hq,rfl⟩)|⟨q,hq,rfl⟩)|⟨q,hq,rfl⟩)|⟨q,hq,rfl⟩
   ·obtain⟨h1,h2⟩:=ok.kinds q hq
    have s1:=h1.short;have s2:=lq h2;have e1:("kind ":Str).length=5:=by decide
    unfold pI;simp only[bJ];omega
   ·have s1:=(ok.gates q hq).short
    have e1:("gate ":Str).length=5:=by decide
    unfold mX;simp only[bJ];omega
   ·obtain⟨h1,h2⟩:=ok.lines q hq
    have s1:=h1.short;have s2:=fM h2;have e1:("line ":Str).length=5:=by decide
    unfold mY;simp only[bJ];omega
   ·obtain⟨h1,h2,h3,h4,h5⟩:=ok.desks dk hq
    have Ur:GH (.str dk.to):=h2;have s1:=h1.short;have s2:=lq Ur;have s3:=lU h3;have s4:=gQ (y:=" ") (by decide) (l:=dk.places) (b:=8) λx hx=>(h5 x hx).short
    have s5:dk.places.length*(8+1)<=60*9:=ic h4 (ay _);have e1:("desk ":Str).length=5:=by decide
    have e2:(" to ":Str).length=4:=by decide
    have e3:(" by ":Str).length=4:=by decide
    have e4:(" from ":Str).length=6:=by decide
    unfold kE nu;simp only[bJ];omega
   ·obtain⟨h1,h2,h3⟩:=ok.times q hq
    have s1:=h1.short;have s2:=h2.short;have s3:=fM h3;have:=gQ (y:=" ") (by decide) (l:=["time",q.1,q.2.1,cK q.2.2]) (b:=8) λx hx=>by
     simp only[aE,bB,or_false]at hx;rcases hx with rfl|rfl|rfl|rfl
     ·decide
     ·exact s1
     ·exact s2
     ·omega
    unfold mZ;exact cj this (by simp only[aX,cz];omega)
   ·obtain⟨h1,h2,h3⟩:=ok.hours q hq
    have s1:=h1.short;have s2:=fM h2;have s3:=fM h3;have:=gQ (y:=" ") (by decide) (l:=["open",q.1,cK q.2.1,cK q.2.2]) (b:=8) λx hx=>by
     simp only[aE,bB,or_false]at hx;rcases hx with rfl|rfl|rfl|rfl
     ·decide
     ·exact s1
     ·omega
     ·omega
    unfold oj;exact cj this (by simp only[aX,cz];omega)
   ·obtain⟨h1,h2,h3,h4⟩:=ok.paces q hq
    have s1:=h1.short;have s2:=h2.short;have s3:=fM h3;have s4:=fM h4;have:=gQ (y:=" ") (by decide) (l:=["pace",q.1,q.2.1,cK q.2.2.1,cK q.2.2.2]) (b:=8) λx hx=>by
     simp only[aE,bB,or_false]at hx;rcases hx with rfl|rfl|rfl|rfl|rfl
     ·decide
     ·exact s1
     ·exact s2
     ·omega
     ·omega
    unfold m8;exact cj this (by simp only[aX,cz];omega)
  have hb:(dI p).length*2000<=1500*2000:=ic hl (ay _);rw[e5];omega
end
end Mg
namespace Mg
open L2 PySem PyProof.Rows
variable{many:Nat}
theorem iF(a c:Int){b:Int}(hb:0<b)(hc:0<=c)(h:c+b<=1000000):cV (c+a%b):=by
 have a1:0<=a%b:=bE _ (by omega)
 have a2:a%b<b:=bG _ hb;exact⟨by omega,by omega⟩
theorem oO(a:Int){b:Int}(hb:0<b)(h:b<=1000000):cV (a%b):=by
 have:=iF a 0 hb (by omega) (by omega)
 rw[Int.zero_add]at this;exact this
theorem getD_mem{l:List Str}{k:Nat}(h:k<l.length):l.getD k ""∈l:=by
 rw[aJ,ax h];exact dv _
theorem PH(m:Int)(h:many<=60):v5 (lP m many):=by
 unfold lP
 split
 ·trivial
 split
 ·exact⟨iF _ 1 (by decide) (by decide) (by decide),oO _ (by decide) (by decide)⟩
 split
 ·exact iF _ 1 (by decide) (by decide) (by decide)
 split
 ·split
  ·trivial
  ·exact oO _ (by decide) (by decide)
 split
 ·refine⟨by rw[aj,dZ];exact h,λz hz=>?_⟩
  obtain⟨k,_,rfl⟩:=aA.mp hz;exact iF _ 1 (by decide) (by decide) (by decide)
 ·trivial
theorem zQ(m:Int)(h:many<=12):fH (lP m many) many<=12:=by
 have a2:m/6%4<4:=bG _ (by decide)
 unfold lP
 split
 ·show(many:Int)<=12;omega
 split
 ·show 1+m/6%4<=12;omega
 split
 ·show 1+m/6%4<=12;omega
 split
 ·show(1:Int)<=12;omega
 split
 ·show(1:Int)<=12;omega
 ·show(1:Int)<=12;omega
theorem Dm{cell:Int}{places lines:List Str}(h1:1<=places.length)(h12:places.length<=12){d:Dk}(hd:d∈bZ cell places lines):
  cZ d.name/\d.to∈lines ++ [("":Str)]/\v5 d.rule/\d.places.length<=places.length/\(∀x∈d.places,x∈places)/\fH d.rule d.places.length<=12:=by
 obtain⟨k,hk,rfl⟩:=aA.mp hd;have hk:=dB.mp hk;have tl:=iK cell (lz cell places.length) places places.length;have xh:(eD cell (lz cell places.length) places places.length).getD k []∈eD cell (lz cell places.length) places places.length:=by
  rw[aJ,ax (by omega)]
  exact dv _
 obtain⟨r1,r2⟩:=uc cell _ places _ _ xh;refine⟨lj (getD_mem (by rw[iJ];exact hk)),(Dg cell lines k).2,PH _ (by omega),r1,r2 (ay _),zQ _ (by omega)⟩
theorem II(ns:List Int):jA (dQ ns):=by
 obtain⟨k1,k4⟩:=kz (g_ ns);obtain⟨g1,g3⟩:=ja (bR ns);obtain⟨p1,p6⟩:=jG (bR ns);have hll:(linesOf (bR ns)).length<=6:=by unfold linesOf;rw[cW];omega
 have Ko:(orderOf (bR ns)).length=(placesOf (bR ns)).length:=by
  unfold orderOf;rw[aH,cW,bK];have:=ou (bR ns) (n:=(placesOf (bR ns)).length) (by omega)
  omega
 have Yr:∀x∈placesOf (bR ns),cZ x:=λx hx=>lj hx
 have hon:∀x∈orderOf (bR ns),cZ x:=λx hx=>by
  rcases bp.mp hx with hx|hx
  ·exact Yr x (er hx)
  ·exact Yr x (dR hx)
 have Tj:∀x∈linesOf (bR ns),cZ x:=λx hx=>Yr x (er hx)
 have hkl:(cG (g_ ns)).length=jC (g_ ns):=by simp[cG]
 have Pp:∀q∈cG (g_ ns),cZ q.1/\GH (o7 q.2):=λq hq=>by
  obtain⟨k,hk,rfl⟩:=aA.mp hq;have hk:=dB.mp hk;refine⟨lj (getD_mem (by rw[iJ];exact hk)),?_⟩
  show GH (o7 (vd _));unfold vd
  split
  ·exact iF _ 1 (by decide) (by decide) (by decide)
  ·trivial
 have Lx:(bZ (fY ns) (orderOf (bR ns)) (linesOf (bR ns))).length<=4:=by rw[lQ];exact(ky (fY ns) (by omega)).2.1
 have Di:∀d∈bZ (fY ns) (orderOf (bR ns)) (linesOf (bR ns)),_:=λd hd=>Dm (by omega) (by omega) hd
 have QM:=qX (fY ns) (bZ (fY ns) (orderOf (bR ns)) (linesOf (bR ns))) (cG (g_ ns)) (by omega) _ (ay _)
 have hhl:=qY (fY ns) (bZ (fY ns) (orderOf (bR ns)) (linesOf (bR ns))) _ (ay _)
 generalize hD:bZ (fY ns) (orderOf (bR ns)) (linesOf (bR ns))=iY at *
 have e0:dQ ns=⟨cG (g_ ns),h8 (bR ns),(cv (linesOf (bR ns)).length).map (roomAt (bR ns) iY (linesOf (bR ns))),iY,h_ (fY ns) iY (cG (g_ ns)) iY.length,jl (fY ns) iY iY.length,[]⟩:=by rw[<-hD];rfl
 rw[e0];refine⟨by show(cG (g_ ns)).length<=60;omega,?_,?_,by show iY.length<=60;omega,by show(h_ _ _ _ _).length<=600;omega,by show(jl _ _ _).length<=600;omega,Pp,λg hg=>Yr g (dR hg),λq hq=>?_,λd hd=>?_,λq hq=>?_,λq hq=>?_,bj _,λq hq=>nomatch hq⟩
 ·show(h8 (bR ns)).length<=60
  unfold h8;rw[bK];omega
 ·show((cv (linesOf (bR ns)).length).map _).length<=60
  rw[aj,dZ];omega
 ·obtain⟨k,hk,rfl⟩:=aA.mp hq
  have hk:=dB.mp hk;refine⟨Tj _ (getD_mem hk),?_⟩
  have mo:=oM (iL iY ((linesOf (bR ns)).getD k ""));have mb:maxOf (iL iY ((linesOf (bR ns)).getD k ""))<=12:=by
   rcases aE.mp mo.1 with h|h
   ·rw[h];decide
   ·obtain⟨d,hd,he⟩:=iT.mp h
    split at he
    ·rw[<-dC he];exact(Di d hd).2.2.2.2.2
    ·cases he
  have ml:=mo.2 1 aS;exact iF _ _ (by decide) (by omega) (by omega)
 ·obtain⟨d1,d2,d3,d4,d5,_⟩:=Di d hd
  refine⟨d1,?_,d3,by omega,λx hx=>hon x (d5 x hx)⟩
  rcases bp.mp d2 with h|h
  ·exact .inr (Tj _ h)
  ·exact .inl (aK.mp h)
 ·obtain⟨⟨d,i⟩,hd,hq⟩:=yo.mp hq
  have Us:d∈iY:=by
   have:=dR hd;exact kI this
  obtain⟨⟨kd,j⟩,hk,hq⟩:=iT.mp hq;have hkm:kd∈cG (g_ ns):=kI (dR hk);unfold vf at hq
  split at hq
  ·cases hq
   exact⟨(Di d Us).1,(Pp kd hkm).1,iF _ 1 (by decide) (by decide) (by decide)⟩
  ·cases hq
 ·obtain⟨⟨d,i⟩,hd,hq⟩:=yo.mp hq
  have Us:d∈iY:=kI (dR hd);have hn:=(Di d Us).1;unfold k6 at hq
  split at hq
  ·rcases aE.mp hq with rfl|hq
   ·exact⟨hn,oO _ (by decide) (by decide),iF _ 9 (by decide) (by decide) (by decide)⟩
   ·rw[aK.mp hq]
    exact⟨hn,iF _ 25 (by decide) (by decide) (by decide),iF _ 50 (by decide) (by decide) (by decide)⟩
  ·cases hq
def jb(x:Str):Prop:=x≠""/\32∉x.cps.toList/\10∉x.cps.toList
theorem jb.one{x:Str}(h:jb x):wordsOf x=[x]:=xn h.1 h.2.1
theorem q5{l k:Str}(hl:l=k++" ")(hk:jb k)(x:Str):wordsOf (l++x)=k::wordsOf x:=by
 rw[hl,mO,hk.one];rfl
theorem vi{l k:Str}(hl:l=" "++k++" ")(hk:jb k)(x y:Str):wordsOf (x++l++y)=wordsOf x++k::wordsOf y:=by
 have e:x++l++y=x++" "++(k++" "++y):=by
  rw[hl];apply str_inj;simp only[add_list,c6]
 rw[e,mO,mO,hk.one];rfl
theorem uf{d:ao}(h:GH d):jb (eT d):=by
 have e:jb "-":=by unfold jb;symm
 cases d with
 |none=>exact e
 |int i=>exact lS h.1 h.2
 |str x=>
  show jb (if x="" then "-" else x)
  split
  ·exact e
  ·rename_i hx
   rcases h with h|h
   ·exact qQ7 h hx
   ·exact gy h
 |_=>exact h.elim
theorem vj{r:Rl}(h:v5 r):∀w∈dm r,jb w:=by
 intro w hw;by_cases ht:∃sh,r=.turns sh
 ·obtain⟨sh,rfl⟩:=ht
  rcases aE.mp hw with rfl|hw
  ·unfold jb;symm
  ·obtain⟨z,hz,rfl⟩:=aA.mp hw
   exact lS (h.2 z hz).1 (h.2 z hz).2
 ·have Dl:∀sh,r≠.turns sh:=λsh z=>ht ⟨sh,z⟩
  have hok:=zP Dl h;have Ms:dm r=pX r::(tf r).map eT:=by
   cases r with
   |turns sh=>exact qQ7 rfl (Dl sh)
   |_=>rfl
  rw[Ms]at hw;rcases aE.mp hw with rfl|hw
  ·cases r<;>dsimp only[pX,jb]<;>symm
  ·obtain⟨z,hz,rfl⟩:=aA.mp hw
   exact uf (hok z hz)
theorem GK{q:Str×Option Int}(h:cZ q.1/\GH (o7 q.2)):wordsOf (pI q)=[("kind":Str),q.1,eT (o7 q.2)]:=by
 unfold pI;rw[mO,q5 (k:="kind") (by symm) (by unfold jb;symm),(show jb q.1 from gy h.1).one,(uf h.2).one];rfl
theorem GL{g:Str}(h:cZ g):wordsOf (mX g)=[("gate":Str),g]:=by
 unfold mX;rw[q5 (k:="gate") (by symm) (by unfold jb;symm),(show jb g from gy h).one]
theorem GN{q:Str×Int}(h:cZ q.1/\cV q.2):wordsOf (mY q)=[("line":Str),q.1,cK q.2]:=by
 unfold mY;rw[mO,q5 (k:="line") (by symm) (by unfold jb;symm),(show jb q.1 from gy h.1).one,(show jb (cK q.2)from lS h.2.1 h.2.2).one];rfl
theorem GO{d:Dk}(h:cZ d.name/\(d.to=""\/cZ d.to)/\v5 d.rule/\d.places.length<=60/\∀x∈d.places,cZ x):wordsOf (kE d)=[("desk":Str),d.name,"to",eT (.str d.to),"by"]++dm d.rule ++ [("from":Str)]++d.places:=by
 obtain⟨h1,h2,h3,h4,h5⟩:=h;have Ur:GH (.str d.to):=h2;have hr:wordsOf (eI d.rule)=dm d.rule:=nr λw hw=>⟨(vj h3 w hw).1,(vj h3 w hw).2.1⟩
 have hp:wordsOf (cL " " d.places)=d.places:=nr λw hw=>⟨(gy (h5 w hw)).1,(gy (h5 w hw)).2.1⟩
 unfold kE nu;rw[vi (k:="from") (by symm) (by unfold jb;symm),vi (k:="by") (by symm) (by unfold jb;symm),vi (k:="to") (by symm) (by unfold jb;symm),q5 (k:="desk") (by symm) (by unfold jb;symm),(show jb d.name from gy h1).one,(uf Ur).one,hr,hp]
 simp
theorem GP{q:Str×Str×Int}(h:cZ q.1/\cZ q.2.1/\cV q.2.2):wordsOf (mZ q)=[("time":Str),q.1,q.2.1,cK q.2.2]:=by
 refine nr λw hw=>?_
 have:jb w:=by
  simp only[aE,bB,or_false]at hw;rcases hw with rfl|rfl|rfl|rfl
  ·unfold jb;symm
  ·exact gy h.1
  ·exact gy h.2.1
  ·exact lS h.2.2.1 h.2.2.2
 exact⟨this.1,this.2.1⟩
theorem GQ{q:Str×Int×Int}(h:cZ q.1/\cV q.2.1/\cV q.2.2):wordsOf (oj q)=[("open":Str),q.1,cK q.2.1,cK q.2.2]:=by
 refine nr λw hw=>?_
 have:jb w:=by
  simp only[aE,bB,or_false]at hw;rcases hw with rfl|rfl|rfl|rfl
  ·unfold jb;symm
  ·exact gy h.1
  ·exact lS h.2.1.1 h.2.1.2
  ·exact lS h.2.2.1 h.2.2.2
 exact⟨this.1,this.2.1⟩
theorem GR{q:Str×Str×Int×Int}(h:cZ q.1/\cZ q.2.1/\cV q.2.2.1/\cV q.2.2.2):wordsOf (m8 q)=[("pace":Str),q.1,q.2.1,cK q.2.2.1,cK q.2.2.2]:=by
 refine nr λw hw=>?_
 have:jb w:=by
  simp only[aE,bB,or_false]at hw;rcases hw with rfl|rfl|rfl|rfl|rfl
  ·unfold jb;symm
  ·exact gy h.1
  ·exact gy h.2.1
  ·exact lS h.2.2.1.1 h.2.2.1.2
  ·exact lS h.2.2.2.1 h.2.2.2.2
 exact⟨this.1,this.2.1⟩
end Mg
namespace Mg
open L2 PySem PyProof.Rows
seal L2.VE L2.VS L2.vB L2.VT L2.VO L2.Ox
variable{p:aR}{fd:gf}{H:Hp}{n:Int}{l:List Str}{d:ao}{K:au}{r:Rl}{x:Str}
inductive Sh where
 |name|number|count|share|mQ|nz|m9
def Sh.tx:Sh->Str
 | .name=>"name"
 | .number=>"number"
 | .count=>"count"
 | .share=>"share"
 | .mQ=>"count or -"
 | .nz=>"name or -"
 | .m9=>"number or -"
def jV(x:Str):Bool:=isNumber x && !decide (x="0")
def mF:Sh->Str->Bool
 | .name,x=>isName x
 | .number,x=>isNumber x
 | .count,x=>jV x
 | .share,x=>jV x&&decide ((x.length:Int)=1)
 | .mQ,x=>decide (x="-")||jV x
 | .nz,x=>decide (x="-")||isName x
 | .m9,x=>decide (x="-")||isNumber x
def Dn(x:Str):Int:=(intText? x).getD 0
def iM:Sh->Str->ao
 | .name,x=>.str x
 | .nz,x=>.str (if x="-" then "" else x)
 |_,x=>if x="-" then .none else .int (Dn x)
def Sh.base:Sh->Bool
 | .name=>true
 | .number=>true
 | .count=>true
 |_=>false
theorem Sh.ok(s:Sh):nO s.tx:=by cases s<;>(show cX (.str _)=true)<;>symm
theorem zR(h:isNumber x=true):1<=x.length/\x.length<=6/\∀c∈x.cps.toList,48<=c/\c<=57:=by
 unfold isNumber at h;have h:=(jh.mp h).1;unfold pW at h;obtain⟨h1,h2⟩:=jh.mp h;obtain⟨h3,h4⟩:=jh.mp h1;have h3:=qQ4 h3;have h4:=qQ4 h4;refine⟨by omega,by omega,λc hc=>?_⟩
 have:=dU.mp h2 c hc;have e:C6 (one c) "0123456789"=decide (c∈("0123456789":Str).cps.toList):=vJ ..;rw[e,EF]at this;obtain⟨i,hi,rfl⟩:=aA.mp (qQ4 this);have:=dB.mp hi;omega
theorem AZ(h:isNumber x=true):intText? x=some (Dn x):=by
 obtain⟨h1,h2,h3⟩:=zR h;have hd:NumText.AllDigits x.cps.toList:=λc hc=>h3 c hc
 have hl:x.cps.toList.length=x.length:=df;have e:=intText_digits hd (λz=>by rw[z]at hl;simp only[cz]at hl;omega) (by omega)
 unfold Dn;rw[e];rfl
theorem EG(h:cV n):Dn (cK n)=n:=by unfold Dn;rw[num_reads h.1 h.2];rfl
theorem q_(h:jV x=true):isNumber x=true:=(jh.mp h).1
theorem xO{s:Sh}(h:mF s x=true)(h1:s≠.name)(h2:s≠.nz)(hx:x≠"-"):isNumber x=true:=by
 cases s with
 |name=>exact qQ7 rfl h1
 |nz=>exact qQ7 rfl h2
 |number=>exact h
 |count=>exact q_ h
 |share=>exact q_ (jh.mp h).1
 |mQ=>
  rcases Bool.or_eq_true_iff.mp h with h|h
  ·exact qQ7 (qQ4 h) hx
  ·exact q_ h
 |m9=>
  rcases Bool.or_eq_true_iff.mp h with h|h
  ·exact qQ7 (qQ4 h) hx
  ·exact h
section
variable{P:bL}{w:cH}{K:au}{mg:Str->Option aG}{base:dw}{f:aR}{k:Nat}
abbrev Ks:List Str:=["shape","word"]
theorem QN:c7 Ks Ks (bV (top 24)):=⟨rfl,rfl,rfl,by symm,rfl,by symm,by symm⟩
def Ut(b:Bool)(ds:List ao)(d:ao):Prop:=∃(s:Sh)(x:Str),ds=[.str s.tx,.str x]/\wD x/\(b=true\/s.base=true)/\d=.bool (mF s x)
theorem a8(h:cX (.str x)=true:=by symm):Lay 20 (.str x):=bH h
theorem WH{fb:Bool}(n:Na mg)(C1:bO P w K mg base 2 "is_name" ["word"] (iE K Wv))(C2:bO P w K mg base 2 "is_number" ["word"] (iE K Yo))(k2:2<=k)(C3:fb=true->bO P w K mg base k "fits" Ks (iE K (Ut false))){ds:List ao}(h:Ut fb ds d):Br P w K mg base Ks "fits" (top 24) f k ds (.rt d):=by
 obtain⟨s,x,rfl,ox,hb,rfl⟩:=h;intro iD A outer sh H E hr;have QJ:gj 2 _:=hr.mono k2;have ls:=bH (n:=20) s.ok;have lx:=bH (n:=20) ox.2;cases s with
 |name=>exact dS (eu (VT.to (b0 hr ls a8 (ai 0 rfl) aL) (by rw[cn];exact qQ1 rfl)) (bw (cD (bU C1 QJ (aq (ai 1 rfl) a7) ⟨x,rfl,ox.1,rfl⟩)))) rfl
 |number=>
  refine aI (cy (VT.to (b0 hr ls a8 (ai 0 rfl) aL) (by rw[cn];symm)) bS) ?_
  exact dS (eu (VT.to (b0 hr ls a8 (ai 0 rfl) aL) (by rw[cn];exact qQ1 rfl)) (bw (cD (bU C2 QJ (aq (ai 1 rfl) a7) ⟨x,rfl,ox,rfl⟩)))) rfl
 |count=>
  refine aI (cy (VT.to (b0 hr ls a8 (ai 0 rfl) aL) (by rw[cn];symm)) bS) ?_
  refine aI (cy (VT.to (b0 hr ls a8 (ai 0 rfl) aL) (by rw[cn];symm)) bS) ?_
  exact dS (eu (VT.to (b0 hr ls a8 (ai 0 rfl) aL) (by rw[cn];exact qQ1 rfl)) (bw (cD (VE.to (oK (bU C2 QJ (aq (ai 1 rfl) a7) ⟨x,rfl,ox,rfl⟩) (λ_=>kr (Lk hr lx a8 (ai 1 rfl) aL))) (by rw[cn];rfl))))) rfl
 |share=>
  have C3:=C3 (hb.resolve_right (by decide))
  refine aI (cy (VT.to (b0 hr ls a8 (ai 0 rfl) aL) (by rw[cn];symm)) bS) ?_
  refine aI (cy (VT.to (b0 hr ls a8 (ai 0 rfl) aL) (by rw[cn];symm)) bS) ?_
  refine aI (cy (VT.to (b0 hr ls a8 (ai 0 rfl) aL) (by rw[cn];symm)) bS) ?_
  exact dS (eu (VT.to (b0 hr ls a8 (ai 0 rfl) aL) (by rw[cn];exact qQ1 rfl)) (bw (cD (VE.to (oK (bU C3 hr (aq aL (aq (ai 1 rfl) a7)) ⟨.count,x,rfl,ox,.inr rfl,rfl⟩) (λ_=>kr (sP hr (c0 20 _) (c0 20 _) (Ik (ai 1 rfl) (small (by have:=ox.1;omega)) n.len) aD))) (by rw[oh];rfl))))) rfl
 |mQ=>
  have C3:=C3 (hb.resolve_right (by decide))
  refine aI (cy (VT.to (b0 hr ls a8 (ai 0 rfl) aL) (by rw[cn];symm)) bS) ?_
  refine aI (cy (VT.to (b0 hr ls a8 (ai 0 rfl) aL) (by rw[cn];symm)) bS) ?_
  refine aI (cy (VT.to (b0 hr ls a8 (ai 0 rfl) aL) (by rw[cn];symm)) bS) ?_
  refine aI (cy (VT.to (b0 hr ls a8 (ai 0 rfl) aL) (by rw[cn];symm)) bS) ?_
  have AO:(cR (Sh.mQ.tx) " ").map aQ=[.str "count",.str "or",.str "-"]:=by rw[show cR (Sh.mQ.tx) " "=[("count":Str),"or","-"]from by symm];rfl
  exact bw (cD (VE.to (uJ (sP hr lx a8 (ai 1 rfl) aL) (λ_=>kr (bU C3 hr (aq (eX (VE.to (VO.ve (qu (ai 0 rfl) aL rfl (small (by decide)))) (by rw[AO])) aD (ck (j:=0) rfl)) (aq (ai 1 rfl) a7)) ⟨.count,x,rfl,ox,.inr rfl,rfl⟩))) (by rw[cn];rfl)))
 |nz=>
  have C3:=C3 (hb.resolve_right (by decide))
  refine aI (cy (VT.to (b0 hr ls a8 (ai 0 rfl) aL) (by rw[cn];symm)) bS) ?_
  refine aI (cy (VT.to (b0 hr ls a8 (ai 0 rfl) aL) (by rw[cn];symm)) bS) ?_
  refine aI (cy (VT.to (b0 hr ls a8 (ai 0 rfl) aL) (by rw[cn];symm)) bS) ?_
  refine aI (cy (VT.to (b0 hr ls a8 (ai 0 rfl) aL) (by rw[cn];symm)) bS) ?_
  have AO:(cR (Sh.nz.tx) " ").map aQ=[.str "name",.str "or",.str "-"]:=by rw[show cR (Sh.nz.tx) " "=[("name":Str),"or","-"]from by symm];rfl
  exact bw (cD (VE.to (uJ (sP hr lx a8 (ai 1 rfl) aL) (λ_=>kr (bU C3 hr (aq (eX (VE.to (VO.ve (qu (ai 0 rfl) aL rfl (small (by decide)))) (by rw[AO])) aD (ck (j:=0) rfl)) (aq (ai 1 rfl) a7)) ⟨.name,x,rfl,ox,.inr rfl,rfl⟩))) (by rw[cn];rfl)))
 |m9=>
  have C3:=C3 (hb.resolve_right (by decide))
  refine aI (cy (VT.to (b0 hr ls a8 (ai 0 rfl) aL) (by rw[cn];symm)) bS) ?_
  refine aI (cy (VT.to (b0 hr ls a8 (ai 0 rfl) aL) (by rw[cn];symm)) bS) ?_
  refine aI (cy (VT.to (b0 hr ls a8 (ai 0 rfl) aL) (by rw[cn];symm)) bS) ?_
  refine aI (cy (VT.to (b0 hr ls a8 (ai 0 rfl) aL) (by rw[cn];symm)) bS) ?_
  have AO:(cR (Sh.m9.tx) " ").map aQ=[.str "number",.str "or",.str "-"]:=by rw[show cR (Sh.m9.tx) " "=[("number":Str),"or","-"]from by symm];rfl
  exact bw (cD (VE.to (uJ (sP hr lx a8 (ai 1 rfl) aL) (λ_=>kr (bU C3 hr (aq (eX (VE.to (VO.ve (qu (ai 0 rfl) aL rfl (small (by decide)))) (by rw[AO])) aD (ck (j:=0) rfl)) (aq (ai 1 rfl) a7)) ⟨.number,x,rfl,ox,.inr rfl,rfl⟩))) (by rw[cn];rfl)))
theorem WK(F:mw K "fits" "fits" (top 24) f fd)(n:Na mg)(C1:bO P w K mg base 2 "is_name" ["word"] (iE K Wv))(C2:bO P w K mg base 2 "is_number" ["word"] (iE K Yo)):fA P w K mg base kR 3 f fd Ks (iE K (Ut false)):=
 ko F QN (λ_ _ h=>by obtain⟨_,_,rfl,_⟩:=h;rfl) λ_ _ h=>WH n C1 C2 (ay _) (λz=>by cases z) h
theorem zaJ(F:mw K "fits" "fits" (top 24) f fd)(n:Na mg)(C1:bO P w K mg base 2 "is_name" ["word"] (iE K Wv))(C2:bO P w K mg base 2 "is_number" ["word"] (iE K Yo))(C3:bO P w K mg base 3 "fits" Ks (iE K (Ut false))):fA P w K mg base kR 4 f fd Ks (iE K (Ut true)):=
 ko F QN (λ_ _ h=>by obtain⟨_,_,rfl,_⟩:=h;rfl) λ_ _ h=>WH n C1 C2 (by decide) (λ_=>C3) h
theorem WL:c7 Ks Ks (bV (top 25)):=⟨rfl,rfl,rfl,by symm,rfl,by symm,by symm⟩
def Rvo(ds:List ao)(d:ao):Prop:=∃(s:Sh)(x:Str),ds=[.str s.tx,.str x]/\wD x/\mF s x=true/\d=iM s x
theorem zaK(F:mw K "value_of" "value_of" (top 25) f fd)(n:Na mg):fA P w K mg base kR 1 f fd Ks (iE K Rvo):=
 ko F WL (λ_ _ h=>by obtain⟨_,_,rfl,_⟩:=h;rfl) λ_ _ h=>by
  obtain⟨s,x,rfl,ox,hf,rfl⟩:=h;intro iD A outer sh H E hr;have ls:=bH (n:=20) s.ok;have lx:=bH (n:=20) ox.2;by_cases h1:s=.name
  ·subst h1
   exact dS (eu (VT.to (b0 hr ls a8 (ai 0 rfl) aL) (by rw[cn];exact qQ1 rfl)) (bw (cD (ai 1 rfl)))) rfl
  ·have d1:s.tx≠"name":=by cases s<;>first|exact qQ7 rfl h1|(dsimp only[Sh.tx];symm)
   refine aI (cy (VT.to (b0 hr ls a8 (ai 0 rfl) aL) (by rw[cn];exact qQ0 d1)) bS) ?_
   by_cases h2:s=.nz
   ·subst h2
    refine dS (eu (VT.to (b0 hr ls a8 (ai 0 rfl) aL) (by rw[cn];exact qQ1 rfl)) (bw (cD (CY (k:=decide (x="-")) (VT.to (b0 hr lx a8 (ai 1 rfl) aL) (by rw[cn])) (λz=>VE.to aL ?_) (λz=>VE.to (ai 1 rfl) ?_))))) rfl
    ·show aQ ""=.str (if x="-" then "" else x);rw[qQ3 (qQ4 z)]
    ·show aQ x=.str (if x="-" then "" else x);rw[qQ2 (qQ5 z)]
   ·have d2:s.tx≠"name or -":=by cases s<;>first|exact qQ7 rfl h2|exact qQ7 rfl h1|(dsimp only[Sh.tx];symm)
    have ev:iM s x=if x="-" then .none else .int (Dn x):=by cases s<;>first|exact qQ7 rfl h1|exact qQ7 rfl h2|rfl
    rw[ev];refine aI (cy (VT.to (b0 hr ls a8 (ai 0 rfl) aL) (by rw[cn];exact qQ0 d2)) bS) ?_
    refine bw (cD (CY (k:=decide (x="-")) (VT.to (b0 hr lx a8 (ai 1 rfl) aL) (by rw[cn])) (λz=>VE.to jP (by rw[qQ3 (qQ4 z)])) (λz=>VE.to (OG (ai 1 rfl) (AZ (xO hf h1 h2 (qQ5 z))) (by have:=(zR (xO hf h1 h2 (qQ5 z))).2.1;omega) n.int) (by rw[qQ2 (qQ5 z)]))))
def EH(qz:List Sh):ao:=.tuple (qz.map λs=>.str s.tx)
def tF(qz:List Sh)(ws:List Str):Bool:=decide (ws.length=qz.length)&&(qz.zip ws).all λp=>mF p.1 p.2
def pJ(qz:List Sh)(ws:List Str):List ao:=(qz.zip ws).map λp=>iM p.1 p.2
def jW(qz:List Sh)(ws:List Str):ao:=if tF qz ws then .tuple (pJ qz ws)else .none
abbrev Uu:List Str:=["shapes","words"]
theorem WM:c7 Uu Uu (bV (top 26)):=⟨rfl,rfl,rfl,by symm,rfl,by symm,by symm⟩
def Ys(ds:List ao)(d:ao):Prop:=∃(qz:List Sh)(ws:List Str),ds=[EH qz,fE ws]/\qz.length<=1000/\ws.length<=100002/\(∀x∈ws,wD x)/\d=jW qz ws
def EI(x:Str):Sh:=if x="name" then .name else if x="number" then .number else if x="count" then .count else if x="share" then .share else if x="count or -" then .mQ else if x="name or -" then .nz else .m9
theorem v7(s:Sh):EI s.tx=s:=by
 cases s<;>rfl
def Tn:ao->Option ao
 | .tuple [.str s,.str x]=>some (.bool (mF (EI s) x))
 |_=>none
def WN:ao->Option ao
 | .tuple [.str s,.str x]=>some (iM (EI s) x)
 |_=>none
theorem tG:∀(qz:List Sh)(ws:List Str),zB (qz.map λs=>aQ s.tx) (ws.map aQ)=(qz.zip ws).map λp=>.tuple [.str p.1.tx,.str p.2]
 | [],_=>rfl
 |_::_,[]=>rfl
 |s::qz,x::ws=>by
  have:=tG qz ws;unfold zB at this ⊢;rw[aN,aN,iV,iV,aN,aN,this]
theorem EJ(qz:List Sh)(ws:List Str):(zB (qz.map λs=>aQ s.tx) (ws.map aQ)).filterMap Tn=((qz.zip ws).map λp=>mF p.1 p.2).map .bool:=by
 rw[tG,cw,bf];exact filterMap_some λp _=>by show some (jE (mF (EI p.1.tx) p.2))=_;rw[v7];rfl
theorem Mt(qz:List Sh)(ws:List Str):(zB (qz.map λs=>aQ s.tx) (ws.map aQ)).filterMap WN=pJ qz ws:=by
 unfold pJ;rw[tG,cw];exact filterMap_some λp _=>by show some (iM (EI p.1.tx) p.2)=_;rw[v7]
theorem zaL(F:mw K "values_of" "values_of" (top 26) f fd)(n:Na mg)(mz:mg "zip"=none)(C1:bO P w K mg base 4 "fits" Ks (iE K (Ut true)))(C2:bO P w K mg base 1 "value_of" Ks (iE K Rvo)):fA P w K mg base kR 5 f fd Uu (iE K Ys):=
 ko F WM (λ_ _ h=>by obtain⟨_,_,rfl,_⟩:=h;rfl) λ_ _ h=>by
  obtain⟨qz,ws,rfl,DQ,hw1,hok,rfl⟩:=h;intro iD A outer sh H E hr;have qd:gj 1 _:=hr.mono (by omega)
  have nc:(["shape","word"]:List Str).Nodup:=by symm
  have hzl:(zB (qz.map λs=>aQ s.tx) (ws.map aQ)).length<=1000:=by rw[tG,aj,Au];omega
  have hlen:∀b,decide (ws.length=qz.length)=b->dF (.int ((ws.map aQ).length:Nat)) (.int ((qz.map λs=>aQ s.tx).length:Nat))=b:=λb hb=>by
   rw[oh,aj,aj,<-hb,gN,decide_eq_true_iff,decide_eq_true_iff];omega
  have zm:∀d∈zB (qz.map λs=>aQ s.tx) (ws.map aQ),∃s x,d=.tuple [.str (Sh.tx s),.str x]/\(s,x)∈qz.zip ws/\wD x:=λd hd=>by
   rw[tG]at hd;obtain⟨p,hp,rfl⟩:=aA.mp hd;exact⟨p.1,p.2,rfl,hp,hok _ (su hp).2⟩
  by_cases hl:ws.length=qz.length
  ·have D4:∀b,((qz.zip ws).all λp=>mF p.1 p.2)=b->mE ((qz.zip ws).map λp=>mF p.1 p.2)=b:=λb hb=>by
    unfold mE;rw[rZ];exact hb
   by_cases ha:((qz.zip ws).all λp=>mF p.1 p.2)=true
   ·have ev:jW qz ws=.tuple (pJ qz ws):=by unfold jW tF;rw[ha,qQ1 hl];rfl
    rw[ev];refine aI (cy (VT.to (kY (k1:=false) (k2:=false) (VT.to (pE hr (c0 20 _) (c0 20 _) (jg (ai 1 rfl) n.len) (n_ (ai 0 rfl) n.len)) (by rw[hlen true (qQ1 hl)];rfl)) (λ_=>VT.to (F8 (oJ (km (sU rfl) Ee (aq (VO.ve (VO.to (fJ (own:=["shape","word"]) (cap:=[]) (N:=["shape","word"]) (cl:=[]) (tgt:=.tup [0,1]) (F:=Tn) rfl ⟨rfl,by symm,by symm,rfl,rfl,by simp⟩ (Gh .tup .lst (ai 0 rfl) (ai 1 rfl) mz) (λf s3 H3=>ik rfl (b_ (bP (i:=0) nc rfl (bq rfl)) (b_ (bP (i:=1) nc rfl (bq rfl)) fP))) rfl
     (small (by omega)) (λd hd=>?_)) (EJ qz ws))) a7) n.all rfl) (t:=true) (by show some _=some _;rw[D4 true ha]))) rfl)) rfl) bS) ?_
    ·obtain⟨s,x,rfl,hp,ox⟩:=zm d hd
     refine⟨_,rfl,λf s3 H3=>fQ,λr jT f s3 H3=>?_⟩
     have jT:some (jE (mF (EI s.tx) x))=some r:=jT;rw[v7]at jT;cases jT;exact bU C1 hr (aq (ai 0 rfl) (aq (ai 1 rfl) a7)) ⟨s,x,rfl,ox,.inl rfl,rfl⟩
    refine bw (cD (mM mU yx (aq (VO.ve (VO.to (fJ (own:=["shape","word"]) (cap:=[]) (N:=["shape","word"]) (cl:=[]) (tgt:=.tup [0,1]) (F:=WN) rfl ⟨rfl,by symm,by symm,rfl,rfl,by simp⟩ (Gh .tup .lst (ai 0 rfl) (ai 1 rfl) mz) (λf s3 H3=>ik rfl (b_ (bP (i:=0) nc rfl (bq rfl)) (b_ (bP (i:=1) nc rfl (bq rfl)) fP))) rfl
     (small (by omega)) (λd hd=>?_)) (Mt qz ws))) a7) n.tup rfl))
    obtain⟨s,x,rfl,hp,ox⟩:=zm d hd;refine⟨_,rfl,λf s3 H3=>fQ,λr jT f s3 H3=>?_⟩
    have jT:some (iM (EI s.tx) x)=some r:=jT;rw[v7]at jT;cases jT;exact bU C2 qd (aq (ai 0 rfl) (aq (ai 1 rfl) a7)) ⟨s,x,rfl,ox,dU.mp ha (s,x) hp,rfl⟩
   ·have ha:=nF _▸ha
    have ev:jW qz ws=.none:=by unfold jW tF;rw[ha,uD];rfl
    rw[ev];refine dS (eu (VT.to (kY (k1:=false) (k2:=true) (VT.to (pE hr (c0 20 _) (c0 20 _) (jg (ai 1 rfl) n.len) (n_ (ai 0 rfl) n.len)) (by rw[hlen true (qQ1 hl)];rfl)) (λ_=>VT.to (F8 (oJ (km (sU rfl) Ee (aq (VO.ve (VO.to (fJ (own:=["shape","word"]) (cap:=[]) (N:=["shape","word"]) (cl:=[]) (tgt:=.tup [0,1]) (F:=Tn) rfl ⟨rfl,by symm,by symm,rfl,rfl,by simp⟩ (Gh .tup .lst (ai 0 rfl) (ai 1 rfl) mz) (λf s3 H3=>ik rfl (b_ (bP (i:=0) nc rfl (bq rfl)) (b_ (bP (i:=1) nc rfl (bq rfl)) fP))) rfl
     (small (by omega)) (λd hd=>?_)) (EJ qz ws))) a7) n.all rfl) (t:=false) (by show some _=some _;rw[D4 false ha]))) rfl)) rfl) (bw (cD jP))) rfl
    obtain⟨s,x,rfl,hp,ox⟩:=zm d hd;refine⟨_,rfl,λf s3 H3=>fQ,λr jT f s3 H3=>?_⟩
    have jT:some (jE (mF (EI s.tx) x))=some r:=jT;rw[v7]at jT;cases jT;exact bU C1 hr (aq (ai 0 rfl) (aq (ai 1 rfl) a7)) ⟨s,x,rfl,ox,.inl rfl,rfl⟩
  ·have ev:jW qz ws=.none:=by unfold jW tF;rw[qQ0 hl];rfl
   rw[ev];exact dS (eu (VT.to (kY (k1:=true) (k2:=true) (VT.to (pE hr (c0 20 _) (c0 20 _) (jg (ai 1 rfl) n.len) (n_ (ai 0 rfl) n.len)) (by rw[hlen false (qQ0 hl)];rfl)) (λz=>by cases z)) rfl) (bw (cD jP))) rfl
end
def pZ:Rl->Nat->Prop
 | .meet,n=>2<=n
 | .gather m a,_=>1<=m/\cV m/\cV a
 | .many m,_=>1<=m/\cV m
 | .rank none,_=>True
 | .rank (some b),_=>cV b
 | .turns s,n=>s.length=n/\∀z∈s,1<=z/\z<=9
 | .eldest,_=>True
theorem Tp(h:cV n)(hx:Dn x≠n):cK n≠x:=λz=>hx (by rw[<-z,EG h])
theorem Mu(h:cV n):cK n≠"-":=λz=>by
 have hd:45∈(cK n).cps.toList:=by rw[z];symm
 have:=mP h.1 hd;omega
theorem lA(h:cV n)(h1:1<=n):jV (cK n)=true:=by
 unfold jV;rw[zO h.1 h.2,qQ0 (Tp h (by rw[show Dn "0"=0 from by symm];omega))]
 rfl
theorem J2(h1:1<=n)(h9:n<=9):mF .share (cK n)=true:=by
 have hs:cV n:=⟨by omega,by omega⟩
 show(jV (cK n)&&decide (((cK n).length:Int)=1))=true
 rw[lA hs h1];rcases(by omega:n=1\/n=2\/n=3\/n=4\/n=5\/n=6\/n=7\/n=8\/n=9)with rfl|rfl|rfl|rfl|rfl|rfl|rfl|rfl|rfl<;>symm
theorem k9{s:Sh}(h:cV n)(h1:s≠.name)(h2:s≠.nz):iM s (cK n)=.int n:=by
 have e:iM s (cK n)=if cK n="-" then .none else .int (Dn (cK n)):=by cases s<;>first|exact qQ7 rfl h1|exact qQ7 rfl h2|rfl
 rw[e,qQ2 (Mu h),EG h]
theorem v8:∀s:List Int,(∀z∈s,1<=z/\z<=9)->tF (aT s.length .share) (s.map cK)=true/\pJ (aT s.length .share) (s.map cK)=s.map .int
 | [],_=>⟨rfl,rfl⟩
 |z::s,h=>by
  obtain⟨i1,i2⟩:=v8 s λx hx=>h x (aZ _ hx)
  obtain⟨z1,z9⟩:=h z aS;unfold tF at i1 ⊢;unfold pJ at i2 ⊢;obtain⟨j1,j2⟩:=jh.mp i1;rw[aX,dJ,aN,iV,List.all_cons,aN,aN,i2];refine⟨?_,?_⟩
  ·rw[j2,show mF (Sh.share,cK z).1 (Sh.share,cK z).2=true from J2 z1 z9]
   simp
  ·rw[show iM (Sh.share,cK z).1 (Sh.share,cK z).2=.int z from k9 (s:=.share) ⟨by omega,by omega⟩ (by intro z;cases z) (by intro z;cases z)]
def tH:Rl->List Sh
 | .rank _=>[.m9]
 | .many _=>[.count]
 | .gather _ _=>[.count,.number]
 |_=>[]
theorem EK{n:Nat}(h:pZ r n)(ht:∀s,r≠.turns s):tF (tH r) ((tf r).map eT)=true/\pJ (tH r) ((tf r).map eT)=tf r:=by
 cases r with
 |meet=>exact⟨rfl,rfl⟩
 |eldest=>exact⟨rfl,rfl⟩
 |turns s=>exact qQ7 rfl (ht s)
 |many m=>
  obtain⟨h1,h2⟩:=h
  constructor
  ·show(true&&(jV (cK m)&&true))=true
   rw[lA h2 h1];rfl
  ·show [iM .count (cK m)]=[iO m]
   rw[k9 h2 (by intro z;cases z) (by intro z;cases z)]
 |gather m a=>
  obtain⟨h1,h2,h3⟩:=h
  constructor
  ·show(true&&(jV (cK m)&&(isNumber (cK a)&&true)))=true
   rw[lA h2 h1,zO h3.1 h3.2];rfl
  ·show [iM .count (cK m),iM .number (cK a)]=[iO m,.int a]
   rw[k9 h2 (by intro z;cases z) (by intro z;cases z),k9 h3 (by intro z;cases z) (by intro z;cases z)]
 |rank b=>
  cases b with
  |none=>exact⟨by symm,rfl⟩
  |some b=>
   constructor
   ·show(true&&((decide (cK b="-")||isNumber (cK b))&&true))=true
    rw[zO h.1 h.2];simp
   ·show [iM .m9 (cK b)]=[iO b]
    rw[k9 h (by intro z;cases z) (by intro z;cases z)]
theorem pZ.ok{n:Nat}(hn:n<=60)(h:pZ r n):v5 r:=by
 cases r with
 |meet=>trivial
 |eldest=>trivial
 |gather m a=>exact h.2
 |many m=>exact h.2
 |rank b=>cases b with|none=>trivial|some b=>exact h
 |turns s=>exact⟨by have:=h.1;omega,λz hz=>by have:=h.2 z hz;exact⟨by omega,by omega⟩⟩
abbrev pK:List (Str×List Str):=[("kind",[("name":Str),"count or -"]),("gate",[("name":Str)]),("line",[("name":Str),"count"]),("time",[("name":Str),"name","count"]),("open",[("name":Str),"number","number"]),("pace",[("name":Str),"name","count","count"])]
abbrev v9:List (Str×List Str):=[("eldest",[]),("rank",[("number or -":Str)]),("many",[("count":Str)]),("gather",[("count":Str),"number"]),("meet",[])]
structure Np(mg:Str->Option aG)(pr:Ci)(K:au):Prop extends Na mg where
 zip:mg "zip"=none
 set:mg "set"=none
 any:mg "any"=none
 mp:∃t,mg "MOST_PLACES"=some (.int 6 t)
 fo:∃g,mg "FORMS"=some (.ref g)/\GD pr K g pK
 ru:∃g,mg "RULES"=some (.ref g)/\GD pr K g v9
theorem zS{α:Type}(x:α):∀n,(aT n [x]).flatten=aT n x
 |0=>rfl
 |n+1=>by rw[dJ,dX,zS x n];rfl
theorem zT(x:ao)(l:List ao):L2.cutD (x::l) (some 1) none=l:=(lR (x::l) 1).trans rfl
section
variable{P:bL}{w:cH}{K:au}{mg:Str->Option aG}{base:dw}{f:aR}{k:Nat}
abbrev WO:List Str:=["words","many","shares","values"]
theorem Mv:c7 WO ["words","many"] (bV (top 29)):=⟨rfl,rfl,rfl,by symm,rfl,by symm,by symm⟩
def WQ(ds:List ao)(d:ao):Prop:=∃(r:Rl)(n:Nat),ds=[fE (dm r),.int n]/\1<=n/\n<=6/\pZ r n/\d=IC r
theorem WR(F:mw K "rule_of" "rule_of" (top 29) f fd)(n:Np mg w.params K)(C:bO P w K mg base 5 "values_of" Uu (iE K Ys)):fA P w K mg base kR 6 f fd ["words","many"] (iE K WQ):=
 ko F Mv (λ_ _ h=>by obtain⟨_,_,rfl,_⟩:=h;rfl) λ_ _ h=>by
  obtain⟨r,m,rfl,m1,m6,hg,rfl⟩:=h;intro iD A outer s H E hr;have nd:WO.Nodup:=Mv.nd;have Uq:=hg.ok (by omega)
  by_cases ht:∃sh,r=.turns sh
  ·obtain⟨sh,rfl⟩:=ht
   obtain⟨hl,hz⟩:=hg;obtain⟨v1,v2⟩:=v8 sh hz;have ev:jW (aT m .share) (sh.map cK)=.tuple (sh.map .int):=by unfold jW;rw[<-hl,v1,v2];rfl
   refine dS (eu (VT.to (b0 hr a8 a8 (eX (ai 0 rfl) aD (ck (j:=0) rfl)) aL) (by rw[cn];exact qQ1 rfl)) (aI (dq 2 (d:=.tuple (sh.map .int)) (bU C hr (aq (VE.to (O1 (gu (aq aL a7)) (ai 1 rfl) (by omega) (by omega) (by show 1<=100;decide) (by simp)) (k:=EH (aT m .share)) (by rw[zS];unfold EH;rw[wB,fN];rfl)) (aq (VE.to (VO.ve (jJ (ai 0 rfl) (.yes aD) .no)) (k:=fE (sh.map cK)) (by show yf (L2.cutD (_::_) _ _)=_;rw[zT];rfl)) a7)) ⟨aT m .share,sh.map cK,rfl,by rw[c9];omega,by rw[aj];omega,λx hx=>?_,ev.symm⟩) nd) (bw (cD (CY (k:=false) (VT.to (jQ oG tE (ai 2 rfl) jP (jF _)) rfl) (λz=>by cases z) (λ_=>VE.to (gu (aq aL (aq (ai 2 rfl) a7))) rfl)))))) rfl
   obtain⟨z,hz',rfl⟩:=aA.mp hx;have:=hz z hz';exact nQ (by omega) (by omega)
  ·have Dl:∀sh,r≠.turns sh:=λsh z=>ht ⟨sh,z⟩
   obtain⟨v1,v2⟩:=EK hg Dl;have Ms:dm r=pX r::(tf r).map eT:=by
    cases r with
    |turns sh=>exact qQ7 rfl (Dl sh)
    |_=>rfl
   have hw:pX r≠"turns":=by
    cases r with
    |turns sh=>exact qQ7 rfl (Dl sh)
    |_=>dsimp only[pX];symm
   have oR:nO (pX r):=by cases r<;>dsimp only[pX,nO]<;>symm
   have hk:ku v9 (pX r)=some ((tH r).map Sh.tx):=by
    cases r with
    |turns sh=>exact qQ7 rfl (Dl sh)
    |meet=>symm
    |eldest=>symm
    |rank b=>show ku v9 "rank"=some ([Sh.m9].map Sh.tx);symm
    |many m=>show ku v9 "many"=some ([Sh.count].map Sh.tx);symm
    |gather m a=>show ku v9 "gather"=some ([Sh.count,Sh.number].map Sh.tx);symm
   have hme:decide (pX r="meet")=true->¬(m:Int)<2:=by
    cases r with
    |meet=>intro _;have:2<=m:=hg;omega
    |turns sh=>exact qQ7 rfl (Dl sh)
    |eldest=>intro z;exact qQ7 z (by symm)
    |rank b=>intro z;exact qQ7 z (show ¬decide (("rank":Str)="meet")=true by symm)
    |many m=>intro z;exact qQ7 z (show ¬decide (("many":Str)="meet")=true by symm)
    |gather m a=>intro z;exact qQ7 z (show ¬decide (("gather":Str)="meet")=true by symm)
   have hal:(tf r).length<=2:=by cases r<;>simp[tf]
   have hok:=zP Dl Uq;have hsl:(tH r).length<=2:=by cases r<;>simp[tH]
   have ev:jW (tH r) ((tf r).map eT)=.tuple (tf r):=by unfold jW;rw[v1,v2];rfl
   rw[Ms];unfold IC
   generalize hA:tf r=ra at *
   generalize hW:pX r=rR at *
   obtain⟨g1,q1,q2⟩:=n.ru;have a0:tX ((rR::ra.map eT).map aQ) 0=some (.str rR):=ck (j:=0) rfl;refine aI (cy (VT.to (b0 hr (bH oR) a8 (eX (ai 0 rfl) aD a0) aL) (by rw[cn];exact qQ0 hw)) bS) ?_
   refine aI (cy (VT.to (kY (k1:=false) (k2:=decide (rR="meet")&&decide ((m:Int)<2)) (VT.to (Bv q1 q2 (eX (ai 0 rfl) aD a0)) (by rw[hk];rfl)) (λ_=>qO (VT.to (b0 hr (bH oR) a8 (eX (ai 0 rfl) aD a0) aL) (by rw[cn])) (λ_=>xG (ai 1 rfl) aD))) ?_) bS) ?_
   ·cases hd:decide (rR="meet") with
    |false=>rfl
    |true=>rw[qQ0 (hme hd)];rfl
   refine aI (dq 3 (d:=.tuple ra) (bU C hr (aq (VE.to (Io q1 q2 (eX (ai 0 rfl) aD a0) hk) (k:=EH (tH r)) (by unfold EH;rw[bf];rfl)) (aq (VE.to (VO.ve (jJ (ai 0 rfl) (.yes aD) .no)) (k:=fE (ra.map eT)) (by show yf (L2.cutD (_::_) _ _)=_;rw[zT];rfl)) a7)) ⟨tH r,ra.map eT,rfl,by omega,by rw[aj];omega,λx hx=>?_,ev.symm⟩) nd) ?_
   ·obtain⟨z,hz,rfl⟩:=aA.mp hx
    have:=hok z hz;cases z with
    |none=>exact⟨by decide,by show cX (.str ("-":Str))=true;symm⟩
    |int i=>exact nQ this.1 this.2
    |str x=>
     show wD (if x="" then "-" else x)
     split
     ·exact⟨by decide,by show cX (.str ("-":Str))=true;symm⟩
     ·rename_i hx
      exact(this.resolve_left hx).ok
    |_=>exact this.elim
   ·exact bw (cD (CY (k:=false) (VT.to (jQ oG tE (ai 3 rfl) jP (jF _)) rfl) (λz=>by cases z) (λ_=>VE.to (yB (gu (aq (eX (ai 0 rfl) aD a0) a7)) (ai 3 rfl) (by simp) (small (by simp only[aX,cz];omega))) rfl)))
theorem WT:c7 ["names"] ["names"] (bV (top 30)):=⟨rfl,rfl,rfl,by symm,rfl,by symm,by symm⟩
def Mw(l:List Str):Prop:=1<=l.length/\l.length<=6/\l.Nodup/\∀x∈l,cZ x
def Rap(ds:List ao)(d:ao):Prop:=∃l:List Str,ds=[.tuple (l.map .str)]/\Mw l/\d=.bool true
def QO:ao->Option ao
 | .str x=>some (.bool (isName x))
 |_=>none
theorem J3(l:List Str):(l.map aQ).filterMap QO=(l.map isName).map .bool:=by
 rw[cw,bf];exact filterMap_some λk _=>rfl
theorem zaN(F:mw K "are_places" "are_places" (top 30) f fd)(n:Np mg w.params K)(C:bO P w K mg base 2 "is_name" ["word"] (iE K Wv)):fA P w K mg base kR 3 f fd ["names"] (iE K Rap):=
 ko F WT (λ_ _ h=>by obtain⟨_,rfl,_⟩:=h;rfl) λ_ _ h=>by
  obtain⟨l,rfl,⟨l1,l6,lnd,WU⟩,rfl⟩:=h;intro iD A outer s H E hr;obtain⟨t,m6⟩:=n.mp;have nc:(["name"]:List Str).Nodup:=by symm
  have hdd:dd [] l=l:=Ed (by simpa using lnd)
  have D4:mE (l.map isName)=true:=by
   unfold mE;rw[rZ,dU];intro x hx;exact(WU x hx).is
  refine bw (cD (VE.to (oK (k1:=true) (VE.to (Es HM HM (Ea 1 l.length) (Ea l.length 6) aD (VE.to (n_ (ai 0 rfl) n.len) (by rw[aj])) (λ_=>Iz m6)) (by rw[qQ1 (by omega),qQ1 (by omega)];rfl)) (λ_=>oK (k1:=true) (VE.to (km (sU rfl) Ee (aq (VO.ve (VO.to (fJ (own:=["name"]) (cap:=[]) (N:=["name"]) (cl:=[]) (tgt:=.one 0) (F:=QO) (ds:=l.map aQ) rfl ⟨rfl,by symm,by symm,rfl,rfl,by simp⟩ (zq (ai 0 rfl)) (λf s3 H3=>bP (i:=0) nc rfl (bq rfl)) rfl
   (small (by rw[aj];omega)) (λd hd=>?_)) (J3 _))) a7) n.all rfl) (by rw[D4])) (λ_=>kr (sP hr (c0 20 _) (c0 20 _) (Ei (ai 0 rfl) (by omega) rfl n.len n.set) (n_ (ai 0 rfl) n.len))))) ?_))
  ·obtain⟨z,hz,rfl⟩:=aA.mp hd
   refine⟨_,rfl,λf s3 H3=>fQ,λr jT f s3 H3=>?_⟩
   cases jT;exact bU C hr (aq (ai 0 rfl) a7) ⟨z,rfl,(WU z hz).ok.1,rfl⟩
  ·rw[oh,hdd,aj,qQ1 rfl];rfl
end
inductive Ent where
 |kind (n:Str) (k:Option Int)
 |gate (n:Str)
 |line (n:Str) (r:Int)
 |desk (d:Dk)
 |time (d k:Str) (w:Int)
 |hour (d:Str) (a b:Int)
 |pace (g k:Str) (a b:Int)
variable{e:Ent}
def Ent.form:Ent->Str
 | .kind _ _=>"kind"
 | .gate _=>"gate"
 | .line _ _=>"line"
 | .desk _=>"desk"
 | .time _ _ _=>"time"
 | .hour _ _ _=>"open"
 | .pace _ _ _ _=>"pace"
def Ent.rest:Ent->List ao
 | .kind n k=>[.str n,o7 k]
 | .gate n=>[.str n]
 | .line n r=>[.str n,.int r]
 | .desk d=>[.str d.name,.str d.to,IC d.rule,.tuple (d.places.map .str)]
 | .time d k w=>[.str d,.str k,.int w]
 | .hour d a b=>[.str d,.int a,.int b]
 | .pace g k a b=>[.str g,.str k,.int a,.int b]
def yk(e:Ent):ao:=.tuple (.str e.form::e.rest)
def jX(d:Dk):List Str:=[("desk":Str),d.name,"to",eT (.str d.to),"by"]++dm d.rule ++ [("from":Str)]++d.places
def rT:Ent->List Str
 | .kind n k=>[("kind":Str),n,eT (o7 k)]
 | .gate n=>[("gate":Str),n]
 | .line n r=>[("line":Str),n,cK r]
 | .desk d=>jX d
 | .time d k w=>[("time":Str),d,k,cK w]
 | .hour d a b=>[("open":Str),d,cK a,cK b]
 | .pace g k a b=>[("pace":Str),g,k,cK a,cK b]
def GU(d:Dk):Prop:=cZ d.name/\(d.to=""\/cZ d.to)/\pZ d.rule d.places.length/\Mw d.places
def gX:Ent->Prop
 | .kind n k=>cZ n/\∀i,k=some i->1<=i/\cV i
 | .gate n=>cZ n
 | .line n r=>cZ n/\1<=r/\cV r
 | .desk d=>GU d
 | .time d k w=>cZ d/\cZ k/\1<=w/\cV w
 | .hour d a b=>cZ d/\cV a/\cV b/\a<b
 | .pace g k a b=>cZ g/\cZ k/\(1<=a/\cV a)/\1<=b/\cV b
theorem Dp(h:cZ x):x≠"-":=λz=>by
 have hd:45∈x.cps.toList:=by rw[z];symm
 have:=h.2.2 _ hd;omega
theorem mR(h:cZ x):eT (.str x)=x:=by
 show(if x="" then("-":Str)else x)=x
 rw[qQ2 (gy h).1]
theorem wa(h:GH d):wD (eT d):=by
 have h0:wD "-":=⟨by decide,by show cX (.str ("-":Str))=true;symm⟩
 cases d with
 |none=>exact h0
 |int i=>exact nQ h.1 h.2
 |str x=>
  show wD (if x="" then "-" else x)
  split
  ·exact h0
  ·rename_i hx
   exact(h.resolve_left hx).ok
 |_=>exact h.elim
theorem EL(h:v5 r):∀x∈dm r,wD x:=by
 intro x hx;by_cases ht:∃sh,r=.turns sh
 ·obtain⟨sh,rfl⟩:=ht
  rcases aE.mp hx with rfl|hx
  ·exact⟨by decide,by show cX (.str ("turns":Str))=true;symm⟩
  ·obtain⟨z,hz,rfl⟩:=aA.mp hx
   exact nQ (h.2 z hz).1 (h.2 z hz).2
 ·have Dl:∀sh,r≠.turns sh:=λsh z=>ht ⟨sh,z⟩
  have Ms:dm r=pX r::(tf r).map eT:=by
   cases r with
   |turns sh=>exact qQ7 rfl (Dl sh)
   |_=>rfl
  rw[Ms]at hx;rcases aE.mp hx with rfl|hx
  ·cases r<;>(refine⟨?_,?_⟩<;>dsimp only[pX,nO]<;>symm)
  ·obtain⟨z,hz,rfl⟩:=aA.mp hx
   exact wa (zP Dl h z hz)
theorem Mx{n:Nat}(hn:n<=6)(h:pZ r n):1<=(dm r).length/\(dm r).length<=7:=by
 cases r with
 |turns s=>have:=h.1;simp[dm];omega
 |_=>simp[dm,tf]
theorem Dq(h:v5 r):∀x∈(dm r).drop 1,x≠"from":=by
 have hd:∀d,GH d->(∀x,d≠.str x)->eT d≠"from":=by
  intro d hd hs;cases d with
  |none=>symm
  |int i=>
   intro z;have:102∈(cK i).cps.toList:=by
    have z:cK i="from":=z;rw[z];symm
   have:=mP hd.1 this;omega
  |str x=>exact qQ7 rfl (hs x)
  |_=>exact hd.elim
 intro x hx;cases r with
 |turns s=>
  obtain⟨z,hz,rfl⟩:=aA.mp (show x∈s.map cK from hx)
  exact hd (.int z) (h.2 z hz) (by intro x z;cases z)
 |meet=>cases hx
 |eldest=>cases hx
 |gather m a=>
  simp only[dm,tf,aN,fX,vz,my,aE,bB,or_false]at hx;rcases hx with rfl|rfl
  ·exact hd (.int m) h.1 (by intro x z;cases z)
  ·exact hd (.int a) h.2 (by intro x z;cases z)
 |many m=>
  simp only[dm,tf,aN,fX,vz,my,aE,bB,or_false]at hx;rw[hx];exact hd (.int m) h (by intro x z;cases z)
 |rank b=>
  simp only[dm,tf,aN,fX,vz,my,aE,bB,or_false]at hx;rw[hx];cases b with
  |none=>exact hd .none trivial (by intro x z;cases z)
  |some b=>exact hd (.int b) h (by intro x z;cases z)
section
variable{P:bL}{w:cH}{K:au}{mg:Str->Option aG}{base:dw}{f:aR}{k:Nat}
abbrev Nde:List Str:=["words","end","head","places","rule"]
theorem QP:c7 Nde ["words"] (bV (top 28)):=⟨rfl,rfl,rfl,by symm,rfl,by symm,by symm⟩
def Rde(ds:List ao)(d:ao):Prop:=∃q:Dk,ds=[fE (jX q)]/\GU q/\d=yk (.desk q)
theorem zaO{α:Type}(l:List α)(a b:Nat)(ha:a<=b)(hb:b<=l.length):L2.cutD l (some (a:Int)) (some (b:Int))=(l.drop a).take (b-a):=by
 unfold L2.cutD;rw[HT.pw,HT.pw,oB hb,oB (show a<=l.length by omega)]
theorem Dr(h:∀x∈l,wD x):Lay 20 (fE l):=yA (n:=19) λd hd=>by
 obtain⟨x,hx,rfl⟩:=aA.mp hd;exact bH (h x hx).2
theorem mS(x:Str)(l:List Str):uG (.str x) (.list (l.map aQ))=decide (x∈l):=by
 show((l.map aQ).any λy=>dF y (.str x))=_
 rw[xB]
 induction l with
 |nil=>rfl
 |cons y l ih=>
  rw[nH,ih]
  show(dF (.str y) (.str x)||decide (x∈l))=_
  rw[cn,gN];simp only[jf,decide_eq_true_eq,aE]
  constructor
  ·rintro(h|h)
   ·exact .inl h.symm
   ·exact .inr h
  ·rintro(h|h)
   ·exact .inl h.symm
   ·exact .inr h
theorem zaP(F:mw K "desk_entry" "desk_entry" (top 28) f fd)(n:Np mg w.params K)(C1:bO P w K mg base 5 "values_of" Uu (iE K Ys))(C2:bO P w K mg base 6 "rule_of" ["words","many"] (iE K WQ))(C3:bO P w K mg base 3 "are_places" ["names"] (iE K Rap)):fA P w K mg base kR 7 f fd ["words"] (iE K Rde):=
 ko F QP (λ_ _ h=>by obtain⟨_,rfl,_⟩:=h;rfl) λ_ _ h=>by
  obtain⟨q,rfl,⟨hn,Yq,WB,Qu⟩,rfl⟩:=h;intro iD A outer s H E hr;have nd:Nde.Nodup:=QP.nd;have zaQ:=Qu;obtain⟨p1,p6,pnd,pnm⟩:=zaQ;have Uq:=WB.ok (by omega)
  obtain⟨r1,r7⟩:=Mx p6 WB;have rok:=EL Uq;have rnf:=Dq Uq;have WV:wD (eT (.str q.to)):=wa (d:=.str q.to) Yq;obtain⟨rw0,rest,Tq⟩:∃a l,dm q.rule=a::l:=by
   cases e:dm q.rule with
   |nil=>rw[e]at r1;simp at r1
   |cons a l=>exact⟨a,l,rfl⟩
  have WW:wD "from":=⟨by decide,by show cX (.str ("from":Str))=true;symm⟩
  have hW:jX q=("desk":Str)::q.name::"to"::eT (.str q.to)::"by"::rw0::(rest++("from":Str)::q.places):=by
   unfold jX;rw[Tq];simp
  have zaT:∀x∈rest,wD x:=λx hx=>rok x (by rw[Tq];exact aZ _ hx)
  have zaU:∀x∈rest,x≠"from":=λx hx=>rnf x (by rw[Tq];exact hx)
  have zgD:rest.length<=6:=by rw[Tq]at r7;simp at r7;omega
  have lit:∀x:Str,cX (.str x)=true->x.length<=100000->wD x:=λx h1 h2=>⟨h2,h1⟩
  have hok:∀x∈jX q,wD x:=by
   intro x hx;rw[hW]at hx;simp only[aE,bp]at hx;rcases hx with rfl|rfl|rfl|rfl|rfl|rfl|hx|rfl|hx
   ·exact lit _ (by symm) (by decide)
   ·exact hn.ok
   ·exact lit _ (by symm) (by decide)
   ·exact WV
   ·exact lit _ (by symm) (by decide)
   ·exact rok _ (by rw[Tq];exact aS)
   ·exact zaT x hx
   ·exact WW
   ·exact(pnm x hx).ok
  have hlay:=Dr hok;have hlen:(jX q).length=7+rest.length+q.places.length:=by rw[hW];simp;omega
  have WX:(jX q).drop 6=rest++("from":Str)::q.places:=by rw[hW];rfl
  have WY:L2.cutD ((jX q).map aQ) (some 6) none=(rest++("from":Str)::q.places).map aQ:=by rw[<-WX,qF];exact lR _ 6
  have WZ:Lay 20 (.list ((rest++("from":Str)::q.places).map aQ)):=Dr λx hx=>by
   refine hok x ?_
   rw[<-WX]at hx;exact er hx
  have QQ:Lay 20 (.str "from"):=a8;have PJ:∀(j:Nat)(x:Str),(jX q)[j]?=some x->tX ((jX q).map aQ) (j:Int)=some (.str x):=λj x h=>ck (by rw[aW,h];rfl)
  have g1:(jX q)[1]?=some q.name:=by rw[hW];rfl
  have g2:(jX q)[2]?=some ("to":Str):=by rw[hW];rfl
  have g3:(jX q)[3]?=some (eT (.str q.to)):=by rw[hW];rfl
  have g4:(jX q)[4]?=some ("by":Str):=by rw[hW];rfl
  have OL:(jX q)[6+rest.length]?=some ("from":Str):=by
   have:(jX q)[6+rest.length]?=((jX q).drop 6)[rest.length]?:=by rw[List.getElem?_drop]
   rw[this,WX,cJ (ay _),FC];rfl
  have Kn:∀j (h:j<(jX q).length),6<=j->j<6+rest.length->(jX q)[j]≠"from":=by
   intro j h j6 jr;have:(jX q)[j]?=((jX q).drop 6)[j-6]?:=by rw[List.getElem?_drop];congr 1;omega
   rw[WX,cO (by omega),ax h,ax (by omega)]at this
   rw[dC this];exact zaU _ (dv _)
  have PK:L2.cutD ((jX q).map aQ) (some ((6+rest.length:Nat)+1:Int)) none=q.places.map aQ:=by
   rw[show((6+rest.length:Nat)+1:Int)=((6+rest.length+1:Nat):Int)from by omega,lR,<-qF]
   congr 1
   rw[show 6+rest.length+1=6+(rest.length+1)from by omega,<-List.drop_drop,WX,List.drop_append,r9 (by omega),show rest.length+1-rest.length=1 from by omega]
   rfl
  have W1:L2.cutD ((jX q).map aQ) (some 5) (some ((6+rest.length:Nat):Int))=(dm q.rule).map aQ:=by
   rw[show(5:Int)=((5:Nat):Int)from rfl,zaO _ 5 (6+rest.length) (by omega) (by rw[aj];omega),<-qF,<-DN]
   congr 1
   rw[hW,Tq]
   show((rw0::(rest++("from":Str)::q.places))).take (6+rest.length-5)=rw0::rest
   rw[show 6+rest.length-5=rest.length+1 from by omega,List.take_succ_cons,List.take_left' rfl]
  refine aI (cy (VT.to (Lf (k1:=false) (k2:=false) (k3:=false) (VT.to (Eb hr rfl QQ WZ aL (VE.to (VO.ve (jJ (ai 0 rfl) (.yes aD) .no)) (by rw[WY]))) (by rw[mS,qQ1 (by simp)];rfl)) (λ_=>VT.to (pE hr a8 a8 (eX (ai 0 rfl) aD (PJ 2 _ g2)) aL) (by rw[cn,qQ1 rfl];rfl)) (λ_ _=>VT.to (pE hr a8 a8 (eX (ai 0 rfl) aD (PJ 4 _ g4)) aL) (by rw[cn,qQ1 rfl];rfl))) rfl) bS) ?_
  refine aI (dq 1 (d:=.int ((6+rest.length:Nat):Int)) (JG (i:=6) (j:=6+rest.length) hr (ai 0 rfl) aL aD hlay QQ (by omega) ⟨by rw[aj];omega,?_⟩ (λj h j6 jr=>?_)) nd) ?_
  ·have:(jX q)[6+rest.length]'(by omega)="from":=by
    rw[ax (by omega)]at OL
    exact dC OL
   rw[List.getElem_map,cn,this];exact qQ1 rfl
  ·rw[aj]at h
   rw[List.getElem_map,cn];exact qQ0 (Kn j h j6 jr)
  have KS:jW [.name,.nz] [q.name,eT (.str q.to)]=.tuple [.str q.name,.str q.to]:=by
   have f2:mF .nz (eT (.str q.to))=true/\iM .nz (eT (.str q.to))=.str q.to:=by
    rcases Yq with h|h
    ·rw[h];exact⟨by symm,rfl⟩
    ·rw[mR h]
     refine⟨?_,?_⟩
     ·show(decide (q.to="-")||isName q.to)=true
      rw[h.is,rY]
     ·show aQ (if q.to="-" then "" else q.to)=_
      rw[qQ2 (Dp h)]
   unfold jW tF pJ
   show(if(true&&(isName q.name&&(mF .nz (eT (.str q.to))&&true)))=true then fS [.str q.name,iM .nz (eT (.str q.to))]else .none)=_
   rw[hn.is,f2.1,f2.2];rfl
  refine aI (dq 2 (d:=.tuple [.str q.name,.str q.to]) (bU C1 (hr.mono (by omega)) (aq (VE.to (gu (aq aL (aq aL a7))) (k:=EH [.name,.nz]) rfl) (aq (VE.to (VO.ve (fh (aq (eX (ai 0 rfl) aD (PJ 1 _ g1)) (aq (eX (ai 0 rfl) aD (PJ 3 _ g3)) a7)))) (k:=fE [q.name,eT (.str q.to)]) rfl) a7)) ⟨_,_,rfl,by show 2<=1000;decide,by show 2<=100002;decide,λx hx=>?_,KS.symm⟩) nd) ?_
  ·simp only[aE,bB,or_false]at hx
   rcases hx with rfl|rfl
   ·exact hn.ok
   ·exact WV
  refine aI (dq 3 (d:=.tuple (q.places.map .str)) (mM mU yx (aq (VE.to (VO.ve (jJ (ai 0 rfl) (.yes (eM (ai 1 rfl) aD)) .no)) (by rw[PK])) a7) n.tup rfl) nd) ?_
  refine aI (dq 4 (d:=IC q.rule) (bU C2 hr (aq (VE.to (VO.ve (jJ (ai 0 rfl) (.yes aD) (.yes (ai 1 rfl)))) (k:=fE (dm q.rule)) (by rw[W1];rfl)) (aq (VE.to (n_ (ai 3 rfl) n.len) (by rw[aj])) a7)) ⟨q.rule,q.places.length,rfl,p1,p6,WB,rfl⟩) nd) ?_
  refine aI (cy (VT.to (Lf (k1:=false) (k2:=false) (k3:=false) (VT.to (jQ oG tE (ai 2 rfl) jP (jF _)) rfl) (λ_=>VT.to (jQ oG tE (ai 4 rfl) jP (jF _)) rfl) (λ_ _=>VT.to (F8 (oJ (bU C3 (hr.mono (by omega)) (aq (ai 3 rfl) a7) ⟨q.places,rfl,Qu,rfl⟩) rfl)) rfl)) rfl) bS) ?_
  exact bw (cD (VE.to (gu (aq aL (aq (cC (ai 2 rfl) aD (ck (j:=0) rfl)) (aq (cC (ai 2 rfl) aD (ck (j:=1) rfl)) (aq (ai 4 rfl) (aq (ai 3 rfl) a7)))))) rfl))
abbrev Neo:List Str:=["words","form","values"]
theorem QR:c7 Neo ["words"] (bV (top 27)):=⟨rfl,rfl,rfl,by symm,rfl,by symm,by symm⟩
def Reo(ds:List ao)(d:ao):Prop:=∃e:Ent,ds=[fE (rT e)]/\gX e/\d=yk e
def BP:Ent->List Sh
 | .kind _ _=>[.name,.mQ]
 | .gate _=>[.name]
 | .line _ _=>[.name,.count]
 | .desk _=>[]
 | .time _ _ _=>[.name,.name,.count]
 | .hour _ _ _=>[.name,.number,.number]
 | .pace _ _ _ _=>[.name,.name,.count,.count]
theorem GV(h:gX e)(hd:∀q,e≠.desk q):∃ws,rT e=e.form::ws/\ws.length<=4/\(∀x∈ws,wD x)/\jW (BP e) ws=.tuple e.rest/\ku pK e.form=some ((BP e).map Sh.tx)/\e.form≠"desk"/\nO e.form:=by
 cases e with
 |desk q=>exact qQ7 rfl (hd q)
 |kind n k=>
  obtain⟨hn,hk⟩:=h;have ok2:wD (eT (o7 k))/\mF .mQ (eT (o7 k))=true/\iM .mQ (eT (o7 k))=o7 k:=by
   cases k with
   |none=>exact⟨wa (d:=.none) trivial,by symm,rfl⟩
   |some i=>
    obtain⟨h1,h2⟩:=hk i rfl;refine⟨nQ h2.1 h2.2,?_,k9 h2 (by intro z;cases z) (by intro z;cases z)⟩
    show(decide (cK i="-")||jV (cK i))=true
    rw[lA h2 h1,rY]
  refine⟨[n,eT (o7 k)],rfl,by show 2<=4;decide,λx hx=>?_,?_,(show ku pK "kind"=some ([Sh.name,Sh.mQ].map Sh.tx) by symm),(show("kind":Str)≠"desk" by symm),(show cX (.str ("kind":Str))=true by symm)⟩
  ·simp only[aE,bB,or_false]at hx
   rcases hx with rfl|rfl
   ·exact hn.ok
   ·exact ok2.1
  ·show(if(true&&(isName n&&(mF .mQ (eT (o7 k))&&true)))=true then fS [.str n,iM .mQ (eT (o7 k))]else .none)=_
   rw[hn.is,ok2.2.1,ok2.2.2];rfl
 |gate n=>
  refine⟨[n],rfl,by show 1<=4;decide,λx hx=>?_,?_,(show ku pK "gate"=some ([Sh.name].map Sh.tx) by symm),(show("gate":Str)≠"desk" by symm),(show cX (.str ("gate":Str))=true by symm)⟩
  ·rw[aK.mp hx];exact(show cZ n from h).ok
  ·show(if(true&&(isName n&&true))=true then fS [.str n]else .none)=_
   rw[(show cZ n from h).is];rfl
 |line n r=>
  obtain⟨hn,h1,h2⟩:=h;refine⟨[n,cK r],rfl,by show 2<=4;decide,λx hx=>?_,?_,(show ku pK "line"=some ([Sh.name,Sh.count].map Sh.tx) by symm),(show("line":Str)≠"desk" by symm),(show cX (.str ("line":Str))=true by symm)⟩
  ·simp only[aE,bB,or_false]at hx
   rcases hx with rfl|rfl
   ·exact hn.ok
   ·exact nQ h2.1 h2.2
  ·show(if(true&&(isName n&&(jV (cK r)&&true)))=true then fS [.str n,iM .count (cK r)]else .none)=_
   rw[hn.is,lA h2 h1,k9 h2 (by intro z;cases z) (by intro z;cases z)];rfl
 |time d k w=>
  obtain⟨hn,hk,h1,h2⟩:=h;refine⟨[d,k,cK w],rfl,by show 3<=4;decide,λx hx=>?_,?_,(show ku pK "time"=some ([Sh.name,Sh.name,Sh.count].map Sh.tx) by symm),(show("time":Str)≠"desk" by symm),(show cX (.str ("time":Str))=true by symm)⟩
  ·simp only[aE,bB,or_false]at hx
   rcases hx with rfl|rfl|rfl
   ·exact hn.ok
   ·exact hk.ok
   ·exact nQ h2.1 h2.2
  ·show(if(true&&(isName d&&(isName k&&(jV (cK w)&&true))))=true then fS [.str d,.str k,iM .count (cK w)]else .none)=_
   rw[hn.is,hk.is,lA h2 h1,k9 h2 (by intro z;cases z) (by intro z;cases z)];rfl
 |hour d a b=>
  obtain⟨hn,h1,h2,_⟩:=h;refine⟨[d,cK a,cK b],rfl,by show 3<=4;decide,λx hx=>?_,?_,(show ku pK "open"=some ([Sh.name,Sh.number,Sh.number].map Sh.tx) by symm),(show("open":Str)≠"desk" by symm),(show cX (.str ("open":Str))=true by symm)⟩
  ·simp only[aE,bB,or_false]at hx
   rcases hx with rfl|rfl|rfl
   ·exact hn.ok
   ·exact nQ h1.1 h1.2
   ·exact nQ h2.1 h2.2
  ·show(if(true&&(isName d&&(isNumber (cK a)&&(isNumber (cK b)&&true))))=true then fS [.str d,iM .number (cK a),iM .number (cK b)]else .none)=_
   rw[hn.is,zO h1.1 h1.2,zO h2.1 h2.2,k9 h1 (by intro z;cases z) (by intro z;cases z),k9 h2 (by intro z;cases z) (by intro z;cases z)];rfl
 |pace g k a b=>
  obtain⟨hn,hk,⟨h1,h2⟩,h3,h4⟩:=h;refine⟨[g,k,cK a,cK b],rfl,by show 4<=4;decide,λx hx=>?_,?_,(show ku pK "pace"=some ([Sh.name,Sh.name,Sh.count,Sh.count].map Sh.tx) by symm),(show("pace":Str)≠"desk" by symm),(show cX (.str ("pace":Str))=true by symm)⟩
  ·simp only[aE,bB,or_false]at hx
   rcases hx with rfl|rfl|rfl|rfl
   ·exact hn.ok
   ·exact hk.ok
   ·exact nQ h2.1 h2.2
   ·exact nQ h4.1 h4.2
  ·show(if(true&&(isName g&&(isName k&&(jV (cK a)&&(jV (cK b)&&true)))))=true then fS [.str g,.str k,iM .count (cK a),iM .count (cK b)]else .none)=_
   rw[hn.is,hk.is,lA h2 h1,lA h4 h3,k9 h2 (by intro z;cases z) (by intro z;cases z),k9 h4 (by intro z;cases z) (by intro z;cases z)];rfl
theorem zaX(F:mw K "entry_of" "entry_of" (top 27) f fd)(n:Np mg w.params K)(C1:bO P w K mg base 5 "values_of" Uu (iE K Ys))(C2:bO P w K mg base 7 "desk_entry" ["words"] (iE K Rde)):fA P w K mg base kR 8 f fd ["words"] (iE K Reo):=
 ko F QR (λ_ _ h=>by obtain⟨_,rfl,_⟩:=h;rfl) λ_ _ h=>by
  obtain⟨e,rfl,ok,rfl⟩:=h;intro iD A outer s H E hr;have nd:Neo.Nodup:=QR.nd;by_cases hd:∃q,e=.desk q
  ·obtain⟨q,rfl⟩:=hd
   refine aI (dq 1 (d:=.str "desk") (eX (ai 0 rfl) aD (ck (j:=0) rfl)) nd) ?_
   exact dS (eu (VT.to (b0 hr a8 a8 (ai 1 rfl) aL) (by rw[cn];exact qQ1 rfl)) (bw (cD (bU C2 hr (aq (ai 0 rfl) a7) ⟨q,rfl,ok,rfl⟩)))) rfl
  ·have X2:∀q,e≠.desk q:=λq z=>hd ⟨q,z⟩
   obtain⟨ws,w1,w2,w3,w4,w5,w6,w7⟩:=GV ok X2;obtain⟨g1,q1,q2⟩:=n.fo;rw[w1];have hsl:(BP e).length<=4:=by cases e<;>simp[BP]
   refine aI (dq 1 (d:=.str e.form) (eX (ai 0 rfl) aD (ck (j:=0) rfl)) nd) ?_
   refine aI (cy (VT.to (b0 hr (bH w7) a8 (ai 1 rfl) aL) (by rw[cn];exact qQ0 w6)) bS) ?_
   refine aI (cy (VT.to (Bv q1 q2 (ai 1 rfl)) (by rw[w5];rfl)) bS) ?_
   refine aI (dq 2 (d:=.tuple e.rest) (bU C1 (hr.mono (by omega)) (aq (VE.to (Io q1 q2 (ai 1 rfl) w5) (k:=EH (BP e)) (by unfold EH;rw[bf];rfl)) (aq (VE.to (VO.ve (jJ (ai 0 rfl) (.yes aD) .no)) (k:=fE ws) (by show yf (L2.cutD (_::_) _ _)=_;rw[zT];rfl)) a7)) ⟨BP e,ws,rfl,by omega,by omega,w3,w4.symm⟩) nd) ?_
   have WB:e.rest.length<=4:=by cases e<;>simp[Ent.rest]
   refine aI (cy ?_ bS) (bw (cD (VE.to (yB (gu (aq (ai 1 rfl) a7)) (ai 2 rfl) (by simp) (small (by simp only[aX,cz];omega))) rfl)))
   cases e with
   |hour d a b=>
    exact VT.to (kY (k1:=false) (k2:=false) (VT.to (jQ oG tE (ai 2 rfl) jP (jF _)) rfl) (λ_=>VT.to (qO (k1:=true) (k2:=false) (VT.to (b0 hr (bH w7) a8 (ai 1 rfl) aL) (by rw[cn];exact qQ1 rfl)) (λ_=>VT.to (Qq (cC (ai 2 rfl) aD (ck (j:=1) rfl)) (cC (ai 2 rfl) aD (ck (j:=2) rfl))) (qQ0 (by have:=ok.2.2.2;omega)))) rfl)) rfl
   |_=>
    exact VT.to (kY (k1:=false) (k2:=false) (VT.to (jQ oG tE (ai 2 rfl) jP (jF _)) rfl) (λ_=>VT.to (qO (k1:=false) (k2:=false) (VT.to (b0 hr (bH w7) a8 (ai 1 rfl) aL) (by rw[cn];dsimp only[Ent.form];exact qQ0 (by symm))) (λz=>by cases z)) rfl)) rfl
end
def rU:List (Str×List (Int×Int))->Str->Int×Int->List (Str×List (Int×Int))
 | [],n,z=>[(n,[z])]
 |q::l,n,z=>if q.1=n then(q.1,q.2 ++ [z])::l else q::rU l n z
def gR(l:List (Str×Int×Int)):List (Str×List (Int×Int)):=l.foldl (λacc q=>rU acc q.1 q.2) []
def pairD(z:Int×Int):ao:=.tuple [.int z.1,.int z.2]
def ug(p:Pl):List (Str×ao):=p.kinds.map λq=>(q.1,o7 q.2)
def kF(p:Pl):List (Str×ao):=p.lines.map λq=>(q.1,.int q.2)
def uh(p:Pl):List ((Str×Str)×ao):=p.times.map λq=>((q.1,q.2.1),.int q.2.2)
def yH(p:Pl):List (Str×ao):=(gR p.hours).map λq=>(q.1,.list (q.2.map pairD))
def ER(q:Str×Str×Int×Int):ao:=.tuple [.str q.2.1,.int q.2.2.1,.int q.2.2.2]
def rh(p:Pl):List (Str×ao):=p.paces.map λq=>(q.1,ER q)
def ri(p:Pl):List (Str×ao):=[("kinds",sV (ug p)),("gates",fE p.gates),("lines",sV (kF p)),("desks",.list (p.desks.map eE)),("times",Lq (uh p)),("hours",sV (yH p)),("paces",sV (rh p))]
def p9(p:Pl):ao:=OI (ri p)
theorem zU(p:Pl):jv (ri p) "kinds"=some (sV (ug p)):=fZ rfl
theorem EV(p:Pl):jv (ri p) "gates"=some (fE p.gates):=(cP (show ¬(("kinds":Str)="gates") by symm)).trans (fZ rfl)
theorem zV(p:Pl):jv (ri p) "lines"=some (sV (kF p)):=(cP (show ¬(("kinds":Str)="lines") by symm)).trans ((cP (show ¬(("gates":Str)="lines") by symm)).trans (fZ rfl))
theorem EW(p:Pl):jv (ri p) "desks"=some (.list (p.desks.map eE)):=(cP (show ¬(("kinds":Str)="desks") by symm)).trans ((cP (show ¬(("gates":Str)="desks") by symm)).trans ((cP (show ¬(("lines":Str)="desks") by symm)).trans (fZ rfl)))
theorem My(p:Pl):jv (ri p) "times"=some (Lq (uh p)):=(cP (show ¬(("kinds":Str)="times") by symm)).trans ((cP (show ¬(("gates":Str)="times") by symm)).trans ((cP (show ¬(("lines":Str)="times") by symm)).trans ((cP (show ¬(("desks":Str)="times") by symm)).trans (fZ rfl))))
theorem Mz(p:Pl):jv (ri p) "paces"=some (sV (rh p)):=(cP (show ¬(("kinds":Str)="paces") by symm)).trans ((cP (show ¬(("gates":Str)="paces") by symm)).trans ((cP (show ¬(("lines":Str)="paces") by symm)).trans ((cP (show ¬(("desks":Str)="paces") by symm)).trans ((cP (show ¬(("times":Str)="paces") by symm)).trans ((cP (show ¬(("hours":Str)="paces") by symm)).trans (fZ rfl))))))
theorem Ds(p:Pl):(rh p).map (·.1)=p.paces.map (·.1):=by unfold rh;rw[bf];rfl
theorem iC{κ:Type}[DecidableEq κ]:∀(kvs:List (κ×ao))(x:κ),(jv kvs x).isSome=decide (x∈kvs.map (·.1))
 | [],x=>by simp[jv]
 |q::l,x=>by
  by_cases h:q.1=x
  ·rw[fZ h,qQ1 (by simp[h])];rfl
  ·rw[cP h,iC l x,gN,decide_eq_true_iff,decide_eq_true_iff,aN,aE]
   exact⟨.inr,λz=>z.resolve_left λe=>h e.symm⟩
theorem rj(p:Pl):(ug p).map (·.1)=p.kinds.map (·.1):=by unfold ug;rw[bf];rfl
theorem lV(p:Pl):(kF p).map (·.1)=p.lines.map (·.1):=by unfold kF;rw[bf];rfl
theorem Dt(p:Pl):(uh p).map (·.1)=p.times.map λq=>(q.1,q.2.1):=by unfold uh;rw[bf];rfl
def f6(p:Pl)(x:Str):Prop:=x∈p.gates\/x∈p.lines.map (·.1)
instance (p : Pl) (x : Str) : Decidable (f6 p x) := by unfold f6; infer_instance
def gZ(p:Pl)(x:Str):Prop:=x∈p.desks.map (·.name)
instance (p : Pl) (x : Str) : Decidable (gZ p x) := by unfold gZ; infer_instance
def MA(p:Pl)(x:Str):Prop:=∃q∈p.desks,x∈q.places
def uO(p:Pl):Ent->Prop
 | .kind n _=>n∉p.kinds.map (·.1)
 | .gate n=>¬f6 p n
 | .line n _=>¬f6 p n
 | .desk d=>¬gZ p d.name/\(∀x∈d.places,¬MA p x)/\(∀x∈d.places,f6 p x)/\(d.to=""\/∃r:Int,jv (kF p) d.to=some (.int r)/\fH d.rule d.places.length<=r)
 | .time d k _=>(d,k)∉p.times.map (λq=>(q.1,q.2.1))/\gZ p d/\k∈p.kinds.map (·.1)
 | .hour d _ _=>gZ p d
 | .pace g k _ _=>g∉p.paces.map (·.1)/\g∈p.gates/\k∈p.kinds.map (·.1)
section
variable{P:bL}{w:cH}{K:au}{mg:Str->Option aG}{base:dw}{f:aR}{k:Nat}
abbrev Ny:List Str:=["plant","name"]
abbrev Yt:List Str:=["plant","place"]
theorem W3:c7 Ny Ny (bV (top 35)):=⟨rfl,rfl,rfl,by symm,rfl,by symm,by symm⟩
theorem W4:c7 Ny Ny (bV (top 36)):=⟨rfl,rfl,rfl,by symm,rfl,by symm,by symm⟩
theorem W5:c7 Yt Yt (bV (top 37)):=⟨rfl,rfl,rfl,by symm,rfl,by symm,by symm⟩
def Rip(ds:List ao)(d:ao):Prop:=∃(p:Pl)(x:Str),ds=[p9 p,.str x]/\jA p/\nO x/\d=.bool (decide (f6 p x))
def Rid(ds:List ao)(d:ao):Prop:=∃(p:Pl)(x:Str),ds=[p9 p,.str x]/\jA p/\nO x/\d=.bool (decide (gZ p x))
def tJ(p:Pl)(x:Str):List Dk:=p.desks.filter λq=>decide (x∈q.places)
def Rit(ds es:List ao):Prop:=∃(p:Pl)(x:Str),ds=[p9 p,.str x]/\jA p/\nO x/\es=(tJ p x).map eE
theorem ui(h:∀x∈l,cZ x):Lay 20 (.list (l.map aQ)):=Dr λx hx=>(h x hx).ok
theorem za0(F:mw K "is_place" "is_place" (top 35) f fd):fA P w K mg base kR 1 f fd Ny (iE K Rip):=
 ko F W3 (λ_ _ h=>by obtain⟨_,_,rfl,_⟩:=h;rfl) λ_ _ h=>by
  obtain⟨p,x,rfl,ok,ox,rfl⟩:=h;intro iD A outer s H E hr;refine bw (cD (VE.to (uJ (Qv hr rfl (bH ox) (ui ok.gates) (ai 1 rfl) (nM (ai 0 rfl) (EV p))) (λ_=>kr (C7 hr (ai 1 rfl) (nM (ai 0 rfl) (zV p))))) ?_))
  rw[mS,iC,lV]
  congr 1
  rw[gN];simp only[jf,decide_eq_true_eq];exact Iff.rfl
def Tr:ao->Option ao
 | .tuple (x::_)=>some x
 |_=>none
theorem IJ(l:List Dk):(l.map eE).filterMap Tr=(l.map (·.name)).map .str:=by
 rw[cw,bf];exact filterMap_some λk _=>rfl
theorem za1(F:mw K "is_desk" "is_desk" (top 36) f fd):fA P w K mg base kR 1 f fd Ny (iE K Rid):=
 ko F W4 (λ_ _ h=>by obtain⟨_,_,rfl,_⟩:=h;rfl) λ_ _ h=>by
  obtain⟨p,x,rfl,ok,ox,rfl⟩:=h;intro iD A outer s H E hr;have nc:(["desk"]:List Str).Nodup:=by symm
  have hn:=ok.dn;refine bw (cD (VE.to (Qv hr rfl (bH ox) (ui (l:=p.desks.map (·.name)) λy hy=>?_) (ai 1 rfl) (VO.ve (VO.to (fJ (own:=["desk"]) (cap:=[]) (N:=["desk"]) (cl:=[]) (tgt:=.one 0) (F:=Tr) (ds:=p.desks.map eE) rfl ⟨rfl,by symm,by symm,rfl,rfl,by simp⟩ (gK (nM (ai 0 rfl) (EW p))) (λf s3 H3=>bP (i:=0) nc rfl (bq rfl)) rfl
   (small (by rw[aj];omega)) (λd hd=>?_)) (IJ _)))) ?_))
  ·obtain⟨q,hq,rfl⟩:=aA.mp hy
   exact(ok.desks q hq).1
  ·obtain⟨z,hz,rfl⟩:=aA.mp hd
   refine⟨_,rfl,λf s3 H3=>fQ,λr jT f s3 H3=>?_⟩
   cases jT;exact cC (ai 0 rfl) aD (ck (j:=0) rfl)
  ·rw[mS];rfl
theorem xP(x:Str)(l:List Str):uG (.str x) (.tuple (l.map aQ))=decide (x∈l):=mS x l
def MB(x:Str):ao->Bool
 | .tuple [_,_,_,.tuple l]=>l.any λy=>dF y (.str x)
 |_=>false
def Fin(x:Str)(d:ao):Option ao:=if MB x d=true then some d else none
theorem tK(x:Str)(q:Dk):MB x (eE q)=decide (x∈q.places):=xP x q.places
theorem PL(x:Str)(l:List Dk):(l.map eE).filterMap (Fin x)=(l.filter λq=>decide (x∈q.places)).map eE:=by
 induction l with
 |nil=>rfl
 |cons q l ih=>
  rw[aN,e8];by_cases h:x∈q.places
  ·rw[eA (f:=Fin x) (b:=eE q) (by unfold Fin;rw[tK,qQ3 (qQ1 h)]),ih,qQ3 (qQ1 h),aN]
  ·rw[fU (f:=Fin x) (by unfold Fin;rw[tK,qQ2 (by rw[qQ0 h];decide)]),ih,qQ2 (by rw[qQ0 h];decide)]
theorem za2(F:mw K "takers_of" "takers_of" (top 37) f fd):fA P w K mg base kR 1 f fd Yt (Ib K Rit):=
 Lh F W5 (λ_ _ h=>by obtain⟨_,_,rfl,_⟩:=h;rfl) λ_ _ h=>by
  obtain⟨p,x,rfl,ok,ox,rfl⟩:=h;intro iD A outer s H E hr;have nc:(["desk","place"]:List Str).Nodup:=by symm
  have hn:=ok.dn;refine bw (yz (VO.to (fJ (own:=["desk"]) (cap:=[1]) (N:=["desk","place"]) (tgt:=.one 0) (F:=Fin x) (ds:=p.desks.map eE) rfl ⟨rfl,by symm,by symm,rfl,rfl,?_⟩ (gK (nM (ai 0 rfl) (EW p))) (λf s3 H3=>bP (i:=0) nc rfl (bq rfl)) rfl
   (small (by rw[aj];omega)) (λd hd=>?_)) (PL x _)))
  ·intro j hj
   rcases aE.mp hj with rfl|hj
   ·exact⟨(by show(1:Nat)<2;decide),bq rfl,rfl⟩
   ·cases hj
  ·obtain⟨z,hz,rfl⟩:=aA.mp hd
   refine⟨_,rfl,λf s3 H3=>?_,λr jT f s3 H3=>?_⟩
   ·refine yy (VT.to (VL hr rfl (bH ox) (qR (n:=19) λd hd=>by obtain⟨y,hy,rfl⟩:=aA.mp hd;exact bH ((ok.desks z hz).2.2.2.2 y hy).ok.2) (ai 1 rfl) (cC (d:=.tuple (z.places.map .str)) (ai 0 rfl) aD (ck (j:=3) rfl))) ?_)
    unfold Fin;rw[tK,xP];by_cases h:x∈z.places
    ·rw[qQ1 h];rfl
    ·rw[qQ0 h];rfl
   ·unfold Fin at jT
    split at jT
    ·cases jT;exact ai 0 rfl
    ·cases jT
def W6:Rl->Bool
 | .many _=>true
 | .gather _ _=>true
 |_=>false
theorem W7:c7 ["rule","many"] ["rule","many"] (bV (top 7)):=⟨rfl,rfl,rfl,by symm,rfl,by symm,by symm⟩
theorem za3(F:mw K "greatest_load" "greatest_load" (top 7) f fd):fA P w K mg base kR 1 f fd ["rule","many"] (iE K Yp):=
 ko F W7 (λ_ _ h=>by obtain⟨_,_,rfl,_⟩:=h;rfl) λ_ _ h=>by
  obtain⟨r,m,rfl,rfl⟩:=h;intro iD A outer s H E hr;have oR:nO (pX r):=by cases r<;>dsimp only[pX,nO]<;>symm
  have h0:tX (aQ (pX r)::tf r) 0=some (.str (pX r)):=ck (j:=0) rfl;have Nn:(decide (pX r="many")||decide (pX r="gather"))=W6 r:=by
   cases r with
   |meet=>symm
   |eldest=>symm
   |many m=>exact(show(decide (("many":Str)="many")||decide (("many":Str)="gather"))=true by symm)
   |gather m a=>exact(show(decide (("gather":Str)="many")||decide (("gather":Str)="gather"))=true by symm)
   |rank b=>exact(show(decide (("rank":Str)="many")||decide (("rank":Str)="gather"))=false by symm)
   |turns l=>exact(show(decide (("turns":Str)="many")||decide (("turns":Str)="gather"))=false by symm)
  by_cases h1:W6 r=true
  ·refine dS (eu (VT.to (kY (b0 hr (bH oR) a8 (cC (ai 0 rfl) aD h0) aL) (λ_=>b0 hr (bH oR) a8 (cC (ai 0 rfl) aD h0) aL)) (by rw[cn,cn,Nn,h1])) (bw (cD (cC (ai 0 rfl) aD ?_)))) rfl
   cases r with
   |many m=>exact ck (j:=1) rfl
   |gather m a=>exact ck (j:=1) rfl
   |_=>cases h1
  ·have h1:=nF _▸h1
   refine aI (cy (VT.to (kY (b0 hr (bH oR) a8 (cC (ai 0 rfl) aD h0) aL) (λ_=>b0 hr (bH oR) a8 (cC (ai 0 rfl) aD h0) aL)) (by rw[cn,cn,Nn,h1])) bS) ?_
   by_cases h2:pX r="meet"
   ·refine dS (eu (VT.to (b0 hr (bH oR) a8 (cC (ai 0 rfl) aD h0) aL) (by rw[cn];exact qQ1 h2)) (bw (cD (VE.to (ai 1 rfl) ?_)))) rfl
    cases r with
    |meet=>rfl
    |many m=>cases h1
    |gather m a=>cases h1
    |eldest=>exact qQ7 h2 (by symm)
    |rank b=>exact qQ7 h2 (show ¬(("rank":Str)="meet") by symm)
    |turns l=>exact qQ7 h2 (show ¬(("turns":Str)="meet") by symm)
   ·refine aI (cy (VT.to (b0 hr (bH oR) a8 (cC (ai 0 rfl) aD h0) aL) (by rw[cn];exact qQ0 h2)) bS) ?_
    refine bw (cD (VE.to aD ?_))
    cases r with
    |meet=>exact qQ7 rfl h2
    |many m=>cases h1
    |gather m a=>cases h1
    |_=>rfl
end
theorem dg(e:Ent):nO e.form:=by cases e<;>(dsimp only[Ent.form,nO];symm)
theorem uj(e:Ent):tX (aQ e.form::e.rest) 0=some (.str e.form):=ck (j:=0) rfl
def Ent.name:Ent->Str
 | .kind n _=>n
 | .gate n=>n
 | .line n _=>n
 | .desk d=>d.name
 | .time d _ _=>d
 | .hour d _ _=>d
 | .pace g _ _ _=>g
theorem IK(e:Ent):tX (aQ e.form::e.rest) 1=some (.str e.name):=by cases e<;>exact ck (j:=1) rfl
theorem IL(h:gX e):cZ e.name:=by
 cases e with
 |gate n=>exact h
 |_=>exact h.1
theorem fj{a b:Str}(h:a≠b):dF (.str a) (.str b)=false:=by rw[cn];exact qQ0 h
theorem jw(a:Str):dF (.str a) (.str a)=true:=by rw[cn];exact qQ1 rfl
def iN(p:Pl)(z:Str):Bool:=p.desks.any λq=>decide (z∈q.places)
theorem J4(p:Pl)(z:Str):(tJ p z).isEmpty=!iN p z:=by
 unfold tJ iN;rw[gN,List.isEmpty_iff,sf,Bool.not_eq_true',j7]
def vk(p:Pl)(k:Str):Bool:=decide (k∈p.kinds.map (·.1))
def twiceB(p:Pl):Ent->Bool
 | .kind n _=>vk p n
 | .gate n=>decide (f6 p n)
 | .line n _=>decide (f6 p n)
 | .desk q=>decide (gZ p q.name)||rJ (q.places.map (iN p))
 | .time d k _=>decide ((d,k)∈p.times.map λq=>(q.1,q.2.1))
 | .hour _ _ _=>false
 | .pace g _ _ _=>decide (g∈p.paces.map (·.1))
def rn(p:Pl):Ent->Bool
 | .desk q=>!(decide (q.to="")||decide (q.to∈p.lines.map (·.1))) || !mE (q.places.map λz=>decide (f6 p z))
 | .time d k _=>!decide (gZ p d) || !vk p k
 | .hour d _ _=>!decide (gZ p d)
 | .pace g k _ _=>!decide (g∈p.gates) || !vk p k
 |_=>false
def roomOf(p:Pl)(x:Str):Int:=match jv (kF p) x with
 |some (.int r)=>r
 |_=>0
def zW(p:Pl):Ent->Bool
 | .desk q=>!decide (q.to="")&&decide (roomOf p q.to<fH q.rule q.places.length)
 |_=>false
def kA(p:Pl)(e:Ent):Str:=if twiceB p e=true then "twice" else if rn p e=true then "name" else if zW p e=true then "room" else ""
theorem PN{p:Pl}(h:x∈p.lines.map (·.1)):jv (kF p) x=some (.int (roomOf p x)):=by
 have hs:(jv (kF p) x).isSome=true:=by rw[iC,lV];exact qQ1 h
 have hi:∀(l:List (Str×Int))(d:ao),jv (l.map λq=>(q.1,iO q.2)) x=some d->∃r,d=.int r:=by
  intro l
  induction l with
  |nil=>intro d z;simp[jv]at z
  |cons q l ih=>
   intro d z;rw[aN]at z;by_cases hq:q.1=x
   ·rw[fZ hq]at z;exact⟨_,(dC z).symm⟩
   ·rw[cP hq]at z;exact ih d z
 obtain⟨d,hd⟩:=A2.mp hs;obtain⟨r,rfl⟩:=hi p.lines d hd;unfold roomOf;rw[hd]
theorem GW{p:Pl}(h:uO p e):kA p e="":=by
 have ht:twiceB p e=false:=by
  cases e with
  |kind n k=>exact qQ0 h
  |gate n=>exact qQ0 h
  |line n r=>exact qQ0 h
  |desk q=>
   obtain⟨h1,h2,_⟩:=h
   show(decide (gZ p q.name)||rJ (q.places.map (iN p)))=false
   rw[qQ0 h1,DI];unfold rJ;rw[xB,j7];intro z hz y;obtain⟨d,hd,hy⟩:=nD.mp (show iN p z=true from y)
   exact h2 z hz ⟨d,hd,qQ4 hy⟩
  |time d k wk=>exact qQ0 h.1
  |hour d a b=>rfl
  |pace g k a b=>exact qQ0 h.1
 have hl:rn p e=false:=by
  cases e with
  |desk q=>
   obtain⟨_,_,h3,h4⟩:=h
   show(!(decide (q.to="")||decide (q.to∈p.lines.map (·.1))) || !mE (q.places.map λz=>decide (f6 p z)))=false
   have e1:(decide (q.to="")||decide (q.to∈p.lines.map (·.1)))=true:=by
    rcases h4 with z|⟨r,z,_⟩
    ·rw[qQ1 z];rfl
    ·have:(jv (kF p) q.to).isSome=true:=by rw[z];rfl
     rw[iC,lV]at this;rw[this,rY]
   have e2:mE (q.places.map λz=>decide (f6 p z))=true:=by
    unfold mE;rw[rZ,dU];exact λz hz=>qQ1 (h3 z hz)
   rw[e1,e2];rfl
  |time d k wk=>
   show(!decide (gZ p d) || !decide (k∈p.kinds.map (·.1)))=false
   rw[qQ1 h.2.1,qQ1 h.2.2];rfl
  |hour d a b=>show(!decide (gZ p d))=false;rw[qQ1 (show gZ p d from h)];rfl
  |pace g k a b=>
   show(!decide (g∈p.gates) || !decide (k∈p.kinds.map (·.1)))=false
   rw[qQ1 h.2.1,qQ1 h.2.2];rfl
  |_=>rfl
 have hr:zW p e=false:=by
  cases e with
  |desk q=>
   obtain⟨_,_,_,h4⟩:=h
   show(!decide (q.to="")&&decide (roomOf p q.to<fH q.rule q.places.length))=false
   rcases h4 with z|⟨r,z,h5⟩
   ·rw[qQ1 z];rfl
   ·have:roomOf p q.to=r:=by unfold roomOf;rw[z]
    rw[this,show decide (r<fH q.rule q.places.length)=false from qQ0 (by omega),uD]
  |_=>rfl
 unfold kA;rw[ht,hl,hr];rfl
theorem Ts{n:Nat}(r:Rl):Lay (n+2) (IC r):=by
 have lit:∀{k:Nat}{x:Str},nO x->Lay k (.str x):=λh=>bH h
 refine qR (n:=n+1) λd hd=>?_
 rcases aE.mp hd with rfl|hd
 ·refine bH ?_
  cases r<;>(dsimp only[pX,nO];symm)
 ·cases r with
  |turns s=>
   rw[aK.mp hd];exact qR (n:=n) λd hd=>by obtain⟨i,_,rfl⟩:=aA.mp hd;exact c0 _ _
  |eldest=>cases hd
  |rank b=>rw[aK.mp hd];cases b with|none=>exact Oy _|some i=>exact c0 _ _
  |many m=>rw[aK.mp hd];exact c0 _ _
  |gather m a=>
   rcases aE.mp hd with rfl|hd
   ·exact c0 _ _
   ·rw[aK.mp hd];exact c0 _ _
  |meet=>cases hd
theorem J5{p:Pl}(ok:jA p)(z:Str):Lay 20 (.list ((tJ p z).map eE)):=yA (n:=19) λd hd=>by
 obtain⟨q,hq,rfl⟩:=aA.mp hd;obtain⟨h1,h2,h3,h4,h5⟩:=ok.desks q (om.mp hq).1;refine qR (n:=18) λd hd=>?_
 simp only[aE,bB,or_false]at hd;rcases hd with rfl|rfl|rfl|rfl
 ·exact bH h1.ok.2
 ·refine bH ?_
  rcases h2 with h|h
  ·rw[h];show cX (.str ("":Str))=true;symm
  ·exact h.ok.2
 ·exact Ts q.rule
 ·exact qR (n:=17) λd hd=>by obtain⟨i,hi,rfl⟩:=aA.mp hd;exact bH (h5 i hi).ok.2
def Ftk(p:Pl):ao->Option ao
 | .str z=>some (.bool (iN p z))
 |_=>none
theorem PQ(p:Pl)(l:List Str):(l.map aQ).filterMap (Ftk p)=(l.map (iN p)).map .bool:=by
 rw[cw,bf];exact filterMap_some λk _=>rfl
def Fhp(p:Pl):ao->Option ao
 | .str z=>some (.bool (decide (f6 p z)))
 |_=>none
theorem PV(p:Pl)(l:List Str):(l.map aQ).filterMap (Fhp p)=(l.map λz=>decide (f6 p z)).map .bool:=by
 rw[cw,bf];exact filterMap_some λk _=>rfl
section
variable{P:bL}{w:cH}{K:au}{mg:Str->Option aG}{base:dw}{f:aR}{k:Nat}
abbrev yI:List Str:=["plant","entry"]
def Rtt(ds:List ao)(d:ao):Prop:=∃(p:Pl)(e:Ent),ds=[p9 p,yk e]/\jA p/\gX e/\d=.bool (twiceB p e)
def Rln(ds:List ao)(d:ao):Prop:=∃(p:Pl)(e:Ent),ds=[p9 p,yk e]/\jA p/\gX e/\d=.bool (rn p e)
def Rlr(ds:List ao)(d:ao):Prop:=∃(p:Pl)(e:Ent),ds=[p9 p,yk e]/\jA p/\gX e/\rn p e=false/\d=.bool (zW p e)
abbrev Ntt:List Str:=["plant","entry","form","name"]
theorem QS:c7 Ntt yI (bV (top 32)):=⟨rfl,rfl,rfl,by symm,rfl,by symm,by symm⟩
theorem za7(F:mw K "tells_twice" "tells_twice" (top 32) f fd)(n:Np mg w.params K)(C1:bO P w K mg base 1 "is_place" Ny (iE K Rip))(C2:bO P w K mg base 1 "is_desk" Ny (iE K Rid))(C3:bO P w K mg base 1 "takers_of" Yt (Ib K Rit)):fA P w K mg base kR 2 f fd yI (iE K Rtt):=
 ko F QS (λ_ _ h=>by obtain⟨_,_,rfl,_⟩:=h;rfl) λ_ _ h=>by
  obtain⟨p,e,rfl,ok,oe,rfl⟩:=h;intro iD A outer s H E hr;have nd:Ntt.Nodup:=QS.nd;have Tt:=(IL oe).ok.2;have ofm:=dg e;refine aI (dq 2 (d:=.str e.form) (cC (ai 1 rfl) aD (uj e)) nd) ?_
  refine aI (dq 3 (d:=.str e.name) (cC (ai 1 rfl) aD (IK e)) nd) ?_
  cases e with
  |kind m k=>
   refine dS (eu (VT.to (b0 hr (bH (dg _)) a8 (ai 2 rfl) aL) (jw _)) (bw (cD (VE.to (C7 hr (ai 3 rfl) (nM (ai 0 rfl) (zU p))) ?_)))) rfl
   rw[iC,rj];rfl
  |gate m=>
   refine aI (cy (VT.to (b0 hr (bH (dg _)) a8 (ai 2 rfl) aL) (fj (show("gate":Str)≠"kind" by symm))) bS) ?_
   exact dS (eu (VT.to (kY (k1:=true) (k2:=true) (VT.to (b0 hr (bH (dg _)) a8 (ai 2 rfl) aL) (jw _)) (λz=>by cases z)) rfl) (bw (cD (bU C1 hr (aq (ai 0 rfl) (aq (ai 3 rfl) a7)) ⟨p,m,rfl,ok,Tt,rfl⟩)))) rfl
  |line m r=>
   refine aI (cy (VT.to (b0 hr (bH (dg _)) a8 (ai 2 rfl) aL) (fj (show("line":Str)≠"kind" by symm))) bS) ?_
   exact dS (eu (VT.to (kY (k1:=false) (k2:=true) (VT.to (b0 hr (bH (dg _)) a8 (ai 2 rfl) aL) (fj (show("line":Str)≠"gate" by symm))) (λ_=>VT.to (b0 hr (bH (dg _)) a8 (ai 2 rfl) aL) (jw _))) rfl) (bw (cD (bU C1 hr (aq (ai 0 rfl) (aq (ai 3 rfl) a7)) ⟨p,m,rfl,ok,Tt,rfl⟩)))) rfl
  |desk q=>
   refine aI (cy (VT.to (b0 hr (bH (dg _)) a8 (ai 2 rfl) aL) (fj (show("desk":Str)≠"kind" by symm))) bS) ?_
   refine aI (cy (VT.to (kY (k1:=false) (k2:=false) (VT.to (b0 hr (bH (dg _)) a8 (ai 2 rfl) aL) (fj (show("desk":Str)≠"gate" by symm))) (λ_=>VT.to (b0 hr (bH (dg _)) a8 (ai 2 rfl) aL) (fj (show("desk":Str)≠"line" by symm)))) rfl) bS) ?_
   have nc:(["place","plant"]:List Str).Nodup:=by symm
   have l6:=oe.2.2.2.2.1;refine dS (eu (VT.to (b0 hr (bH (dg _)) a8 (ai 2 rfl) aL) (jw _)) (bw (cD (VE.to (uJ (bU C2 hr (aq (ai 0 rfl) (aq (ai 3 rfl) a7)) ⟨p,q.name,rfl,ok,Tt,rfl⟩) (λ_=>kr (km (LR rfl) V9 (aq (VO.ve (VO.to (fJ (own:=["place"]) (cap:=[0]) (N:=["place","plant"]) (tgt:=.one 0) (F:=Ftk p) (ds:=q.places.map .str) rfl ⟨rfl,by symm,by symm,rfl,rfl,?_⟩ (zq (cC (d:=.tuple (q.places.map .str)) (ai 1 rfl) aD (ck (j:=4) rfl))) (λf s3 H3=>bP (i:=0) nc rfl (bq rfl)) rfl
    (small (by rw[aj];omega)) (λd hd=>?_)) (PQ p _))) a7) n.any rfl))) rfl)))) rfl
   ·intro j hj
    rcases aE.mp hj with rfl|hj
    ·exact⟨(by show(0:Nat)<4;decide),bq rfl,rfl⟩
    ·cases hj
   ·obtain⟨z,hz,rfl⟩:=aA.mp hd
    refine⟨_,rfl,λf s3 H3=>fQ,λr jT f s3 H3=>?_⟩
    cases jT;refine VE.to (Lk hr (J5 ok z) Ig (VO.ve (pG C3 hr (aq (ai 1 rfl) (aq (ai 0 rfl) a7)) ⟨p,z,rfl,ok,(oe.2.2.2.2.2.2 z hz).ok.2,rfl⟩)) (VO.ve (fh (ds:=[]) a7))) ?_
    have:=J4 p z;cases h:tJ p z with
    |nil=>rw[h]at this;rw[show iN p z=false from by simpa using this.symm];rfl
    |cons q0 l0=>rw[h]at this;rw[show iN p z=true from by simpa using this.symm];rfl
  |time d k wk=>
   refine aI (cy (VT.to (b0 hr (bH (dg _)) a8 (ai 2 rfl) aL) (fj (show("time":Str)≠"kind" by symm))) bS) ?_
   refine aI (cy (VT.to (kY (k1:=false) (k2:=false) (VT.to (b0 hr (bH (dg _)) a8 (ai 2 rfl) aL) (fj (show("time":Str)≠"gate" by symm))) (λ_=>VT.to (b0 hr (bH (dg _)) a8 (ai 2 rfl) aL) (fj (show("time":Str)≠"line" by symm)))) rfl) bS) ?_
   refine aI (cy (VT.to (b0 hr (bH (dg _)) a8 (ai 2 rfl) aL) (fj (show("time":Str)≠"desk" by symm))) bS) ?_
   refine dS (eu (VT.to (b0 hr (bH (dg _)) a8 (ai 2 rfl) aL) (jw _)) (bw (cD (VE.to (OJ hr (ai 3 rfl) (cC (ai 1 rfl) aD (ck (j:=2) rfl)) (nM (ai 0 rfl) (My p))) ?_)))) rfl
   rw[iC,Dt];refine qQ6 jE ?_
   exact(@decide_eq_decide _ _ (_) (_)).mpr Iff.rfl
  |hour d a b=>
   refine aI (cy (VT.to (b0 hr (bH (dg _)) a8 (ai 2 rfl) aL) (fj (show("open":Str)≠"kind" by symm))) bS) ?_
   refine aI (cy (VT.to (kY (k1:=false) (k2:=false) (VT.to (b0 hr (bH (dg _)) a8 (ai 2 rfl) aL) (fj (show("open":Str)≠"gate" by symm))) (λ_=>VT.to (b0 hr (bH (dg _)) a8 (ai 2 rfl) aL) (fj (show("open":Str)≠"line" by symm)))) rfl) bS) ?_
   refine aI (cy (VT.to (b0 hr (bH (dg _)) a8 (ai 2 rfl) aL) (fj (show("open":Str)≠"desk" by symm))) bS) ?_
   refine aI (cy (VT.to (b0 hr (bH (dg _)) a8 (ai 2 rfl) aL) (fj (show("open":Str)≠"time" by symm))) bS) ?_
   exact bw (cD (VE.to (oK (k1:=false) (k2:=false) (VE.to (sP hr (bH (dg _)) a8 (ai 2 rfl) aL) (qQ6 jE (fj (show("open":Str)≠"pace" by symm)))) (λz=>by cases z)) rfl))
  |pace g k a b=>
   refine aI (cy (VT.to (b0 hr (bH (dg _)) a8 (ai 2 rfl) aL) (fj (show("pace":Str)≠"kind" by symm))) bS) ?_
   refine aI (cy (VT.to (kY (k1:=false) (k2:=false) (VT.to (b0 hr (bH (dg _)) a8 (ai 2 rfl) aL) (fj (show("pace":Str)≠"gate" by symm))) (λ_=>VT.to (b0 hr (bH (dg _)) a8 (ai 2 rfl) aL) (fj (show("pace":Str)≠"line" by symm)))) rfl) bS) ?_
   refine aI (cy (VT.to (b0 hr (bH (dg _)) a8 (ai 2 rfl) aL) (fj (show("pace":Str)≠"desk" by symm))) bS) ?_
   refine aI (cy (VT.to (b0 hr (bH (dg _)) a8 (ai 2 rfl) aL) (fj (show("pace":Str)≠"time" by symm))) bS) ?_
   refine bw (cD (VE.to (oK (k1:=true) (VE.to (sP hr (bH (dg _)) a8 (ai 2 rfl) aL) (qQ6 jE (jw _))) (λ_=>kr (C7 hr (ai 3 rfl) (nM (ai 0 rfl) (Mz p))))) ?_))
   rw[iC,Ds];rfl
abbrev Nln:List Str:=["plant","entry","form","into_line"]
theorem QT:c7 Nln yI (bV (top 33)):=⟨rfl,rfl,rfl,by symm,rfl,by symm,by symm⟩
theorem za8(F:mw K "lacks_name" "lacks_name" (top 33) f fd)(n:Np mg w.params K)(C1:bO P w K mg base 1 "is_place" Ny (iE K Rip))(C2:bO P w K mg base 1 "is_desk" Ny (iE K Rid)):fA P w K mg base kR 2 f fd yI (iE K Rln):=
 ko F QT (λ_ _ h=>by obtain⟨_,_,rfl,_⟩:=h;rfl) λ_ _ h=>by
  obtain⟨p,e,rfl,ok,oe,rfl⟩:=h;intro iD A outer s H E hr;have nd:Nln.Nodup:=QT.nd;have Tt:=(IL oe).ok.2;refine aI (dq 2 (d:=.str e.form) (cC (ai 1 rfl) aD (uj e)) nd) ?_
  cases e with
  |desk q=>
   have nc:(["place","plant"]:List Str).Nodup:=by symm
   have Yu:nO q.to:=by
    rcases oe.2.1 with h|h
    ·rw[h];show cX (.str ("":Str))=true;symm
    ·exact h.ok.2
   have l6:=oe.2.2.2.2.1;refine dS (eu (VT.to (b0 hr (bH (dg _)) a8 (ai 2 rfl) aL) (jw _)) (aI (dq 3 (d:=.bool (decide (q.to="")||decide (q.to∈p.lines.map (·.1)))) (VE.to (uJ (sP hr (bH Yu) a8 (cC (ai 1 rfl) aD (ck (j:=2) rfl)) aL) (λ_=>kr (C7 hr (cC (ai 1 rfl) aD (ck (j:=2) rfl)) (nM (ai 0 rfl) (zV p))))) ?_) nd) (bw (cD (VE.to (uJ (yC (ai 3 rfl)) (λ_=>kr (yC (km (sU rfl) Ee (aq (VO.ve (VO.to (fJ (own:=["place"]) (cap:=[0]) (N:=["place","plant"]) (tgt:=.one 0) (F:=Fhp p) (ds:=q.places.map .str) rfl ⟨rfl,by symm,by symm,rfl,rfl,?_⟩ (zq (cC (d:=.tuple (q.places.map .str)) (ai 1 rfl) aD (ck (j:=4) rfl))) (λf s3 H3=>bP (i:=0) nc rfl (bq rfl)) rfl
    (small (by rw[aj];omega)) (λd hd=>?_)) (PV p _))) a7) n.all rfl)))) rfl))))) rfl
   ·rw[cn,iC,lV]
   ·intro j hj
    rcases aE.mp hj with rfl|hj
    ·exact⟨(by show(0:Nat)<4;decide),bq rfl,rfl⟩
    ·cases hj
   ·obtain⟨z,hz,rfl⟩:=aA.mp hd
    refine⟨_,rfl,λf s3 H3=>fQ,λr jT f s3 H3=>?_⟩
    cases jT;exact bU C1 hr (aq (ai 1 rfl) (aq (ai 0 rfl) a7)) ⟨p,z,rfl,ok,(oe.2.2.2.2.2.2 z hz).ok.2,rfl⟩
  |time d k wk=>
   refine aI (cy (VT.to (b0 hr (bH (dg _)) a8 (ai 2 rfl) aL) (fj (show("time":Str)≠"desk" by symm))) bS) ?_
   refine dS (eu (VT.to (b0 hr (bH (dg _)) a8 (ai 2 rfl) aL) (jw _)) (bw (cD (VE.to (uJ (yC (bU C2 hr (aq (ai 0 rfl) (aq (cC (ai 1 rfl) aD (ck (j:=1) rfl)) a7)) ⟨p,d,rfl,ok,Tt,rfl⟩)) (λ_=>kr (Bu hr (cC (ai 1 rfl) aD (ck (j:=2) rfl)) (nM (ai 0 rfl) (zU p))))) ?_)))) rfl
   rw[iC,rj];rfl
  |hour d a b=>
   refine aI (cy (VT.to (b0 hr (bH (dg _)) a8 (ai 2 rfl) aL) (fj (show("open":Str)≠"desk" by symm))) bS) ?_
   refine aI (cy (VT.to (b0 hr (bH (dg _)) a8 (ai 2 rfl) aL) (fj (show("open":Str)≠"time" by symm))) bS) ?_
   exact dS (eu (VT.to (b0 hr (bH (dg _)) a8 (ai 2 rfl) aL) (jw _)) (bw (cD (yC (bU C2 hr (aq (ai 0 rfl) (aq (cC (ai 1 rfl) aD (ck (j:=1) rfl)) a7)) ⟨p,d,rfl,ok,Tt,rfl⟩))))) rfl
  |pace g k a b=>
   refine aI (cy (VT.to (b0 hr (bH (dg _)) a8 (ai 2 rfl) aL) (fj (show("pace":Str)≠"desk" by symm))) bS) ?_
   refine aI (cy (VT.to (b0 hr (bH (dg _)) a8 (ai 2 rfl) aL) (fj (show("pace":Str)≠"time" by symm))) bS) ?_
   refine aI (cy (VT.to (b0 hr (bH (dg _)) a8 (ai 2 rfl) aL) (fj (show("pace":Str)≠"open" by symm))) bS) ?_
   have hg:nO g:=Tt;have hz:=oe.2.1.ok.2;refine bw (cD (VE.to (oK (k1:=true) (VE.to (sP hr (bH (dg _)) a8 (ai 2 rfl) aL) (qQ6 jE (jw _))) (λ_=>kr (uJ (Lj hr rfl (bH hg) (ui ok.gates) (cC (ai 1 rfl) aD (ck (j:=1) rfl)) (nM (ai 0 rfl) (EV p))) (λ_=>kr (Bu hr (cC (ai 1 rfl) aD (ck (j:=2) rfl)) (nM (ai 0 rfl) (zU p))))))) ?_))
   rw[mS,iC,rj];rfl
  |_=>
   refine aI (cy (VT.to (b0 hr (bH (dg _)) a8 (ai 2 rfl) aL) (by rw[cn];dsimp only[Ent.form];exact qQ0 (by symm))) bS) ?_
   refine aI (cy (VT.to (b0 hr (bH (dg _)) a8 (ai 2 rfl) aL) (by rw[cn];dsimp only[Ent.form];exact qQ0 (by symm))) bS) ?_
   refine aI (cy (VT.to (b0 hr (bH (dg _)) a8 (ai 2 rfl) aL) (by rw[cn];dsimp only[Ent.form];exact qQ0 (by symm))) bS) ?_
   exact bw (cD (VE.to (oK (k1:=false) (k2:=false) (VE.to (sP hr (bH (dg _)) a8 (ai 2 rfl) aL) (by rw[cn];dsimp only[Ent.form];exact qQ6 jE (qQ0 (by symm)))) (λz=>by cases z)) rfl))
theorem Tv:c7 yI yI (bV (top 34)):=⟨rfl,rfl,rfl,by symm,rfl,by symm,by symm⟩
theorem W8(F:mw K "lacks_room" "lacks_room" (top 34) f fd)(n:Np mg w.params K)(C1:bO P w K mg base 1 "greatest_load" ["rule","many"] (iE K Yp)):fA P w K mg base kR 2 f fd yI (iE K Rlr):=
 ko F Tv (λ_ _ h=>by obtain⟨_,_,rfl,_⟩:=h;rfl) λ_ _ h=>by
  obtain⟨p,e,rfl,ok,oe,lk,rfl⟩:=h;intro iD A outer s H E hr;by_cases hd:∃q,e=.desk q
  ·obtain⟨q,rfl⟩:=hd
   have a4:q.to=""\/q.to∈p.lines.map (·.1):=by
    have h1:(!(decide (q.to="")||decide (q.to∈p.lines.map (·.1))))=false:=(Bool.or_eq_false_iff.mp lk).1
    rw[Bool.not_eq_false',jf,decide_eq_true_iff,decide_eq_true_iff]at h1;exact h1
   have Yu:nO q.to:=by
    rcases oe.2.1 with h|h
    ·rw[h];show cX (.str ("":Str))=true;symm
    ·exact h.ok.2
   by_cases ht:q.to=""
   ·exact dS (eu (VT.to (kY (k1:=false) (k2:=true) (VT.to (pE hr (bH (dg _)) a8 (cC (ai 1 rfl) aD (uj _)) aL) (qQ6 (λb=>!b) (jw _))) (λ_=>VT.to (b0 hr (bH Yu) a8 (cC (ai 1 rfl) aD (ck (j:=2) rfl)) aL) (by rw[cn];exact qQ1 ht))) rfl) (bw (cD (VE.to (k:=.bool (zW p (.desk q))) Lb (by show _=jE (!decide (q.to="")&&_);rw[qQ1 ht];rfl))))) rfl
   ·have h1:=PN (a4.resolve_left ht)
    refine aI (cy (VT.to (kY (k1:=false) (k2:=false) (VT.to (pE hr (bH (dg _)) a8 (cC (ai 1 rfl) aD (uj _)) aL) (qQ6 (λb=>!b) (jw _))) (λ_=>VT.to (b0 hr (bH Yu) a8 (cC (ai 1 rfl) aD (ck (j:=2) rfl)) aL) (by rw[cn];exact qQ0 ht))) rfl) bS) ?_
    exact bw (cD (VE.to (VJ (bU C1 hr (aq (cC (d:=IC q.rule) (ai 1 rfl) aD (ck (j:=3) rfl)) (aq (VE.to (n_ (ds:=q.places.map .str) (cC (ai 1 rfl) aD (ck (j:=4) rfl)) n.len) (by rw[aj])) a7)) ⟨q.rule,q.places.length,rfl,rfl⟩) (fk hr (nM (ai 0 rfl) (zV p)) (cC (ai 1 rfl) aD (ck (j:=2) rfl)) h1)) (by show _=jE (!decide (q.to="")&&_);rw[qQ0 ht];rfl)))
  ·have hf:e.form≠"desk":=by
    cases e with
    |desk q=>exact qQ7 ⟨q,rfl⟩ hd
    |_=>dsimp only[Ent.form];symm
   have hz:zW p e=false:=by
    cases e with
    |desk q=>exact qQ7 ⟨q,rfl⟩ hd
    |_=>rfl
   rw[hz];exact dS (eu (VT.to (kY (k1:=true) (k2:=true) (VT.to (pE hr (bH (dg e)) a8 (cC (ai 1 rfl) aD (uj _)) aL) (by rw[cn,qQ0 hf];rfl)) (λz=>by cases z)) rfl) (bw (cD Lb))) rfl
theorem W9:c7 yI yI (bV (top 31)):=⟨rfl,rfl,rfl,by symm,rfl,by symm,by symm⟩
def W_(ds:List ao)(d:ao):Prop:=∃(p:Pl)(e:Ent),ds=[p9 p,yk e]/\jA p/\gX e/\d=.str (kA p e)
def Rfo(ds:List ao)(d:ao):Prop:=∃(p:Pl)(e:Ent),ds=[p9 p,yk e]/\jA p/\gX e/\uO p e/\d=.str ""
theorem QV(F:mw K "fault_of" "fault_of" (top 31) f fd)(C1:bO P w K mg base 2 "tells_twice" yI (iE K Rtt))(C2:bO P w K mg base 2 "lacks_name" yI (iE K Rln))(C3:bO P w K mg base 2 "lacks_room" yI (iE K Rlr)):fA P w K mg base kR 3 f fd yI (iE K W_):=
 ko F W9 (λ_ _ h=>by obtain⟨_,_,rfl,_⟩:=h;rfl) λ_ _ h=>by
  obtain⟨p,e,rfl,ok,oe,rfl⟩:=h;intro iD A outer s H E hr;refine aI (cy (VT.to (jQ oG tE (ai 1 rfl) jP (jF _)) rfl) bS) ?_
  unfold kA;by_cases h1:twiceB p e=true
  ·rw[qQ3 h1]
   exact dS (eu (VT.to (oJ (bU C1 hr (aq (ai 0 rfl) (aq (ai 1 rfl) a7)) ⟨p,e,rfl,ok,oe,rfl⟩) rfl) h1) (bw (cD aL))) rfl
  rw[qQ2 h1];refine aI (cy (VT.to (oJ (bU C1 hr (aq (ai 0 rfl) (aq (ai 1 rfl) a7)) ⟨p,e,rfl,ok,oe,rfl⟩) rfl) (nF _▸h1)) bS) ?_
  by_cases h2:rn p e=true
  ·rw[qQ3 h2]
   exact dS (eu (VT.to (oJ (bU C2 hr (aq (ai 0 rfl) (aq (ai 1 rfl) a7)) ⟨p,e,rfl,ok,oe,rfl⟩) rfl) h2) (bw (cD aL))) rfl
  rw[qQ2 h2];have h2:rn p e=false:=nF _▸h2;refine aI (cy (VT.to (oJ (bU C2 hr (aq (ai 0 rfl) (aq (ai 1 rfl) a7)) ⟨p,e,rfl,ok,oe,rfl⟩) rfl) h2) bS) ?_
  by_cases h3:zW p e=true
  ·rw[qQ3 h3]
   exact dS (eu (VT.to (oJ (bU C3 hr (aq (ai 0 rfl) (aq (ai 1 rfl) a7)) ⟨p,e,rfl,ok,oe,h2,rfl⟩) rfl) h3) (bw (cD aL))) rfl
  rw[qQ2 h3];refine aI (cy (VT.to (oJ (bU C3 hr (aq (ai 0 rfl) (aq (ai 1 rfl) a7)) ⟨p,e,rfl,ok,oe,h2,rfl⟩) rfl) (nF _▸h3)) bS) ?_
  exact bw (cD aL)
theorem zba(F:mw K "fault_of" "fault_of" (top 31) f fd)(C1:bO P w K mg base 2 "tells_twice" yI (iE K Rtt))(C2:bO P w K mg base 2 "lacks_name" yI (iE K Rln))(C3:bO P w K mg base 2 "lacks_room" yI (iE K Rlr)):fA P w K mg base kR 3 f fd yI (iE K Rfo):=
 (QV F C1 C2 C3).imp λvs H Q E h=>by
  obtain⟨H0,ds,d,sm,r,⟨p,e,rfl,ok,oe,oa,rfl⟩,q⟩:=h;exact⟨H0,_,_,sm,r,⟨p,e,rfl,ok,oe,by rw[GW oa]⟩,q⟩
end
def PX:Option Int->V
 |none=>.non
 |some i=>.int i
theorem MC(o:Option Int):Rep K H (PX o) (o7 o):=by
 cases o with
 |none=>exact .non
 |some i=>exact .int i
theorem Rep.PY{v:V}{o:Option Int}(r:Rep K H v (o7 o)):v=PX o:=by
 cases o with
 |none=>cases r;rfl
 |some i=>cases r;rfl
def vm(p:Pl):List (Key×V):=p.kinds.map λq=>(b9 q.1,PX q.2)
def vn(p:Pl):List (Key×V):=p.lines.map λq=>(b9 q.1,V.int q.2)
def vp(p:Pl):List (List Key×V):=p.times.map λq=>(wZ (q.1,q.2.1),V.int q.2.2)
def iy(h:List (Str×List (Int×Int)))(cs:List aR):List (Key×V):=(h.zip cs).map λz=>(b9 z.1.1,V.ref z.2)
def kN(l:List (Str×Str×Int×Int))(xp:List V):List (Key×V):=(l.zip xp).map λz=>(b9 z.1.1,z.2)
abbrev Yv:List Str:=["kinds","gates","lines","desks","times","hours","paces"]
def Nz(ak ag al ad at_ ah ap:aR):List (Str×V):=[("kinds",.ref ak),("gates",.ref ag),("lines",.ref al),("desks",.ref ad),("times",.ref at_),("hours",.ref ah),("paces",.ref ap)]
structure PlW(K:au)(p:aR)(st:Pl)(H0 H:Hp)(C dx ak ag al ad at_ ah ap:aR)(cs:List aR)(xd xp:List V):Prop where
 ins:H p=some (.ins C dx (Nz ak ag al ad at_ ah ap))
 cls:DZ K C
 rV:∀f∈Yv,gP K C f
 ki:H ak=some (.dK (vm st))
 ga:H ag=some (.lst (st.gates.map V.str))
 li:H al=some (.dK (vn st))
 de:H ad=some (.lst xd)
 dr:dz K H0 xd (st.desks.map eE)
 ti:H at_=some (.dT (vp st))
 ho:H ah=some (.dK (iy (gR st.hours) cs))
 hl:cs.length=(gR st.hours).length
 pa:H ap=some (.dK (kN st.paces xp))/\dz K H0 xp (st.paces.map ER)
 ce:∀(i:Nat)c q,cs[i]?=some c->(gR st.hours)[i]?=some q->∃xs,H c=some (.lst xs)/\dz K H0 xs (q.2.map pairD)
def uP(K:au)(p:aR)(st:Pl):OR:=λH0 H as=>∃C dx ak ag al ad at_ ah ap cs xd xp,as=p::ak::ag::al::ad::at_::ah::ap::cs/\as.Nodup/\PlW K p st H0 H C dx ak ag al ad at_ ah ap cs xd xp
theorem uP.mono{st:Pl}:vU (uP K p st):=by
 rintro H0 H Ha Hb as ⟨C,dx,ak,ag,al,ad,at_,ah,ap,cs,xd,xp,rfl,nd,W⟩ s e
 refine⟨C,dx,ak,ag,al,ad,at_,ah,ap,cs,xd,xp,rfl,nd,?_⟩
 exact⟨by rw[e p (by simp)];exact W.ins,W.cls,W.rV,by rw[e ak (by simp)];exact W.ki,by rw[e ag (by simp)];exact W.ga,by rw[e al (by simp)];exact W.li,by rw[e ad (by simp)];exact W.de,W.dr.mono s,by rw[e at_ (by simp)];exact W.ti,by rw[e ah (by simp)];exact W.ho,W.hl,by rw[e ap (by simp)];exact⟨W.pa.1,W.pa.2.mono s⟩,λi c q e1 e2=>by
  obtain⟨xs,h1,h2⟩:=W.ce i c q e1 e2;refine⟨xs,?_,h2.mono s⟩
  rw[e c (by simp[bF e1])]
  exact h1⟩
theorem wc{α:Type}{f:α->V}{g:α->ao}:∀{l:List α},(∀x∈l,Rep K H (f x) (g x))->dz K H (l.map f) (l.map g)
 | [],_=>.nil
 |x::l,h=>.cons (h x aS) (wc λy hy=>h y (aZ _ hy))
theorem EX{α:Type}{g:α->ao}:∀{l:List α}{cs:List aR},cs.length=l.length->(∀(i:Nat)c q,cs[i]?=some c->l[i]?=some q->Rep K H (.ref c) (g q))->dz K H (cs.map V.ref) (l.map g)
 | [],[],_,_=>.nil
 | [],_::_,h,_=>by cases h
 |_::_,[],h,_=>by cases h
 |q::l,c::cs,h,k=>.cons (k 0 c q rfl rfl) (EX (by simpa using h) λi c' q' e1 e2=>k (i+1) c' q' (by simpa using e1) (by simpa using e2))
theorem xQ:∀{h:List (Str×List (Int×Int))}{cs:List aR},cs.length=h.length->(iy h cs).map (·.1)=h.map λq=>(b9 q.1:Key)
 | [],[],_=>rfl
 | [],_::_,e=>by cases e
 |_::_,[],e=>by cases e
 |q::h,c::cs,e=>by
  have:=xQ (h:=h) (cs:=cs) (by simpa using e)
  unfold iy at this ⊢;rw[iV,aN,aN,this];rfl
theorem xR:∀{h:List (Str×List (Int×Int))}{cs:List aR},cs.length=h.length->(iy h cs).map (·.2)=cs.map V.ref
 | [],[],_=>rfl
 | [],_::_,e=>by cases e
 |_::_,[],e=>by cases e
 |q::h,c::cs,e=>by
  have:=xR (h:=h) (cs:=cs) (by simpa using e)
  unfold iy at this ⊢;rw[iV,aN,aN,this];rfl
theorem tL:∀{h:List (Str×Str×Int×Int)}{xp:List V},xp.length=h.length->(kN h xp).map (·.1)=h.map λq=>(b9 q.1:Key)
 | [],[],_=>rfl
 | [],_::_,e=>by cases e
 |_::_,[],e=>by cases e
 |q::h,c::cs,e=>by
  have:=tL (h:=h) (xp:=cs) (by simpa using e)
  unfold kN at this ⊢;rw[iV,aN,aN,this];rfl
theorem xS:∀{h:List (Str×Str×Int×Int)}{xp:List V},xp.length=h.length->(kN h xp).map (·.2)=xp
 | [],[],_=>rfl
 | [],_::_,e=>by cases e
 |_::_,[],e=>by cases e
 |q::h,c::cs,e=>by
  have:=xS (h:=h) (xp:=cs) (by simpa using e)
  unfold kN at this ⊢;rw[iV,aN,aN,this]
theorem GX{h:List (Str×Str×Int×Int)}{xp:List V}(e:xp.length=h.length)(q:Str×Str×Int×Int)(v:V):kN (h ++ [q]) (xp ++ [v])=kN h xp ++ [(b9 q.1,v)]:=by
 unfold kN;rw[List.zip_append (by omega),aV]
 rfl
theorem uP.rep{st:Pl}(Ha Hb:Hp)(as:List aR)(sb:eC Ha Hb)(h:uP K p st Ha Hb as):Rep K (uv as Hb Ha) (.ref p) (p9 st):=by
 obtain⟨C,dx,ak,ag,al,ad,at_,ah,ap,cs,xd,xp,rfl,nd,W⟩:=h;have sm:=sX (as:=p::ak::ag::al::ad::at_::ah::ap::cs) sb
 generalize hM:uv (p::ak::ag::al::ad::at_::ah::ap::cs) Hb Ha=M at *
 have mm:∀a∈p::ak::ag::al::ad::at_::ah::ap::cs,M a=Hb a:=λa ha=>by rw[<-hM];exact yD ha
 refine Rep.obj (fs:=Nz ak ag al ad at_ ah ap) (by rw[mm p (by simp)];exact W.ins) W.cls W.rV rfl ?_
 refine .cons ?_ (.cons ?_ (.cons ?_ (.cons ?_ (.cons ?_ (.cons ?_ (.cons ?_ .nil))))))
 ·refine .dct (by rw[mm ak (by simp)];exact W.ki) ?_ ?_
  ·unfold ug vm;simp only[bf];rfl
  ·unfold ug vm;simp only[bf];exact wc λq _=>MC q.2
 ·exact .lst (mJ.of (by rw[mm ag (by simp)];exact W.ga)) (w8 _)
 ·refine .dct (by rw[mm al (by simp)];exact W.li) ?_ ?_
  ·unfold kF vn;simp only[bf];rfl
  ·unfold kF vn;simp only[bf];exact wc λq _=>.int q.2
 ·exact .lst (mJ.of (by rw[mm ad (by simp)];exact W.de)) (W.dr.mono sm)
 ·refine .VD (by rw[mm at_ (by simp)];exact W.ti) ?_ ?_
  ·unfold uh vp;simp only[bf];rfl
  ·unfold uh vp;simp only[bf];exact wc λq _=>.int q.2.2
 ·refine .dct (by rw[mm ah (by simp)];exact W.ho) ?_ ?_
  ·have:=xQ W.hl
   have e:(iy (gR st.hours) cs).map (λq=>wW q.1)=((iy (gR st.hours) cs).map (·.1)).map wW:=by rw[bf];rfl
   rw[e,this];unfold yH;simp only[bf];rfl
  ·rw[xR W.hl]
   have e:((yH st).map λq=>(aQ q.1,q.2)).map (·.2)=(gR st.hours).map λq=>yf (q.2.map pairD):=by
    unfold yH;simp only[bf];rfl
   rw[e];exact EX W.hl λi c q e1 e2=>by
    obtain⟨xs,h1,h2⟩:=W.ce i c q e1 e2;exact .lst (mJ.of (by rw[mm c (by simp[bF e1])];exact h1)) (h2.mono sm)
 ·have hl:xp.length=st.paces.length:=by have:=W.pa.2.length;rw[aj]at this;exact this
  refine .dct (by rw[mm ap (by simp)];exact W.pa.1) ?_ ?_
  ·have:=tL hl
   have e:(kN st.paces xp).map (λq=>wW q.1)=((kN st.paces xp).map (·.1)).map wW:=by rw[bf];rfl
   rw[e,this];unfold rh;simp only[bf];rfl
  ·rw[xS hl]
   have e:((rh st).map λq=>(aQ q.1,q.2)).map (·.2)=st.paces.map ER:=by
    unfold rh;simp only[bf];rfl
   rw[e];exact W.pa.2.mono sm
structure W'(H H1:Hp)(p C dx:aR)(fs:List (Str×V))(os:List (aR×HO)):Prop where
 ins:H1 p=some (.ins C dx fs)
 ob:∀q∈os,H1 q.1=some q.2
 nd:(p::os.map (·.1)).Nodup
 fresh:∀q∈os,H q.1=none
 old:∀b o,H b=some o->b≠p->H1 b=some o
theorem W'.step{H1: Hp}{C dx d: aR}{fs fs':List (Str×V)}{os:List (aR×HO)}{o:HO}(m:W' H H1 p C dx fs os)(hd:H1 d=none):W' H (upd (upd H1 d o) p (.ins C dx fs')) p C dx fs' (os ++ [(d,o)]):=by
 have Xa:d≠p:=λz=>by subst z;rw[m.ins]at hd;cases hd
 have RX:d∉os.map (·.1):=λz=>by
  obtain⟨q,hq,rfl⟩:=aA.mp z;rw[m.ob q hq]at hd;cases hd
 have Qu:p∉os.map (·.1):=(eW.mp m.nd).1
 refine⟨bQ,λq hq=>?_,?_,λq hq=>?_,λb o' e hb=>?_⟩
 ·rcases bp.mp hq with hq|hq
  ·have h1:q.1≠p:=λz=>Qu (by rw[<-z];exact aA.mpr ⟨q,hq,rfl⟩)
   have h2:q.1≠d:=λz=>RX (by rw[<-z];exact aA.mpr ⟨q,hq,rfl⟩)
   rw[aY h1,aY h2];exact m.ob q hq
  ·rw[aK.mp hq,aY Xa];exact bQ
 ·rw[aV,<-List.cons_append,dY]
  refine⟨m.nd,by simp,λx hx y hy=>?_⟩
  rw[f7,aK]at hy;subst hy;rcases aE.mp hx with rfl|hx
  ·exact bY Xa
  ·exact λz=>RX (by rw[<-z];exact hx)
 ·rcases bp.mp hq with hq|hq
  ·exact m.fresh q hq
  ·rw[aK.mp hq]
   cases e:H d with
   |none=>rfl
   |some o'=>have:=m.old d o' e Xa;rw[hd]at this;cases this
 ·have h2:b≠d:=λz=>by subst z;have:=m.old b o' e hb;rw[hd]at this;cases this
  rw[aY hb,aY h2];exact m.old b o' e hb
theorem nA{f:Str}{v:V}:∀{fs:List (Str×V)},f∉fs.map (·.1)->lI f v fs=fs ++ [(f,v)]
 | [],_=>rfl
 |(g,x)::fs,h=>by
  have h1:g≠f:=λz=>h (by rw[z];simp)
  show(if g=f then(g,v)::fs else(g,x)::lI f v fs)=_
  rw[qQ2 h1,nA λz=>h (by simp[z])]
  rfl
abbrev zX:jq:=inClass (top 22) 0
def MD(C:aR):Sp:=λvs H Q _=>∃p dx,vs=[.ref p]/\H p=some (.ins C dx [])/\∀ak ag al ad at_ ah ap H',W' H H' p C dx (Nz ak ag al ad at_ ah ap) [(ak,.dK []),(ag,.lst []),(al,.dK []),(ad,.lst []),(at_,.dT []),(ah,.dK []),(ap,.dK [])]->Q .non H'
section
variable{P:bL}{w:cH}{K:au}{mg:Str->Option aG}{base:dw}{f:aR}{k:Nat}
theorem Xb:c7 ["self"] ["self"] (bV zX):=⟨rfl,rfl,rfl,by symm,rfl,by symm,by symm⟩
theorem zbb{C:aR}(F:mw K "__init__" "Plant.__init__" zX f fd)(cl:DZ K C)(na:∀f∈Yv,gP K C f):fA P w K mg base kR 1 f fd ["self"] (MD C):=by
 refine F.ok Xb (λvs H Q E h=>?_) (λiD A outer s H vs Q E hr h=>?_)
 ·obtain⟨p,dx,rfl,_⟩:=h
  rfl
 ·obtain⟨p,dx,rfl,hp,q⟩:=h
  refine⟨_,lN (uY (pv 0) vN rfl) (lN (uY (pv 0) (Cz gI) rfl) (lN (uY (pv 0) vN rfl) (lN (uY (pv 0) (Cz gI) rfl) (lN (uY (pv 0) K2 rfl) (lN (uY (pv 0) vN rfl) (yq (uY (pv 0) vN rfl))))))),?_⟩
  have m0:W' H H p C dx [] []:=⟨hp,λq hq=>(by cases hq),by simp,λq hq=>(by cases hq),λb o e _=>e⟩
  intro ak hak;have p1:(upd H ak (.dK [])) p=some (.ins C dx []):=by rw[aY (bC hp hak)];exact hp
  refine⟨_,rfl,p,C,dx,_,rfl,p1,cl,na _ (by symm),by show 0<1000;decide,?_⟩
  have e1:lI "kinds" (.ref ak) ([]:List (Str×V))=[(("kinds":Str),V.ref ak)]:=nA (show("kinds":Str)∉([]:List Str) by symm)
  have m1:=m0.step (o:=.dK []) (fs':=[(("kinds":Str),V.ref ak)]) hak;rw[e1];refine⟨bj _,λag hag=>?_⟩
  refine⟨_,rfl,p,C,dx,_,rfl,by rw[aY (bC m1.ins hag)];exact m1.ins,cl,na _ (by symm),by show 1<1000;decide,?_⟩
  have e2:lI "gates" (.ref ag) ([(("kinds":Str),V.ref ak)]:List (Str×V))=[(("kinds":Str),V.ref ak),("gates",V.ref ag)]:=nA (show("gates":Str)∉(["kinds"]:List Str) by symm)
  have m2:=m1.step (o:=.lst []) (fs':=[(("kinds":Str),V.ref ak),("gates",V.ref ag)]) hag;rw[e2];intro al hal;refine⟨_,rfl,p,C,dx,_,rfl,by rw[aY (bC m2.ins hal)];exact m2.ins,cl,na _ (by symm),by show 2<1000;decide,?_⟩
  have e3:lI "lines" (.ref al) ([(("kinds":Str),V.ref ak),("gates",V.ref ag)]:List (Str×V))=[(("kinds":Str),V.ref ak),("gates",V.ref ag),("lines",V.ref al)]:=nA (show("lines":Str)∉(["kinds","gates"]:List Str) by symm)
  have m3:=m2.step (o:=.dK []) (fs':=[(("kinds":Str),V.ref ak),("gates",V.ref ag),("lines",V.ref al)]) hal;rw[e3];refine⟨bj _,λad had=>?_⟩
  refine⟨_,rfl,p,C,dx,_,rfl,by rw[aY (bC m3.ins had)];exact m3.ins,cl,na _ (by symm),by show 3<1000;decide,?_⟩
  have e4:lI "desks" (.ref ad) ([(("kinds":Str),V.ref ak),("gates",V.ref ag),("lines",V.ref al)]:List (Str×V))=[(("kinds":Str),V.ref ak),("gates",V.ref ag),("lines",V.ref al),("desks",V.ref ad)]:=nA (show("desks":Str)∉(["kinds","gates","lines"]:List Str) by symm)
  have m4:=m3.step (o:=.lst []) (fs':=[(("kinds":Str),V.ref ak),("gates",V.ref ag),("lines",V.ref al),("desks",V.ref ad)]) had;rw[e4];intro at_ Yn;refine⟨_,rfl,p,C,dx,_,rfl,by rw[aY (bC m4.ins Yn)];exact m4.ins,cl,na _ (by symm),by show 4<1000;decide,?_⟩
  have e5:lI "times" (.ref at_) ([(("kinds":Str),V.ref ak),("gates",V.ref ag),("lines",V.ref al),("desks",V.ref ad)]:List (Str×V))=[(("kinds":Str),V.ref ak),("gates",V.ref ag),("lines",V.ref al),("desks",V.ref ad),("times",V.ref at_)]:=nA (show("times":Str)∉(["kinds","gates","lines","desks"]:List Str) by symm)
  have m5:=m4.step (o:=.dT []) (fs':=[(("kinds":Str),V.ref ak),("gates",V.ref ag),("lines",V.ref al),("desks",V.ref ad),("times",V.ref at_)]) Yn;rw[e5];intro ah hah;refine⟨_,rfl,p,C,dx,_,rfl,by rw[aY (bC m5.ins hah)];exact m5.ins,cl,na _ (by symm),by show 5<1000;decide,?_⟩
  have e6:lI "hours" (.ref ah) ([(("kinds":Str),V.ref ak),("gates",V.ref ag),("lines",V.ref al),("desks",V.ref ad),("times",V.ref at_)]:List (Str×V))=[(("kinds":Str),V.ref ak),("gates",V.ref ag),("lines",V.ref al),("desks",V.ref ad),("times",V.ref at_),("hours",V.ref ah)]:=nA (show("hours":Str)∉(["kinds","gates","lines","desks","times"]:List Str) by symm)
  have m6:=m5.step (o:=.dK []) (fs':=[(("kinds":Str),V.ref ak),("gates",V.ref ag),("lines",V.ref al),("desks",V.ref ad),("times",V.ref at_),("hours",V.ref ah)]) hah;rw[e6];intro ap hap;refine⟨_,rfl,p,C,dx,_,rfl,by rw[aY (bC m6.ins hap)];exact m6.ins,cl,na _ (by symm),by show 6<1000;decide,?_⟩
  have e7:lI "paces" (.ref ap) ([(("kinds":Str),V.ref ak),("gates",V.ref ag),("lines",V.ref al),("desks",V.ref ad),("times",V.ref at_),("hours",V.ref ah)]:List (Str×V))=[(("kinds":Str),V.ref ak),("gates",V.ref ag),("lines",V.ref al),("desks",V.ref ad),("times",V.ref at_),("hours",V.ref ah),("paces",V.ref ap)]:=nA (show("paces":Str)∉(["kinds","gates","lines","desks","times","hours"]:List Str) by symm)
  have m7:=m6.step (o:=.dK []) (fs':=[(("kinds":Str),V.ref ak),("gates",V.ref ag),("lines",V.ref al),("desks",V.ref ad),("times",V.ref at_),("hours",V.ref ah),("paces",V.ref ap)]) hap;rw[e7];exact q ak ag al ad at_ ah ap _ m7
end
def lW(p:Pl):Ent->Pl
 | .kind n k=>{ p with kinds:=p.kinds ++ [(n,k)] }
 | .gate n=>{ p with gates:=p.gates ++ [n] }
 | .line n r=>{ p with lines:=p.lines ++ [(n,r)] }
 | .desk d=>{ p with desks:=p.desks ++ [d] }
 | .time d k w=>{ p with times:=p.times ++ [(d,k,w)] }
 | .hour d a b=>{ p with hours:=p.hours ++ [(d,a,b)] }
 | .pace g k a b=>{ p with paces:=p.paces ++ [(g,k,a,b)] }
def MF(st:Pl)(d:ao)(AK:Pl):Prop:=∃e,d=yk e/\jA st/\gX e/\uO st e/\AK=lW st e
theorem tM{κ:Type}[DecidableEq κ]:∀{kvs:List (κ×V)}{k:κ},(∀q∈kvs,q.1≠k)->jI kvs k=none
 | [],_,_=>rfl
 |q::l,k,h=>by rw[nh (h q aS)];exact tM λx hx=>h x (aZ _ hx)
theorem zY(z:Int×Int)(n:Str):∀{h:List (Str×List (Int×Int))}{cs:List aR},cs.length=h.length->
  (jI (iy h cs) (b9 n)=none/\rU h n z=h ++ [(n,[z])])\/∃i c q,h[i]?=some q/\cs[i]?=some c/\jI (iy h cs) (b9 n)=some (.ref c)/\rU h n z=h.set i (q.1,q.2 ++ [z])
 | [],[],_=>.inl ⟨rfl,rfl⟩
 | [],_::_,e=>by cases e
 |_::_,[],e=>by cases e
 |q::h,c::cs,e=>by
  have hv:iy (q::h) (c::cs)=(b9 q.1,V.ref c)::iy h cs:=rfl;by_cases hn:q.1=n
  ·refine .inr ⟨0,c,q,rfl,rfl,?_,?_⟩
   ·rw[hv];exact qm (by show(b9 q.1:Key)=b9 n;rw[hn])
   ·show(if q.1=n then(q.1,q.2 ++ [z])::h else q::rU h n z)=_
    rw[qQ3 hn];rfl
  ·have ne:¬(b9 q.1:Key)=b9 n:=λw=>hn (by injection w)
   have ea:rU (q::h) n z=q::rU h n z:=by
    show(if q.1=n then(q.1,q.2 ++ [z])::h else q::rU h n z)=_
    rw[qQ2 hn]
   rcases zY z n (h:=h) (cs:=cs) (by simpa using e) with⟨h1,h2⟩|⟨i,c',q',h1,h2,h3,h4⟩
   ·exact .inl ⟨by rw[hv,nh ne];exact h1,by rw[ea,h2];rfl⟩
   ·exact .inr ⟨i+1,c',q',by simpa using h1,by simpa using h2,by rw[hv,nh ne];exact h3,by rw[ea,h4];rfl⟩
theorem xU:∀{h h':List (Str×List (Int×Int))}{cs:List aR},h'.map (·.1)=h.map (·.1)->iy h' cs=iy h cs
 | [],[],_,_=>rfl
 | [],_::_,_,e=>by cases e
 |_::_,[],_,e=>by cases e
 |q::h,q'::h',cs,e=>by
  obtain⟨e1,e2⟩:=kM e;cases cs with
  |nil=>rfl
  |cons c cs=>
   show(b9 q'.1,V.ref c)::iy h' cs=(b9 q.1,V.ref c)::iy h cs
   rw[show q'.1=q.1 from e1,xU e2]
theorem GY{h:List (Str×List (Int×Int))}{cs:List aR}(e:cs.length=h.length)(q:Str×List (Int×Int))(c:aR):iy (h ++ [q]) (cs ++ [c])=iy h cs ++ [(b9 q.1,V.ref c)]:=by
 unfold iy;rw[List.zip_append (by omega),aV]
 rfl
theorem GZ(l:List (Str×Int×Int))(q:Str×Int×Int):gR (l ++ [q])=rU (gR l) q.1 q.2:=by
 unfold gR;rw[gF];rfl
theorem EY(z:Int×Int)(n:Str):∀h,(rU h n z).length<=h.length+1
 | []=>ay _
 |q::h=>by
  show(if q.1=n then(q.1,q.2 ++ [z])::h else q::rU h n z).length<=_
  split
  ·simp
  ·have:=EY z n h
   simp only[aX];omega
theorem G5(l:List (Str×Int×Int)):(gR l).length<=l.length:=by
 have go:∀(l:List (Str×Int×Int))(acc:List (Str×List (Int×Int))),(l.foldl (λacc q=>rU acc q.1 q.2) acc).length<=acc.length+l.length:=by
  intro l
  induction l with
  |nil=>intro acc;exact ay _
  |cons q l ih=>
   intro acc;have h1:=ih (rU acc q.1 q.2);have h2:=EY q.2 q.1 acc;rw[lG,aX];omega
 have:=go l [];rw[cz,sC]at this;exact this
theorem zZ(z:Int×Int)(n:Str):∀(h:List (Str×List (Int×Int)))(b:Nat),(∀q∈h,q.2.length<=b)->∀q∈rU h n z,q.2.length<=b+1
 | [],b,_,q,hq=>by rw[aK.mp hq];simp
 |p::h,b,hb,q,hq=>by
  have hq:q∈(if p.1=n then(p.1,p.2 ++ [z])::h else p::rU h n z):=hq
  split at hq
  ·rcases aE.mp hq with rfl|hq
   ·have:=hb p aS
    rw[aH];simp;omega
   ·have:=hb q (aZ _ hq);omega
  ·rcases aE.mp hq with rfl|hq
   ·have:=hb q aS;omega
   ·exact zZ z n h b (λx hx=>hb x (aZ _ hx)) q hq
theorem EZ(l:List (Str×Int×Int)):∀q∈gR l,q.2.length<=l.length:=by
 have go:∀(l:List (Str×Int×Int))(acc:List (Str×List (Int×Int)))(b:Nat),(∀q∈acc,q.2.length<=b)->∀q∈l.foldl (λacc q=>rU acc q.1 q.2) acc,q.2.length<=b+l.length:=by
  intro l
  induction l with
  |nil=>intro acc b hb q hq;exact hb q hq
  |cons q0 l ih=>
   intro acc b hb q hq;have:=ih (rU acc q0.1 q0.2) (b+1) (zZ q0.2 q0.1 acc b hb) q hq;rw[aX];omega
 intro q hq;have:=go l [] 0 (λq hq=>by cases hq) q hq
 omega
section
variable{P:bL}{w:cH}{K:au}{mg:Str->Option aG}{base:dw}{f:aR}{k:Nat}
abbrev Nae:List Str:=["plant","entry","form","name"]
theorem QW:c7 Nae yI (bV (top 38)):=⟨rfl,rfl,rfl,by symm,rfl,by symm,by symm⟩
theorem Xc{ak ag al ad at_ ah ap:aR}:(Nz ak ag al ad at_ ah ap).lookup ("kinds":Str)=some (.ref ak)/\(Nz ak ag al ad at_ ah ap).lookup ("gates":Str)=some (.ref ag)/\(Nz ak ag al ad at_ ah ap).lookup ("lines":Str)=some (.ref al)/\(Nz ak ag al ad at_ ah ap).lookup ("desks":Str)=some (.ref ad)/\(Nz ak ag al ad at_ ah ap).lookup ("times":Str)=some (.ref at_)/\(Nz ak ag al ad at_ ah ap).lookup ("hours":Str)=some (.ref ah)/\(Nz ak ag al ad at_ ah ap).lookup ("paces":Str)=some (.ref ap):=⟨rfl,rfl,rfl,rfl,rfl,rfl,rfl⟩
theorem zbd(F:mw K "add_entry" "add_entry" (top 38) f fd):fA P w K mg base kR 1 f fd yI (Iq K Pl (uP K) MF):=by
 refine F.ok QW (λvs H Q E h=>?_) (λiD A outer s H vs Q E hr h=>?_)
 ·obtain⟨_,_,_,_,_,_,_,rfl,_⟩:=h
  rfl
 ·obtain⟨H0,p,v,as,st,AK,d,rfl,sm,rv,own,W0,⟨e,rfl,ok,oe,oa,rfl⟩,q⟩:=h
  refine⟨_,nW,?_⟩
  have nd:Nae.Nodup:=QW.nd;have f0:iI K H0 H H0 H (start Nae [.ref p,v]) [.ref p,.val (yk e),.un,.un]:=by
   refine⟨.refl sm,rfl,λi sl hi=>?_,λi j a b p' _ h1=>?_⟩
   ·match i,hi with
    |0,hi=>cases hi;exact rfl
    |1,hi=>cases hi;exact⟨v,rfl,rv⟩
    |2,hi=>cases hi;exact trivial
    |3,hi=>cases hi;exact trivial
    |i+4,hi=>simp at hi
   ·match i,h1 with
    |0,h1=>cases h1
    |1,h1=>cases h1
    |2,h1=>cases h1
    |3,h1=>cases h1
    |i+4,h1=>simp at h1
  refine eP (Wi f0 (dq 2 (d:=.str e.form) (cC (ai 1 rfl) aD (uj e)) nd) λσ1 H1 eQ s1 f1=>?_)
  refine eP (Wi f1 (dq 3 (d:=.str e.name) (cC (ai 1 rfl) aD (IK e)) nd) λσ2 H2 jH s2 f2=>?_)
  have W2:=uP.mono _ _ _ _ _ W0 f2.ent.iq (λa ha=>f2.ent.big.eq (own a ha).2)
  obtain⟨C,dx,ak,ag,al,ad,at_,ah,ap,cs,xd,xp,rfl,NB,W⟩:=W2;have o2:∀a∈p::ak::ag::al::ad::at_::ah::ap::cs,∃o,H a=some o/\H0 a=none:=λa ha=>by
   obtain⟨z1,z2⟩:=own a ha;cases e:H a with
   |none=>exact qQ7 e z2
   |some o=>exact⟨o,rfl,z1⟩
  have Xd:=NB;simp only[eW,aE,not_or]at Xd;obtain⟨⟨pk,pg,pl,pd,pt,ph,pp,pc⟩,⟨kg,kl,kd,kt,kh,kp,kc⟩,⟨gl,gd,gt,gh,gp,gc⟩,⟨ld,lt,lh,lp,lc⟩,⟨dt,dh,dp,dc⟩,⟨th,tp,tc⟩,⟨hp,hc⟩,apc,ncs⟩:=Xd;have fin:∀(Ha Hb:Hp)(a:aR)(o:HO),eL H0 H Ha Hb->a∈p::ak::ag::al::ad::at_::ah::ap::cs->(∀xd',xd'=xd->uP K p (lW st e) Ha (upd Hb a o) (p::ak::ag::al::ad::at_::ah::ap::cs))->Q .non (upd Hb a o):=λHa Hb a o g ha hW=>by
   have fr:∀b∈p::ak::ag::al::ad::at_::ah::ap::cs,Ha b=none/\Hb b≠none:=λb hb=>by
    obtain⟨ob,e1,e2⟩:=o2 b hb;exact⟨g.still e2 e1,by rw[g.big _ _ e1];simp⟩
   refine q Ha (upd Hb a o) _ g.iq (λb u e=>?_) g.new (λb hb=>⟨(fr b hb).1,?_,.inl hb⟩) (λb u e hb=>?_) (hW xd rfl)
   ·rw[aY (bC e (fr a ha).1)];exact g.sub b u e
   ·by_cases hba:b=a
    ·subst hba;rw[bQ];simp
    ·rw[aY hba];exact(fr b hb).2
   ·rw[aY (λz=>hb (by rw[z];exact ha))];exact g.big b u e
  have Wg:∀Ha Hb,eL H2 jH Ha Hb->PlW K p st Ha Hb C dx ak ag al ad at_ ah ap cs xd xp:=λHa Hb g=>by
   have M:=uP.mono (K:=K) (p:=p) (st:=st) H2 jH Ha Hb (p::ak::ag::al::ad::at_::ah::ap::cs) ⟨C,dx,ak,ag,al,ad,at_,ah,ap,cs,xd,xp,rfl,NB,W⟩ g.iq (λa ha=>by
    obtain⟨o,e1,_⟩:=o2 a ha;exact g.big.eq (by rw[f2.ent.big _ _ e1];simp))
   exact⟨g.big _ _ W.ins,W.cls,W.rV,g.big _ _ W.ki,g.big _ _ W.ga,g.big _ _ W.li,g.big _ _ W.de,W.dr.mono g.iq,g.big _ _ W.ti,g.big _ _ W.ho,W.hl,⟨g.big _ _ W.pa.1,W.pa.2.mono g.iq⟩,λi c q e1 e2=>by
    obtain⟨xs,h1,h2⟩:=W.ce i c q e1 e2;exact⟨xs,g.big _ _ h1,h2.mono g.iq⟩⟩
  obtain⟨lk1,lk2,lk3,lk4,lk5,lk6,lk7⟩:=Xc (ak:=ak) (ag:=ag) (al:=al) (ad:=ad) (at_:=at_) (ah:=ah) (ap:=ap);have lf:=bH (n:=20) (dg e);cases e with
  |kind m kk=>
   refine dE (zG f2 (VT.to (b0 hr lf a8 (ai 2 rfl) aL) (jw _)) λHa Hb g=>?_)
   have Wa:=Wg Ha Hb g;have hz:(vm st).length<sizeLine:=fV (by unfold vm;rw[aj];have:=ok.kn;omega)
   refine dE (LX (f2.grow g) hr 0 rfl Wa.ins Wa.cls (Wa.rV _ (by symm)) lk1 Wa.ki (ai 3 rfl) (cC (ai 1 rfl) aD (ck (j:=2) rfl)) hz λv Hc Hd g2 r=>?_)
   have Wd:=Wg Hc Hd (g.trans g2);have hv:=Rep.PY r;subst hv;refine fin Hc Hd ak _ (f2.ent.trans (g.trans g2)) (by simp) λ_ _=>⟨C,dx,ak,ag,al,ad,at_,ah,ap,cs,xd,xp,rfl,NB,?_⟩
   have hn:jI (vm st) (b9 m)=none:=tM λq' CD=>by
    obtain⟨q0,h0,rfl⟩:=aA.mp CD;intro z
    injection z with z
    exact oa (by rw[<-z];exact aA.mpr ⟨q0,h0,rfl⟩)
   refine⟨by rw[aY pk];exact Wd.ins,Wd.cls,Wd.rV,?_,by rw[aY (bY kg)];exact Wd.ga,by rw[aY (bY kl)];exact Wd.li,by rw[aY (bY kd)];exact Wd.de,Wd.dr,by rw[aY (bY kt)];exact Wd.ti,by rw[aY (bY kh)];exact Wd.ho,Wd.hl,by rw[aY (bY kp)];exact Wd.pa,λi c q' e1 e2=>?_⟩
   ·rw[bQ]
    show some (HO.dK (putK (vm st) (b9 m) (PX kk)))=some (.dK ((st.kinds ++ [(m,kk)]).map _));rw[sM _ hn,aV];rfl
   ·obtain⟨xs,h1,h2⟩:=Wd.ce i c q' e1 e2
    exact⟨xs,by rw[aY (λz=>kc (by rw[<-z];exact bF e1))];exact h1,h2⟩
  |gate m=>
   refine dE (kZ f2 (VT.to (b0 hr lf a8 (ai 2 rfl) aL) (fj (show("gate":Str)≠"kind" by symm))) λPZ P0 g1=>?_)
   have E1:=f2.grow g1;have MG:=g1;refine dE (zG E1 (VT.to (b0 hr lf a8 (ai 2 rfl) aL) (jw _)) λNC NF g2=>?_)
   have Fu:=E1.grow g2;have J6:=MG.trans g2;have Wa:=Wg NC NF J6;have hz:(st.gates.map V.str).length<sizeLine:=fV (by rw[aj];have:=ok.gn;omega)
   refine dE (Ej Fu 0 rfl Wa.ins Wa.cls (Wa.rV _ (by symm)) lk2 Wa.ga (ai 3 rfl) hz λv Hc Hd g9 r=>?_)
   have Wd:=Wg Hc Hd (J6.trans g9);cases r;refine fin Hc Hd ag _ (f2.ent.trans (J6.trans g9)) (by simp) λ_ _=>⟨C,dx,ak,ag,al,ad,at_,ah,ap,cs,xd,xp,rfl,NB,?_⟩
   refine⟨by rw[aY (pg)];exact Wd.ins,Wd.cls,Wd.rV,by rw[aY (kg)];exact Wd.ki,?_,by rw[aY (bY gl)];exact Wd.li,by rw[aY (bY gd)];exact Wd.de,Wd.dr,by rw[aY (bY gt)];exact Wd.ti,by rw[aY (bY gh)];exact Wd.ho,Wd.hl,by rw[aY (bY gp)];exact Wd.pa,λi c q' e1 e2=>?_⟩
   ·rw[bQ]
    show some (HO.lst (st.gates.map V.str ++ [V.str m]))=some (.lst ((st.gates ++ [m]).map V.str));rw[aV];rfl
   ·obtain⟨xs,h1,h2⟩:=Wd.ce i c q' e1 e2
    exact⟨xs,by rw[aY (λz=>gc (by rw[<-z];exact bF e1))];exact h1,h2⟩
  |line m rr=>
   refine dE (kZ f2 (VT.to (b0 hr lf a8 (ai 2 rfl) aL) (fj (show("line":Str)≠"kind" by symm))) λPZ P0 g1=>?_)
   have E1:=f2.grow g1;have MG:=g1;refine dE (kZ E1 (VT.to (b0 hr lf a8 (ai 2 rfl) aL) (fj (show("line":Str)≠"gate" by symm))) λNC NF g2=>?_)
   have Fu:=E1.grow g2;have J6:=MG.trans g2;refine dE (zG Fu (VT.to (b0 hr lf a8 (ai 2 rfl) aL) (jw _)) λTw Tx g3=>?_)
   have J7:=Fu.grow g3;have MH:=J6.trans g3;have Wa:=Wg Tw Tx MH;have hz:(vn st).length<sizeLine:=fV (by unfold vn;rw[aj];have:=ok.ln;omega)
   refine dE (LX J7 hr 0 rfl Wa.ins Wa.cls (Wa.rV _ (by symm)) lk3 Wa.li (ai 3 rfl) (cC (ai 1 rfl) aD (ck (j:=2) rfl)) hz λv Hc Hd g9 r=>?_)
   have Wd:=Wg Hc Hd (MH.trans g9);cases r;refine fin Hc Hd al _ (f2.ent.trans (MH.trans g9)) (by simp) λ_ _=>⟨C,dx,ak,ag,al,ad,at_,ah,ap,cs,xd,xp,rfl,NB,?_⟩
   have hn:jI (vn st) (b9 m)=none:=tM λq' CD=>by
    obtain⟨q0,h0,rfl⟩:=aA.mp CD;intro z
    injection z with z
    exact oa (.inr (by rw[<-z];exact aA.mpr ⟨q0,h0,rfl⟩))
   refine⟨by rw[aY (pl)];exact Wd.ins,Wd.cls,Wd.rV,by rw[aY (kl)];exact Wd.ki,by rw[aY (gl)];exact Wd.ga,?_,by rw[aY (bY ld)];exact Wd.de,Wd.dr,by rw[aY (bY lt)];exact Wd.ti,by rw[aY (bY lh)];exact Wd.ho,Wd.hl,by rw[aY (bY lp)];exact Wd.pa,λi c q' e1 e2=>?_⟩
   ·rw[bQ]
    show some (HO.dK (putK (vn st) (b9 m) (V.int rr)))=some (.dK ((st.lines ++ [(m,rr)]).map _));rw[sM _ hn,aV];rfl
   ·obtain⟨xs,h1,h2⟩:=Wd.ce i c q' e1 e2
    exact⟨xs,by rw[aY (λz=>lc (by rw[<-z];exact bF e1))];exact h1,h2⟩
  |desk q0=>
   refine dE (kZ f2 (VT.to (b0 hr lf a8 (ai 2 rfl) aL) (fj (show("desk":Str)≠"kind" by symm))) λPZ P0 g1=>?_)
   have E1:=f2.grow g1;have MG:=g1;refine dE (kZ E1 (VT.to (b0 hr lf a8 (ai 2 rfl) aL) (fj (show("desk":Str)≠"gate" by symm))) λNC NF g2=>?_)
   have Fu:=E1.grow g2;have J6:=MG.trans g2;refine dE (kZ Fu (VT.to (b0 hr lf a8 (ai 2 rfl) aL) (fj (show("desk":Str)≠"line" by symm))) λTw Tx g3=>?_)
   have J7:=Fu.grow g3;have MH:=J6.trans g3;refine dE (zG J7 (VT.to (b0 hr lf a8 (ai 2 rfl) aL) (jw _)) λUv Uw g4=>?_)
   have NK:=J7.grow g4;have P1:=MH.trans g4;have Wa:=Wg Uv Uw P1;have S0:=Wa.dr.length;rw[aj]at S0;have hz:xd.length<sizeLine:=fV (by have:=ok.dn;omega)
   have GJ:L2.cutD (aQ "desk"::Ent.rest (.desk q0)) (some 1) none=Ent.rest (.desk q0):=(lR (aQ "desk"::Ent.rest (.desk q0)) 1).trans rfl;refine dE (Ej (d:=eE q0) NK 0 rfl Wa.ins Wa.cls (Wa.rV _ (by symm)) lk4 Wa.de (VE.to (ua (ai 1 rfl) (.yes aD) .no ?_) (by show fS (L2.cutD (aQ "desk"::Ent.rest (.desk q0)) (some 1) none)=_;rw[GJ];rfl)) hz λv Hc Hd g9 r=>?_)
   ·intro z
    have:=z.1;rw[show(1:Int)=((1:Nat):Int)from rfl,HT.pw]at this
    exact qQ7 this (by show ¬(min 1 5=0);decide)
   have Wd:=Wg Hc Hd (P1.trans g9);refine fin Hc Hd ad _ (f2.ent.trans (P1.trans g9)) (by simp) λ_ _=>⟨C,dx,ak,ag,al,ad,at_,ah,ap,cs,xd ++ [v],xp,rfl,NB,?_⟩
   refine⟨by rw[aY (pd)];exact Wd.ins,Wd.cls,Wd.rV,by rw[aY (kd)];exact Wd.ki,by rw[aY (gd)];exact Wd.ga,by rw[aY (ld)];exact Wd.li,bQ,?_,by rw[aY (bY dt)];exact Wd.ti,by rw[aY (bY dh)];exact Wd.ho,Wd.hl,by rw[aY (bY dp)];exact Wd.pa,λi c q' e1 e2=>?_⟩
   ·show dz K Hc (xd ++ [v]) ((st.desks ++ [q0]).map eE)
    rw[aV];exact Wd.dr.append (.cons r .nil)
   ·obtain⟨xs,h1,h2⟩:=Wd.ce i c q' e1 e2
    exact⟨xs,by rw[aY (λz=>dc (by rw[<-z];exact bF e1))];exact h1,h2⟩
  |time dk Yw wk=>
   refine dE (kZ f2 (VT.to (b0 hr lf a8 (ai 2 rfl) aL) (fj (show("time":Str)≠"kind" by symm))) λPZ P0 g1=>?_)
   have E1:=f2.grow g1;have MG:=g1;refine dE (kZ E1 (VT.to (b0 hr lf a8 (ai 2 rfl) aL) (fj (show("time":Str)≠"gate" by symm))) λNC NF g2=>?_)
   have Fu:=E1.grow g2;have J6:=MG.trans g2;refine dE (kZ Fu (VT.to (b0 hr lf a8 (ai 2 rfl) aL) (fj (show("time":Str)≠"line" by symm))) λTw Tx g3=>?_)
   have J7:=Fu.grow g3;have MH:=J6.trans g3;refine dE (kZ J7 (VT.to (b0 hr lf a8 (ai 2 rfl) aL) (fj (show("time":Str)≠"desk" by symm))) λUv Uw g4=>?_)
   have NK:=J7.grow g4;have P1:=MH.trans g4;refine dE (zG NK (VT.to (b0 hr lf a8 (ai 2 rfl) aL) (jw _)) λHa5 Hb5 g5=>?_)
   have Tz:=NK.grow g5;have Ux:=P1.trans g5;have Wa:=Wg Ha5 Hb5 Ux;have hz:(vp st).length<sizeLine:=fV (by unfold vp;rw[aj];have:=ok.tn;omega)
   refine dE (SY Tz hr 0 rfl Wa.ins Wa.cls (Wa.rV _ (by symm)) lk5 Wa.ti (ai 3 rfl) (cC (ai 1 rfl) aD (ck (j:=2) rfl)) (cC (ai 1 rfl) aD (ck (j:=3) rfl)) hz λv t Hc Hd g9 ht r=>?_)
   have gt9:eL H2 jH Hc (upd Hd t (.tup [.str dk,.str Yw])):=(Ux.trans g9).trans (.loose g9.sub ht);have Wd:=Wg Hc _ gt9;cases r;refine fin Hc _ at_ _ (f2.ent.trans gt9) (by simp) λ_ _=>⟨C,dx,ak,ag,al,ad,at_,ah,ap,cs,xd,xp,rfl,NB,?_⟩
   have hn:jI (vp st) (wZ (dk,Yw))=none:=tM λq' CD=>by
    obtain⟨q0,h0,rfl⟩:=aA.mp CD;intro z;have:=Eg z;exact oa.1 (by rw[<-this];exact aA.mpr ⟨q0,h0,rfl⟩)
   refine⟨by rw[aY (pt)];exact Wd.ins,Wd.cls,Wd.rV,by rw[aY (kt)];exact Wd.ki,by rw[aY (gt)];exact Wd.ga,by rw[aY (lt)];exact Wd.li,by rw[aY (dt)];exact Wd.de,Wd.dr,?_,by rw[aY (bY th)];exact Wd.ho,Wd.hl,by rw[aY (bY tp)];exact Wd.pa,λi c q' e1 e2=>?_⟩
   ·rw[bQ]
    show some (HO.dT (putK (vp st) (wZ (dk,Yw)) (V.int wk)))=some (.dT ((st.times ++ [(dk,Yw,wk)]).map _));rw[sM _ hn,aV];rfl
   ·obtain⟨xs,h1,h2⟩:=Wd.ce i c q' e1 e2
    exact⟨xs,by rw[aY (λz=>tc (by rw[<-z];exact bF e1))];exact h1,h2⟩
  |hour dk ha hb=>
   refine dE (kZ f2 (VT.to (b0 hr lf a8 (ai 2 rfl) aL) (fj (show("open":Str)≠"kind" by symm))) λPZ P0 g1=>?_)
   have E1:=f2.grow g1;have MG:=g1;refine dE (kZ E1 (VT.to (b0 hr lf a8 (ai 2 rfl) aL) (fj (show("open":Str)≠"gate" by symm))) λNC NF g2=>?_)
   have Fu:=E1.grow g2;have J6:=MG.trans g2;refine dE (kZ Fu (VT.to (b0 hr lf a8 (ai 2 rfl) aL) (fj (show("open":Str)≠"line" by symm))) λTw Tx g3=>?_)
   have J7:=Fu.grow g3;have MH:=J6.trans g3;refine dE (kZ J7 (VT.to (b0 hr lf a8 (ai 2 rfl) aL) (fj (show("open":Str)≠"desk" by symm))) λUv Uw g4=>?_)
   have NK:=J7.grow g4;have P1:=MH.trans g4;refine dE (kZ NK (VT.to (b0 hr lf a8 (ai 2 rfl) aL) (fj (show("open":Str)≠"time" by symm))) λHa5 Hb5 g5=>?_)
   have Tz:=NK.grow g5;have Ux:=P1.trans g5;refine dE (zG Tz (VT.to (b0 hr lf a8 (ai 2 rfl) aL) (jw _)) λXe Yx g6=>?_)
   have ff6:=Tz.grow g6;have P2:=Ux.trans g6;have Wa:=Wg Xe Yx P2;have hll:=G5 st.hours;have Kq:=EZ st.hours;have okh:=ok.hn;have hz:(iy (gR st.hours) cs).length<sizeLine:=fV (by unfold iy;rw[aj,Au];omega)
   have GJ:L2.cutD (aQ "open"::Ent.rest (.hour dk ha hb)) (some 2) none=[.int ha,.int hb]:=(lR (aQ "open"::Ent.rest (.hour dk ha hb)) 2).trans rfl;have ha0:Xe ah=none:=by
    obtain⟨o,e1,e2⟩:=o2 ah (by simp)
    exact(f2.ent.trans P2).still e2 e1
   have Jm:gR (st.hours ++ [(dk,ha,hb)])=rU (gR st.hours) dk (ha,hb):=GZ _ _;have MJ:=zY (ha,hb) dk W.hl;refine dE (LY (d:=pairD (ha,hb)) ff6 0 rfl Wa.ins Wa.cls (Wa.rV _ (by symm)) lk6 Wa.ho (ai 3 rfl) (VE.to (ua (ai 1 rfl) (.yes aD) .no ?_) (by show fS (L2.cutD (aQ "open"::Ent.rest (.hour dk ha hb)) (some 2) none)=_;rw[GJ];rfl)) hz rfl ha0 (λv hv=>?_) (λc xs v t Hc Hd Ek XF htt g9 ht0 r=>?_) (λv c Hc Hd Ek hcn s9 ZD nw old Uk hdc X6 ha9 r=>?_))
   ·intro z
    have:=z.1;rw[show(2:Int)=((2:Nat):Int)from rfl,HT.pw]at this
    exact qQ7 this (by show ¬(min 2 4=0);decide)
   ·rcases MJ with⟨h1,_⟩|⟨i,c,q',h1,h2,h3,h4⟩
    ·have hv:jI (iy (gR st.hours) cs) (b9 dk)=some v:=hv
     rw[h1]at hv;cases hv
    ·have hv:some v=some (V.ref c):=hv.symm.trans h3
     cases hv;obtain⟨xs,x1,x2⟩:=Wa.ce i c q' h2 h1;refine⟨c,xs,rfl,x1,fV ?_⟩
     have:=x2.length;rw[aj]at this;have:=Kq q' (bF h1);omega
   ·rcases MJ with⟨h1,_⟩|⟨i,c',q',h1,h2,h3,h4⟩
    ·have Ek:jI (iy (gR st.hours) cs) (b9 dk)=some (V.ref c):=Ek
     rw[h1]at Ek;cases Ek
    ·have Ek:some (V.ref c')=some (V.ref c):=h3.symm.trans Ek
     cases Ek;have Wd:=Wg Hc Hd (P2.trans g9);have Vc:c∈cs:=bF h2;obtain⟨xs',x1,x2⟩:=Wd.ce i c q' h2 h1;have ex:xs'=xs:=by
      have:=g9.big _ _ XF;rw[this]at x1;cases x1;rfl
     subst ex;have hil:i<(gR st.hours).length:=(aP.mp h1).1;have G7:gR (lW st (.hour dk ha hb)).hours=(gR st.hours).set i (q'.1,q'.2 ++ [(ha,hb)]):=by
      show gR (st.hours ++ [(dk,ha,hb)])=_;rw[Jm,h4]
     refine fin Hc Hd c _ (f2.ent.trans (P2.trans g9)) (by simp[Vc]) λ_ _=>⟨C,dx,ak,ag,al,ad,at_,ah,ap,cs,xd,xp,rfl,NB,?_⟩
     have nc:∀x,x∉cs->x≠c:=λx hx z=>hx (by rw[z];exact Vc)
     refine⟨by rw[aY (nc _ pc)];exact Wd.ins,Wd.cls,Wd.rV,by rw[aY (nc _ kc)];exact Wd.ki,by rw[aY (nc _ gc)];exact Wd.ga,by rw[aY (nc _ lc)];exact Wd.li,by rw[aY (nc _ dc)];exact Wd.de,Wd.dr,by rw[aY (nc _ tc)];exact Wd.ti,?_,?_,by rw[aY (nc _ apc)];exact Wd.pa,λj c2 q2 e1 e2=>?_⟩
     ·rw[aY (nc _ hc),Wd.ho,G7]
      congr 2
      refine(xU ?_).symm
      rw[List.map_set];refine kf λn=>?_
      by_cases hn:n=i
      ·subst hn;rw[bo (by rw[aj];exact hil),aW,h1];rfl
      ·rw[bh (bY hn)]
     ·rw[G7,Ar];exact Wd.hl
     ·rw[G7]at e2
      by_cases hj:j=i
      ·subst hj
       rw[h2]at e1;cases e1;rw[bo hil]at e2;cases e2;refine⟨xs' ++ [v],bQ,?_⟩
       show dz K Hc (xs' ++ [v]) ((q'.2 ++ [(ha,hb)]).map pairD);rw[aV];exact x2.append (.cons r .nil)
      ·rw[bh (bY hj)]at e2
       obtain⟨ys,y1,y2⟩:=Wd.ce j c2 q2 e1 e2;have oW:c2≠c:=λz=>by
        subst z;have l1:=aP.mp e1;have l2:=aP.mp h2;obtain⟨l1a,l1b⟩:=l1;obtain⟨l2a,l2b⟩:=l2;rcases Nat.lt_or_gt_of_ne hj with t_|t_
        ·exact je.mp ncs j i l1a l2a t_ (by rw[l1b,l2b])
        ·exact je.mp ncs i j l2a l1a t_ (by rw[l1b,l2b])
       exact⟨ys,by rw[aY oW];exact y1,y2⟩
   ·rcases MJ with⟨h1,h4⟩|⟨i,c',q',h1,h2,h3,h4⟩
    ·have gH:=f2.ent.trans P2
     have hcH:H c=none:=gH.big.free hcn;have P5:c∉p::ak::ag::al::ad::at_::ah::ap::cs:=λz=>by
      obtain⟨o,e1,_⟩:=o2 c z;rw[hcH]at e1;cases e1
     have G7:gR (lW st (.hour dk ha hb)).hours=gR st.hours ++ [(dk,[(ha,hb)])]:=by
      show gR (st.hours ++ [(dk,ha,hb)])=_;rw[Jm,h4]
     have zbj:∀x∈p::ak::ag::al::ad::at_::ah::ap::cs,Hc x=none:=λx hx=>by
      obtain⟨o,e1,e2⟩:=o2 x hx;have:Xe x=none:=gH.still e2 e1;cases e:Hc x with
      |none=>rfl
      |some u=>
       rcases nw x (by rw[e];simp)with z|z
       ·exact qQ7 this z
       ·rw[gH.big _ _ e1]at z;cases z
     have Kr:∀x∈p::ak::ag::al::ad::at_::ah::ap::cs,x≠ah->∀u,Yx x=some u->(upd Hd c (.lst [v])) x=some u:=λx hx Yy u e=>by
      rw[aY (λz=>P5 (by rw[<-z];exact hx))];exact old x u e Yy
     refine q Hc (upd Hd c (.lst [v])) (p::ak::ag::al::ad::at_::ah::ap::(cs ++ [c])) (gH.iq.trans s9) (λb u e=>?_) (λb z=>?_) (λx hx=>?_) (λb u e V6=>?_) ⟨C,dx,ak,ag,al,ad,at_,ah,ap,cs ++ [c],xd,xp,rfl,?_,?_⟩
     ·rw[aY (bC e X6)];exact ZD b u e
     ·rcases nw b z with z|z
      ·exact gH.new b z
      ·exact .inr (gH.big.free z)
     ·have hx:x∈(p::ak::ag::al::ad::at_::ah::ap::cs) ++ [c]:=by simpa using hx
      rcases bp.mp hx with hx|hx
      ·refine⟨zbj x hx,?_,.inl hx⟩
       rw[aY (λz=>P5 (by rw[<-z];exact hx))]
       obtain⟨o,e1,_⟩:=o2 x hx;by_cases Yy:x=ah
       ·rw[Yy,Uk];simp
       ·rw[old x o (gH.big _ _ e1) Yy];simp
      ·rw[aK.mp hx]
       exact⟨X6,by rw[bQ];simp,.inr hcH⟩
     ·have hbc:b≠c:=λz=>by rw[z,hcH]at e;cases e
      rw[aY hbc];exact old b u (gH.big _ _ e) (λz=>V6 (by rw[z];simp))
     ·have:(p::ak::ag::al::ad::at_::ah::ap::(cs ++ [c]))=(p::ak::ag::al::ad::at_::ah::ap::cs) ++ [c]:=by simp
      rw[this,dY];exact⟨NB,by simp,λx hx y hy z=>P5 (by rw[<-aK.mp hy,<-z];exact hx)⟩
     ·refine⟨Kr p (by simp) ph _ Wa.ins,Wa.cls,Wa.rV,Kr ak (by simp) kh _ Wa.ki,Kr ag (by simp) gh _ Wa.ga,Kr al (by simp) lh _ Wa.li,Kr ad (by simp) dh _ Wa.de,Wa.dr.mono s9,Kr at_ (by simp) th _ Wa.ti,?_,?_,⟨Kr ap (by simp) (bY hp) _ Wa.pa.1,Wa.pa.2.mono s9⟩,λj c2 q2 e1 e2=>?_⟩
      ·have Uk:Hd ah=some (.dK (putK (iy (gR st.hours) cs) (b9 dk) (.ref c))):=Uk
       rw[aY (λz=>P5 (by rw[<-z];simp)),Uk,G7,sM _ h1,GY W.hl]
      ·rw[G7,aH,aH,W.hl];rfl
      ·rw[G7]at e2
       by_cases hj:j<cs.length
       ·rw[cO hj]at e1
        rw[cO (by rw[<-W.hl];exact hj)]at e2
        obtain⟨ys,y1,y2⟩:=Wa.ce j c2 q2 e1 e2;have hm:c2∈cs:=bF e1;exact⟨ys,Kr c2 (by simp[hm]) (λz=>hc (by rw[<-z];exact hm)) _ y1,y2.mono s9⟩
       ·have hl:=W.hl
        have hj2:j=cs.length:=by
         have:=(aP.mp e1).1;rw[aH,gS]at this;omega
        subst hj2;rw[cJ (ay _),FC]at e1;rw[cJ (by omega),show cs.length-(gR st.hours).length=0 from by omega]at e2
        cases e1;cases e2;exact⟨[v],bQ,.cons r .nil⟩
    ·have Ek:jI (iy (gR st.hours) cs) (b9 dk)=none:=Ek
     rw[h3]at Ek;cases Ek
  |pace NM TF Ir TH=>
   refine dE (kZ f2 (VT.to (b0 hr lf a8 (ai 2 rfl) aL) (fj (show("pace":Str)≠"kind" by symm))) λPZ P0 g1=>?_)
   have E1:=f2.grow g1;have MG:=g1;refine dE (kZ E1 (VT.to (b0 hr lf a8 (ai 2 rfl) aL) (fj (show("pace":Str)≠"gate" by symm))) λNC NF g2=>?_)
   have Fu:=E1.grow g2;have J6:=MG.trans g2;refine dE (kZ Fu (VT.to (b0 hr lf a8 (ai 2 rfl) aL) (fj (show("pace":Str)≠"line" by symm))) λTw Tx g3=>?_)
   have J7:=Fu.grow g3;have MH:=J6.trans g3;refine dE (kZ J7 (VT.to (b0 hr lf a8 (ai 2 rfl) aL) (fj (show("pace":Str)≠"desk" by symm))) λUv Uw g4=>?_)
   have NK:=J7.grow g4;have P1:=MH.trans g4;refine dE (kZ NK (VT.to (b0 hr lf a8 (ai 2 rfl) aL) (fj (show("pace":Str)≠"time" by symm))) λHa5 Hb5 g5=>?_)
   have Tz:=NK.grow g5;have Ux:=P1.trans g5;refine dE (kZ Tz (VT.to (b0 hr lf a8 (ai 2 rfl) aL) (fj (show("pace":Str)≠"open" by symm))) λXe Yx g6=>?_)
   have ff6:=Tz.grow g6;have P2:=Ux.trans g6;have Wa:=Wg Xe Yx P2;have S0:=Wa.pa.2.length;rw[aj]at S0;have hz:(kN st.paces xp).length<sizeLine:=fV (by unfold kN;rw[aj,Au];have:=ok.an;omega)
   have GJ:L2.cutD (aQ "pace"::Ent.rest (.pace NM TF Ir TH)) (some 2) none=[.str TF,.int Ir,.int TH]:=(lR (aQ "pace"::Ent.rest (.pace NM TF Ir TH)) 2).trans rfl;refine dE (LX (d:=ER (NM,TF,Ir,TH)) ff6 hr 0 rfl Wa.ins Wa.cls (Wa.rV _ (by symm)) lk7 Wa.pa.1 (ai 3 rfl) (VE.to (ua (ai 1 rfl) (.yes aD) .no ?_) (by show fS (L2.cutD (aQ "pace"::Ent.rest (.pace NM TF Ir TH)) (some 2) none)=_;rw[GJ];rfl)) hz λv Hc Hd g9 r=>?_)
   ·intro z
    have:=z.1;rw[show(2:Int)=((2:Nat):Int)from rfl,HT.pw]at this
    exact qQ7 this (by show ¬(min 2 5=0);decide)
   have Wd:=Wg Hc Hd (P2.trans g9);refine fin Hc Hd ap _ (f2.ent.trans (P2.trans g9)) (by simp) λ_ _=>⟨C,dx,ak,ag,al,ad,at_,ah,ap,cs,xd,xp ++ [v],rfl,NB,?_⟩
   have hn:jI (kN st.paces xp) (b9 NM)=none:=tM λq' CD=>by
    have hm:q'.1∈(kN st.paces xp).map (·.1):=aA.mpr ⟨q',CD,rfl⟩
    rw[tL S0]at hm;obtain⟨q0,h0,h1⟩:=aA.mp hm;intro z;rw[<-h1]at z
    injection z with z
    exact oa.1 (by rw[<-z];exact aA.mpr ⟨q0,h0,rfl⟩)
   refine⟨by rw[aY pp];exact Wd.ins,Wd.cls,Wd.rV,by rw[aY kp];exact Wd.ki,by rw[aY gp];exact Wd.ga,by rw[aY lp];exact Wd.li,by rw[aY dp];exact Wd.de,Wd.dr,by rw[aY tp];exact Wd.ti,by rw[aY hp];exact Wd.ho,Wd.hl,⟨?_,?_⟩,λi c q' e1 e2=>?_⟩
   ·rw[bQ]
    show some (HO.dK (putK (kN st.paces xp) (b9 NM) v))=some (.dK (kN (st.paces ++ [(NM,TF,Ir,TH)]) (xp ++ [v])));rw[sM _ hn,GX S0]
   ·show dz K Hc (xp ++ [v]) ((st.paces ++ [(NM,TF,Ir,TH)]).map ER)
    rw[aV];exact Wd.pa.2.append (.cons r .nil)
   ·obtain⟨xs,h1,h2⟩:=Wd.ce i c q' e1 e2
    exact⟨xs,by rw[aY (λz=>apc (by rw[<-z];exact bF e1))];exact h1,h2⟩
end
def vq:Pl:=⟨[],[],[],[],[],[],[]⟩
def qA(es:List Ent)(i:Nat):Pl:=(es.take i).foldl lW vq
theorem BQ{es:List Ent}{i:Nat}(h:es[i]?=some e):qA es (i+1)=lW (qA es i) e:=by
 unfold qA;rw[ej,h,gF];rfl
theorem E2(es:List Ent):qA es es.length=es.foldl lW vq:=by unfold qA;rw[fF]
structure J8(es:List Ent):Prop where
 ent:∀e∈es,gX e
 pl:∀i,i<=es.length->jA (qA es i)
 add:∀(i:Nat)e,es[i]?=some e->uO (qA es i) e
section
variable{P:bL}{w:cH}{K:au}{mg:Str->Option aG}{base:dw}{f:aR}{k:Nat}
structure PlC(P:bL)(w:cH)(K:au)(mg:Str->Option aG)(base:dw):Prop where
 ex:∃C fi fd,mg "Plant"=some (.ref C)/\DZ K C/\(∀f∈Yv,gP K C f)/\Mk K C fi/\fA P w K mg base kR 1 fi fd ["self"] (MD C)/\Binds K fd ["self"] []
abbrev Uy:List Str:=["text","plant","number","words","entry","word"]
theorem IQ:c7 Uy ["text"] (bV (top 23)):=⟨rfl,rfl,rfl,by symm,rfl,by symm,by symm⟩
def Rrp(ds:List ao)(d:ao):Prop:=∃(x:Str)(es:List Ent),ds=[.str x]/\wD x/\(rowsOf x).map (·.2)=es.map rT/\J8 es/\d=p9 (es.foldl lW vq)
theorem zbl(F:mw K "read_plant" "read_plant" (top 23) f fd)(n:Np mg w.params K)(T:PlC P w K mg base)(C1:bO P w K mg base 2 "rows_of" ["text"] (Ib K Rro))(C2:bO P w K mg base 8 "entry_of" ["words"] (iE K Reo))(C3:bO P w K mg base 3 "fault_of" yI (iE K Rfo))(C4:bO P w K mg base 1 "add_entry" yI (Iq K Pl (uP K) MF)):fA P w K mg base kR 9 f fd ["text"] (iE K Rrp):=
 ko F IQ (λ_ _ h=>by obtain⟨_,_,rfl,_⟩:=h;rfl) λ_ _ h=>by
  obtain⟨x,es,rfl,ox,BR,E3,rfl⟩:=h;intro iD A outer s H E hr;have nd:Uy.Nodup:=IQ.nd;obtain⟨C,fi,fdi,mC,cl,na,M,FI,bI⟩:=T.ex;have hlen:(rowsOf x).length=es.length:=by have:=qQ6 iG BR;simpa using this
  refine vS λB0 B σ H0 Hh D fr Xf=>?_
  refine eP (LW 1 M FI (hr.mono (by omega)) mC bI (λp dx E' hp hdx Xa=>?_) nd)
  refine⟨p,dx,rfl,bQ,λak ag al ad at_ ah ap H' mid=>⟨rfl,?_⟩⟩
  have Fq:∀b,(upd (upd Hh dx (.own p)) p (.ins C dx [])) b=none->Hh b=none:=λb hb=>by
   have h1:b≠p:=λz=>by rw[z,bQ]at hb;cases hb
   rw[aY h1]at hb;have h2:b≠dx:=λz=>by rw[z,bQ]at hb;cases hb
   rw[aY h2]at hb;exact hb
  have E4:∀b o,Hh b=some o->H' b=some o:=λb o e=>by
   have h1:b≠p:=bC e hp;refine mid.old b o ?_ h1
   rw[aY h1,aY (bC e hdx)];exact e
  have G0:OF K B0 B (uP K p (qA es 0)) H0 H' (σ.set 1 (some (.ref p))) [.val (.str x),.ref p,.un,.un,.un,.un]:=by
   have g:eL H0 Hh H0 H':=⟨E4,eC.refl _,λb u e=>E4 b u (fr.sub b u e),λ_ z=>.inl z⟩
   refine⟨(fr.grow g).u_ (i:=1) (v:=.ref p) (sl:=.ref p) rfl rfl,rfl,[p,ak,ag,al,ad,at_,ah,ap],λa ha=>?_,C,dx,ak,ag,al,ad,at_,ah,ap,[],[],[],rfl,by simpa using mid.nd,?_⟩
   ·have z0:Hh a=none/\H' a≠none:=by
     rcases aE.mp ha with rfl|ha
     ·exact⟨hp,by rw[mid.ins];simp⟩
     ·have ha':∃q∈[(ak,HO.dK []),(ag,.lst []),(al,.dK []),(ad,.lst []),(at_,.dT []),(ah,.dK []),(ap,.dK [])],q.1=a:=by
       simp only[aE,bB,or_false]at ha;rcases ha with rfl|rfl|rfl|rfl|rfl|rfl|rfl<;>simp
      obtain⟨q,hq,rfl⟩:=ha';exact⟨Fq _ (mid.fresh q hq),by rw[mid.ob q hq];simp⟩
    exact⟨fr.sub.free z0.1,fr.ent.big.free z0.1,z0.2⟩
   ·exact⟨mid.ins,cl,na,mid.ob (ak,.dK []) (by simp),mid.ob (ag,.lst []) (by simp),mid.ob (al,.dK []) (by simp),mid.ob (ad,.lst []) (by simp),.nil,mid.ob (at_,.dT []) (by simp),mid.ob (ah,.dK []) (by simp),rfl,⟨mid.ob (ap,.dK []) (by simp),.nil⟩,λi c q e1=>by simp at e1⟩
  refine eP (Wc (tgt:=.tup [2,3]) (ds:=(rowsOf x).map uK) (λi=>uP K p (qA es i)) (λi=>uP.mono) G0 dP rfl (gK (VO.ve (pG C1 (hr.mono (by omega)) (aq (ai 0 rfl) a7) ⟨x,rfl,ox,rfl⟩)))
   (ik rfl (b_ (bP (i:=2) nd rfl (bq rfl)) (b_ (bP (i:=3) nd rfl (bq rfl)) fP))) (λi d hd=>?_) (λσ2 Ha Hb G=>?_))
  ·obtain⟨r,Yz,rfl⟩:∃r,(rowsOf x)[i]?=some r/\d=uK r:=by
    rw[aW]at hd;cases e:(rowsOf x)[i]? with
    |none=>rw[e]at hd;cases hd
    |some r=>rw[e]at hd;cases hd;exact⟨r,rfl,rfl⟩
   have hil:i<(rowsOf x).length:=(aP.mp Yz).1;have Nq:es[i]?=some es[i]:=ax (by omega)
   have hw:r.2=rT es[i]:=by
    have h1:((rowsOf x).map (·.2))[i]?=some r.2:=by rw[aW,Yz];rfl
    rw[BR,aW,Nq]at h1;exact(dC h1).symm
   have oe:=E3.ent _ (dv (by omega:i<es.length))
   have oa:=E3.add i _ Nq;have op:=E3.pl i (by omega)
   have MK:=BQ Nq
   generalize es[i]=e at *
   refine⟨[.val (.str x),.ref p,.val (.int (r.1:Nat)),.val (.list (r.2.map .str)),.un,.un],rfl,rfl,λD C0 σ' e9 eQ G q=>?_⟩
   refine eP (zF uP.mono G (dq 4 (d:=yk e) (bU C2 hr (aq (ai 3 rfl) a7) ⟨e,by rw[hw];rfl,oe,rfl⟩) nd) rfl λσ1 PZ P0 G1=>?_)
   refine eP (Gi uP.mono G1 1 5 (d:=.str "") rfl uP.rep (bU C3 (hr.mono (by omega)) (aq (ai 1 rfl) (aq (ai 4 rfl) a7)) ⟨qA es i,e,rfl,op,oe,oa,rfl⟩) rfl rfl (λσ2 NC NF G2=>?_) nd)
   refine eP (zF uP.mono G2 (cy (VT.to (pE hr a8 a8 (ai 5 rfl) aL) (qQ6 (λb=>!b) (jw _))) bS) rfl λσ3 Tw Tx G3=>?_)
   refine dE (Qz (s:=qA es i) (s':=qA es (i+1)) C4 (hr.mono (by omega)) G3 uP.mono 1 rfl (ai 4 rfl) ⟨e,rfl,op,oe,oa,MK⟩ λUv Uw G4=>?_)
   exact q _ _ _ (G4.forget uP.mono ⟨.inr rfl,.inr rfl,.inl rfl,.inl rfl,.inl rfl,.inl rfl,trivial⟩ rfl)
  ·have e:qA es ((rowsOf x).map uK).length=es.foldl lW vq:=by rw[aj,hlen,E2]
   rw[e]at G;exact dE (Wf G 1 rfl uP.rep Xf)
end
end Mg
namespace Mg
open L2 PySem PyProof.Rows
variable{many nn:Nat}{p:Pl}
structure z8(p:Pl):Prop where
 kn:(p.kinds.map (·.1)).Nodup
 pn:(p.gates++p.lines.map (·.1)).Nodup
 dn:(p.desks.map (·.name)).Nodup
 dk:∀d∈p.desks,GU d/\(∀x∈d.places,x∈p.gates++p.lines.map (·.1))/\(d.to=""\/∃r,(d.to,r)∈p.lines/\fH d.rule d.places.length<=r)
 dj:(p.desks.map (·.places)).flatten.Nodup
 tn:(p.times.map λq=>(q.1,q.2.1)).Nodup
 tm:∀q∈p.times,q.1∈p.desks.map (·.name)/\q.2.1∈p.kinds.map (·.1)/\1<=q.2.2
 hr:∀q∈p.hours,q.1∈p.desks.map (·.name)/\q.2.1<q.2.2
 kk:∀q∈p.kinds,∀i,q.2=some i->1<=i/\cV i
 ll:∀q∈p.lines,1<=q.2
 pc:(p.paces.map (·.1)).Nodup
 pp:∀q∈p.paces,q.1∈p.gates/\q.2.1∈p.kinds.map (·.1)/\1<=q.2.2.1/\1<=q.2.2.2
def z_(p:Pl):List Ent:=p.kinds.map (λq=>Ent.kind q.1 q.2)++p.gates.map Ent.gate++p.lines.map (λq=>Ent.line q.1 q.2)++p.desks.map Ent.desk++p.times.map (λq=>Ent.time q.1 q.2.1 q.2.2)++p.hours.map (λq=>Ent.hour q.1 q.2.1 q.2.2)++p.paces.map (λq=>Ent.pace q.1 q.2.1 q.2.2.1 q.2.2.2)
def oP:Pl->List Ent->Prop
 |st,[]=>jA st
 |st,e::es=>jA st/\gX e/\uO st e/\oP (lW st e) es
theorem oP.app:∀{A B:List Ent}{st:Pl},oP st A->oP (A.foldl lW st) B->oP st (A++B)
 | [],_,_,_,h=>h
 |_::_,_,_,⟨h1,h2,h3,h4⟩,h=>⟨h1,h2,h3,h4.app h⟩
theorem oP.es:∀{es:List Ent}{st:Pl},oP st es->(∀e∈es,gX e)/\(∀i,i<=es.length->jA ((es.take i).foldl lW st))/\∀(i:Nat)e,es[i]?=some e->uO ((es.take i).foldl lW st) e
 | [],st,h=>⟨λe he=>(by cases he),λi hi=>by rw[List.take_nil];exact h,λi e he=>by simp at he⟩
 |e::es,st,⟨h1,h2,h3,h4⟩=>by
  obtain⟨a,b,c⟩:=h4.es;refine⟨λx hx=>?_,λi hi=>?_,λi x hx=>?_⟩
  ·rcases aE.mp hx with rfl|hx
   ·exact h2
   ·exact a x hx
  ·cases i with
   |zero=>exact h1
   |succ i=>exact b i (by simpa using hi)
  ·cases i with
   |zero=>cases hx;exact h3
   |succ i=>exact c i x (by simpa using hx)
theorem seg{α:Type}(mk:α->Ent)(put:List α->Pl)(h1:∀l x,lW (put l) (mk x)=put (l ++ [x]))(l:List α)(hok:∀pre x post,l=pre++x::post->jA (put pre)/\gX (mk x)/\uO (put pre) (mk x))(J9:jA (put l)):
  oP (put []) (l.map mk)/\(l.map mk).foldl lW (put [])=put l:=by
 have go:∀(rest pre:List α),l=pre++rest->oP (put pre) (rest.map mk)/\(rest.map mk).foldl lW (put pre)=put l:=by
  intro rest
  induction rest with
  |nil=>intro pre e;rw[cF]at e;subst e;exact⟨J9,rfl⟩
  |cons x rest ih=>
   intro pre e;obtain⟨a,b,c⟩:=hok pre x rest e;obtain⟨i1,i2⟩:=ih (pre ++ [x]) (by rw[e];simp)
   rw[aN];refine⟨⟨a,b,c,?_⟩,?_⟩
   ·rw[h1];exact i1
   ·rw[lG,h1];exact i2
 exact go l [] rfl
theorem kG{q: Pl}(h:jA p)(k1:q.kinds.length<=p.kinds.length)(k2:∀x∈q.kinds,x∈p.kinds)(g1:q.gates.length<=p.gates.length)(g2:∀x∈q.gates,x∈p.gates)(l1:q.lines.length<=p.lines.length)(l2:∀x∈q.lines,x∈p.lines)(d1:q.desks.length<=p.desks.length)(d2:∀x∈q.desks,x∈p.desks)(t1:q.times.length<=p.times.length)(t2:∀x∈q.times,x∈p.times)(h1:q.hours.length<=p.hours.length)(h2:∀x∈q.hours,x∈p.hours)(a1:q.paces.length<=p.paces.length)(a2:∀x∈q.paces,x∈p.paces):jA q:=
 ⟨cj k1 h.kn,cj g1 h.gn,cj l1 h.ln,cj d1 h.dn,cj t1 h.tn,cj h1 h.hn,λx hx=>h.kinds x (k2 x hx),λx hx=>h.gates x (g2 x hx),λx hx=>h.lines x (l2 x hx),λx hx=>h.desks x (d2 x hx),λx hx=>h.times x (t2 x hx),λx hx=>h.hours x (h2 x hx),cj a1 h.an,λx hx=>h.paces x (a2 x hx)⟩
theorem E5{κ:Type}[DecidableEq κ]:∀{kvs:List (κ×ao)}{k:κ}{v:ao},(kvs.map (·.1)).Nodup->(k,v)∈kvs->jv kvs k=some v
 | [],_,_,_,h=>by cases h
 |q::l,k,v,nd,h=>by
  rw[aN,eW]at nd;rcases aE.mp h with rfl|h
  ·exact fZ rfl
  ·rw[cP (λe=>nd.1 (by rw[e];exact aA.mpr ⟨(k,v),h,rfl⟩))]
   exact E5 nd.2 h
theorem vt{α:Type}{l pre post:List α}{x:α}(e:l=pre++x::post):pre.length<=l.length/\∀y∈pre,y∈l:=by
 subst e;exact⟨by rw[aH];omega,λy hy=>cq _ hy⟩
theorem lB{α β:Type}{f:α->β}{l pre post:List α}{x:α}(nd:(l.map f).Nodup)(e:l=pre++x::post):f x∉pre.map f:=by
 subst e;rw[aV,aN,dY]at nd;intro z;exact nd.2.2 _ z _ aS rfl
theorem TJ(ok:jA p)(g:z8 p):oP vq (z_ p)/\(z_ p).foldl lW vq=p:=by
 have n0:∀{α:Type}(x:α),x∈([]:List α)->False:=λx h=>by cases h
 have s1:=seg (λq:Str×Option Int=>Ent.kind q.1 q.2) (λl=>⟨l,[],[],[],[],[],[]⟩) (λ_ _=>rfl) p.kinds (λpre x post e=>by
  obtain⟨e1,e2⟩:=vt e;have hx:x∈p.kinds:=by rw[e];simp
  exact⟨kG ok e1 e2 (bj _) (λx h=>(n0 x h).elim) (bj _) (λx h=>(n0 x h).elim) (bj _) (λx h=>(n0 x h).elim) (bj _) (λx h=>(n0 x h).elim) (bj _) (λx h=>(n0 x h).elim) (bj _) (λx h=>(n0 x h).elim),⟨(ok.kinds x hx).1,g.kk x hx⟩,lB g.kn e⟩)
  (kG ok (ay _) (λ_ h=>h) (bj _) (λx h=>(n0 x h).elim) (bj _) (λx h=>(n0 x h).elim) (bj _) (λx h=>(n0 x h).elim) (bj _) (λx h=>(n0 x h).elim) (bj _) (λx h=>(n0 x h).elim) (bj _) (λx h=>(n0 x h).elim))
 have pn:=g.pn;rw[dY]at pn;have s2:=seg Ent.gate (λl=>⟨p.kinds,l,[],[],[],[],[]⟩) (λ_ _=>rfl) p.gates (λpre x post e=>by
  obtain⟨e1,e2⟩:=vt e;have hx:x∈p.gates:=by rw[e];simp
  refine⟨kG ok (ay _) (λ_ h=>h) e1 e2 (bj _) (λx h=>(n0 x h).elim) (bj _) (λx h=>(n0 x h).elim) (bj _) (λx h=>(n0 x h).elim) (bj _) (λx h=>(n0 x h).elim) (bj _) (λx h=>(n0 x h).elim),ok.gates x hx,?_⟩
  rintro(h|h)
  ·have:=lB (f:=id) (by simpa using pn.1) e
   exact this (by simpa using h)
  ·cases h)
  (kG ok (ay _) (λ_ h=>h) (ay _) (λ_ h=>h) (bj _) (λx h=>(n0 x h).elim) (bj _) (λx h=>(n0 x h).elim) (bj _) (λx h=>(n0 x h).elim) (bj _) (λx h=>(n0 x h).elim) (bj _) (λx h=>(n0 x h).elim))
 have s3:=seg (λq:Str×Int=>Ent.line q.1 q.2) (λl=>⟨p.kinds,p.gates,l,[],[],[],[]⟩) (λ_ _=>rfl) p.lines (λpre x post e=>by
  obtain⟨e1,e2⟩:=vt e;have hx:x∈p.lines:=by rw[e];simp
  refine⟨kG ok (ay _) (λ_ h=>h) (ay _) (λ_ h=>h) e1 e2 (bj _) (λx h=>(n0 x h).elim) (bj _) (λx h=>(n0 x h).elim) (bj _) (λx h=>(n0 x h).elim) (bj _) (λx h=>(n0 x h).elim),⟨(ok.lines x hx).1,g.ll x hx,(ok.lines x hx).2⟩,?_⟩
  rintro(h|h)
  ·exact pn.2.2 _ h _ (aA.mpr ⟨x,hx,rfl⟩) rfl
  ·exact lB pn.2.1 e h)
  (kG ok (ay _) (λ_ h=>h) (ay _) (λ_ h=>h) (ay _) (λ_ h=>h) (bj _) (λx h=>(n0 x h).elim) (bj _) (λx h=>(n0 x h).elim) (bj _) (λx h=>(n0 x h).elim) (bj _) (λx h=>(n0 x h).elim))
 have s4:=seg Ent.desk (λl=>⟨p.kinds,p.gates,p.lines,l,[],[],[]⟩) (λ_ _=>rfl) p.desks (λpre x post e=>by
  obtain⟨e1,e2⟩:=vt e;have hx:x∈p.desks:=by rw[e];simp
  obtain⟨q1,q2,q3⟩:=g.dk x hx;refine⟨kG ok (ay _) (λ_ h=>h) (ay _) (λ_ h=>h) (ay _) (λ_ h=>h) e1 e2 (bj _) (λx h=>(n0 x h).elim) (bj _) (λx h=>(n0 x h).elim) (bj _) (λx h=>(n0 x h).elim),q1,lB g.dn e,λy hy hz=>?_,λy hy=>bp.mp (q2 y hy),?_⟩
  ·obtain⟨d,hd,hyd⟩:=hz
   have dj:=g.dj;rw[e,aV,List.flatten_append,dY]at dj;exact dj.2.2 y (yp.mpr ⟨d.places,aA.mpr ⟨d,hd,rfl⟩,hyd⟩) y (yp.mpr ⟨x.places,by simp,hy⟩) rfl
  ·rcases q3 with h|⟨r,h,hr⟩
   ·exact .inl h
   ·refine .inr ⟨r,E5 ?_ (aA.mpr ⟨(x.to,r),h,rfl⟩),hr⟩
    rw[lV];exact pn.2.1)
  (kG ok (ay _) (λ_ h=>h) (ay _) (λ_ h=>h) (ay _) (λ_ h=>h) (ay _) (λ_ h=>h) (bj _) (λx h=>(n0 x h).elim) (bj _) (λx h=>(n0 x h).elim) (bj _) (λx h=>(n0 x h).elim))
 have s5:=seg (λq:Str×Str×Int=>Ent.time q.1 q.2.1 q.2.2) (λl=>⟨p.kinds,p.gates,p.lines,p.desks,l,[],[]⟩) (λ_ _=>rfl) p.times (λpre x post e=>by
  obtain⟨e1,e2⟩:=vt e;have hx:x∈p.times:=by rw[e];simp
  obtain⟨q1,q2,q3⟩:=g.tm x hx;obtain⟨r1,r2,r3⟩:=ok.times x hx;exact⟨kG ok (ay _) (λ_ h=>h) (ay _) (λ_ h=>h) (ay _) (λ_ h=>h) (ay _) (λ_ h=>h) e1 e2 (bj _) (λx h=>(n0 x h).elim) (bj _) (λx h=>(n0 x h).elim),⟨r1,r2,q3,r3⟩,lB (f:=λq:Str×Str×Int=>(q.1,q.2.1)) g.tn e,q1,q2⟩)
  (kG ok (ay _) (λ_ h=>h) (ay _) (λ_ h=>h) (ay _) (λ_ h=>h) (ay _) (λ_ h=>h) (ay _) (λ_ h=>h) (bj _) (λx h=>(n0 x h).elim) (bj _) (λx h=>(n0 x h).elim))
 have s6:=seg (λq:Str×Int×Int=>Ent.hour q.1 q.2.1 q.2.2) (λl=>⟨p.kinds,p.gates,p.lines,p.desks,p.times,l,[]⟩) (λ_ _=>rfl) p.hours (λpre x post e=>by
  obtain⟨e1,e2⟩:=vt e;have hx:x∈p.hours:=by rw[e];simp
  obtain⟨q1,q2⟩:=g.hr x hx;obtain⟨r1,r2,r3⟩:=ok.hours x hx;exact⟨kG ok (ay _) (λ_ h=>h) (ay _) (λ_ h=>h) (ay _) (λ_ h=>h) (ay _) (λ_ h=>h) (ay _) (λ_ h=>h) e1 e2 (bj _) (λx h=>(n0 x h).elim),⟨r1,r2,r3,q2⟩,q1⟩)
  (kG ok (ay _) (λ_ h=>h) (ay _) (λ_ h=>h) (ay _) (λ_ h=>h) (ay _) (λ_ h=>h) (ay _) (λ_ h=>h) (ay _) (λ_ h=>h) (bj _) (λx h=>(n0 x h).elim))
 have s7:=seg (λq:Str×Str×Int×Int=>Ent.pace q.1 q.2.1 q.2.2.1 q.2.2.2) (λl=>⟨p.kinds,p.gates,p.lines,p.desks,p.times,p.hours,l⟩) (λ_ _=>rfl) p.paces (λpre x post e=>by
  obtain⟨e1,e2⟩:=vt e;have hx:x∈p.paces:=by rw[e];simp
  obtain⟨q1,q2,q3,q4⟩:=g.pp x hx;obtain⟨r1,r2,r3,r4⟩:=ok.paces x hx;exact⟨kG ok (ay _) (λ_ h=>h) (ay _) (λ_ h=>h) (ay _) (λ_ h=>h) (ay _) (λ_ h=>h) (ay _) (λ_ h=>h) (ay _) (λ_ h=>h) e1 e2,⟨r1,r2,⟨q3,r3⟩,q4,r4⟩,lB g.pc e,q1,q2⟩)
  ok
 unfold z_;simp only[c6];refine⟨s1.1.app ?_,?_⟩
 ·rw[s1.2]
  refine s2.1.app ?_
  rw[s2.2];refine s3.1.app ?_
  rw[s3.2];refine s4.1.app ?_
  rw[s4.2];refine s5.1.app ?_
  rw[s5.2];refine s6.1.app ?_
  rw[s6.2];exact s7.1
 ·rw[gF,show vq=⟨[],[],[],[],[],[],[]⟩from rfl,s1.2,gF,s2.2,gF,s3.2,gF,s4.2,gF,s5.2,gF,s6.2,s7.2]
theorem iu{x y:Str}{c:Nat}(h1:c∉x.cps.toList)(h2:c∉y.cps.toList):c∉(x++y).cps.toList:=by rw[add_list,bp];exact λz=>z.elim h1 h2
theorem uk{c:Nat}{y:Str}(hy:c∉y.cps.toList):∀{l:List Str},(∀x∈l,c∉x.cps.toList)->c∉(cL y l).cps.toList
 | [],_=>by show c∉([]:List Nat);simp
 | [x],h=>h x aS
 |x::z::l,h=>by
  show c∉(x++y++cL y (z::l)).cps.toList;exact iu (iu (h x aS) hy) (uk hy λu hu=>h u (aZ _ hu))
theorem Aa(ok:jA p):(∀r∈dI p,10∉r.cps.toList)/\(dI p).map wordsOf=(z_ p).map rT:=by
 have nn:∀{x:Str},cZ x->10∉x.cps.toList:=λh=>(gy h).2.2
 have dn:∀{d:ao},GH d->10∉(eT d).cps.toList:=λh=>(uf h).2.2
 have nm:∀{i:Int},cV i->10∉(cK i).cps.toList:=λh=>(lS h.1 h.2).2.2
 constructor
 ·intro r hr
  unfold dI ny nX at hr;simp only[bp,aA]at hr;rcases hr with(((((⟨q,hq,rfl⟩|⟨q,hq,rfl⟩)|⟨q,hq,rfl⟩)|⟨q,hq,rfl⟩)|⟨q,hq,rfl⟩)|⟨q,hq,rfl⟩)|⟨q,hq,rfl⟩
  ·obtain⟨h1,h2⟩:=ok.kinds q hq
   exact iu (iu (iu (by symm) (nn h1)) (by symm)) (dn h2)
  ·exact iu (by symm) (nn (ok.gates q hq))
  ·obtain⟨h1,h2⟩:=ok.lines q hq
   exact iu (iu (iu (by symm) (nn h1)) (by symm)) (nm h2)
  ·obtain⟨h1,h2,h3,h4,h5⟩:=ok.desks q hq
   refine iu (iu (iu (iu (iu (iu (iu (by symm) (nn h1)) (by symm)) (dn (d:=.str q.to) h2)) (by symm)) (uk (by symm) λx hx=>(vj h3 x hx).2.2)) (by symm)) (uk (by symm) λx hx=>nn (h5 x hx))
  ·obtain⟨h1,h2,h3⟩:=ok.times q hq
   refine uk (by symm) λx hx=>?_
   simp only[aE,bB,or_false]at hx;rcases hx with rfl|rfl|rfl|rfl
   ·symm
   ·exact nn h1
   ·exact nn h2
   ·exact nm h3
  ·obtain⟨h1,h2,h3⟩:=ok.hours q hq
   refine uk (by symm) λx hx=>?_
   simp only[aE,bB,or_false]at hx;rcases hx with rfl|rfl|rfl|rfl
   ·symm
   ·exact nn h1
   ·exact nm h2
   ·exact nm h3
  ·obtain⟨h1,h2,h3,h4⟩:=ok.paces q hq
   refine uk (by symm) λx hx=>?_
   simp only[aE,bB,or_false]at hx;rcases hx with rfl|rfl|rfl|rfl|rfl
   ·symm
   ·exact nn h1
   ·exact nn h2
   ·exact nm h3
   ·exact nm h4
 ·unfold dI ny nX z_
  simp only[aV,bf]
  congr 1
  congr 1
  congr 1
  congr 1
  congr 1
  congr 1
  ·exact gG λq hq=>GK (ok.kinds q hq)
  ·exact gG λq hq=>GL (ok.gates q hq)
  ·exact gG λq hq=>GN (ok.lines q hq)
  ·exact gG λq hq=>GO (ok.desks q hq)
  ·exact gG λq hq=>GP (ok.times q hq)
  ·exact gG λq hq=>GQ (ok.hours q hq)
  ·exact gG λq hq=>GR (ok.paces q hq)
theorem Du(e:Ent):(rT e).isEmpty=false:=by cases e<;>rfl
theorem BU(l:List Str):∀k,((l.zipIdx k).filterMap λp=>if(wordsOf p.1).isEmpty then none else some (p.2,wordsOf p.1)).map (·.2)=(l.map wordsOf).filter λws=>!ws.isEmpty:=by
 induction l with
 |nil=>intro k;rfl
 |cons x l ih=>
  intro k;rw[rE,aN,e8];cases hx:(wordsOf x).isEmpty with
  |true=>rw[fU (by simp only[hx];rfl),ih];rfl
  |false=>rw[eA (b:=(k,wordsOf x)) (by simp only[hx];rfl),aN,ih];rfl
theorem Ab(m:Int)(k:Nat):(uL m k).cps.toList=(stemOf m).cps.toList.take (m/624%(1+m/78%8)).toNat++(97+((m/3+5*k)%26).toNat)::(stemOf m).cps.toList.drop (m/624%(1+m/78%8)+1).toNat:=by
 have hs:=ub m;have hl:(stemOf m).cps.toList.length=(1+m/78%8).toNat:=by rw[hs,c9]
 have b1:0<=m/78%8:=bE _ (by decide)
 have b2:m/78%8<8:=bG _ (by decide)
 have p1:0<=m/624%(1+m/78%8):=bE _ (by omega)
 have p2:m/624%(1+m/78%8)<1+m/78%8:=bG _ (by omega)
 have e1:kU (stemOf m) none (some (m/624%(1+m/78%8)))=_:=DU (x:=stemOf m) ⟨p1,by rw[hl];omega⟩
 have e2:kU (stemOf m) (some (m/624%(1+m/78%8)+1)) none=_:=Cr (x:=stemOf m) ⟨by omega,by rw[hl];omega⟩
 unfold uL;rw[e1,e2]
 show((_++_++_:Array Nat)).toList=_
 simp only[HC,my,Int.sub_zero,Ey,one];rw[dO (l:=List.drop _ _) (by rw[cW];omega),c6]
 rfl
theorem xV{β:Type}{f:Nat->β}:∀{n:Nat},(∀i j,i<n->j<n->f i=f j->i=j)->((cv n).map f).Nodup:=by
 intro n h;rw[List.Nodup,List.pairwise_map,je];intro i j hi hj yr e;rw[dZ]at hi hj;rw[o_,o_]at e;exact qQ7 (h i j hi hj e) (by omega)
theorem p_(cell:Int)(hm:many<=26):(namesOf cell many).Nodup:=by
 unfold namesOf
 split
 ·refine xV λi j hi hj e=>?_
  have e1:∀k,(nameA (cY cell 3) many k).cps.toList=aT (many-k) (97+(cY cell 3/3%26).toNat):=λk=>yE _ _
  have:=qQ6 (λx:Str=>x.cps.toList.length) e
  simp only[e1,c9]at this;omega
 ·refine xV λi j hi hj e=>?_
  have:=qQ6 (λx:Str=>x.cps.toList) e
  simp only[Ab]at this;have:=List.append_cancel_left this;have:=(kM this).1
  generalize cY cell 3/3=a at *
  omega
theorem vv(l:List Str):(cv l.length).map (λk=>l.getD k "")=l:=by
 refine kf λi=>?_
 rw[aW];by_cases h:i<l.length
 ·rw[oA h,ax h]
  show some (l.getD i "")=_;rw[aJ,ax h];rfl
 ·rw[iW (by simpa using h),iW (by simpa using h)];rfl
theorem xW{α:Type}:∀(L:List (List α))(i:Nat)(j:Nat)(y:α),i<L.length->(L.set i (o6 (L.getD i []) j y)).flatten.Perm (y::L.flatten)
 | [],i,_,_,h=>by simp at h
 |r::L,0,j,y,_=>by
  show(o6 r j y++L.flatten).Perm (y::(r++L.flatten))
  have:(o6 r j y).Perm (y::r):=by
   unfold o6;exact List.perm_middle.trans (by rw[j3])
  exact this.append_right _
 |r::L,i+1,j,y,h=>by
  have ih:=xW L i j y (by simpa using h)
  show(r++(L.set i (o6 (L.getD i []) j y)).flatten).Perm (y::(r++L.flatten))
  exact(ih.append_left r).trans List.perm_middle
theorem Ac(cell:Int)(h1:1<=nn)(places:List Str):∀k,k<=places.length->(eD cell nn places k).flatten.Perm (places.take k)
 |0,_=>by
  show(aT nn ([]:List Str)).flatten.Perm []
  rw[List.flatten_replicate_nil]
 |k+1,hk=>by
  have ih:=Ac cell h1 places k (by omega)
  have hl:gJ cell nn k<(eD cell nn places k).length:=by rw[iK];exact BK cell h1 k
  have e:places.take (k+1)=places.take k ++ [places.getD k ""]:=by
   rw[ej,ax (by omega),aJ,ax (by omega)];rfl
  rw[e];refine(xW _ _ _ _ hl).trans ?_
  refine(ih.cons _).trans ?_
  exact(List.perm_append_singleton _ _).symm
theorem wg(cell:Int)(h1:1<=nn)(places:List Str):∀k,∀j,j<k->j<nn->(eD cell nn places k).getD j []≠[]
 |0,_,h,_=>by omega
 |k+1,j,hj,hn=>by
  have hl:=iK cell nn places k;have ex:∀(L:List (List Str))(i:Nat)(r:List Str),L.length=nn->(L.set i r).getD j []=if i=j then r else L.getD j []:=λL i r e=>by
   rw[aJ,List.getElem?_set]
   by_cases yr:i=j
   ·subst yr;rw[qQ3 rfl,qQ3 (by omega),qQ3 rfl];rfl
   ·rw[qQ2 yr,qQ2 yr,aJ]
  show((eD cell nn places k).set (gJ cell nn k) (o6 _ _ _)).getD j []≠[]
  rw[ex _ _ _ hl]
  split
  ·intro z
   have:=qQ6 iG z;rw[xN]at this;simp at this
  ·rename_i oW
   by_cases Fs:j<k
   ·exact wg cell h1 places k j Fs hn
   ·exfalso
    apply oW;have:j=k:=by omega
    subst this;unfold gJ;rw[qQ3 hn]
theorem J_(m:Int):pZ (lP m many) many:=by
 unfold lP
 split
 ·rename_i h;exact h.2
 ·split
  ·exact⟨by omega,iF _ 1 (by decide) (by decide) (by decide),oO _ (by decide) (by decide)⟩
  ·split
   ·exact⟨by omega,iF _ 1 (by decide) (by decide) (by decide)⟩
   ·split
    ·split
     ·trivial
     ·exact oO _ (by decide) (by decide)
    ·split
     ·refine⟨by simp,λz hz=>?_⟩
      obtain⟨k,_,rfl⟩:=aA.mp hz;unfold Df;omega
     ·trivial
theorem E6(cell:Int)(places lines:List Str):(bZ cell places lines).map (·.name)=namesOf (cY cell 31) (lz cell places.length):=by
 unfold bZ;rw[bf];have:=vv (namesOf (cY cell 31) (lz cell places.length));rw[iJ]at this;exact this
theorem Dv(cell:Int)(places lines:List Str):(bZ cell places lines).map (·.places)=eD cell (lz cell places.length) places places.length:=by
 unfold bZ;rw[bf];have hl:=iK cell (lz cell places.length) places places.length;refine kf λi=>?_
 rw[aW];by_cases h:i<lz cell places.length
 ·rw[oA h]
  show some ((eD cell (lz cell places.length) places places.length).getD i [])=_;rw[aJ,ax (by omega)];rfl
 ·rw[iW (by simpa using h),iW (by omega)];rfl
theorem Ad(c:Int)(iY:List Dk)(kinds:List (Str×Option Int))(hk:(kinds.map (·.1)).Nodup)(hd:(iY.map (·.name)).Nodup):∀i,i<=iY.length->((h_ c iY kinds i).map λq=>(q.1,q.2.1)).Nodup/\∀q∈h_ c iY kinds i,q.1∈(iY.take i).map (·.name)/\q.2.1∈kinds.map (·.1)/\1<=q.2.2
 |0,_=>⟨by simp[h_],λq hq=>by simp[h_]at hq⟩
 |i+1,hi=>by
  obtain⟨a,b⟩:=Ad c iY kinds hk hd i (by omega)
  have hg:iY[i]?=some iY[i]:=ax (by omega)
  rw[qV hg,ej,hg];have row:∀j,((gO (cY c (110+i)) iY[i].name kinds j).map λq=>(q.1,q.2.1)).Nodup/\∀q∈gO (cY c (110+i)) iY[i].name kinds j,q.1=iY[i].name/\q.2.1∈(kinds.take j).map (·.1)/\1<=q.2.2:=by
   intro j
   induction j with
   |zero=>exact⟨by simp[gO],λq hq=>by simp[gO]at hq⟩
   |succ j ih=>
    by_cases hj:j<kinds.length
    ·have hkj:kinds[j]?=some kinds[j]:=ax hj
     rw[uN hkj,ej,hkj];unfold vf
     split
     ·rw[aV]
      refine⟨?_,λq hq=>?_⟩
      ·rw[dY]
       refine⟨ih.1,by simp,λx hx y hy z=>?_⟩
       obtain⟨q,hq,rfl⟩:=aA.mp hx;have h2:=(ih.2 q hq).2.1;have hy:y=(iY[i].name,kinds[j].1):=by simpa using hy
       rw[hy]at z;have z2:q.2.1=kinds[j].1:=qQ6 (λw:Str×Str=>w.2) z
       rw[z2]at h2;have:kinds=kinds.take j++kinds[j]::kinds.drop (j+1):=by rw[Fp,j3]
       exact lB hk this h2
      ·rcases bp.mp hq with hq|hq
       ·obtain⟨h1,h2,h3⟩:=ih.2 q hq
        exact⟨h1,by rw[aV];exact cq _ h2,h3⟩
       ·have hq:q=(iY[i].name,kinds[j].1,1+cY c (110+i)/((j:Int)*j+2)%6):=by simpa using hq
        rw[hq];refine⟨rfl,by rw[aV];exact bX _ (aA.mpr ⟨kinds[j],aK.mpr rfl,rfl⟩),?_⟩
        have:=bE (cY c (110+i)/((j:Int)*j+2)) (b:=6) (by decide)
        show 1<=1+cY c (110+i)/((j:Int)*j+2)%6;omega
     ·refine⟨by simpa using ih.1,λq hq=>?_⟩
      obtain⟨h1,h2,h3⟩:=ih.2 q (by simpa using hq)
      exact⟨h1,by rw[aV];exact cq _ h2,h3⟩
    ·have e1:gO (cY c (110+i)) iY[i].name kinds (j+1)=gO (cY c (110+i)) iY[i].name kinds j:=by
      unfold gO;rw[dO (by simp;omega),dO (by simp;omega)]
     rw[e1,dO (by omega)]
     rw[dO (by omega)]at ih
     exact ih
  obtain⟨r1,r2⟩:=row kinds.length;rw[fF]at r2;have Jm:iY[i].name∉(iY.take i).map (·.name):=by
   have:iY=iY.take i++iY[i]::iY.drop (i+1):=by rw[Fp,j3]
   exact lB hd this
  refine⟨?_,λq hq=>?_⟩
  ·rw[aV,dY]
   refine⟨a,r1,λx hx y hy z=>?_⟩
   obtain⟨q,hq,rfl⟩:=aA.mp hx;obtain⟨q2,F9,rfl⟩:=aA.mp hy;have z1:q.1=q2.1:=qQ6 (λw:Str×Str=>w.1) z
   have:=(b q hq).1;rw[z1,(r2 q2 F9).1]at this;exact Jm this
  ·rcases bp.mp hq with hq|hq
   ·obtain⟨h1,h2,h3⟩:=b q hq
    exact⟨by rw[aV];exact cq _ h1,h2,h3⟩
   ·obtain⟨h1,h2,h3⟩:=r2 q hq
    exact⟨by rw[h1,aV];exact bX _ (aA.mpr ⟨iY[i],aK.mpr rfl,rfl⟩),h2,h3⟩
theorem Ae{α:Type}:∀{L:List (List α)},L.flatten.Nodup->∀r∈L,r.Nodup
 | [],_,r,h=>by cases h
 |x::L,nd,r,h=>by
  rw[dX,dY]at nd;rcases aE.mp h with rfl|h
  ·exact nd.1
  ·exact Ae nd.2.1 r h
theorem J'(ns:List Int):z8 (dQ ns):=by
 obtain⟨k1,k4⟩:=kz (g_ ns);obtain⟨g1,g3⟩:=ja (bR ns);obtain⟨p1,p6⟩:=jG (bR ns);have Ko:(orderOf (bR ns)).length=(placesOf (bR ns)).length:=by
  unfold orderOf;rw[aH,cW,bK];have:=ou (bR ns) (n:=(placesOf (bR ns)).length) (by omega)
  omega
 have pT:=pY (bR ns);have pnd:(placesOf (bR ns)).Nodup:=p_ _ (by omega)
 have hpm:(orderOf (bR ns)).Perm (placesOf (bR ns)):=by
  unfold orderOf;exact List.perm_append_comm.trans (by rw[j3])
 have TK:(cG (g_ ns)).map (·.1)=namesOf (g_ ns) (jC (g_ ns)):=by
  unfold cG;rw[bf];have:=vv (namesOf (g_ ns) (jC (g_ ns)));rw[iJ]at this;exact this
 have knd:((cG (g_ ns)).map (·.1)).Nodup:=by rw[TK];exact p_ _ (by omega)
 obtain⟨m1,m4,mp⟩:=ky (fY ns) (n:=(orderOf (bR ns)).length) (by omega)
 have dnm:=E6 (fY ns) (orderOf (bR ns)) (linesOf (bR ns));have dpl:=Dv (fY ns) (orderOf (bR ns)) (linesOf (bR ns));have dnd:((bZ (fY ns) (orderOf (bR ns)) (linesOf (bR ns))).map (·.name)).Nodup:=by rw[dnm];exact p_ _ (by omega)
 have tp:=Ac (fY ns) m1 (orderOf (bR ns)) _ (ay _);rw[fF]at tp;have dj:((bZ (fY ns) (orderOf (bR ns)) (linesOf (bR ns))).map (·.places)).flatten.Nodup:=by
  rw[dpl];exact(tp.trans hpm).nodup_iff.mpr pnd
 have Di:∀d∈bZ (fY ns) (orderOf (bR ns)) (linesOf (bR ns)),_:=λd hd=>Dm (by omega) (by omega) hd
 have Xg:∀d∈bZ (fY ns) (orderOf (bR ns)) (linesOf (bR ns)),d.places≠[]/\d.places.Nodup/\pZ d.rule d.places.length:=λd hd=>by
  refine⟨?_,?_,?_⟩
  ·obtain⟨k,hk,rfl⟩:=aA.mp hd
   have hk:=dB.mp hk;exact wg (fY ns) m1 (orderOf (bR ns)) _ k (by omega) hk
  ·exact Ae dj _ (aA.mpr ⟨d,hd,rfl⟩)
  ·obtain⟨k,hk,rfl⟩:=aA.mp hd
   exact J_ _
 have Tj:∀x∈linesOf (bR ns),cZ x:=λx hx=>lj (er (show x∈(placesOf (bR ns)).drop _ from hx))
 have tk:=Ad (fY ns) (bZ (fY ns) (orderOf (bR ns)) (linesOf (bR ns))) (cG (g_ ns)) knd dnd _ (ay _)
 generalize hD:bZ (fY ns) (orderOf (bR ns)) (linesOf (bR ns))=iY at *
 have e0:dQ ns=⟨cG (g_ ns),h8 (bR ns),(cv (linesOf (bR ns)).length).map (roomAt (bR ns) iY (linesOf (bR ns))),iY,h_ (fY ns) iY (cG (g_ ns)) iY.length,jl (fY ns) iY iY.length,[]⟩:=by rw[<-hD];rfl
 have WU:((cv (linesOf (bR ns)).length).map (roomAt (bR ns) iY (linesOf (bR ns)))).map (·.1)=linesOf (bR ns):=by
  rw[bf];exact vv _
 have gl:h8 (bR ns)++linesOf (bR ns)=placesOf (bR ns):=j3 _ _;rw[e0];rw[fF]at tk;refine⟨knd,by rw[WU,gl];exact pnd,dnd,λd hd=>?_,dj,tk.1,tk.2,λq hq=>?_,λq hq i hi=>?_,λq hq=>?_,uB,λq hq=>nomatch hq⟩
 ·obtain⟨a1,a2,a3,a4,a5,a6⟩:=Di d hd
  obtain⟨f1,f2,f3⟩:=Xg d hd;have hpx:∀x∈d.places,x∈placesOf (bR ns):=λx hx=>hpm.mem_iff.mp (a5 x hx)
  refine⟨⟨a1,?_,f3,?_,by omega,f2,λx hx=>lj (hpx x hx)⟩,λx hx=>by rw[WU,gl];exact hpx x hx,?_⟩
  ·rcases bp.mp a2 with h|h
   ·exact .inr (Tj _ h)
   ·exact .inl (aK.mp h)
  ·cases hp:d.places with
   |nil=>exact qQ7 hp f1
   |cons _ _=>simp
  ·rcases bp.mp a2 with h|h
   ·obtain⟨k,hk,he⟩:=List.mem_iff_getElem.mp h
    have hgd:(linesOf (bR ns)).getD k ""=d.to:=by rw[aJ,ax hk,he];rfl
    refine .inr ⟨(roomAt (bR ns) iY (linesOf (bR ns)) k).2,aA.mpr ⟨k,dB.mpr hk,?_⟩,?_⟩
    ·show roomAt (bR ns) iY (linesOf (bR ns)) k=(d.to,_)
     rw[<-hgd];rfl
    ·show _<=maxOf (iL iY ((linesOf (bR ns)).getD k ""))+cY (bR ns) (20+k)%3
     have:=(oM (iL iY ((linesOf (bR ns)).getD k ""))).2 (fH d.rule d.places.length) (aZ _ (iT.mpr ⟨d,hd,by rw[hgd,qQ1 rfl];rfl⟩))
     have h2:=bE (cY (bR ns) (20+k)) (b:=3) (by decide)
     omega
   ·exact .inl (aK.mp h)
 ·obtain⟨⟨d,i⟩,hd,hq⟩:=yo.mp hq
  have Us:d∈iY:=kI (dR hd);unfold k6 at hq
  split at hq
  ·rcases aE.mp hq with rfl|hq
   ·exact⟨aA.mpr ⟨d,Us,rfl⟩,by show _%9<9+_%20;omega⟩
   ·rw[aK.mp hq]
    exact⟨aA.mpr ⟨d,Us,rfl⟩,by show 25+_%20<50+_%40;omega⟩
  ·cases hq
 ·obtain⟨k,hk,rfl⟩:=aA.mp hq
  have hi:vd (cY (g_ ns) (10+k))=some i:=hi;unfold vd at hi
  split at hi
  ·cases hi
   exact⟨by omega,iF _ 1 (by decide) (by decide) (by decide)⟩
  ·cases hi
 ·obtain⟨k,hk,rfl⟩:=aA.mp hq
  show 1<=maxOf _+_%3;have:=(oM (iL iY ((linesOf (bR ns)).getD k ""))).2 1 aS;have h2:=bE (cY (bR ns) (20+k)) (b:=3) (by decide)
  omega
theorem G8(ns:List Int):(dQ ns).kinds≠[]/\(dQ ns).gates≠[]:=by
 obtain⟨k1,k4⟩:=kz (g_ ns);obtain⟨g1,g3⟩:=ja (bR ns);obtain⟨p1,p6⟩:=jG (bR ns);refine⟨λz=>?_,λz=>?_⟩
 ·have:=qQ6 iG z
  have:(cG (g_ ns)).length=0:=this;simp only[cG,aj,dZ]at this;omega
 ·have:=qQ6 iG z
  have:(h8 (bR ns)).length=0:=this;unfold h8 at this;rw[bK]at this;omega
end Mg
namespace Mg
open L2 PySem PyProof.Rows
seal L2.VE L2.VS L2.vB L2.VT L2.VO L2.Ox
theorem jd(x y:Str):(x++y).length=x.length+y.length:=by simp only[bJ]
theorem jo{x y:Str}(h1:nO x)(h2:nO y):nO (x++y):=(oi _).mpr λc hc=>by
 rw[add_list]at hc;rcases bp.mp hc with hc|hc
 ·exact(oi _).mp h1 c hc
 ·exact(oi _).mp h2 c hc
theorem oQ{y:Str}(hy:nO y):∀{l:List Str},(∀x∈l,nO x)->nO (cL y l)
 | [],_=>(oi _).mpr λc hc=>by cases hc
 | [x],h=>h x aS
 |x::z::l,h=>jo (jo (h x aS) hy) (oQ hy λu hu=>h u (aZ _ hu))
theorem gL{x:Str}(h:cX (.str x)=true:=by symm):nO x:=h
theorem BV{p:Pl}(ok:jA p):∀r∈dI p,nO r/\r.length<=1400:=by
 intro r hr;have nn:∀{x:Str},cZ x->nO x/\x.length<=8:=λh=>⟨h.ok.2,h.short⟩
 have dn:∀{d:ao},GH d->nO (eT d)/\(eT d).length<=8:=λh=>⟨(wa h).2,lq h⟩
 have nm:∀{i:Int},cV i->nO (cK i)/\(cK i).length<=6:=λh=>⟨(nQ h.1 h.2).2,fM h⟩
 unfold dI ny nX at hr;simp only[bp,aA]at hr;rcases hr with(((((⟨q,hq,rfl⟩|⟨q,hq,rfl⟩)|⟨q,hq,rfl⟩)|⟨q,hq,rfl⟩)|⟨q,hq,rfl⟩)|⟨q,hq,rfl⟩)|⟨q,hq,rfl⟩
 ·obtain⟨h1,h2⟩:=ok.kinds q hq
  refine⟨jo (jo (jo gL (nn h1).1) gL) (dn h2).1,?_⟩
  have a:=(nn h1).2;have b:=(dn h2).2;unfold pI;rw[jd,jd,jd,show("kind ":Str).length=5 from by decide,show(" ":Str).length=1 from by decide]
  omega
 ·have h1:=ok.gates q hq
  refine⟨jo gL (nn h1).1,?_⟩
  have a:=(nn h1).2;unfold mX;rw[jd,show("gate ":Str).length=5 from by decide]
  omega
 ·obtain⟨h1,h2⟩:=ok.lines q hq
  refine⟨jo (jo (jo gL (nn h1).1) gL) (nm h2).1,?_⟩
  have a:=(nn h1).2;have b:=(nm h2).2;unfold mY;rw[jd,jd,jd,show("line ":Str).length=5 from by decide,show(" ":Str).length=1 from by decide]
  omega
 ·obtain⟨h1,h2,h3,h4,h5⟩:=ok.desks q hq
  refine⟨jo (jo (jo (jo (jo (jo (jo gL (nn h1).1) gL) (dn (d:=.str q.to) h2).1) gL) (oQ gL λx hx=>(EL h3 x hx).2)) gL) (oQ gL λx hx=>(nn (h5 x hx)).1),?_⟩
  have a:=(nn h1).2;have b:=(dn (d:=.str q.to) h2).2;have c:=lU h3;have d:=gQ (y:=(" ":Str)) (by decide) (l:=q.places) (b:=8) λx hx=>(nn (h5 x hx)).2
  unfold kE nu;rw[jd,jd,jd,jd,jd,jd,jd,show("desk ":Str).length=5 from by decide,show(" to ":Str).length=4 from by decide,show(" by ":Str).length=4 from by decide,show(" from ":Str).length=6 from by decide]
  omega
 ·obtain⟨h1,h2,h3⟩:=ok.times q hq
  have Xh:∀x∈[("time":Str),q.1,q.2.1,cK q.2.2],nO x/\x.length<=8:=λx hx=>by
   simp only[aE,bB,or_false]at hx;rcases hx with rfl|rfl|rfl|rfl
   ·exact⟨gL,by decide⟩
   ·exact nn h1
   ·exact nn h2
   ·exact⟨(nm h3).1,by have:=(nm h3).2;omega⟩
  refine⟨oQ gL λx hx=>(Xh x hx).1,?_⟩
  have:=gQ (y:=(" ":Str)) (by decide) λx hx=>(Xh x hx).2
  unfold mZ;simp only[aX,cz]at this;omega
 ·obtain⟨h1,h2,h3⟩:=ok.hours q hq
  have Xh:∀x∈[("open":Str),q.1,cK q.2.1,cK q.2.2],nO x/\x.length<=8:=λx hx=>by
   simp only[aE,bB,or_false]at hx;rcases hx with rfl|rfl|rfl|rfl
   ·exact⟨gL,by decide⟩
   ·exact nn h1
   ·exact⟨(nm h2).1,by have:=(nm h2).2;omega⟩
   ·exact⟨(nm h3).1,by have:=(nm h3).2;omega⟩
  refine⟨oQ gL λx hx=>(Xh x hx).1,?_⟩
  have:=gQ (y:=(" ":Str)) (by decide) λx hx=>(Xh x hx).2
  unfold oj;simp only[aX,cz]at this;omega
 ·obtain⟨h1,h2,h3,h4⟩:=ok.paces q hq
  have hx5:∀x∈[("pace":Str),q.1,q.2.1,cK q.2.2.1,cK q.2.2.2],nO x/\x.length<=8:=λx hx=>by
   simp only[aE,bB,or_false]at hx;rcases hx with rfl|rfl|rfl|rfl|rfl
   ·exact⟨gL,by decide⟩
   ·exact nn h1
   ·exact nn h2
   ·exact⟨(nm h3).1,by have:=(nm h3).2;omega⟩
   ·exact⟨(nm h4).1,by have:=(nm h4).2;omega⟩
  refine⟨oQ gL λx hx=>(hx5 x hx).1,?_⟩
  have:=gQ (y:=(" ":Str)) (by decide) λx hx=>(hx5 x hx).2
  unfold m8;simp only[aX,cz]at this;omega
theorem Kc(ns:List Int):(dI (dQ ns)).length<=44:=by
 obtain⟨k1,k4⟩:=kz (g_ ns);obtain⟨p1,p6⟩:=jG (bR ns);have Ko:(orderOf (bR ns)).length=(placesOf (bR ns)).length:=by
  unfold orderOf;rw[aH,cW,bK];have:=ou (bR ns) (n:=(placesOf (bR ns)).length) (by have:=(ja (bR ns)).1;omega)
  omega
 have g1:=(ja (bR ns)).1;have hkl:(cG (g_ ns)).length=jC (g_ ns):=by simp[cG]
 have Lx:(bZ (fY ns) (orderOf (bR ns)) (linesOf (bR ns))).length<=4:=by rw[lQ];exact(ky (fY ns) (by omega)).2.1
 have QM:=qX (fY ns) (bZ (fY ns) (orderOf (bR ns)) (linesOf (bR ns))) (cG (g_ ns)) (by omega) _ (ay _)
 have hhl:=qY (fY ns) (bZ (fY ns) (orderOf (bR ns)) (linesOf (bR ns))) _ (ay _)
 generalize hD:bZ (fY ns) (orderOf (bR ns)) (linesOf (bR ns))=iY at *
 have e0:dQ ns=⟨cG (g_ ns),h8 (bR ns),(cv (linesOf (bR ns)).length).map (roomAt (bR ns) iY (linesOf (bR ns))),iY,h_ (fY ns) iY (cG (g_ ns)) iY.length,jl (fY ns) iY iY.length,[]⟩:=by rw[<-hD];rfl
 have hg:(h8 (bR ns)).length+(linesOf (bR ns)).length<=6:=by unfold h8 linesOf;rw[bK,cW];omega
 rw[e0];unfold dI ny nX;simp only[aH,aj,dZ,cz];omega
theorem G9(ns:List Int):1<=(dQ ns).desks.length:=by
 obtain⟨p1,p6⟩:=jG (bR ns);have g1:=(ja (bR ns)).1;have Ko:(orderOf (bR ns)).length=(placesOf (bR ns)).length:=by
  unfold orderOf;rw[aH,cW,bK];have:=ou (bR ns) (n:=(placesOf (bR ns)).length) (by omega)
  omega
 show 1<=(bZ (fY ns) (orderOf (bR ns)) (linesOf (bR ns))).length;rw[lQ];exact(ky (fY ns) (by omega)).1
end Mg
namespace Mg
open L2 PySem PyProof.Rows
structure Xi(K:au)(mg:Str->Option aG)(M:aR):Prop where
 mg:mg "MergeError"=some (.ref M)
 rd:yd K M (.type "type")=true
 fc:ye K (.ref M) (.type "type") "__init__"=some (.val (.builtin "ValueError.__init__"))
 sp:lK K (.ref M) "__getattribute__"=some (some (.builtin "type.__getattribute__"))
abbrev TL:jq:=inClass (top 2) 0
abbrev TN:List Str:=["self","place","word"]
section
variable{P:bL}{w:cH}{K:au}{mg:Str->Option aG}{base:dw}{f C M:aR}{k:Nat}
theorem Xj:c7 TN TN (bV TL):=⟨rfl,rfl,rfl,by symm,rfl,by symm,by symm⟩
theorem zbo{fd:gf}(F:mw K "__init__" "BadPlant.__init__" TL f fd)(c:Gq K C)(n1:gP K C "place")(n2:gP K C "word")(S:Xi K mg M):fA P w K mg base kR 1 f fd TN (Dd C):=by
 refine F.ok Xj (λvs H Q E h=>by obtain⟨_,_,_,rfl,_⟩:=h;rfl) (λiD A outer s H vs Q E hr h=>⟨_,nW,?_⟩)
 obtain⟨e,v1,x2,rfl,hl,ge,q⟩:=h;have hx:(eS++("bad plant: ":Str)).length<=sizeLine:=by rw[du];symm
 have X9:∀y:Str,y.length<=1000->(eS++("bad plant: ":Str)++y).length<=sizeLine:=λy hy=>by
  rw[du,bJ];have:(eS++("bad plant: ":Str)).length<=100:=by symm
  omega
 refine eP (λpins s1 I=>qJ (S6 (pl:=_) (by rfl) S.mg S.rd S.fc S.sp (dG (iH (i:=0) rfl (bq rfl)) (dG (O5 (iH (i:=2) rfl (bq rfl)) hx) gI))) rfl pins s1 _ _ _ I ?_)
 refine⟨.ref e,rfl,.str x2,rfl,x2,rfl,cj hl (by rw[du];decide),X9 x2 hl,e,C,none,_,rfl,ge,c,?_⟩
 refine eP (λpins s1 I=>L4 (iH (i:=0) rfl (bq rfl)) (iH (i:=1) rfl (bq rfl)) rfl pins s1 _ _ _ I ⟨v1,rfl,.ref e,rfl,e,C,rfl,ge,c,n1,λdx h1 h2=>?_⟩)
 exact dE (λpins s1 I=>L5 (iH (i:=0) rfl (bq rfl)) (iH (i:=2) rfl (bq rfl)) rfl pins s1 _ _ _ I ⟨.str x2,rfl,.ref e,rfl,e,C,dx,_,rfl,bQ,by rw[aY h2,bQ],h2,c,n2,(by show 1<50;decide),q dx h1 h2⟩)
end
end Mg
namespace Mg
open L2 PySem PyProof.Rows
seal L2.VE L2.VS L2.vB L2.VT L2.VO L2.Ox
variable{fd:gf}{cell:Int}{p:Pl}{q:Str×Str×Int×Int}
section
variable{P:bL}{w:cH}{K:au}{mg:Str->Option aG}{base:dw}{f C fI:aR}{k:Nat}
def TQ(ds:List ao)(pl:Int)(wd:Str):Prop:=∃(x:Str)(es:List Ent)(pre post:List (Nat×List Str))(num:Nat)(e:Ent),ds=[.str x]/\wD x/\rowsOf x=pre++(num,rT e)::post/\pre.map (·.2)=es.map rT/\J8 es/\gX e/\kA (es.foldl lW vq) e=wd/\pl=num/\(wd="twice"\/wd="name"\/wd="room")
theorem Xk{fdI: gf}(F:mw K "read_plant" "read_plant" (top 23) f fd)(n:Np mg w.params K)(T:PlC P w K mg base)(C1:bO P w K mg base 2 "rows_of" ["text"] (Ib K Rro))(C2:bO P w K mg base 8 "entry_of" ["words"] (iE K Reo))(C3:bO P w K mg base 3 "fault_of" yI (iE K Rfo))(C3N:bO P w K mg base 3 "fault_of" yI (iE K W_))(C4:bO P w K mg base 1 "add_entry" yI (Iq K Pl (uP K) MF))(mC:mg "BadPlant"=some (.ref C))(M:X_ K C fI)(FI:fA P w K mg base kR 1 fI fdI TN (Dd C))(bIX:Binds K fdI TN []):
  fA P w K mg base (X' P w) 9 f fd ["text"] (spX K C TQ):=by
 obtain⟨oc,od,kV,doc,pm,an,iD,ct,HQ,rfl,lk,rQ⟩:=F.ex;refine Ql lk rQ IQ (λvs H Q E h=>?_) λA outer s H vs Q E hr h=>⟨_,nW,?_⟩
 ·obtain⟨H0,ds,pl,wd,_,r,⟨x,es,pre,post,num,e0,rfl,_⟩,_⟩:=h
  exact r.length
 obtain⟨H0,ds,pl,wd,sm,r,⟨x,es,pre,post,num,e0,rfl,ox,BR,F4,E3,oke,hfa,rfl,hwd⟩,q⟩:=h;have nd:Uy.Nodup:=IQ.nd;have Xl:nO wd/\wd≠""/\wd.length<=1000:=by rcases hwd with rfl|rfl|rfl<;>exact⟨by show cX _=true;symm,by symm,by decide⟩
 obtain⟨C',fi,fdi,mC',cl,na,M',FI',bI⟩:=T.ex;have hlen:pre.length=es.length:=by have:=qQ6 iG F4;simpa using this
 have fr:iI K H0 H H0 H _ (u9 Uy [.str x]):=.start sm r;refine eP (LW (X:=Ya P w K mg base Uy "read_plant" (bV (top 23)) f iD A outer s H E) 1 M' FI' (hr.mono (by omega)) mC' bI (λp dx E' hp hdx Xa=>?_) nd)
 refine⟨p,dx,rfl,bQ,λak ag al ad at_ ah ap H' mid=>⟨rfl,?_⟩⟩
 have Fq:∀b,(upd (upd H dx (.own p)) p (.ins C' dx [])) b=none->H b=none:=λb hb=>by
  have h1:b≠p:=λz=>by rw[z,bQ]at hb;cases hb
  rw[aY h1]at hb;have h2:b≠dx:=λz=>by rw[z,bQ]at hb;cases hb
  rw[aY h2]at hb;exact hb
 have E4:∀b o,H b=some o->H' b=some o:=λb o e=>by
  have h1:b≠p:=bC e hp;refine mid.old b o ?_ h1
  rw[aY h1,aY (bC e hdx)];exact e
 have G0:OF K H0 H (uP K p (qA es 0)) H0 H' ((start Uy vs).set 1 (some (.ref p))) [.val (.str x),.ref p,.un,.un,.un,.un]:=by
  have g:eL H0 H H0 H':=⟨E4,eC.refl _,λb u e=>E4 b u (fr.sub b u e),λ_ z=>.inl z⟩
  refine⟨(fr.grow g).u_ (i:=1) (v:=.ref p) (sl:=.ref p) rfl rfl,rfl,[p,ak,ag,al,ad,at_,ah,ap],λa ha=>?_,C',dx,ak,ag,al,ad,at_,ah,ap,[],[],[],rfl,by simpa using mid.nd,?_⟩
  ·have z0:H a=none/\H' a≠none:=by
    rcases aE.mp ha with rfl|ha
    ·exact⟨hp,by rw[mid.ins];simp⟩
    ·have ha':∃q∈[(ak,HO.dK []),(ag,.lst []),(al,.dK []),(ad,.lst []),(at_,.dT []),(ah,.dK []),(ap,.dK [])],q.1=a:=by
      simp only[aE,bB,or_false]at ha;rcases ha with rfl|rfl|rfl|rfl|rfl|rfl|rfl<;>simp
     obtain⟨q,hq,rfl⟩:=ha';exact⟨Fq _ (mid.fresh q hq),by rw[mid.ob q hq];simp⟩
   exact⟨fr.sub.free z0.1,z0.1,z0.2⟩
  ·exact⟨mid.ins,cl,na,mid.ob (ak,.dK []) (by simp),mid.ob (ag,.lst []) (by simp),mid.ob (al,.dK []) (by simp),mid.ob (ad,.lst []) (by simp),.nil,mid.ob (at_,.dT []) (by simp),mid.ob (ah,.dK []) (by simp),rfl,⟨mid.ob (ap,.dK []) (by simp),.nil⟩,λi c q e1=>by simp at e1⟩
 refine eP (Ta (tgt:=.tup [2,3]) (ds:=(rowsOf x).map uK) (λi=>uP K p (qA es i)) (λi=>uP.mono) G0 B_.leaving rfl (gK (VO.ve (pG C1 (hr.mono (by omega)) (aq (ai 0 rfl) a7) ⟨x,rfl,ox,rfl⟩)))
  (ik rfl (b_ (bP (i:=2) nd rfl (bq rfl)) (b_ (bP (i:=3) nd rfl (bq rfl)) fP))) pre.length (by rw[aj,BR,aH];simp) (λi d hi hd=>?_) (λd hd=>?_))
 ·obtain⟨r,Yz,rfl⟩:∃r,pre[i]?=some r/\d=uK r:=by
   rw[aW,BR,cO hi]at hd;rw[ax hi]at hd ⊢;cases hd;exact⟨_,rfl,rfl⟩
  have Nq:es[i]?=some es[i]:=ax (by omega)
  have hw:r.2=rT es[i]:=by
   have h1:(pre.map (·.2))[i]?=some r.2:=by rw[aW,Yz];rfl
   rw[F4,aW,Nq]at h1;exact(dC h1).symm
  have oe:=E3.ent _ (dv (by omega:i<es.length))
  have oa:=E3.add i _ Nq;have op:=E3.pl i (by omega)
  have MK:=BQ Nq
  generalize es[i]=e at *
  refine⟨[.val (.str x),.ref p,.val (.int (r.1:Nat)),.val (.list (r.2.map .str)),.un,.un],rfl,rfl,λD C0 σ' e9 eQ G q=>?_⟩
  refine eP (zF uP.mono G (dq 4 (d:=yk e) (bU C2 hr (aq (ai 3 rfl) a7) ⟨e,by rw[hw];rfl,oe,rfl⟩) nd) rfl λσ1 PZ P0 G1=>?_)
  refine eP (Gi uP.mono G1 1 5 (d:=.str "") rfl uP.rep (bU C3 (hr.mono (by omega)) (aq (ai 1 rfl) (aq (ai 4 rfl) a7)) ⟨qA es i,e,rfl,op,oe,oa,rfl⟩) rfl rfl (λσ2 NC NF G2=>?_) nd)
  refine eP (zF uP.mono G2 (cy (VT.to (pE hr a8 a8 (ai 5 rfl) aL) (qQ6 (λb=>!b) (jw _))) bS) rfl λσ3 Tw Tx G3=>?_)
  refine dE (Qz (s:=qA es i) (s':=qA es (i+1)) C4 (hr.mono (by omega)) G3 uP.mono 1 rfl (ai 4 rfl) ⟨e,rfl,op,oe,oa,MK⟩ λUv Uw G4=>?_)
  exact q _ _ _ (G4.forget uP.mono ⟨.inr rfl,.inr rfl,.inl rfl,.inl rfl,.inl rfl,.inl rfl,trivial⟩ rfl)
 ·obtain rfl:d=uK (num,rT e0):=by
   rw[aW,BR,cJ (ay _),FC]at hd;cases hd;rfl
  have pT:qA es pre.length=es.foldl lW vq:=by rw[hlen,E2]
  refine⟨[.val (.str x),.ref p,.val (.int (num:Nat)),.val (.list ((rT e0).map .str)),.un,.un],rfl,rfl,λD' σ' Ha Hb G=>?_⟩
  refine eP (zF uP.mono G (dq 4 (d:=yk e0) (bU C2 hr (aq (ai 3 rfl) a7) ⟨e0,rfl,oke,rfl⟩) nd) rfl λσ1 PZ P0 G1=>?_)
  refine eP (Gi uP.mono G1 1 5 (d:=.str wd) rfl uP.rep (bU C3N (hr.mono (by omega)) (aq (ai 1 rfl) (aq (ai 4 rfl) a7)) ⟨qA es pre.length,e0,rfl,E3.pl _ (by omega),oke,by rw[pT,hfa]⟩) rfl rfl (λσ2 NC NF G2=>?_) nd)
  refine eP (zG G2.fr (VT.to (pE hr (bH Xl.1) a8 (ai 5 rfl) aL) (by rw[cn,qQ0 Xl.2.1];rfl)) λHg Hh g4=>?_)
  refine dE (O8 (G2.fr.grow g4) M FI (hr.mono (by omega)) bIX (by rfl) mC (ai 2 rfl) (ai 5 rfl) Xl.2.2 (λpins σ H2 s2 e dx I2 ge se wi=>?_) (λpins σ H2 s2 I2=>(zI I2).2.1) hr.hd)
  exact L8 I2 ge se λT nT ne=>q e T dx _ (wi.fly nT ne)
end
structure XKd(K:au)(mg:Str->Option aG)(C:aR):Prop where
 own:mg "BadPlant"=some (.ref C)
 oth:∃M1 M2 M3,mg "BadBook"=some (.ref M1)/\mg "BadDay"=some (.ref M2)/\mg "NoBound"=some (.ref M3)/\yW K (.ref C) [.ref M1,.ref M2,.ref M3]=some false
 kc:dH K (.ref C) (.ref C)=some true
 kv:dH K (.ref C) (.type "ValueError")=some true
 ve:mg "ValueError"=none
 gt:JR K C
 np:gP K C "place"
 nw:gP K C "word"
abbrev Nlf:List Str:=["_law_text","_law_error","caught"]
section
variable{P:bL}{w:cH}{K:au}{mg:Str->Option aG}{base:dw}{f C M:aR}{k:Nat}
theorem QX:c7 Nlf ["_law_text"] (bV (top 51)):=⟨rfl,rfl,rfl,by symm,rfl,by symm,by symm⟩
def Rlf(ds:List ao)(d:ao):Prop:=∃(pl:Int)(wd:Str),TQ ds pl wd/\d=.tuple [.int pl,.str wd]
theorem zbp(F:mw K "_law_fault" "_law_fault" (top 51) f fd)(n:Na mg)(S:XKd K mg C)(me:mg "MergeError"=some (.ref M))(sub:O9 K C M)(CX:BJ P w K mg base 9 "read_plant" ["text"] C TQ):fA P w K mg base kR 10 f fd ["_law_text"] (iE K Rlf):=
 ko F QX (λ_ _ h=>by obtain⟨_,_,⟨_,_,_,_,_,_,rfl,_⟩,_⟩:=h;rfl) λ_ _ h=>by
  obtain⟨pl,wd,hR,rfl⟩:=h;have hR0:=hR;obtain⟨x,es,pre,post,num,ws,rfl,ox,_⟩:=hR0;intro iD A outer s H E hr;have nd:Nlf.Nodup:=QX.nd;obtain⟨M1,M2,M3,o1,o2,o3,ka⟩:=S.oth;refine aI (dq 1 jP nd) ?_
  refine vS λB0 B σ H0 Hh D fr Xf=>?_
  obtain⟨fx,fdx,FX,mx,kx,bx⟩:=CX;refine eP (Pn (jn:=2) (jc:=1) (M:=M) fr (λ_ _ z=>z) rfl rfl rfl (λ_=>hr.hd) FX hr bx (by rfl) mx kx (aq (ai 0 rfl) a7) hR (by rfl) me sub nd rfl rfl rfl (bq rfl) (.inr rfl) (by decide) λe dx T σ9 Ha9 YB f9 ge gd ae ad be bd oW=>?_)
  have c:pV K YB e C pl wd:=⟨⟨dx,T,ge,gd,oW⟩,S.gt,S.np,S.nw⟩;have h1:σ9[1]?=some (some (.ref e)):=f9.slot 1 _ rfl;refine eP (λpins s1 I=>Bc (PW.pt (pw_or (FL (FK (sL Pj (by rfl) n.ZU rfl (dG (iH (i:=1) rfl (bq rfl)) (dG (pq (v:=.ref C) (by rfl) S.own rfl) gI))))) (pw_or1 (FL (FK (sL S9 (by rfl) n.ZU rfl (dG (iH (i:=1) rfl (bq rfl)) (dG (NQ (v:=.ty "ValueError") (by rfl) S.ve rfl rfl) gI)))))))) mK Cv pins s1 _ _ _ I ?_)
  refine⟨.ref e,h1,e,C,pl,wd,C,true,rfl,c,S.kc,true,rfl,KY ⟨.ref e,h1,e,C,pl,wd,"ValueError",true,rfl,c,S.kv,true,rfl,KY ?_⟩⟩
  refine eP (λpins s1 I=>Bc (FK (sL Pk (by rfl) n.ZU rfl (dG (iH (i:=1) rfl (bq rfl)) (dG (y_ (dG (pq (v:=.ref M1) (by rfl) o1 rfl) (dG (pq (v:=.ref M2) (by rfl) o2 rfl) (dG (pq (v:=.ref M3) (by rfl) o3 rfl) gI)))) gI)))) mK Cv pins s1 _ _ _ I ?_)
  refine⟨.ref e,h1,(by show 3<=sizeLine;rw[du];decide),λt ht=>?_⟩
  have g1:eL Ha9 YB Ha9 (upd YB t (.tup [.ref M1,.ref M2,.ref M3])):=eL.loose f9.sub ht;have c1:=c.mono g1.big;refine⟨e,C,pl,wd,t,M1,M2,M3,false,rfl,c1,bQ,ka,false,rfl,KY ?_⟩
  have f10:=f9.grow g1
  generalize upd YB t (.tup [.ref M1,.ref M2,.ref M3])=Hb at *
  have lp:(vX pl wd).lookup ("place":Str)=some (.int pl):=rfl;have lw:(vX pl wd).lookup ("word":Str)=some (.str wd):=rfl;refine dE (λpins s1 I=>y0 (y_ (dG (Iw (i:=1) rfl (bq rfl) rfl) (dG (Iw (i:=1) rfl (bq rfl) rfl) gI))) pins s1 _ _ _ I ?_)
  refine⟨e,C,pl,wd,.int pl,h1,c1,S.np,lp,e,C,pl,wd,.str wd,h1,c1,S.nw,lw,(by show 2<=sizeLine;rw[du];decide),λt2 Ud=>?_⟩
  have g2:=eL.laid f10.sub (o:=.tup [.int pl,.str wd]) Ud;exact Xf _ _ _ (f10.ent.trans g2) (.tup (rF.of bQ) (.cons (.int pl) (.cons (.str wd) .nil)))
end
def ML(p:Pl)(m:Int)(k:Nat):Str×Str×Int×Int:=(p.gates.getD k "",(pickOf p.kinds ("",none) (m/3)).1,1+m/30%5,1+m/150%999999)
def E7(p:Pl)(cell:Int)(k:Nat):Option (Str×Str×Int×Int):=if 0<cY cell (140+k)%3 then some (ML p (cY cell (140+k)) k)else none
def pL(p:Pl)(cell:Int)(i:Nat):List (Str×Str×Int×Int):=(cv i).filterMap (E7 p cell)
def qc(p:Pl)(cell:Int):Pl:={ p with paces:=pL p cell p.gates.length }
theorem P6{i:Nat}(h:q∈pL p cell i):∃k,k<i/\q=ML p (cY cell (140+k)) k:=by
 obtain⟨k,hk,e⟩:=iT.mp h;unfold E7 at e
 split at e
 ·cases e;exact⟨k,dB.mp hk,rfl⟩
 ·cases e
theorem Kd(hg:p.gates.Nodup)(cell:Int):((pL p cell p.gates.length).map (·.1)).Nodup:=by
 unfold pL;rw[List.map_filterMap];refine List.Pairwise.filterMap _ (R:=λi j=>i<j/\j<p.gates.length) (λi j yr x hx y hy=>?_) ?_
 ·simp only[rD]at hx hy
  obtain⟨u,hu,rfl⟩:=hx;obtain⟨v,hv,rfl⟩:=hy;unfold E7 at hu hv
  split at hu<;>cases hu
  split at hv<;>cases hv
  intro e;have e2:p.gates.getD i ""=p.gates.getD j "":=e;rw[aJ,aJ,ax (by omega),ax (by omega)]at e2
  exact je.mp hg i j (by omega) (by omega) yr.1 e2
 ·refine je.mpr λi j hi hj yr=>?_
  rw[dZ]at hi hj;rw[o_,o_];exact⟨yr,hj⟩
theorem MN(hk:1<=p.kinds.length)(h:q∈pL p cell p.gates.length):q.1∈p.gates/\q.2.1∈p.kinds.map (·.1)/\(1<=q.2.2.1/\q.2.2.1<=5)/\1<=q.2.2.2/\q.2.2.2<=999999:=by
 obtain⟨k,Nx,rfl⟩:=P6 h
 generalize cY cell (140+(k:Int))=m
 have a1:0<=m/30%5:=bE _ (by decide)
 have a2:m/30%5<5:=bG _ (by decide)
 have b1:0<=m/150%999999:=bE _ (by decide)
 have b2:m/150%999999<999999:=bG _ (by decide)
 refine⟨?_,aA.mpr ⟨_,(jm (d:=(("",none):Str×Option Int)) (F:=kK) hk (m/3)).2,rfl⟩,⟨?_,?_⟩,?_,?_⟩
 ·show p.gates.getD k ""∈p.gates
  rw[aJ,ax Nx];exact dv Nx
 ·show 1<=1+m/30%5;omega
 ·show 1+m/30%5<=5;omega
 ·show 1<=1+m/150%999999;omega
 ·show 1+m/150%999999<=999999;omega
theorem MP(ok:jA p)(hk:1<=p.kinds.length)(cell:Int):jA (qc p cell):=by
 refine⟨ok.kn,ok.gn,ok.ln,ok.dn,ok.tn,ok.hn,ok.kinds,ok.gates,ok.lines,ok.desks,ok.times,ok.hours,cj (hX _ _) (by rw[dZ];exact ok.gn),?_⟩
 ·intro q hq
  obtain⟨h1,h2,h3,h4⟩:=MN hk hq;obtain⟨z,hz,e⟩:=aA.mp h2;exact⟨ok.gates _ h1,by rw[<-e];exact(ok.kinds z hz).1,⟨by omega,by omega⟩,by omega,by omega⟩
theorem G_(g:z8 p)(hk:1<=p.kinds.length)(cell:Int):z8 (qc p cell):=by
 refine⟨g.kn,g.pn,g.dn,g.dk,g.dj,g.tn,g.tm,g.hr,g.kk,g.ll,Kd (dY.mp g.pn).1 cell,?_⟩
 ·intro q hq
  obtain⟨h1,h2,h3,h4⟩:=MN hk hq;exact⟨h1,h2,h3.1,h4.1⟩
theorem MQ(p:Pl)(l:List (Str×Str×Int×Int)):JT (kD p) "paces" (.list (l.map uM))=kD { p with paces:=l }:=by
 unfold JT kD;rfl
def Rpa(ds:List ao)(d:ao):Prop:=∃(p:Pl)(cell:Int),ds=[eZ p,.int cell]/\jA p/\1<=p.kinds.length/\d=eZ (qc p cell)
abbrev Npa:List Str:=["_law_h","_law_cell","_law_paces","_law_k","_law_gate","_law_m","_law_kind","_law_made"]
section
variable{P:bL}{w:cH}{K:au}{mg:Str->Option aG}{base:dw}{f:aR}{k:Nat}
theorem QY:c7 Npa ["_law_h","_law_cell"] (bV (top 50)):=⟨rfl,rfl,rfl,by symm,rfl,by symm,by symm⟩
theorem zbq(F:mw K "_law_paced" "_law_paced" (top 50) f fd)(n:Na mg)(md:mg "dict"=none)(C1:bO P w K mg base 1 "_law_mix" ["_law_cell","_law_k"] (iE K GA)):fA P w K mg base kR 2 f fd ["_law_h","_law_cell"] (iE K Rpa):=
 ko F QY (λ_ _ h=>by obtain⟨_,_,rfl,_⟩:=h;rfl) λ_ _ h=>by
  obtain⟨p,cell,rfl,ok,hk,rfl⟩:=h;intro iD A outer s H E hr;have nd:Npa.Nodup:=QY.nd;have hgn:=ok.gn;refine aI (jj 2 (ds:=[]) (fh a7) nd) ?_
  refine aI (lO (tgt:=.tup [3,4]) (o:=.nx [.val (eZ p),.val (.int cell),.own ((pL p cell p.gates.length).map uM),.un,.un,.un,.un,.un]) dP rfl (og (ds:=p.gates.map .str) (fk hr (ai 0 rfl) aL (tD p)) n.Nv)
   (ik rfl (b_ (bP (i:=3) nd rfl (bq rfl)) (b_ (bP (i:=4) nd rfl (bq rfl)) fP)))
   (λi=>[.val (eZ p),.val (.int cell),.own ((pL p cell i).map uM),.un,.un,.un,.un,.un]) p.gates.length rfl (by rw[dM,aj];exact ay _) (λi d hi hd=>?_) (.inl ⟨by rw[dM,aj],rfl⟩)) ?_
  ·obtain⟨x,hx,rfl⟩:=jM hd
   obtain rfl:x=.str (p.gates.getD i ""):=by
    rw[aW,ax hi]at hx;cases hx;rw[aJ,ax hi];rfl
   refine⟨_,rfl,?_⟩
   refine aI (dq 5 (d:=.int (cY cell (140+i))) (bU C1 hr (aq (ai 1 rfl) (aq (eM aD (ai 3 rfl)) a7)) ⟨cell,140+(i:Int),rfl,by omega,by omega,rfl⟩) nd) ?_
   have hs:pL p cell (i+1)=pL p cell i++(if 0<cY cell (140+i)%3 then [ML p (cY cell (140+i)) i]else []):=by
    unfold pL;rw[sF,jZ]
    congr 1
    by_cases h:0<cY cell (140+i)%3
    ·rw[qQ3 h,eA (show E7 p cell i=some (ML p (cY cell (140+i)) i)from qQ3 h)];rfl
    ·rw[qQ2 h,fU (show E7 p cell i=none from qQ2 h)];rfl
   rw[hs];have hl:(pL p cell i).length<=i:=cj (hX _ _) (by rw[dZ];exact ay _)
   generalize cY cell (140+(i:Int))=m
   obtain⟨pk,_⟩:=jm (d:=(("",none):Str×Option Int)) (F:=kK) hk (m/3);by_cases h0:0<m%3
   ·rw[qQ3 h0,aV,f7]
    refine iP (bw (eu (VT.to (Bo (cU (ai 5 rfl) aD (by decide)) aD) (qQ1 h0)) (aI (dq 6 (d:=.str (pickOf p.kinds ("",none) (m/3)).1) (cC (eX (fk hr (ai 0 rfl) aL (qx p)) (VE.to (cU (fB (ai 5 rfl) aD ⟨by decide,by decide⟩) (jg (fk hr (ai 0 rfl) aL (qx p)) n.len) (by rw[aj];omega)) (by rw[aj])) pk) aD rfl) nd) (bw (eU 2 rfl (d:=uM (ML p m i)) (gu (aq (ai 4 rfl) (aq (ai 6 rfl) (aq (eM aD (cU (fB (ai 5 rfl) aD ⟨by decide,by decide⟩) aD (by decide))) (aq (eM aD (cU (fB (ai 5 rfl) aD ⟨by decide,by decide⟩) aD (by decide))) a7))))) (fV (by rw[aj];omega))))))) ⟨.inr rfl,.inr rfl,.inr rfl,.inl rfl,.inl rfl,.inl rfl,.inl rfl,.inl rfl,trivial⟩
   ·rw[qQ2 h0,cF]
    exact iP (bw (cy (VT.to (Bo (cU (ai 5 rfl) aD (by decide)) aD) (qQ0 h0)) bS)) ⟨.inr rfl,.inr rfl,.inr rfl,.inl rfl,.inl rfl,.inl rfl,.inl rfl,.inl rfl,trivial⟩
  refine eY 2 rfl ?_
  refine vS λB0 B σ H0 Hh D fr Xf=>?_
  refine eP (Pq fr 7 nd (λ_=>rfl) (kv:=kD p) (ai 0 rfl) md λq σ1 PZ P0 sm1 G1=>?_)
  refine eP (S_ G1 hr 7 rfl aL (d:=.list ((pL p cell p.gates.length).map uM)) (ai 2 rfl) (fV (by show 7<=1000000;decide)) λNC NF G2=>?_)
  rw[MQ]at G2;obtain⟨Ha,sm,f1⟩:=G2.done (i:=7) rfl DR.rep;exact LZ (d:=eZ (qc p cell)) (bw (cD (ai 7 rfl))) f1 Xf
end
def ez:Ent->Str
 | .kind n k=>pI (n,k)
 | .gate n=>mX n
 | .line n r=>mY (n,r)
 | .desk d=>kE d
 | .time d k w=>mZ (d,k,w)
 | .hour d a b=>oj (d,a,b)
 | .pace g k a b=>m8 (g,k,a,b)
theorem G'{e:Ent}(h:gX e):jA (lW vq e):=by
 have n:∀{α:Type}{x:α},x∈([]:List α)->False:=λh=>by cases h
 cases e with
 |kind a k=>
  refine⟨aO rfl,aO rfl,aO rfl,aO rfl,aO rfl,aO rfl,λq hq=>?_,λq hq=>(n hq).elim,λq hq=>(n hq).elim,λq hq=>(n hq).elim,λq hq=>(n hq).elim,λq hq=>(n hq).elim,aO rfl,λq hq=>(n hq).elim⟩
  rw[aK.mp hq];refine⟨h.1,?_⟩
  cases k with
  |none=>trivial
  |some i=>exact(h.2 i rfl).2
 |gate a=>
  refine⟨aO rfl,aO rfl,aO rfl,aO rfl,aO rfl,aO rfl,λq hq=>(n hq).elim,λq hq=>?_,λq hq=>(n hq).elim,λq hq=>(n hq).elim,λq hq=>(n hq).elim,λq hq=>(n hq).elim,aO rfl,λq hq=>(n hq).elim⟩
  rw[aK.mp hq];exact h
 |line a r=>
  refine⟨aO rfl,aO rfl,aO rfl,aO rfl,aO rfl,aO rfl,λq hq=>(n hq).elim,λq hq=>(n hq).elim,λq hq=>?_,λq hq=>(n hq).elim,λq hq=>(n hq).elim,λq hq=>(n hq).elim,aO rfl,λq hq=>(n hq).elim⟩
  rw[aK.mp hq];exact⟨h.1,h.2.2⟩
 |desk d=>
  refine⟨aO rfl,aO rfl,aO rfl,aO rfl,aO rfl,aO rfl,λq hq=>(n hq).elim,λq hq=>(n hq).elim,λq hq=>(n hq).elim,λq hq=>?_,λq hq=>(n hq).elim,λq hq=>(n hq).elim,aO rfl,λq hq=>(n hq).elim⟩
  rw[aK.mp hq];obtain⟨h1,h2,h3,h4,h5,h6,h7⟩:=h;exact⟨h1,h2,h3.ok (by omega),by omega,h7⟩
 |time d k wk=>
  refine⟨aO rfl,aO rfl,aO rfl,aO rfl,aO rfl,aO rfl,λq hq=>(n hq).elim,λq hq=>(n hq).elim,λq hq=>(n hq).elim,λq hq=>(n hq).elim,λq hq=>?_,λq hq=>(n hq).elim,aO rfl,λq hq=>(n hq).elim⟩
  rw[aK.mp hq];exact⟨h.1,h.2.1,h.2.2.2⟩
 |hour d a b=>
  refine⟨aO rfl,aO rfl,aO rfl,aO rfl,aO rfl,aO rfl,λq hq=>(n hq).elim,λq hq=>(n hq).elim,λq hq=>(n hq).elim,λq hq=>(n hq).elim,λq hq=>(n hq).elim,λq hq=>?_,aO rfl,λq hq=>(n hq).elim⟩
  rw[aK.mp hq];exact⟨h.1,h.2.1,h.2.2.1⟩
 |pace g k a b=>
  refine⟨aO rfl,aO rfl,aO rfl,aO rfl,aO rfl,aO rfl,λq hq=>(n hq).elim,λq hq=>(n hq).elim,λq hq=>(n hq).elim,λq hq=>(n hq).elim,λq hq=>(n hq).elim,λq hq=>(n hq).elim,aO rfl,λq hq=>?_⟩
  rw[aK.mp hq];exact⟨h.1,h.2.1,h.2.2.1.2,h.2.2.2.2⟩
theorem MR(e:Ent):dI (lW vq e)=[ez e]/\z_ (lW vq e)=[e]:=by cases e<;>exact⟨rfl,rfl⟩
theorem xq{e:Ent}(h:gX e):nO (ez e)/\(ez e).length<=1400/\10∉(ez e).cps.toList/\wordsOf (ez e)=rT e:=by
 obtain⟨e1,e2⟩:=MR e;have ok:=G' h;have a:=BV ok (ez e) (by rw[e1];exact aK.mpr rfl)
 obtain⟨b,c⟩:=Aa ok;rw[e1,e2]at c;exact⟨a.1,a.2,b _ (by rw[e1];exact aK.mpr rfl),by simpa using c⟩
theorem Dw:dI p=(z_ p).map ez:=by
 unfold dI ny nX z_;simp only[aV,bf];rfl
theorem Xm(y x z:Str)(l:List Str):cL y (x::z::l)=x++y++cL y (z::l):=rfl
theorem Af(y x:Str):cL y [x]=x:=rfl
structure QZ(X:Cx)(a:cx)(δ:List Slot)(x:Str)(n:Nat):Prop where
 ve:VE X a δ (.str x)
 len:x.length<=n
section
variable{X:Cx}{a b:cx}{δ:List Slot}{x y z:Str}{n m:Nat}{pos:Pos}{j}
theorem cu(h:x.length<=n:=by decide):QZ X (.Constant (.str x) j pos) δ x n:=⟨aL,h⟩
theorem bM(h1:QZ X a δ x n)(h2:QZ X b δ y m)(h:n+m<=100000:=by decide):QZ X (.BinOp a .Add b pos) δ (x++y) (n+m):=
 ⟨gv h1.ve h2.ve (small (by have:=h1.len;have:=h2.len;omega)),by rw[bJ];have:=h1.len;have:=h2.len;omega⟩
theorem eR(h1:VE X a δ (.str x))(h:cZ x):QZ X a δ x 8:=⟨h1,h.short⟩
theorem lr(h:VE X a δ (.str x))(hl:x.length<=n):QZ X a δ x n:=⟨h,hl⟩
theorem fD(h:QZ X a δ x n)(e:x=y):VE X a δ (.str y):=by rw[<-e];exact h.ve
end
theorem zbr:cK 7="7":=by symm
theorem zbs:cK 3="3":=by symm
theorem zbt:cK 9="9":=by symm
theorem Xn:cK 1="1":=by symm
theorem zbu:cK 2="2":=by symm
theorem zbv:cK 4="4":=by symm
theorem zbw:cK 0="0":=by symm
theorem Xo:cK 99="99":=by symm
theorem Xp:cK 999999="999999":=by symm
theorem text_rows{rows:List Str}(hr:∀r∈rows,nO r/\r.length<=1400)(hl:rows.length<=70):wD (cL "\n" rows):=by
 refine⟨?_,oQ gL λx hx=>(hr x hx).1⟩
 have h1:=gQ (y:=("\n":Str)) (by decide) λx hx=>(hr x hx).2
 have h2:rows.length*(1400+1)<=70*1401:=ic hl (ay _);omega
def rL:List Str:=("abcdefghijklmnopqrstuvwxyz":Str).cps.toList.map λc=>"n"++(⟨#[c]⟩:Str)++"w"
def dD:List Str:=["extra","maw","mbw","mcw","mdw","mew"]
def Dx(x:Str):Bool:=decide (1<=x.cps.toList.length)&&(decide (x.cps.toList.length<=8)&&x.cps.toList.all λc=>decide (97<=c)&&decide (c<123))
theorem Ag{x:Str}(h:Dx x=true):cZ x:=by
 unfold Dx at h;simp only[kP,decide_eq_true_eq,dU]at h;exact⟨h.1,h.2.1,λc hc=>h.2.2 c hc⟩
theorem Dy:∀x∈rL,cZ x/\x∉dD:=by
 have h:(rL.all λx=>Dx x && !decide (x∈dD))=true:=by symm
 intro x hx;have:=dU.mp h x hx;simp only[kP,Bool.not_eq_true',decide_eq_false_iff_not]at this;exact⟨Ag this.1,this.2⟩
theorem qB:∀x∈dD,cZ x:=by
 have h:(dD.all Dx)=true:=by symm
 exact λx hx=>Ag (dU.mp h x hx)
theorem xX:dD.Nodup:=by symm
theorem E8:rL.Nodup:=by symm
theorem BW:rL.length=26:=by symm
def jK(p:Pl):List Str:=p.kinds.map (·.1)++p.gates++p.lines.map (·.1)++p.desks.map (·.name)
def gw(p:Pl):List Str:=rL.filter λx=>!decide (x∈jK p)
theorem sub_len{α:Type}[DecidableEq α]:∀{l m:List α},l.Nodup->(∀x∈l,x∈m)->l.length<=m.length
 | [],m,_,_=>bj _
 |x::l,m,hn,h=>by
  obtain⟨h1,h2⟩:=eW.mp hn;have hx:=h x aS;have:=sub_len (m:=m.erase x) h2 λy hy=>(List.mem_erase_of_ne (λz:y=x=>h1 (by rw[<-z];exact hy))).mpr (h y (aZ _ hy))
  rw[List.length_erase_of_mem hx]at this;have:=List.length_pos_of_mem hx;rw[aX];omega
theorem MS(p:Pl)(h:(jK p).length<=20):6<=(gw p).length:=by
 have e:rL.length=(rL.filter λx=>!decide (x∈jK p)).length+(rL.filter λx=>decide (x∈jK p)).length:=by
  have:∀l:List Str,l.length=(l.filter λx=>!decide (x∈jK p)).length+(l.filter λx=>decide (x∈jK p)).length:=by
   intro l
   induction l with
   |nil=>rfl
   |cons x l ih=>
    rw[e8,e8];by_cases hx:x∈jK p
    ·rw[qQ2 (by rw[qQ1 hx];decide),qQ3 (qQ1 hx),aX,aX];omega
    ·rw[qQ3 (by rw[qQ0 hx];rfl),qQ2 (by rw[qQ0 hx];decide),aX,aX];omega
  exact this _
 have h2:(rL.filter λx=>decide (x∈jK p)).length<=(jK p).length:=sub_len (E8.sublist List.filter_sublist) λx hx=>qQ4 (om.mp hx).2
 rw[BW]at e;unfold gw;omega
def nw(p:Pl)(k:Nat):Str:=(gw p).getD k ""
theorem tN(p:Pl)(h:(jK p).length<=20){k:Nat}(hk:k<6):tX ((gw p).map aQ) (k:Int)=some (.str (nw p k))/\cZ (nw p k)/\nw p k∉dD/\nw p k∉jK p:=by
 have hl:=MS p h;have e:nw p k=(gw p)[k]'(by omega):=by unfold nw;rw[aJ,ax (by omega)];rfl
 have hm:nw p k∈gw p:=by rw[e];exact dv _
 obtain⟨h1,h2⟩:=om.mp hm;have h2:decide (nw p k∈jK p)=false:=by simpa using h2
 exact⟨ck (by rw[aW,ax (by omega),e];rfl),(Dy _ h1).1,(Dy _ h1).2,qQ5 h2⟩
def twoL(x:Str):Prop:=∃s:Nat,(x.cps.toList.filter λc=>!decide (c=s)).length<=1
theorem rq(n c:Nat):(aT n c).filter (λz=>!decide (z=c))=[]:=by
 rw[sf];intro a ha;rw[(iU.mp ha).2];simp
theorem Ke{many:Nat}{x:Str}(h:x∈namesOf cell many):twoL x:=by
 unfold namesOf at h
 split at h
 ·obtain⟨k,_,rfl⟩:=aA.mp h
  have e:(nameA (cY cell 3) many k).cps.toList=aT (many-k) (97+(cY cell 3/3%26).toNat):=yE _ _;exact⟨_,by rw[e,rq];decide⟩
 ·obtain⟨k,_,rfl⟩:=aA.mp h
  refine⟨97+(cY cell 3/4992%26).toNat,?_⟩
  rw[Ab,ub,List.take_replicate,List.drop_replicate,o9,rq,e8,oq]
  split
  ·rw[rq];exact ay _
  ·rw[rq];exact bj _
theorem Kf:∀x∈dD,¬twoL x:=by
 intro x hx ⟨s,hs⟩;have e:∀x∈dD,∃a b c l,x.cps.toList=a::b::c::l/\a≠b/\a≠c/\b≠c:=by
  intro x hx;simp only[dD,aE,bB,or_false]at hx;rcases hx with rfl|rfl|rfl|rfl|rfl|rfl<;>exact⟨_,_,_,_,rfl,by decide,by decide,by decide⟩
 obtain⟨a,b,c,l,e,h1,h2,h3⟩:=e x hx;rw[e,e8,e8,e8]at hs;by_cases ea:a=s
 ·subst ea
  rw[qQ3 (show(!decide (b=a))=true by rw[qQ0 h1.symm];rfl),qQ3 (show(!decide (c=a))=true by rw[qQ0 h2.symm];rfl),qQ2 (by simp)]at hs
  simp at hs
 ·rw[qQ3 (show(!decide (a=s))=true by rw[qQ0 ea];rfl)]at hs
  by_cases eb:b=s
  ·subst eb
   rw[qQ3 (show(!decide (c=b))=true by rw[qQ0 h3.symm];rfl)]at hs
   split at hs<;>simp at hs
  ·rw[qQ3 (show(!decide (b=s))=true by rw[qQ0 eb];rfl)]at hs
   simp at hs
structure P4(p:Pl):Prop where
 ok:jA p
 gd:z8 p
 k1:1<=p.kinds.length
 g1:1<=p.gates.length
 g6:p.gates.length<=6
 d1:1<=p.desks.length
 few:(jK p).length<=20
 pl:∀x∈p.gates++p.lines.map (·.1),x∉dD
 rm:∀q∈p.lines,q.2<=1000
 rows:(dI p).length<=50
theorem Kg(l:List (Str×Option Int)):(l.map kK).filterMap Tr=(l.map (·.1)).map .str:=by
 rw[cw,bf];exact filterMap_some λk _=>rfl
theorem Kh(l:List (Str×Int)):(l.map jU).filterMap Tr=(l.map (·.1)).map .str:=by
 rw[cw,bf];exact filterMap_some λk _=>rfl
def Xq:ao->Option ao
 | .str x=>some (.str ("n"++x++"w"))
 |_=>none
theorem MT:(jR "abcdefghijklmnopqrstuvwxyz").filterMap Xq=rL.map .str:=by
 unfold jR rL;rw[cw,bf];exact filterMap_some λk _=>rfl
def MV(l:List Str):ao->Option ao
 | .str x=>if(!decide (x∈l))=true then some (.str x)else none
 |_=>none
theorem MX(l m:List Str):(m.map aQ).filterMap (MV l)=(m.filter λx=>!decide (x∈l)).map .str:=by
 induction m with
 |nil=>rfl
 |cons x m ih=>
  rw[aN,e8];by_cases h:(!decide (x∈l))=true
  ·rw[eA (show MV l (.str x)=some (.str x)from qQ3 h),qQ3 h,ih];rfl
  ·rw[fU (show MV l (.str x)=none from qQ2 h),qQ2 h,ih]
def Rnw(ds:List ao)(d:ao):Prop:=∃p:Pl,ds=[eZ p]/\jA p/\d=.list ((gw p).map .str)
abbrev Nnw:List Str:=["_law_h","_law_told"]
section
variable{P:bL}{w:cH}{K:au}{mg:Str->Option aG}{base:dw}{f:aR}{k:Nat}
theorem Q0:c7 Nnw ["_law_h"] (bV (top 52)):=⟨rfl,rfl,rfl,by symm,rfl,by symm,by symm⟩
theorem zbx(F:mw K "_law_news" "_law_news" (top 52) f fd):fA P w K mg base kR 1 f fd ["_law_h"] (iE K Rnw):=
 ko F Q0 (λ_ _ h=>by obtain⟨_,rfl,_⟩:=h;rfl) λ_ _ h=>by
  obtain⟨p,rfl,ok,rfl⟩:=h;intro iD A outer s H E hr;have nd:Nnw.Nodup:=Q0.nd;have b1:=ok.kn;have b2:=ok.gn;have b3:=ok.ln;have b4:=ok.dn;have nc:(["_law_one"]:List Str).Nodup:=by symm
  have ns:(["_law_sign"]:List Str).Nodup:=by symm
  have nn:(["_law_name","_law_told"]:List Str).Nodup:=by symm
  refine aI (dq 1 (d:=.list ((p.kinds.map (·.1)).map aQ++p.gates.map aQ++(p.lines.map (·.1)).map aQ)) (VO.ve (iw (VO.ve (iw (VO.ve (VO.to (fJ (own:=["_law_one"]) (cap:=[]) (N:=["_law_one"]) (cl:=[]) (tgt:=.one 0) (F:=Tr) (ds:=p.kinds.map kK) rfl ⟨rfl,by symm,by symm,rfl,rfl,by simp⟩ (gK (fk hr (ai 0 rfl) aL (qx p))) (λf s3 H3=>bP (i:=0) nc rfl (bq rfl)) rfl (small (by rw[aj];omega)) (λd hd=>?_)) (Kg _))) (fk hr (ai 0 rfl) aL (tD p)) (small (by simp only[aj];omega)))) (VO.ve (VO.to (fJ (own:=["_law_one"]) (cap:=[]) (N:=["_law_one"]) (cl:=[]) (tgt:=.one 0) (F:=Tr) (ds:=p.lines.map jU) rfl ⟨rfl,by symm,by symm,rfl,rfl,by simp⟩ (gK (fk hr (ai 0 rfl) aL (oN p))) (λf s3 H3=>bP (i:=0) nc rfl (bq rfl)) rfl (small (by rw[aj];omega)) (λd hd=>?_)) (Kh _))) (small (by simp only[aj,aH];omega)))) nd) ?_
  ·obtain⟨z,hz,rfl⟩:=aA.mp hd
   refine⟨_,rfl,λf s3 H3=>fQ,λr jT f s3 H3=>?_⟩
   cases jT;exact cC (ai 0 rfl) aD (ck (j:=0) rfl)
  ·obtain⟨z,hz,rfl⟩:=aA.mp hd
   refine⟨_,rfl,λf s3 H3=>fQ,λr jT f s3 H3=>?_⟩
   cases jT;exact cC (ai 0 rfl) aD (ck (j:=0) rfl)
  refine aI (dq 1 (d:=.list ((jK p).map .str)) (VE.to (VO.ve (iw (ai 1 rfl) (VO.ve (VO.to (fJ (own:=["_law_one"]) (cap:=[]) (N:=["_law_one"]) (cl:=[]) (tgt:=.one 0) (F:=Tr) (ds:=p.desks.map eE) rfl ⟨rfl,by symm,by symm,rfl,rfl,by simp⟩ (gK (fk hr (ai 0 rfl) aL (vZ p))) (λf s3 H3=>bP (i:=0) nc rfl (bq rfl)) rfl (small (by rw[aj];omega)) (λd hd=>?_)) (IJ _))) (small (by simp only[aj,aH];omega)))) (by unfold jK;simp only[aV])) nd) ?_
  ·obtain⟨z,hz,rfl⟩:=aA.mp hd
   refine⟨_,rfl,λf s3 H3=>fQ,λr jT f s3 H3=>?_⟩
   cases jT;exact cC (ai 0 rfl) aD (ck (j:=0) rfl)
  have hlay:Lay 20 (.list ((jK p).map aQ)):=ui λx hx=>by
   unfold jK at hx;simp only[bp,aA]at hx;rcases hx with((⟨q,hq,rfl⟩|hx)|⟨q,hq,rfl⟩)|⟨q,hq,rfl⟩
   ·exact(ok.kinds q hq).1
   ·exact ok.gates x hx
   ·exact(ok.lines q hq).1
   ·exact(ok.desks q hq).1
  refine bw (cD (VO.ve (VO.to (fJ (own:=["_law_name"]) (cap:=[1]) (N:=["_law_name","_law_told"]) (tgt:=.one 0) (F:=MV (jK p)) (ds:=rL.map .str) rfl ⟨rfl,by symm,by symm,rfl,rfl,?_⟩ (gK (VO.ve (VO.to (fJ (own:=["_law_sign"]) (cap:=[]) (N:=["_law_sign"]) (cl:=[]) (tgt:=.one 0) (F:=Xq) (ds:=jR "abcdefghijklmnopqrstuvwxyz") rfl ⟨rfl,by symm,by symm,rfl,rfl,by simp⟩ (CZ aL) (λf s3 H3=>bP (i:=0) ns rfl (bq rfl)) rfl (small (by symm)) (λd hd=>?_)) MT))) (λf s3 H3=>bP (i:=0) nn rfl (bq rfl)) rfl (small (by rw[aj,BW];decide)) (λd hd=>?_)) (MX _ _))))
  ·intro j hj
   rcases aE.mp hj with rfl|hj
   ·exact⟨(by show(1:Nat)<2;decide),(by first|exact bq rfl|exact di rfl),rfl⟩
   ·cases hj
  ·obtain⟨z,hz,rfl⟩:=aA.mp hd
   refine⟨_,rfl,λf s3 H3=>fQ,λr jT f s3 H3=>?_⟩
   cases jT;have e1:("n":Str).length=1:=by decide
   have e2:("w":Str).length=1:=by decide
   have e3:(⟨#[z]⟩:Str).length=1:=rfl;exact gv (gv aL (ai 0 rfl) (small (by omega))) aL (small (by simp only[bJ];omega))
  ·obtain⟨z,hz,rfl⟩:=aA.mp hd
   refine⟨_,rfl,λf s3 H3=>yy (VT.to (Eb hr rfl (bH (Dy z hz).1.ok.2) hlay (ai 0 rfl) (ai 1 rfl)) (by rw[mS];unfold MV;by_cases h:z∈jK p<;>simp[h])),λr jT f s3 H3=>?_⟩
   have jT:(if(!decide (z∈jK p))=true then some (aQ z)else none)=some r:=jT
   split at jT
   ·cases jT;exact ai 0 rfl
   ·cases jT
end
def dk0:Dk:=⟨"","",.eldest,[]⟩
def pickK(p:Pl)(m:Int):Str:=(pickOf p.kinds ("",none) m).1
def kL(p:Pl)(m:Int):Str:=pickOf p.gates "" (m/5)
def jx(p:Pl)(m:Int):Dk:=pickOf p.desks dk0 (m/7)
def Rpk(ds:List ao)(d:ao):Prop:=∃(p:Pl)(m:Int),ds=[eZ p,.int m]/\P4 p/\d=.tuple [.str (pickK p m),.str (kL p m),eE (jx p m)]
abbrev Npk:List Str:=["_law_h","_law_m","_law_kind","_law_gate"]
section
variable{P:bL}{w:cH}{K:au}{mg:Str->Option aG}{base:dw}{f:aR}{k:Nat}
theorem Q5:c7 Npk ["_law_h","_law_m"] (bV (top 53)):=⟨rfl,rfl,rfl,by symm,rfl,by symm,by symm⟩
theorem zbA(F:mw K "_law_picked" "_law_picked" (top 53) f fd)(n:Na mg):fA P w K mg base kR 1 f fd ["_law_h","_law_m"] (iE K Rpk):=
 ko F Q5 (λ_ _ h=>by obtain⟨_,_,rfl,_⟩:=h;rfl) λ_ _ h=>by
  obtain⟨p,m,rfl,hp,rfl⟩:=h;intro iD A outer s H E hr;have nd:Npk.Nodup:=Q5.nd;have hk:=hp.k1;have hg:=hp.g1;have hd1:=hp.d1;obtain⟨pk,_⟩:=jm (d:=(("",none):Str×Option Int)) (F:=kK) hk m;obtain⟨pg,_⟩:=jm (d:=("":Str)) (F:=aQ) hg (m/5);obtain⟨pd,_⟩:=jm (d:=dk0) (F:=eE) hd1 (m/7);refine aI (dq 2 (d:=.str (pickK p m)) (cC (eX (fk hr (ai 0 rfl) aL (qx p)) (VE.to (cU (ai 1 rfl) (jg (fk hr (ai 0 rfl) aL (qx p)) n.len) (by rw[aj];omega)) (by rw[aj])) pk) aD rfl) nd) ?_
  refine aI (dq 3 (eX (fk hr (ai 0 rfl) aL (tD p)) (VE.to (cU (fB (ai 1 rfl) aD ⟨by decide,by decide⟩) (jg (fk hr (ai 0 rfl) aL (tD p)) n.len) (by rw[aj];omega)) (by rw[aj])) pg) nd) ?_
  exact bw (cD (gu (aq (ai 2 rfl) (aq (ai 3 rfl) (aq (eX (fk hr (ai 0 rfl) aL (vZ p)) (VE.to (cU (fB (ai 1 rfl) aD ⟨by decide,by decide⟩) (jg (fk hr (ai 0 rfl) aL (vZ p)) n.len) (by rw[aj];omega)) (by rw[aj])) pd) a7)))))
end
end Mg
namespace Mg
open L2 PySem PyProof.Rows
variable{d:Dk}{e:Ent}{es:List Ent}{xs:List Str}{k:Nat}{p st:Pl}{r:Rl}{t x:Str}{q:Str×Int}
def mj(p:Pl):Pl:={ p with gates:=p.gates++dD }
def rA(p:Pl)(m:Int):Str:=(jx p m).places.getD 0 ""
def ia(a t:Str)(r:Rl)(ps:List Str):Ent:=.desk ⟨a,t,r,ps⟩
def twBase(p:Pl)(m:Int):List Ent:=[.kind (pickK p m) (some 7),.gate (kL p m),.line (kL p m) 3,ia (jx p m).name "" .eldest [nw p 0],ia (nw p 1) "" .eldest [pickOf (jx p m).places "" (m/50)],ia (nw p 1) (nw p 2) (.many 9) [nw p 0,rA p m]]
def twLine(p:Pl)(m:Int)(q:Str×Int):List Ent:=[.gate q.1,.line q.1 9,ia (nw p 1) q.1 (.many (q.2+1)) [rA p m]]
def twL(p:Pl)(m:Int):List Ent:=twBase p m++(p.lines.map (twLine p m)).flatten++p.times.map (λq=>.time q.1 q.2.1 5)++p.paces.map λq=>.pace q.1 (nw p 0) 1 1
def kB(p:Pl)(m:Int):List Ent:=[ia (nw p 1) "" .eldest [nw p 0],ia (nw p 1) (kL p m) .eldest ["extra"],ia (nw p 1) (nw p 2) .eldest ["extra"],ia (nw p 1) (kL p m) (.many 99) [nw p 0],.time (nw p 1) (pickK p m) 1,.time (jx p m).name (nw p 0) 1,.hour (nw p 0) 1 2,.pace (nw p 0) (pickK p m) 1 1,.pace "extra" (nw p 0) 1 1]
def MY(p:Pl)(m:Int):List Ent:=kB p m++p.lines.map λq=>.pace q.1 (pickK p m) 1 1
def YC:Str×Int:=("",0)
def lD(p:Pl)(m:Int):Str×Int:=pickOf p.lines YC m
def BX(r:Int)(j:Int):Rl:=if j=0 then .many (r+1)else if j=1 then .gather (r+1) 4 else if j=2 then .many (r+2)else .many 999999
def tP(r:Int)(j:Int):Rl:=if j=0 then .many r else if j=1 then .gather r 0 else if j=2 then .eldest else .rank none
def Uz(p:Pl)(m:Int):Ent:=if(lD p m).2<6/\m/16%2=0 then ia (nw p 1) (lD p m).1 .meet ("extra"::(dD.drop 1).take (lD p m).2.toNat)else ia (nw p 1) (lD p m).1 (BX (lD p m).2 (m/4%4)) ["extra"]
def UA(p:Pl)(m:Int):Ent:=ia (nw p 1) (lD p m).1 (tP (lD p m).2 (m/4%4)) ["extra"]
section
variable{p:Pl}(hp:P4 p)
include hp
theorem wj(m:Int):jx p m∈p.desks:=(jm (d:=dk0) (F:=eE) hp.d1 (m/7)).2
theorem IU(m:Int):pickK p m∈p.kinds.map (·.1):=aA.mpr ⟨_,(jm (d:=(("",none):Str×Option Int)) (F:=kK) hp.k1 m).2,rfl⟩
theorem wm(m:Int):cZ (pickK p m):=by
 obtain⟨q,hq,e⟩:=aA.mp (IU hp m);rw[<-e];exact(hp.ok.kinds q hq).1
theorem yJ(m:Int):kL p m∈p.gates:=(jm (d:=("":Str)) (F:=aQ) hp.g1 (m/5)).2
theorem tQ(m:Int):cZ (kL p m):=hp.ok.gates _ (yJ hp m)
theorem um(hd:d∈p.desks):1<=d.places.length/\∀x∈d.places,cZ x/\x∈p.gates++p.lines.map (·.1):=by
 obtain⟨⟨_,_,_,h4,_,_,h7⟩,h2,_⟩:=hp.gd.dk d hd;exact⟨h4,λx hx=>⟨h7 x hx,h2 x hx⟩⟩
theorem BZ(m:Int):rA p m∈(jx p m).places:=by
 have h:=(um hp (wj hp m)).1;unfold rA;rw[aJ,ax (by omega)]
 exact dv _
theorem yK(h:x∈p.gates++p.lines.map (·.1)):x∈jK p:=by
 unfold jK;rcases bp.mp h with h|h
 ·exact cq _ (cq _ (bX _ h))
 ·exact cq _ (bX _ h)
theorem nR(hk:k<6):cZ (nw p k)/\nw p k∉dD/\nw p k∉p.gates/\nw p k∉p.lines.map (·.1)/\nw p k∉p.kinds.map (·.1)/\nw p k∉p.desks.map (·.name):=by
 obtain⟨_,h1,h2,h3⟩:=tN p hp.few hk;refine⟨h1,h2,λz=>h3 (yK hp (cq _ z)),λz=>h3 (yK hp (bX _ z)),λz=>h3 ?_,λz=>h3 ?_⟩
 ·unfold jK;exact cq _ (cq _ (cq _ z))
 ·unfold jK;exact bX _ z
theorem E9(hk:k<6):¬f6 (mj p) (nw p k):=by
 obtain⟨_,h2,h3,h4,_⟩:=nR hp hk
 rintro(z|z)
 ·rcases bp.mp z with z|z
  ·exact h3 z
  ·exact h2 z
 ·exact h4 z
theorem B1(h:x∉p.gates++p.lines.map (·.1)):iN (mj p) x=false:=by
 unfold iN;rw[j7];intro d hd z;exact h ((um hp hd).2 x (qQ4 z)).2
theorem E_(hk:k<6):iN (mj p) (nw p k)=false:=B1 hp λz=>(tN p hp.few hk).2.2.2 (yK hp z)
theorem rB(h:x∈dD):iN (mj p) x=false:=B1 hp λz=>hp.pl x z h
theorem xY(h:x∈dD):f6 (mj p) x:=.inl (bX _ h)
theorem B2(h:x∈p.gates):x∉p.lines.map (·.1):=λz=>(dY.mp hp.gd.pn).2.2 x h x z rfl
theorem Ki(h:x∈p.lines.map (·.1)):x∉p.gates++dD:=λz=>by
 rcases bp.mp z with z|z
 ·exact B2 hp z h
 ·exact hp.pl x (bX _ h) z
theorem xr(h:x∉p.gates):x∉p.paces.map (·.1):=λz=>by
 obtain⟨q,hq,rfl⟩:=aA.mp z;exact h (hp.gd.pp q hq).1
theorem k_{a: Str}(ha:cZ a)(ht:t=""\/cZ t)(hr:pZ r 1)(hx:cZ x):gX (ia a t r [x]):=⟨ha,ht,hr,ay _,(by show 1<=6;decide),DV _ _,λy hy=>by rw[aK.mp hy];exact hx⟩
theorem tw_of(h:twiceB (mj p) e=true):kA (mj p) e="twice":=by unfold kA;rw[qQ3 h]
theorem uQ(h:twiceB (mj p) e=false)(h2:rn (mj p) e=true):kA (mj p) e="name":=by unfold kA;rw[h,qQ2 (by decide),qQ3 h2]
theorem Xr(h:twiceB (mj p) e=false)(h2:rn (mj p) e=false)(h3:zW (mj p) e=true):kA (mj p) e="room":=by unfold kA;rw[h,h2,qQ2 (by decide),qQ2 (by decide),qQ3 h3]
theorem tw_desk1{a: Str}(ha:a∈p.desks.map (·.name)):twiceB (mj p) (ia a t r [x])=true:=by
 show(decide (gZ (mj p) a)||_)=true
 rw[qQ1 (show gZ (mj p) a from ha)];rfl
theorem tw_desk2{a: Str}(hd:d∈p.desks)(hx:x∈d.places)(h:x∈xs):twiceB (mj p) (ia a t r xs)=true:=by
 show(_||rJ (xs.map (iN (mj p))))=true
 rw[jf];refine .inr ?_
 unfold rJ;rw[xB,nD];refine⟨x,h,?_⟩
 show iN (mj p) x=true;unfold iN;exact nD.mpr ⟨d,hd,qQ1 hx⟩
theorem tw_deskN(h:∀x∈xs,iN (mj p) x=false):twiceB (mj p) (ia (nw p 1) t r xs)=false:=by
 show(decide (gZ (mj p) (nw p 1))||rJ (xs.map (iN (mj p))))=false
 rw[qQ0 (show ¬gZ (mj p) (nw p 1) from(nR hp (k:=1) (by decide)).2.2.2.2.2),DI]
 unfold rJ;rw[xB,j7];intro x hx z;rw[show(id∘iN (mj p)) x=iN (mj p) x from rfl,h x hx]at z
 cases z
theorem tw_bad(m:Int):∀e∈twL p m,gX e/\kA (mj p) e="twice":=by
 intro e he;have hd:=wj hp m;obtain⟨pl1,TR⟩:=um hp hd;have n0:=nR hp (k:=0) (by decide)
 have n1:=nR hp (k:=1) (by decide)
 have n2:=nR hp (k:=2) (by decide)
 have p0:=BZ hp m;have np0:nw p 0≠rA p m:=λz=>(tN p hp.few (k:=0) (by decide)).2.2.2 (by rw[z];exact yK hp (TR _ p0).2)
 unfold twL at he;rcases bp.mp he with he|he
 rcases bp.mp he with he|he
 rcases bp.mp he with he|he
 ·simp only[twBase,aE,bB,or_false]at he
  rcases he with rfl|rfl|rfl|rfl|rfl|rfl
  ·exact⟨⟨wm hp m,λi e=>by cases e;exact⟨by decide,by decide,by decide⟩⟩,tw_of hp (qQ1 (IU hp m))⟩
  ·exact⟨tQ hp m,tw_of hp (qQ1 (.inl (cq _ (yJ hp m))))⟩
  ·exact⟨⟨tQ hp m,by decide,by decide,by decide⟩,tw_of hp (qQ1 (.inl (cq _ (yJ hp m))))⟩
  ·exact⟨k_ hp (hp.ok.desks _ hd).1 (.inl rfl) trivial n0.1,tw_of hp (tw_desk1 hp (aA.mpr ⟨_,hd,rfl⟩))⟩
  ·obtain⟨_,YD⟩:=jm (d:=("":Str)) (F:=aQ) pl1 (m/50)
   exact⟨k_ hp n1.1 (.inl rfl) trivial (TR _ YD).1,tw_of hp (tw_desk2 hp hd YD (aK.mpr rfl))⟩
  ·refine⟨⟨n1.1,.inr n2.1,⟨by decide,by decide,by decide⟩,(by show 1<=2;decide),(by show 2<=6;decide),?_,λy hy=>?_⟩,tw_of hp (tw_desk2 hp hd p0 (aZ _ (aK.mpr rfl)))⟩
   ·exact eW.mpr ⟨λz=>np0 (aK.mp z),DV _ _⟩
   ·rcases aE.mp hy with rfl|hy
    ·exact n0.1
    ·rw[aK.mp hy];exact(TR _ p0).1
 ·obtain⟨l,hl,he⟩:=yp.mp he
  obtain⟨q,hq,rfl⟩:=aA.mp hl;have Q6:q.1∈p.lines.map (·.1):=aA.mpr ⟨q,hq,rfl⟩
  have hqW:=(hp.ok.lines q hq).1;have q1:=hp.gd.ll q hq;have q2:=hp.rm q hq;simp only[twLine,aE,bB,or_false]at he;rcases he with rfl|rfl|rfl
  ·exact⟨hqW,tw_of hp (qQ1 (.inr Q6))⟩
  ·exact⟨⟨hqW,by decide,by decide,by decide⟩,tw_of hp (qQ1 (.inr Q6))⟩
  ·exact⟨k_ hp n1.1 (.inr hqW) ⟨by omega,by omega,by omega⟩ (TR _ p0).1,tw_of hp (tw_desk2 hp hd p0 (aK.mpr rfl))⟩
 ·obtain⟨q,hq,rfl⟩:=aA.mp he
  obtain⟨h1,h2,h3⟩:=hp.ok.times q hq;exact⟨⟨h1,h2,by decide,by decide,by decide⟩,tw_of hp (qQ1 (aA.mpr ⟨q,hq,rfl⟩))⟩
 ·obtain⟨q,hq,rfl⟩:=aA.mp he
  exact⟨⟨(hp.ok.paces q hq).1,n0.1,⟨by decide,by decide,by decide⟩,by decide,by decide,by decide⟩,tw_of hp (qQ1 (aA.mpr ⟨q,hq,rfl⟩))⟩
theorem yL(h:(t≠""/\t∉p.lines.map (·.1))\/¬f6 (mj p) x):rn (mj p) (ia (nw p 1) t r [x])=true:=by
 show(!(decide (t="")||decide (t∈p.lines.map (·.1))) || !mE [decide (f6 (mj p) x)])=true
 rcases h with⟨h1,h2⟩|h
 ·rw[qQ0 h1,qQ0 h2];rfl
 ·rw[qQ0 h,jf];exact .inr rfl
theorem TV(m:Int):∀e∈MY p m,gX e/\kA (mj p) e="name":=by
 intro e he;have hd:=wj hp m;have n0:=nR hp (k:=0) (by decide)
 have n1:=nR hp (k:=1) (by decide)
 have n2:=nR hp (k:=2) (by decide)
 have gW:=tQ hp m;have gl:=B2 hp (yJ hp m);have kW:=wm hp m;have nn:∀{x:Str},cZ x->x≠"":=λh=>(gy h).1
 have ex:("extra":Str)∈dD:=aS;have Q7:=qB _ ex;have f1:∀{x y:Str},y=x->iN (mj p) x=false->∀z∈[y],iN (mj p) z=false:=λe h z hz=>by rw[aK.mp hz,e];exact h
 have pg0:nw p 0∉p.paces.map (·.1):=xr hp n0.2.2.1
 have pg1:("extra":Str)∉p.paces.map (·.1):=xr hp λz=>hp.pl _ (cq _ z) ex
 unfold MY at he;rcases bp.mp he with he|he
 ·simp only[kB,aE,bB,or_false]at he
  rcases he with rfl|rfl|rfl|rfl|rfl|rfl|rfl|rfl|rfl
  ·exact⟨k_ hp n1.1 (.inl rfl) trivial n0.1,uQ hp (tw_deskN hp (f1 rfl (E_ hp (by decide)))) (yL hp (.inr (E9 hp (by decide))))⟩
  ·exact⟨k_ hp n1.1 (.inr gW) trivial Q7,uQ hp (tw_deskN hp (f1 rfl (rB hp ex))) (yL hp (.inl ⟨nn gW,gl⟩))⟩
  ·exact⟨k_ hp n1.1 (.inr n2.1) trivial Q7,uQ hp (tw_deskN hp (f1 rfl (rB hp ex))) (yL hp (.inl ⟨nn n2.1,n2.2.2.2.1⟩))⟩
  ·exact⟨k_ hp n1.1 (.inr gW) ⟨by decide,by decide,by decide⟩ n0.1,uQ hp (tw_deskN hp (f1 rfl (E_ hp (by decide)))) (yL hp (.inl ⟨nn gW,gl⟩))⟩
  ·refine⟨⟨n1.1,kW,by decide,by decide,by decide⟩,uQ hp (qQ0 λz=>?_) ?_⟩
   ·obtain⟨q,hq,e⟩:=aA.mp z
    have:q.1=nw p 1:=(Prod.mk.inj e).1;exact n1.2.2.2.2.2 (this▸(hp.gd.tm q hq).1)
   ·show(!decide (gZ (mj p) (nw p 1))||_)=true
    rw[qQ0 (show ¬gZ (mj p) (nw p 1)from n1.2.2.2.2.2)];rfl
  ·refine⟨⟨(hp.ok.desks _ hd).1,n0.1,by decide,by decide,by decide⟩,uQ hp (qQ0 λz=>?_) ?_⟩
   ·obtain⟨q,hq,e⟩:=aA.mp z
    have:q.2.1=nw p 0:=(Prod.mk.inj e).2;exact n0.2.2.2.2.1 (this▸(hp.gd.tm q hq).2.1)
   ·show(_ || !vk (mj p) (nw p 0))=true
    rw[show vk (mj p) (nw p 0)=false from qQ0 n0.2.2.2.2.1,jf];exact .inr rfl
  ·refine⟨⟨n0.1,⟨by decide,by decide⟩,⟨by decide,by decide⟩,by decide⟩,uQ hp rfl ?_⟩
   show(!decide (gZ (mj p) (nw p 0)))=true
   rw[qQ0 (show ¬gZ (mj p) (nw p 0)from n0.2.2.2.2.2)];rfl
  ·refine⟨⟨n0.1,kW,⟨by decide,by decide,by decide⟩,by decide,by decide,by decide⟩,uQ hp (qQ0 pg0) ?_⟩
   show(!decide (nw p 0∈p.gates++dD)||_)=true
   rw[qQ0 λz=>(bp.mp z).elim n0.2.2.1 n0.2.1];rfl
  ·refine⟨⟨Q7,n0.1,⟨by decide,by decide,by decide⟩,by decide,by decide,by decide⟩,uQ hp (qQ0 pg1) ?_⟩
   show(_ || !vk (mj p) (nw p 0))=true
   rw[show vk (mj p) (nw p 0)=false from qQ0 n0.2.2.2.2.1,jf];exact .inr rfl
 ·obtain⟨q,hq,rfl⟩:=aA.mp he
  have Q6:q.1∈p.lines.map (·.1):=aA.mpr ⟨q,hq,rfl⟩
  have hng:=Ki hp Q6;have NM:q.1∉p.paces.map (·.1):=xr hp λz=>hng (cq _ z)
  refine⟨⟨(hp.ok.lines q hq).1,kW,⟨by decide,by decide,by decide⟩,by decide,by decide,by decide⟩,uQ hp (qQ0 NM) ?_⟩
  show(!decide (q.1∈p.gates++dD)||_)=true
  rw[qQ0 hng];rfl
theorem IV(hq:q∈p.lines):roomOf (mj p) q.1=q.2/\jv (kF (mj p)) q.1=some (.int q.2):=by
 have go:∀(l:List (Str×Int)),(l.map (·.1)).Nodup->q∈l->jv (l.map λz=>(z.1,iO z.2)) q.1=some (.int q.2):=by
  intro l
  induction l with
  |nil=>intro _ h;cases h
  |cons z l ih=>
   intro hn h;obtain⟨h1,h2⟩:=eW.mp hn;rw[aN];rcases aE.mp h with rfl|h
   ·exact fZ rfl
   ·rw[cP (show ¬z.1=q.1 from λe=>h1 (aA.mpr ⟨q,h,e.symm⟩))]
    exact ih h2 h
 have h:=go p.lines (dY.mp hp.gd.pn).2.1 hq;have h':jv (kF (mj p)) q.1=some (.int q.2):=h;exact⟨by unfold roomOf;rw[h'],h'⟩
theorem IW(hl:1<=p.lines.length)(m:Int):lD p m∈p.lines:=(jm (d:=YC) (F:=jU) hl m).2
theorem wo(hq:q∈p.lines)(hx:∀x∈xs,x∈dD)(hg:q.2<fH r xs.length):kA (mj p) (ia (nw p 1) q.1 r xs)="room":=by
 have nn:q.1≠"":=(gy (hp.ok.lines q hq).1).1;refine Xr hp (tw_deskN hp λx h=>rB hp (hx x h)) ?_ ?_
 ·show(!(decide (q.1="")||decide (q.1∈p.lines.map (·.1))) || !mE (xs.map λz=>decide (f6 (mj p) z)))=false
  have e2:mE (xs.map λz=>decide (f6 (mj p) z))=true:=by
   unfold mE;rw[rZ,dU];exact λz hz=>qQ1 (xY hp (hx z hz))
  rw[qQ1 (show q.1∈p.lines.map (·.1)from aA.mpr ⟨q,hq,rfl⟩),e2,rY];rfl
 ·show(!decide (q.1="")&&decide (roomOf (mj p) q.1<fH r xs.length))=true
  rw[qQ0 nn,(IV hp hq).1,qQ1 hg];rfl
theorem TX(hl:1<=p.lines.length)(m:Int):gX (Uz p m)/\kA (mj p) (Uz p m)="room":=by
 have hq:=IW hp hl m;have n1:=(nR hp (k:=1) (by decide)).1
 have qW:=(hp.ok.lines _ hq).1;have q1:=hp.gd.ll _ hq;have q2:=hp.rm _ hq;have ex:∀x∈[("extra":Str)],x∈dD:=λx hx=>by rw[aK.mp hx];exact aS
 have Q7:=qB ("extra":Str) aS;have j0:0<=m/4%4:=bE _ (by decide)
 have j1:m/4%4<4:=bG _ (by decide)
 unfold Uz
 generalize lD p m=q at *
 split
 ·rename_i hc
  have ht:((dD.drop 1).take q.2.toNat).length=q.2.toNat:=by rw[bK,show(dD.drop 1).length=5 from rfl];omega
  have hm:∀x∈("extra":Str)::(dD.drop 1).take q.2.toNat,x∈dD:=λx hx=>by
   rcases aE.mp hx with rfl|hx
   ·exact aS
   ·exact er (dR hx)
  have Jt:(("extra":Str)::(dD.drop 1).take q.2.toNat).Nodup:=by
   have:(("extra":Str)::(dD.drop 1).take q.2.toNat)=dD.take (q.2.toNat+1):=rfl;rw[this];exact xX.sublist (List.take_sublist _ _)
  refine⟨⟨n1,.inr qW,?_,?_,?_,Jt,λx hx=>qB x (hm x hx)⟩,wo hp hq hm ?_⟩
  ·show 2<=(("extra":Str)::(dD.drop 1).take q.2.toNat).length;rw[aX,ht];omega
  ·show 1<=(("extra":Str)::(dD.drop 1).take q.2.toNat).length;rw[aX];omega
  ·show(("extra":Str)::(dD.drop 1).take q.2.toNat).length<=6;rw[aX,ht];omega
  ·show q.2<(((("extra":Str)::(dD.drop 1).take q.2.toNat).length:Nat):Int);rw[aX,ht];omega
 ·unfold BX
  split
  ·exact⟨k_ hp n1 (.inr qW) ⟨by omega,by omega,by omega⟩ Q7,wo hp hq ex (by show q.2<q.2+1;omega)⟩
  split
  ·exact⟨k_ hp n1 (.inr qW) ⟨by omega,⟨by omega,by omega⟩,by decide,by decide⟩ Q7,wo hp hq ex (by show q.2<q.2+1;omega)⟩
  split
  ·exact⟨k_ hp n1 (.inr qW) ⟨by omega,by omega,by omega⟩ Q7,wo hp hq ex (by show q.2<q.2+2;omega)⟩
  ·exact⟨k_ hp n1 (.inr qW) ⟨by decide,by decide,by decide⟩ Q7,wo hp hq ex (by show q.2<999999;omega)⟩
theorem P7(hl:1<=p.lines.length)(m:Int):gX (UA p m)/\uO (mj p) (UA p m):=by
 have hq:=IW hp hl m;have n1:=nR hp (k:=1) (by decide)
 have qW:=(hp.ok.lines _ hq).1;have q1:=hp.gd.ll _ hq;have q2:=hp.rm _ hq;have ex:("extra":Str)∈dD:=aS;unfold UA
 generalize lD p m=q at *
 have hr:pZ (tP q.2 (m/4%4)) 1/\fH (tP q.2 (m/4%4)) 1<=q.2:=by
  unfold tP
  split
  ·exact⟨⟨by omega,by omega,by omega⟩,Int.le_refl _⟩
  split
  ·exact⟨⟨by omega,⟨by omega,by omega⟩,by decide,by decide⟩,Int.le_refl _⟩
  split
  ·exact⟨trivial,by show 1<=q.2;omega⟩
  ·exact⟨trivial,by show 1<=q.2;omega⟩
 refine⟨k_ hp n1.1 (.inr qW) hr.1 (qB _ ex),n1.2.2.2.2.2,λx hx z=>?_,λx hx=>?_,.inr ⟨q.2,(IV hp hq).2,hr.2⟩⟩
 ·rw[aK.mp hx]at z
  obtain⟨d,hd,hz⟩:=z;have:=rB hp ex;unfold iN at this;exact j7.mp this d hd (qQ1 hz)
 ·rw[aK.mp hx];exact xY hp ex
theorem IX(k:Option Int)(hk:∀i,k=some i->1<=i/\cV i):gX (.kind (nw p 4) k)/\uO (mj p) (.kind (nw p 4) k):=
 ⟨⟨(nR hp (k:=4) (by decide)).1,hk⟩,(nR hp (k:=4) (by decide)).2.2.2.2.1⟩
end
theorem MZ(ok:jA st)(h:st.gates.length<60)(hx:cZ x):jA (lW st (.gate x)):=by
 refine⟨ok.kn,(by show(st.gates ++ [x]).length<=60;rw[aH];exact h),ok.ln,ok.dn,ok.tn,ok.hn,ok.kinds,?_,ok.lines,ok.desks,ok.times,ok.hours,ok.an,ok.paces⟩
 ·intro y hy
  rcases bp.mp (show y∈st.gates ++ [x]from hy)with hy|hy
  ·exact ok.gates y hy
  ·rw[aK.mp hy];exact hx
theorem Fb(ok:jA st)(h:st.kinds.length<60){k:Option Int}(he:gX (.kind x k)):jA (lW st (.kind x k)):=by
 refine⟨(by show(st.kinds ++ [(x,k)]).length<=60;rw[aH];exact h),ok.gn,ok.ln,ok.dn,ok.tn,ok.hn,?_,ok.gates,ok.lines,ok.desks,ok.times,ok.hours,ok.an,ok.paces⟩
 ·intro y hy
  rcases bp.mp (show y∈st.kinds ++ [(x,k)]from hy)with hy|hy
  ·exact ok.kinds y hy
  ·exact(G' he).kinds y hy
theorem M0(ok:jA st)(h:st.desks.length<60)(he:gX (.desk d)):jA (lW st (.desk d)):=by
 refine⟨ok.kn,ok.gn,ok.ln,(by show(st.desks ++ [d]).length<=60;rw[aH];exact h),ok.tn,ok.hn,ok.kinds,ok.gates,ok.lines,?_,ok.times,ok.hours,ok.an,ok.paces⟩
 ·intro y hy
  rcases bp.mp (show y∈st.desks ++ [d]from hy)with hy|hy
  ·exact ok.desks y hy
  ·exact(G' he).desks y hy
theorem B3:∀(l:List Str){st:Pl},jA st->st.gates.length+l.length<=60->(∀x∈l,cZ x/\¬f6 st x)->l.Nodup->oP st (l.map Ent.gate)/\(l.map Ent.gate).foldl lW st={ st with gates:=st.gates++l }
 | [],st,ok,_,_,_=>⟨ok,by show st={ st with gates:=st.gates ++ [] };rw[cF]⟩
 |x::l,st,ok,hl,h,hn=>by
  obtain⟨n1,n2⟩:=eW.mp hn;rw[aX]at hl;obtain⟨x1,x2⟩:=h x aS;have ok':=MZ ok (by omega) x1
  obtain⟨r1,r2⟩:=B3 l ok' (by show(st.gates ++ [x]).length+l.length<=60;rw[aH,gS];omega) (λy hy=>⟨(h y (aZ _ hy)).1,λz=>by
   rcases z with z|z
   ·rcases bp.mp (show y∈st.gates ++ [x]from z)with z|z
    ·exact(h y (aZ _ hy)).2 (.inl z)
    ·exact n1 (aK.mp z▸hy)
   ·exact(h y (aZ _ hy)).2 (.inr z)⟩) n2
  refine⟨⟨ok,x1,x2,r1⟩,?_⟩
  rw[aN,lG,r2]
  show({ st with gates:=st.gates ++ [x]++l }:Pl)=_
  rw[c6];rfl
def uw(p:Pl):List Ent:=z_ p++dD.map Ent.gate
theorem oP.ok:∀{es:List Ent}{st:Pl},oP st es->jA (es.foldl lW st)
 | [],_,h=>h
 |_::_,_,⟨_,_,_,h⟩=>h.ok
theorem wq(hp:P4 p):oP vq (uw p)/\(uw p).foldl lW vq=mj p:=by
 obtain⟨r1,r2⟩:=TJ hp.ok hp.gd;have hg:=B3 dD hp.ok (by show p.gates.length+6<=60;have:=hp.g6;omega) (λx hx=>⟨qB x hx,λz=>hp.pl x (by
  rcases z with z|z
  ·exact cq _ z
  ·exact bX _ z) hx⟩) xX
 unfold uw;refine⟨r1.app (by rw[r2];exact hg.1),?_⟩
 rw[gF,r2,hg.2];rfl
theorem M4(hp:P4 p):J8 (uw p):=by
 obtain⟨a,b,c⟩:=(wq hp).1.es;exact⟨a,b,c⟩
theorem Ah(hp:P4 p)(h:gX e/\uO (mj p) e)(h2:jA (lW (mj p) e)):J8 (uw p ++ [e]):=by
 obtain⟨r1,r2⟩:=wq hp;have r3:oP vq (uw p ++ [e]):=r1.app (by rw[r2];exact⟨by rw[<-r2];exact r1.ok,h.1,h.2,h2⟩)
 obtain⟨a,b,c⟩:=r3.es;exact⟨a,b,c⟩
theorem He(h:∀e∈es,gX e):(es.map ez).map wordsOf=es.map rT:=by
 rw[bf];exact gG λe he=>(xq (h e he)).2.2.2
theorem Hf(z:Nat):((aT z ("":Str)).map wordsOf).filter (λws=>!ws.isEmpty)=[]:=by
 rw[sf];intro ws hw;obtain⟨x,hx,rfl⟩:=aA.mp hw;rw[(iU.mp hx).2,vh]
 decide
theorem Ai(h:∀e∈es,gX e)(z:Nat):((es.map ez++aT z ("":Str)).map wordsOf).filter (λws=>!ws.isEmpty)=es.map rT:=by
 rw[aV,o9,Hf,cF,He h,List.filter_eq_self.mpr];intro ws Ms;obtain⟨e,_,rfl⟩:=aA.mp Ms;rw[Du];rfl
theorem xt(h:∀e∈es,gX e)(z:Nat):∀r∈es.map ez++aT z ("":Str),nO r/\r.length<=1400/\10∉r.cps.toList:=by
 intro r hr;rcases bp.mp hr with hr|hr
 ·obtain⟨e,he,rfl⟩:=aA.mp hr
  obtain⟨a,b,c,_⟩:=xq (h e he);exact⟨a,b,c⟩
 ·rw[(iU.mp hr).2]
  exact⟨gL,by decide,by decide⟩
theorem M5(h:∀e∈es,gX e)(z:Nat)(he:gX e){post:List Str}(hp:∀r∈post,10∉r.cps.toList):∃pre Xs,rowsOf (cL "\n" (es.map ez++aT z ("":Str) ++ [ez e]++post))=pre++(es.length+z,rT e)::Xs/\pre.map (·.2)=es.map rT:=by
 have e4:=(xq he).2.2;rw[BO (by simp) (λr hr=>by
  rcases bp.mp hr with hr|hr
  ·rcases bp.mp hr with hr|hr
   ·exact(xt h z r hr).2.2
   ·rw[aK.mp hr];exact e4.1
  ·exact hp r hr)]
 rw[c6,List.zipIdx_append,jZ,List.singleton_append,rE,eA (b:=(es.length+z,rT e)) (by
  show(if(wordsOf (ez e)).isEmpty=true then none else some (0+(es.map ez++aT z ("":Str)).length,wordsOf (ez e)))=_
  rw[e4.2,Du,qQ2 (by decide),aH,aj,c9,sC])]
 exact⟨_,_,rfl,by rw[BU,Ai h z]⟩
theorem Kj(h:∀e∈es,gX e)(z:Nat)(he:gX e):(rowsOf (cL "\n" (es.map ez++aT z ("":Str) ++ [ez e]))).map (·.2)=(es ++ [e]).map rT:=by
 have e4:=(xq he).2.2;rw[BO (by simp) (λr hr=>by
  rcases bp.mp hr with hr|hr
  ·exact(xt h z r hr).2.2
  ·rw[aK.mp hr];exact e4.1),BU,aV,o9,Ai h z,aV]
 congr 1
 rw[f7,e4.2,e8,Du];rfl
end Mg
namespace Mg
open L2 PySem PyProof.Rows
seal L2.VE L2.VS L2.vB L2.VT L2.VO L2.Ox
variable{fd:gf}{r:Int}{p:Pl}{t:Str}
def oX(l:List Ent):List ao:=l.map λe=>aQ (ez e)
def e0:Ent:=.gate ""
theorem Aj:eT (.str "")="-":=by
 show(if("":Str)="" then("-":Str)else "")="-"
 rw[qQ3 rfl]
theorem pM(a t:Str)(r:Rl)(ps:List Str):ez (ia a t r ps)="desk "++(a++(" to "++(eT (.str t)++(" by "++(eI r++(" from "++cL " " ps)))))):=by
 show kE ⟨a,t,r,ps⟩=_;unfold kE nu;simp only[eV]
theorem rC(n:Int):eI (.many n)="many "++cK n:=by
 show("many":Str)++" "++cK n=_
 rw[show("many":Str)++" "="many " by symm]
theorem B4(n a:Int):eI (.gather n a)="gather "++(cK n++(" "++cK a)):=by
 show("gather":Str)++" "++(cK n++" "++cK a)=_
 rw[show("gather":Str)++" "="gather " by symm,eV]
theorem M6(k:Str):"kind "++k++" 7"=ez (.kind k (some 7)):=by
 show _="kind "++k++" "++cK 7;rw[zbr,show(" 7":Str)=" "++"7" by symm];simp only[eV]
theorem IY{l:Str}{n:Int}(h:l=" "++cK n)(g:Str):"line "++g++l=ez (.line g n):=by
 show _="line "++g++" "++cK n;rw[h];simp only[eV]
theorem Q8(a x:Str):"desk "++a++" to - by eldest from "++x=ez (ia a "" .eldest [x]):=by
 rw[pM,Aj,Af,show eI .eldest="eldest" from rfl,show(" to - by eldest from ":Str)=" to "++("-"++(" by "++("eldest"++" from "))) by symm];simp only[eV]
theorem Xt(a:Str)(ht:cZ t)(x y:Str):"desk "++a++" to "++t++" by many 9 from "++x++" "++y=ez (ia a t (.many 9) [x,y]):=by
 rw[pM,mR ht,Xm,Af,rC,zbt,show(" by many 9 from ":Str)=" by "++("many "++("9"++" from ")) by symm];simp only[eV]
theorem Xu(a:Str)(ht:cZ t)(n:Int)(x:Str):"desk "++a++" to "++t++" by many "++cK n++" from "++x=ez (ia a t (.many n) [x]):=by
 rw[pM,mR ht,Af,rC,show(" by many ":Str)=" by "++"many " by symm];simp only[eV]
theorem Xv(a x:Str):"desk "++a++" to "++"- by eldest from "++x=ez (ia a "" .eldest [x]):=by
 rw[pM,Aj,Af,show eI .eldest="eldest" from rfl,show("- by eldest from ":Str)="-"++(" by "++("eldest"++" from ")) by symm];simp only[eV]
theorem Q9(a:Str)(ht:cZ t):"desk "++a++" to "++t++" by eldest from extra"=ez (ia a t .eldest ["extra"]):=by
 rw[pM,mR ht,Af,show eI .eldest="eldest" from rfl,show(" by eldest from extra":Str)=" by "++("eldest"++(" from "++"extra")) by symm];simp only[eV]
theorem Xw(a:Str)(ht:cZ t)(x:Str):"desk "++a++" to "++t++" by many 99 from "++x=ez (ia a t (.many 99) [x]):=by
 rw[pM,mR ht,Af,rC,Xo,show(" by many 99 from ":Str)=" by "++("many "++("99"++" from ")) by symm];simp only[eV]
theorem Dz{l:Str}{n:Int}(h:l=" "++cK n)(d k:Str):"time "++d++" "++k++l=ez (.time d k n):=by
 show _="time"++" "++(d++" "++(k++" "++cK n));rw[h,show("time ":Str)="time"++" " by symm];simp only[eV]
theorem P8(d:Str):"open "++d++" 1 2"=ez (.hour d 1 2):=by
 show _="open"++" "++(d++" "++(cK 1++" "++cK 2));rw[Xn,zbu,show("open ":Str)="open"++" " by symm,show(" 1 2":Str)=" "++("1"++(" "++"2")) by symm];simp only[eV]
theorem yM(g k:Str):"pace "++g++" "++k++" 1 1"=ez (.pace g k 1 1):=by
 show _="pace"++" "++(g++" "++(k++" "++(cK 1++" "++cK 1)));rw[Xn,show("pace ":Str)="pace"++" " by symm,show(" 1 1":Str)=" "++("1"++(" "++"1")) by symm];simp only[eV]
theorem M7(k:Str):"pace extra "++k++" 1 1"=ez (.pace "extra" k 1 1):=by
 rw[<-yM,show("pace extra ":Str)="pace "++("extra"++" ") by symm];simp only[eV]
def Rtw(ds:List ao)(d:ao):Prop:=∃(p:Pl)(m:Int),ds=[eZ p,.int m,.list ((gw p).map .str)]/\P4 p/\d=.str (ez (pickOf (twL p m) e0 (m/300)))
def Rla(ds:List ao)(d:ao):Prop:=∃(p:Pl)(m:Int),ds=[eZ p,.int m,.list ((gw p).map .str)]/\P4 p/\d=.str (ez (pickOf (MY p m) e0 (m/300)))
abbrev Ntw:List Str:=["_law_h","_law_m","_law_new","_law_kind","_law_gate","_law_desk","_law_rows","_law_head","_law_line","_law_one"]
abbrev Nla:List Str:=["_law_h","_law_m","_law_new","_law_kind","_law_gate","_law_desk","_law_head","_law_rows","_law_line"]
section
variable{P:bL}{w:cH}{K:au}{mg:Str->Option aG}{base:dw}{f:aR}{k:Nat}
theorem Q_:c7 Ntw ["_law_h","_law_m","_law_new"] (bV (top 54)):=⟨rfl,rfl,rfl,by symm,rfl,by symm,by symm⟩
theorem Ra:c7 Nla ["_law_h","_law_m","_law_new"] (bV (top 55)):=⟨rfl,rfl,rfl,by symm,rfl,by symm,by symm⟩
theorem tw_fin{m:Int}:twL p m=twBase p m++((p.lines.take p.lines.length).map (twLine p m)).flatten++(p.times.take p.times.length).map (λq=>Ent.time q.1 q.2.1 5)++(p.paces.take p.paces.length).map λq=>Ent.pace q.1 (nw p 0) 1 1:=by
 rw[fF,fF,fF];rfl
theorem take_snoc{α:Type}{l:List α}{i:Nat}{x:α}(h:l[i]?=some x):l.take (i+1)=l.take i ++ [x]:=by
 rw[ej,h];rfl
theorem zbD(F:mw K "_law_twice" "_law_twice" (top 54) f fd)(n:Na mg)(C1:bO P w K mg base 1 "_law_picked" ["_law_h","_law_m"] (iE K Rpk)):fA P w K mg base kR 2 f fd ["_law_h","_law_m","_law_new"] (iE K Rtw):=
 ko F Q_ (λ_ _ h=>by obtain⟨_,_,rfl,_⟩:=h;rfl) λ_ _ h=>by
  obtain⟨p,m,rfl,hp,rfl⟩:=h;intro iD A outer s H E hr;have nd:Ntw.Nodup:=Q_.nd;obtain⟨a0,w0,_⟩:=tN p hp.few (k:=0) (by decide)
  obtain⟨a1,w1,_⟩:=tN p hp.few (k:=1) (by decide)
  obtain⟨a2,w2,_⟩:=tN p hp.few (k:=2) (by decide)
  have kW:=wm hp m;have gW:=tQ hp m;have hd:=wj hp m;have dW:=(hp.ok.desks _ hd).1;obtain⟨pl1,TR⟩:=um hp hd;have b3:=hp.ok.ln;have b5:=hp.ok.tn;have b7:=hp.ok.an;have at0:tX ((jx p m).places.map aQ) 0=some (.str (rA p m)):=ck (j:=0) (by
   unfold rA;rw[aW,aJ,ax (by omega)];rfl)
  have p0W:=(TR _ (BZ hp m)).1;obtain⟨atk,YD⟩:=jm (d:=("":Str)) (F:=aQ) pl1 (m/50);have pkW:=(TR _ YD).1;refine aI (zu (.tup [3,4,5]) (bU C1 hr (aq (ai 0 rfl) (aq (ai 1 rfl) a7)) ⟨p,m,rfl,hp,rfl⟩) (ik rfl (b_ (bP (i:=3) nd rfl (bq rfl)) (b_ (bP (i:=4) nd rfl (bq rfl)) (b_ (bP (i:=5) nd rfl (bq rfl)) fP)))) rfl) ?_
  refine aI (jj 6 (ds:=oX [.kind (pickK p m) (some 7),.gate (kL p m),.line (kL p m) 3]) (VO.to (fh (aq (fD (bM (bM (cu (n:=5)) (eR (ai 3 rfl) kW)) (cu (n:=2))) (M6 _)) (aq (fD (bM (cu (n:=5)) (eR (ai 4 rfl) gW)) rfl) (aq (fD (bM (bM (cu (n:=5)) (eR (ai 4 rfl) gW)) (cu (n:=2))) (IY (by symm) _)) a7)))) rfl) nd) ?_
  refine aI (eU 6 rfl (d:=.str (ez (ia (jx p m).name "" .eldest [nw p 0]))) (fD (bM (bM (bM (cu (n:=5)) (eR (cC (ai 5 rfl) aD (ck (j:=0) rfl)) dW)) (cu (n:=30))) (eR (eX (ai 2 rfl) aD a0) w0)) (Q8 _ _)) (fV (by show 3<=1000000;decide))) ?_
  refine aI (eU 6 rfl (d:=.str (ez (ia (nw p 1) "" .eldest [pickOf (jx p m).places "" (m/50)]))) (fD (bM (bM (bM (cu (n:=5)) (eR (eX (ai 2 rfl) aD a1) w1)) (cu (n:=30))) (eR (cC (ds:=(jx p m).places.map .str) (cC (ai 5 rfl) aD (ck (j:=3) rfl)) (VE.to (cU (fB (ai 1 rfl) aD ⟨by decide,by decide⟩) (n_ (ds:=(jx p m).places.map .str) (cC (ai 5 rfl) aD (ck (j:=3) rfl)) n.len) (by rw[aj];omega)) (by rw[aj])) atk) pkW)) (Q8 _ _)) (fV (by show 4<=1000000;decide))) ?_
  refine aI (dq 7 (d:=.str ("desk "++nw p 1++" to ")) (bM (bM (cu (n:=5)) (eR (eX (ai 2 rfl) aD a1) w1)) (cu (n:=4))).ve nd) ?_
  have hh:("desk "++nw p 1++" to ":Str).length<=20:=by
   have:=w1.short;rw[bJ,bJ,show("desk ":Str).length=5 by decide,show(" to ":Str).length=4 by decide];omega
  refine aI (eU 6 rfl (d:=.str (ez (ia (nw p 1) (nw p 2) (.many 9) [nw p 0,rA p m]))) (fD (bM (bM (bM (bM (bM (lr (ai 7 rfl) hh) (eR (eX (ai 2 rfl) aD a2) w2)) (cu (n:=20))) (eR (eX (ai 2 rfl) aD a0) w0)) (cu (n:=1))) (eR (cC (ds:=(jx p m).places.map .str) (cC (ai 5 rfl) aD (ck (j:=3) rfl)) aD at0) p0W)) (Xt _ w2 _ _)) (fV (by show 5<=1000000;decide))) ?_
  show vB _ _ [.val (eZ p),.val (.int m),.val (.list ((gw p).map .str)),.val (.str (pickK p m)),.val (.str (kL p m)),.val (eE (jx p m)),.own (oX (twBase p m)),.val (.str ("desk "++nw p 1++" to ")),.un,.un] _;refine aI (lO (tgt:=.one 8) (o:=.nx [.val (eZ p),.val (.int m),.val (.list ((gw p).map .str)),.val (.str (pickK p m)),.val (.str (kL p m)),.val (eE (jx p m)),.own (oX (twBase p m++((p.lines.take p.lines.length).map (twLine p m)).flatten)),.val (.str ("desk "++nw p 1++" to ")),.un,.un]) dP rfl (gK (ds:=p.lines.map jU) (fk hr (ai 0 rfl) aL (oN p))) (bP (i:=8) nd rfl (bq rfl))
   (λi=>[.val (eZ p),.val (.int m),.val (.list ((gw p).map .str)),.val (.str (pickK p m)),.val (.str (kL p m)),.val (eE (jx p m)),.own (oX (twBase p m++((p.lines.take i).map (twLine p m)).flatten)),.val (.str ("desk "++nw p 1++" to ")),.un,.un]) p.lines.length (by show [_,_,_,_,_,_,Slot.own (oX (twBase p m ++ [])),_,_,_]=_;rw[cF]) (by rw[aj];exact ay _) (λi d hi AI=>?_) (.inl ⟨by rw[aj],rfl⟩)) ?_
  ·obtain⟨q,hq,rfl⟩:∃q,p.lines[i]?=some q/\d=jU q:=by
    rw[aW,ax hi]at AI;cases AI;exact⟨_,ax hi,rfl⟩
   have Q6:=bF hq;have qW:=(hp.ok.lines q Q6).1;have q1:=hp.gd.ll q Q6;have q2:=hp.rm q Q6;have hsm:cV (q.2+1):=⟨by omega,by omega⟩
   rw[take_snoc hq,aV,List.flatten_append,f7];have hl:(((p.lines.take i).map (twLine p m)).flatten).length=3*i:=by
    have:∀l:List (Str×Int),((l.map (twLine p m)).flatten).length=3*l.length:=by
     intro l
     induction l with
     |nil=>rfl
     |cons z l ih=>rw[aN,dX,aH,ih,aX];show 3+3*l.length=_;omega
    rw[this,bK];omega
   refine⟨_,rfl,?_⟩
   refine eY 6 rfl ?_
   generalize hL:((p.lines.take i).map (twLine p m)).flatten=L at *
   refine aI (jj 6 (ds:=oX (twBase p m++L ++ [.gate q.1,.line q.1 9])) (VO.to (iw (d1:=oX (twBase p m++L)) (d2:=oX [.gate q.1,.line q.1 9]) (ai 6 rfl) (VO.ve (VO.to (k:=oX [.gate q.1,.line q.1 9]) (fh (aq (fD (y:=ez (.gate q.1)) (bM (cu (n:=5)) (eR (cC (ai 8 rfl) aD (ck (j:=0) rfl)) qW)) rfl) (aq (fD (bM (bM (cu (n:=5)) (eR (cC (ai 8 rfl) aD (ck (j:=0) rfl)) qW)) (cu (n:=2))) (IY (n:=9) (by symm) _)) a7))) rfl)) (small (by unfold oX;rw[aj,aH,hl];show 6+3*i+2<=_;omega))) (by unfold oX;rw[aV (l₁:=twBase p m++L)])) nd) ?_
   refine iP (bw (eU 6 rfl (d:=.str (ez (ia (nw p 1) q.1 (.many (q.2+1)) [rA p m]))) (fD (bM (bM (bM (bM (bM (lr (ai 7 rfl) hh) (eR (cC (ai 8 rfl) aD (ck (j:=0) rfl)) qW)) (cu (n:=9))) (lr (mV (eM (cC (ai 8 rfl) aD (ck (j:=1) rfl)) aD) (cV.log hsm) n.str) (fM hsm))) (cu (n:=6))) (eR (cC (ds:=(jx p m).places.map .str) (cC (ai 5 rfl) aD (ck (j:=3) rfl)) aD at0) p0W)) (Xu _ qW _ _)) (fV (by unfold oX;rw[aj,aH,aH,hl];show 6+3*i+2<=_;omega)))) ?_
   refine⟨.inr rfl,.inr rfl,.inr rfl,.inr rfl,.inr rfl,.inr rfl,.inr ?_,.inr rfl,.inl rfl,.inl rfl,trivial⟩
   unfold oX;simp only[aV,c6,dX,List.flatten_nil,cF];rfl
  generalize hB:twBase p m++((p.lines.take p.lines.length).map (twLine p m)).flatten=TB
  have hTB:TB.length<=200:=by
   have:∀l:List (Str×Int),((l.map (twLine p m)).flatten).length=3*l.length:=by
    intro l
    induction l with
    |nil=>rfl
    |cons z l ih=>rw[aN,dX,aH,ih,aX];show 3+3*l.length=_;omega
   rw[<-hB,aH,this,bK];show 6+3*min p.lines.length p.lines.length<=200;omega
  refine aI (lO (tgt:=.one 9) (o:=.nx [.val (eZ p),.val (.int m),.val (.list ((gw p).map .str)),.val (.str (pickK p m)),.val (.str (kL p m)),.val (eE (jx p m)),.own (oX (TB++(p.times.take p.times.length).map (λq=>Ent.time q.1 q.2.1 5))),.val (.str ("desk "++nw p 1++" to ")),.un,.un]) dP rfl (gK (ds:=p.times.map rK) (fk hr (ai 0 rfl) aL (EB p))) (bP (i:=9) nd rfl (bq rfl))
   (λi=>[.val (eZ p),.val (.int m),.val (.list ((gw p).map .str)),.val (.str (pickK p m)),.val (.str (kL p m)),.val (eE (jx p m)),.own (oX (TB++(p.times.take i).map (λq=>Ent.time q.1 q.2.1 5))),.val (.str ("desk "++nw p 1++" to ")),.un,.un]) p.times.length (by show [_,_,_,_,_,_,Slot.own (oX (TB ++ [])),_,_,_]=_;rw[cF]) (by rw[aj];exact ay _) (λi d hi AI=>?_) (.inl ⟨by rw[aj],rfl⟩)) ?_
  ·obtain⟨q,hq,rfl⟩:∃q,p.times[i]?=some q/\d=rK q:=by
    rw[aW,ax hi]at AI;cases AI;exact⟨_,ax hi,rfl⟩
   obtain⟨t1,t2,_⟩:=hp.ok.times q (bF hq);rw[take_snoc hq,aV,f7];refine⟨_,rfl,?_⟩
   refine iP (bw (eU 6 rfl (d:=.str (ez (.time q.1 q.2.1 5))) (fD (bM (bM (bM (bM (cu (n:=5)) (eR (cC (ai 9 rfl) aD (ck (j:=0) rfl)) t1)) (cu (n:=1))) (eR (cC (ai 9 rfl) aD (ck (j:=1) rfl)) t2)) (cu (n:=2))) (Dz (by symm) _ _)) (fV (by unfold oX;rw[aj,aH,aj,bK];omega)))) ⟨.inr rfl,.inr rfl,.inr rfl,.inr rfl,.inr rfl,.inr rfl,.inr ?_,.inr rfl,.inl rfl,.inl rfl,trivial⟩
   unfold oX;simp only[aV,c6];rfl
  generalize hC:TB++(p.times.take p.times.length).map (λq=>Ent.time q.1 q.2.1 5)=TC
  have hTC:TC.length<=800:=by rw[<-hC,aH,aj,bK];omega
  refine aI (lO (tgt:=.one 9) (o:=.nx [.val (eZ p),.val (.int m),.val (.list ((gw p).map .str)),.val (.str (pickK p m)),.val (.str (kL p m)),.val (eE (jx p m)),.own (oX (TC++(p.paces.take p.paces.length).map (λq=>Ent.pace q.1 (nw p 0) 1 1))),.val (.str ("desk "++nw p 1++" to ")),.un,.un]) dP rfl (gK (ds:=p.paces.map uM) (fk hr (ai 0 rfl) aL (EC p))) (bP (i:=9) nd rfl (bq rfl))
   (λi=>[.val (eZ p),.val (.int m),.val (.list ((gw p).map .str)),.val (.str (pickK p m)),.val (.str (kL p m)),.val (eE (jx p m)),.own (oX (TC++(p.paces.take i).map (λq=>Ent.pace q.1 (nw p 0) 1 1))),.val (.str ("desk "++nw p 1++" to ")),.un,.un]) p.paces.length (by show [_,_,_,_,_,_,Slot.own (oX (TC ++ [])),_,_,_]=_;rw[cF]) (by rw[aj];exact ay _) (λi d hi AI=>?_) (.inl ⟨by rw[aj],rfl⟩)) ?_
  ·obtain⟨q,hq,rfl⟩:∃q,p.paces[i]?=some q/\d=uM q:=by
    rw[aW,ax hi]at AI;cases AI;exact⟨_,ax hi,rfl⟩
   have t1:=(hp.ok.paces q (bF hq)).1;rw[take_snoc hq,aV,f7];refine⟨_,rfl,?_⟩
   refine iP (bw (eU 6 rfl (d:=.str (ez (.pace q.1 (nw p 0) 1 1))) (fD (bM (bM (bM (bM (cu (n:=5)) (eR (cC (ai 9 rfl) aD (ck (j:=0) rfl)) t1)) (cu (n:=1))) (eR (eX (ai 2 rfl) aD a0) w0)) (cu (n:=4))) (yM _ _)) (fV (by unfold oX;rw[aj,aH,aj,bK];omega)))) ⟨.inr rfl,.inr rfl,.inr rfl,.inr rfl,.inr rfl,.inr rfl,.inr ?_,.inr rfl,.inl rfl,.inl rfl,trivial⟩
   unfold oX;simp only[aV,c6];rfl
  have J9:TC++(p.paces.take p.paces.length).map (λq=>Ent.pace q.1 (nw p 0) 1 1)=twL p m:=by rw[<-hC,<-hB,tw_fin]
  rw[J9];have TY:1<=(twL p m).length:=by rw[<-J9,<-hC,<-hB];simp only[aH];show 1<=6+_+_+_;omega
  obtain⟨atr,_⟩:=jm (d:=e0) (F:=λe=>aQ (ez e)) TY (m/300)
  refine eY 6 rfl ?_
  exact bw (cD (eX (ds:=oX (twL p m)) (ai 6 rfl) (VE.to (cU (fB (ai 1 rfl) aD ⟨by decide,by decide⟩) (jg (ds:=oX (twL p m)) (ai 6 rfl) n.len) (by unfold oX;rw[aj];omega)) (by unfold oX;rw[aj])) atr))
end
def Rcr(ds:List ao)(d:ao):Prop:=∃(p:Pl)(m:Int),ds=[eZ p,.int m,.list ((gw p).map .str)]/\P4 p/\1<=p.lines.length/\d=.tuple [.str (ez (Uz p m)),.str (ez (UA p m))]
def pN(p:Pl)(m:Int):Ent×Str×Ent:=if m%3=0/\p.lines≠[] then(Uz p (m/3),"room",UA p (m/3))else if m%3<2 then(pickOf (twL p (m/3)) e0 (m/3/300),"twice",.kind (nw p 4) none) else(pickOf (MY p (m/3)) e0 (m/3/300),"name",.kind (nw p 4) (some 3))
def Rca(ds:List ao)(d:ao):Prop:=∃(p:Pl)(m:Int),ds=[eZ p,.int m,.list ((gw p).map .str)]/\P4 p/\d=.tuple [.str (ez (pN p m).1),.str (pN p m).2.1,.str (ez (pN p m).2.2)]
theorem P9(hp:P4 p)(hk:p.kinds.length<60)(S':p.desks.length<60)(m:Int):gX (pN p m).1/\kA (mj p) (pN p m).1=(pN p m).2.1/\((pN p m).2.1="twice"\/(pN p m).2.1="name"\/(pN p m).2.1="room")/\J8 (uw p ++ [(pN p m).2.2])/\gX (pN p m).2.2:=by
 have ex:jA (mj p):=by rw[<-(wq hp).2];exact(wq hp).1.ok
 unfold pN
 split
 ·rename_i hc
  have hl:1<=p.lines.length:=by
   cases h:p.lines with
   |nil=>exact qQ7 h hc.2
   |cons _ _=>rw[aX];omega
  obtain⟨b1,b2⟩:=TX hp hl (m/3);have g:=P7 hp hl (m/3);exact⟨b1,b2,.inr (.inr rfl),Ah hp g (M0 ex S' g.1),g.1⟩
 split
 ·have TY:1<=(twL p (m/3)).length:=by unfold twL;simp only[aH];show 1<=6+_+_+_;omega
  obtain⟨b1,b2⟩:=tw_bad hp (m/3) _ (jm (d:=e0) (F:=λe=>aQ (ez e)) TY (m/3/300)).2
  have g:=IX hp none (λi e=>by cases e)
  exact⟨b1,b2,.inl rfl,Ah hp g (Fb ex hk g.1),g.1⟩
 ·have TY:1<=(MY p (m/3)).length:=by unfold MY;simp only[aH];show 1<=9+_;omega
  obtain⟨b1,b2⟩:=TV hp (m/3) _ (jm (d:=e0) (F:=λe=>aQ (ez e)) TY (m/3/300)).2
  have g:=IX hp (some 3) (λi e=>by cases e;exact⟨by decide,by decide,by decide⟩)
  exact⟨b1,b2,.inr (.inl rfl),Ah hp g (Fb ex hk g.1),g.1⟩
abbrev Rb:List Str:=["_law_h","_law_m","_law_new","_law_line","_law_room","_law_rows","_law_good","_law_way","_law_head","_law_places"]
abbrev YF:List Str:=["_law_h","_law_m","_law_new","_law_row","_law_good"]
theorem M8(a:Str)(ht:cZ t)(r:Rl):"desk "++a++" to "++t++" by "++eI r++" from extra"=ez (ia a t r ["extra"]):=by
 rw[pM,mR ht,Af,show(" from extra":Str)=" from "++"extra" by symm];simp only[eV]
theorem P_(a:Str)(ht:cZ t)(ps:List Str):"desk "++a++" to "++t++" by "++"meet from "++cL " " ps=ez (ia a t .meet ps):=by
 rw[pM,mR ht,show eI .meet="meet" from rfl,show("meet from ":Str)="meet"++" from " by symm];simp only[eV]
theorem M9:eI (.rank none)="rank -":=by
 show("rank":Str)++" "++"-"=_
 symm
def M_(r:Int):List Str:=[eI (.many (r+1)),eI (.gather (r+1) 4),eI (.many (r+2)),eI (.many 999999)]
def Fc(r:Int):List Str:=[eI (.many r),eI (.gather r 0),eI .eldest,eI (.rank none)]
theorem T1(r j:Int)(h0:0<=j)(h4:j<4):tX ((M_ r).map aQ) j=some (.str (eI (BX r j))):=by
 have:j=0\/j=1\/j=2\/j=3:=by omega
 rcases this with rfl|rfl|rfl|rfl<;>rfl
theorem IZ(r j:Int)(h0:0<=j)(h4:j<4):tX ((Fc r).map aQ) j=some (.str (eI (tP r j))):=by
 have:j=0\/j=1\/j=2\/j=3:=by omega
 rcases this with rfl|rfl|rfl|rfl<;>rfl
theorem Hi(h1:1<=r)(h6:r<6):(jR (kU "abcde" none (some r))).filterMap (λd=>match d with | .str x=>some (aQ ("m"++x++"w"))|_=>none)=((dD.drop 1).take r.toNat).map .str:=by
 have:r=1\/r=2\/r=3\/r=4\/r=5:=by omega
 rcases this with rfl|rfl|rfl|rfl|rfl<;>rfl
def Fmw:ao->Option ao:=λd=>match d with | .str x=>some (aQ ("m"++x++"w"))|_=>none
section
variable{P:bL}{w:cH}{K:au}{mg:Str->Option aG}{base:dw}{f:aR}{k:Nat}
theorem Rc:c7 Rb ["_law_h","_law_m","_law_new"] (bV (top 56)):=⟨rfl,rfl,rfl,by symm,rfl,by symm,by symm⟩
theorem Rf:c7 YF ["_law_h","_law_m","_law_new"] (bV (top 57)):=⟨rfl,rfl,rfl,by symm,rfl,by symm,by symm⟩
theorem zbF(F:mw K "_law_lacking" "_law_lacking" (top 55) f fd)(n:Na mg)(C1:bO P w K mg base 1 "_law_picked" ["_law_h","_law_m"] (iE K Rpk)):fA P w K mg base kR 2 f fd ["_law_h","_law_m","_law_new"] (iE K Rla):=
 ko F Ra (λ_ _ h=>by obtain⟨_,_,rfl,_⟩:=h;rfl) λ_ _ h=>by
  obtain⟨p,m,rfl,hp,rfl⟩:=h;intro iD A outer s H E hr;have nd:Nla.Nodup:=Ra.nd;obtain⟨a0,w0,_⟩:=tN p hp.few (k:=0) (by decide)
  obtain⟨a1,w1,_⟩:=tN p hp.few (k:=1) (by decide)
  obtain⟨a2,w2,_⟩:=tN p hp.few (k:=2) (by decide)
  have kW:=wm hp m;have gW:=tQ hp m;have hd:=wj hp m;have dW:=(hp.ok.desks _ hd).1;have b3:=hp.ok.ln;refine aI (zu (.tup [3,4,5]) (bU C1 hr (aq (ai 0 rfl) (aq (ai 1 rfl) a7)) ⟨p,m,rfl,hp,rfl⟩) (ik rfl (b_ (bP (i:=3) nd rfl (bq rfl)) (b_ (bP (i:=4) nd rfl (bq rfl)) (b_ (bP (i:=5) nd rfl (bq rfl)) fP)))) rfl) ?_
  refine aI (dq 6 (d:=.str ("desk "++nw p 1++" to ")) (bM (bM (cu (n:=5)) (eR (eX (ai 2 rfl) aD a1) w1)) (cu (n:=4))).ve nd) ?_
  have hh:("desk "++nw p 1++" to ":Str).length<=20:=by
   have:=w1.short;rw[bJ,bJ,show("desk ":Str).length=5 by decide,show(" to ":Str).length=4 by decide];omega
  refine aI (jj 7 (ds:=oX ((kB p m).take 2)) (VO.to (fh (aq (fD (bM (bM (lr (ai 6 rfl) hh) (cu (n:=20))) (eR (eX (ai 2 rfl) aD a0) w0)) (Xv _ _)) (aq (fD (bM (bM (lr (ai 6 rfl) hh) (eR (ai 4 rfl) gW)) (cu (n:=30))) (Q9 _ gW)) a7))) rfl) nd) ?_
  refine eY 7 rfl ?_
  refine aI (jj 7 (ds:=oX ((kB p m).take 3)) (VO.to (iw (d1:=oX ((kB p m).take 2)) (ai 7 rfl) (VO.ve (fh (aq (fD (bM (bM (lr (ai 6 rfl) hh) (eR (eX (ai 2 rfl) aD a2) w2)) (cu (n:=30))) (Q9 _ w2)) a7))) (small (by show 3<=1000000;decide))) rfl) nd) ?_
  refine aI (eU 7 rfl (d:=.str (ez (ia (nw p 1) (kL p m) (.many 99) [nw p 0]))) (fD (bM (bM (bM (lr (ai 6 rfl) hh) (eR (ai 4 rfl) gW)) (cu (n:=30))) (eR (eX (ai 2 rfl) aD a0) w0)) (Xw _ gW _)) (fV (by show 3<=1000000;decide))) ?_
  show vB _ _ [.val (eZ p),.val (.int m),.val (.list ((gw p).map .str)),.val (.str (pickK p m)),.val (.str (kL p m)),.val (eE (jx p m)),.val (.str ("desk "++nw p 1++" to ")),.own (oX ((kB p m).take 4)),.un] _;refine eY 7 rfl ?_
  refine aI (jj 7 (ds:=oX ((kB p m).take 5)) (VO.to (iw (d1:=oX ((kB p m).take 4)) (ai 7 rfl) (VO.ve (fh (aq (fD (bM (bM (bM (bM (cu (n:=5)) (eR (eX (ai 2 rfl) aD a1) w1)) (cu (n:=1))) (eR (ai 3 rfl) kW)) (cu (n:=2))) (Dz (by symm) _ _)) a7))) (small (by show 5<=1000000;decide))) rfl) nd) ?_
  refine aI (eU 7 rfl (d:=.str (ez (.time (jx p m).name (nw p 0) 1))) (fD (bM (bM (bM (bM (cu (n:=5)) (eR (cC (ai 5 rfl) aD (ck (j:=0) rfl)) dW)) (cu (n:=1))) (eR (eX (ai 2 rfl) aD a0) w0)) (cu (n:=2))) (Dz (by symm) _ _)) (fV (by show 5<=1000000;decide))) ?_
  show vB _ _ [.val (eZ p),.val (.int m),.val (.list ((gw p).map .str)),.val (.str (pickK p m)),.val (.str (kL p m)),.val (eE (jx p m)),.val (.str ("desk "++nw p 1++" to ")),.own (oX ((kB p m).take 6)),.un] _;refine eY 7 rfl ?_
  refine aI (jj 7 (ds:=oX ((kB p m).take 8)) (VO.to (iw (d1:=oX ((kB p m).take 6)) (ai 7 rfl) (VO.ve (fh (aq (fD (bM (bM (cu (n:=5)) (eR (eX (ai 2 rfl) aD a0) w0)) (cu (n:=4))) (P8 _)) (aq (fD (bM (bM (bM (bM (cu (n:=5)) (eR (eX (ai 2 rfl) aD a0) w0)) (cu (n:=1))) (eR (ai 3 rfl) kW)) (cu (n:=4))) (yM _ _)) a7)))) (small (by show 8<=1000000;decide))) rfl) nd) ?_
  refine aI (eU 7 rfl (d:=.str (ez (.pace "extra" (nw p 0) 1 1))) (fD (bM (bM (cu (n:=11)) (eR (eX (ai 2 rfl) aD a0) w0)) (cu (n:=4))) (M7 _)) (fV (by show 8<=1000000;decide))) ?_
  show vB _ _ [.val (eZ p),.val (.int m),.val (.list ((gw p).map .str)),.val (.str (pickK p m)),.val (.str (kL p m)),.val (eE (jx p m)),.val (.str ("desk "++nw p 1++" to ")),.own (oX (kB p m)),.un] _;refine aI (lO (tgt:=.one 8) (o:=.nx [.val (eZ p),.val (.int m),.val (.list ((gw p).map .str)),.val (.str (pickK p m)),.val (.str (kL p m)),.val (eE (jx p m)),.val (.str ("desk "++nw p 1++" to ")),.own (oX (kB p m++(p.lines.take p.lines.length).map (λq=>Ent.pace q.1 (pickK p m) 1 1))),.un]) dP rfl (gK (ds:=p.lines.map jU) (fk hr (ai 0 rfl) aL (oN p))) (bP (i:=8) nd rfl (bq rfl))
   (λi=>[.val (eZ p),.val (.int m),.val (.list ((gw p).map .str)),.val (.str (pickK p m)),.val (.str (kL p m)),.val (eE (jx p m)),.val (.str ("desk "++nw p 1++" to ")),.own (oX (kB p m++(p.lines.take i).map (λq=>Ent.pace q.1 (pickK p m) 1 1))),.un]) p.lines.length (by show [_,_,_,_,_,_,_,Slot.own (oX (kB p m ++ [])),_]=_;rw[cF]) (by rw[aj];exact ay _) (λi d hi AI=>?_) (.inl ⟨by rw[aj],rfl⟩)) ?_
  ·obtain⟨q,hq,rfl⟩:∃q,p.lines[i]?=some q/\d=jU q:=by
    rw[aW,ax hi]at AI;cases AI;exact⟨_,ax hi,rfl⟩
   have qW:=(hp.ok.lines q (bF hq)).1;rw[take_snoc hq,aV,f7];refine⟨_,rfl,?_⟩
   refine iP (bw (eU 7 rfl (d:=.str (ez (.pace q.1 (pickK p m) 1 1))) (fD (bM (bM (bM (bM (cu (n:=5)) (eR (cC (ai 8 rfl) aD (ck (j:=0) rfl)) qW)) (cu (n:=1))) (eR (ai 3 rfl) kW)) (cu (n:=4))) (yM _ _)) (fV (by unfold oX;rw[aj,aH,aj,bK,show(kB p m).length=9 from rfl];omega)))) ⟨.inr rfl,.inr rfl,.inr rfl,.inr rfl,.inr rfl,.inr rfl,.inr rfl,.inr ?_,.inl rfl,trivial⟩
   unfold oX;simp only[aV,c6];rfl
  have J9:kB p m++(p.lines.take p.lines.length).map (λq=>Ent.pace q.1 (pickK p m) 1 1)=MY p m:=by rw[fF];rfl
  rw[J9];have TY:1<=(MY p m).length:=by unfold MY;rw[aH];show 1<=9+_;omega
  obtain⟨atr,_⟩:=jm (d:=e0) (F:=λe=>aQ (ez e)) TY (m/300)
  refine eY 7 rfl ?_
  exact bw (cD (eX (ds:=oX (MY p m)) (ai 7 rfl) (VE.to (cU (fB (ai 1 rfl) aD ⟨by decide,by decide⟩) (jg (ds:=oX (MY p m)) (ai 7 rfl) n.len) (by unfold oX;rw[aj];omega)) (by unfold oX;rw[aj])) atr))
end
def ifC(b:List jq)(i:Nat):cx:=match b.getD i (.Pass ⟨0,0,0,0⟩) with
 | .If c _ _ _=>c
 |_=>.Name "" ⟨0,0,0,0⟩
theorem Hj{b:Nat}:∀{l:List Str},(∀x∈l,x.length<=b)->(l.map (·.length)).sum<=l.length*b
 | [],_=>bj _
 |x::l,h=>by
  have h1:=h x aS;have h2:=Hj (l:=l) λu hu=>h u (aZ _ hu)
  rw[aN,qG,aX,x8];omega
theorem tR{r:Rl}(h:v5 r):(eI r).length<=700:=lU h
theorem Nb{j: Int}(h1:1<=r)(h2:r<=1000):v5 (BX r j):=by
 unfold BX
 split
 ·exact⟨by omega,by omega⟩
 split
 ·exact⟨⟨by omega,by omega⟩,by decide,by decide⟩
 split
 ·exact⟨by omega,by omega⟩
 ·exact⟨by decide,by decide⟩
theorem B5{j: Int}(h1:1<=r)(h2:r<=1000):v5 (tP r j):=by
 unfold tP
 split
 ·exact⟨by omega,by omega⟩
 split
 ·exact⟨⟨by omega,by omega⟩,by decide,by decide⟩
 split
 ·trivial
 ·trivial
theorem Xx(x:Str):"kind "++x++" -"=ez (.kind x none):=by
 show _="kind "++x++" "++"-";rw[show(" -":Str)=" "++"-" by symm];simp only[eV]
theorem T2(x:Str):"kind "++x++" 3"=ez (.kind x (some 3)):=by
 show _="kind "++x++" "++cK 3;rw[zbs,show(" 3":Str)=" "++"3" by symm];simp only[eV]
section
variable{P:bL}{w:cH}{K:au}{mg:Str->Option aG}{base:dw}{f:aR}{k:Nat}
theorem zbG(F:mw K "_law_crowded" "_law_crowded" (top 56) f fd)(n:Na mg):fA P w K mg base kR 1 f fd ["_law_h","_law_m","_law_new"] (iE K Rcr):=
 ko F Rc (λ_ _ h=>by obtain⟨_,_,rfl,_⟩:=h;rfl) λ_ _ h=>by
  obtain⟨p,m,rfl,hp,hl,rfl⟩:=h;intro iD A outer s H E hr;have nd:Rb.Nodup:=Rc.nd;obtain⟨a1,w1,_⟩:=tN p hp.few (k:=1) (by decide)
  obtain⟨pk,hq⟩:=jm (d:=YC) (F:=jU) hl m;have qW:=(hp.ok.lines _ hq).1;have q1:=hp.gd.ll _ hq;have q2:=hp.rm _ hq;refine aI (zu (.tup [3,4]) (d:=jU (lD p m)) (eX (fk hr (ai 0 rfl) aL (oN p)) (VE.to (cU (ai 1 rfl) (jg (fk hr (ai 0 rfl) aL (oN p)) n.len) (by rw[aj];omega)) (by rw[aj])) pk) (ik rfl (b_ (bP (i:=3) nd rfl (bq rfl)) (b_ (bP (i:=4) nd rfl (bq rfl)) fP))) rfl) ?_
  have eB:Uz p m=if(lD p m).2<6/\m/16%2=0 then ia (nw p 1) (lD p m).1 .meet ("extra"::(dD.drop 1).take (lD p m).2.toNat)else ia (nw p 1) (lD p m).1 (BX (lD p m).2 (m/4%4)) ["extra"]:=rfl
  have eG:UA p m=ia (nw p 1) (lD p m).1 (tP (lD p m).2 (m/4%4)) ["extra"]:=rfl;rw[eB,eG];have eq:pickOf p.lines YC m=lD p m:=rfl;rw[eq]at qW q1 q2
  generalize lD p m=q at *
  obtain⟨lx,r⟩:=q;have qW:cZ lx:=qW;have q1:1<=r:=q1;have q2:r<=1000:=q2;have s1:cV (r+1):=⟨by omega,by omega⟩
  have s2:cV (r+2):=⟨by omega,by omega⟩
  have s0:cV r:=⟨by omega,by omega⟩
  have Nc:∀{δ:List Slot}{a:cx}{i:Int}{p1 p2:Pos},cV i->VE (uZ kR P w K mg base Rb "_law_crowded" (bV (top 56)) f iD A outer s H E).Km a δ (.int i)->starEach [a] (uZ kR P w K mg base Rb "_law_crowded" (bV (top 56)) f iD A outer s H E).Km.env=(false,eval a (uZ kR P w K mg base Rb "_law_crowded" (bV (top 56)) f iD A outer s H E).Km.env)::starEach [] (uZ kR P w K mg base Rb "_law_crowded" (bV (top 56)) f iD A outer s H E).Km.env->QZ (uZ kR P w K mg base Rb "_law_crowded" (bV (top 56)) f iD A outer s H E).Km (.Call (.Name "str" p1) [a] [] p2) δ (cK i) 6:=λhs hv Fq=>⟨mV hv (cV.log hs) n.str rfl Fq,fM hs⟩
  refine aI (jj 5 (ds:=(M_ r |>.take 3).map .str) (VO.to (fh (aq (fD (bM (cu (n:=5)) (Nc s1 (eM (ai 4 rfl) aD) rfl)) (rC _).symm) (aq (fD (bM (bM (cu (n:=7)) (Nc s1 (eM (ai 4 rfl) aD) rfl)) (cu (n:=2))) (by rw[B4,zbv,show(" 4":Str)=" "++"4" by symm];simp only[eV])) (aq (fD (bM (cu (n:=5)) (Nc s2 (eM (ai 4 rfl) aD) rfl)) (rC _).symm) a7)))) rfl) nd) ?_
  refine aI (eU 5 rfl (d:=.str (eI (.many 999999))) (fD (cu (n:=20)) (by rw[rC,Xp];symm)) (fV (by show 3<=1000000;decide))) ?_
  show vB _ _ [.val (eZ p),.val (.int m),.val (.list ((gw p).map .str)),.val (.str lx),.val (.int r),.own ((M_ r).map .str),.un,.un,.un,.un] _;refine eY 5 rfl ?_
  refine aI (dq 6 (d:=.list ((Fc r).map .str)) (VE.to (VO.ve (fh (aq (fD (bM (cu (n:=5)) (Nc s0 (ai 4 rfl) rfl)) (rC _).symm) (aq (fD (bM (bM (cu (n:=7)) (Nc s0 (ai 4 rfl) rfl)) (cu (n:=2))) (by rw[B4,zbw,show(" 0":Str)=" "++"0" by symm];simp only[eV])) (aq aL (aq (fD (cu (n:=6)) M9.symm) a7)))))) rfl) nd) ?_
  refine aI (dq 7 (d:=.int (m/4%4)) (cU (fB (ai 1 rfl) aD ⟨by decide,by decide⟩) aD (by decide)) nd) ?_
  have j0:0<=m/4%4:=bE _ (by decide)
  have j4:m/4%4<4:=bG _ (by decide)
  refine aI (dq 8 (d:=.str ("desk "++nw p 1++" to "++lx++" by ")) (bM (bM (bM (bM (cu (n:=5)) (eR (eX (ai 2 rfl) aD a1) w1)) (cu (n:=4))) (eR (ai 3 rfl) qW)) (cu (n:=4))).ve nd) ?_
  have hh:("desk "++nw p 1++" to "++lx++" by ":Str).length<=30:=by
   have:=w1.short;have:=qW.short;rw[bJ,bJ,bJ,bJ,show("desk ":Str).length=5 by decide,show(" to ":Str).length=4 by decide,show(" by ":Str).length=4 by decide];omega
  have UB:VT (uZ kR P w K mg base Rb "_law_crowded" (bV (top 56)) f iD A outer s H E).Km (ifC (k8 (top 56)) 6) [.val (eZ p),.val (.int m),.val (.list ((gw p).map .str)),.val (.str lx),.val (.int r),.val (.list ((M_ r).map .str)),.val (.list ((Fc r).map .str)),.val (.int (m/4%4)),.val (.str ("desk "++nw p 1++" to "++lx++" by ")),.un] (decide (r<6)&&decide (m/16%2=0)):=
   qO (xG (ai 4 rfl) aD) (λ_=>VT.to (b0 hr (c0 20 _) (c0 20 _) (cU (fB (ai 1 rfl) aD ⟨by decide,by decide⟩) aD (by decide)) aD) (by rw[oh]))
  by_cases hc:r<6/\m/16%2=0
  ·rw[qQ3 (show((lx,r):Str×Int).2<6/\m/16%2=0 from hc)]
   have ns:(["_law_sign"]:List Str).Nodup:=by symm
   have U6:((dD.drop 1).take r.toNat).length<=5:=by rw[bK];exact yQ _ _
   have hW:∀x∈("extra":Str)::(dD.drop 1).take r.toNat,x.length<=8:=λx hx=>by
    rcases aE.mp hx with rfl|hx
    ·decide
    ·exact(qB x (er (dR hx))).short
   have zbH:((("extra":Str)::(dD.drop 1).take r.toNat).map (·.length)).sum+(("extra":Str)::(dD.drop 1).take r.toNat).length*(" ":Str).length<=16777216:=by
    have h1:=Hj hW;rw[show(" ":Str).length=1 by decide,aX]at *
    omega
   have Z_:(cL " " (("extra":Str)::(dD.drop 1).take r.toNat)).length<=60:=by
    have h1:=gQ (y:=(" ":Str)) (by decide) hW
    rw[aX]at h1;omega
   refine dS (eu (VT.to UB (by rw[qQ1 hc.1,qQ1 hc.2];rfl)) (aI (dq 9 (d:=.list ((("extra":Str)::(dD.drop 1).take r.toNat).map .str)) (VE.to (VO.ve (iw (d1:=[.str "extra"]) (d2:=((dD.drop 1).take r.toNat).map .str) (VO.ve (fh (aq aL a7))) (VO.ve (VO.to (fJ (own:=["_law_sign"]) (cap:=[]) (N:=["_law_sign"]) (cl:=[]) (tgt:=.one 0) (F:=Fmw) (ds:=jR (kU "abcde" none (some r))) rfl ⟨rfl,by symm,by symm,rfl,rfl,by simp⟩ (CZ (w_ aL (small (by decide)) .no (.yes (ai 4 rfl)))) (λf s3 H3=>bP (i:=0) ns rfl (bq rfl)) rfl (small ?_) (λd hd=>?_)) (Hi q1 hc.1))) (small (by rw[aj];show 1+_<=_;omega)))) rfl) nd) (bw (cD (gu (aq (fD (bM (bM (lr (ai 8 rfl) hh) (cu (n:=10))) (lr (mW (zs:=("extra":Str)::(dD.drop 1).take r.toNat) aL (ai 9 rfl) zbH) Z_)) (P_ _ qW _)) (aq (fD (bM (bM (lr (ai 8 rfl) hh) (lr (eX (ds:=(Fc r).map .str) (ai 6 rfl) (ai 7 rfl) (IZ r _ j0 j4)) (tR (B5 q1 q2)))) (cu (n:=11))) (M8 _ qW _)) a7))))))) rfl
   ·unfold jR
    rw[aj];have:r=1\/r=2\/r=3\/r=4\/r=5:=by omega
    rcases this with rfl|rfl|rfl|rfl|rfl<;>symm
   ·obtain⟨z,hz,rfl⟩:=aA.mp hd
    refine⟨_,rfl,λf s3 H3=>fQ,λr jT f s3 H3=>?_⟩
    cases jT;have e3:(⟨#[z]⟩:Str).length=1:=rfl;exact gv (gv aL (ai 0 rfl) (small (by rw[e3];decide))) aL (small (by rw[bJ,e3];decide))
  ·rw[qQ2 (show ¬(((lx,r):Str×Int).2<6/\m/16%2=0)from hc)]
   refine aI (cy (VT.to UB (by rw[FD,decide_eq_false_iff_not,decide_eq_false_iff_not];exact(Decidable.em (r<6)).elim (λh=>.inr λz=>hc ⟨h,z⟩) .inl)) bS) ?_
   exact bw (cD (gu (aq (fD (bM (bM (lr (ai 8 rfl) hh) (lr (eX (ds:=(M_ r).map .str) (ai 5 rfl) (ai 7 rfl) (T1 r _ j0 j4)) (tR (Nb q1 q2)))) (cu (n:=11))) (M8 _ qW _)) (aq (fD (bM (bM (lr (ai 8 rfl) hh) (lr (eX (ds:=(Fc r).map .str) (ai 6 rfl) (ai 7 rfl) (IZ r _ j0 j4)) (tR (B5 q1 q2)))) (cu (n:=11))) (M8 _ qW _)) a7))))
theorem zbI(F:mw K "_law_case" "_law_case" (top 57) f fd)(n:Na mg)(C1:bO P w K mg base 1 "_law_crowded" ["_law_h","_law_m","_law_new"] (iE K Rcr))(C2:bO P w K mg base 2 "_law_twice" ["_law_h","_law_m","_law_new"] (iE K Rtw))(C3:bO P w K mg base 2 "_law_lacking" ["_law_h","_law_m","_law_new"] (iE K Rla)):fA P w K mg base kR 3 f fd ["_law_h","_law_m","_law_new"] (iE K Rca):=
 ko F Rf (λ_ _ h=>by obtain⟨_,_,rfl,_⟩:=h;rfl) λ_ _ h=>by
  obtain⟨p,m,rfl,hp,rfl⟩:=h;intro iD A outer s H E hr;have nd:YF.Nodup:=Rf.nd;have qd:gj 1 _:=hr.mono (by omega)
  obtain⟨a4,w4,_⟩:=tN p hp.few (k:=4) (by decide)
  have hlay:Lay 20 (.list (p.lines.map jU)):=yA (n:=19) λd hd=>by
   obtain⟨q,hq,rfl⟩:=aA.mp hd;refine qR (n:=18) λd hd=>?_
   simp only[aE,bB,or_false]at hd;rcases hd with rfl|rfl
   ·exact bH (hp.ok.lines q hq).1.ok.2
   ·exact c0 _ _
  have UB:VT (uZ kR P w K mg base YF "_law_case" (bV (top 57)) f iD A outer s H E).Km (ifC (k8 (top 57)) 0) (u9 YF [eZ p,.int m,.list ((gw p).map .str)]) (decide (m%3=0) && !dF (.list (p.lines.map jU)) (.list [])):=
   qO (VT.to (b0 hr (c0 20 _) (c0 20 _) (cU (ai 1 rfl) aD (by decide)) aD) (by rw[oh])) (λ_=>pE hr hlay Ig (fk hr (ai 0 rfl) aL (oN p)) (VO.ve (fh (ds:=[]) a7)))
  have e1:(!dF (.list (p.lines.map jU)) (.list []))=decide (p.lines≠[]):=by
   cases p.lines with
   |nil=>rfl
   |cons _ _=>rfl
  rw[e1]at UB;unfold pN;by_cases hc:m%3=0/\p.lines≠[]
  ·rw[qQ3 hc]
   have hl:1<=p.lines.length:=by
    cases h:p.lines with
    |nil=>exact qQ7 h hc.2
    |cons _ _=>rw[aX];omega
   refine dS (eu (VT.to UB (by rw[qQ1 hc.1,qQ1 hc.2];rfl)) (aI (zu (.tup [3,4]) (bU C1 qd (aq (ai 0 rfl) (aq (fB (ai 1 rfl) aD ⟨by decide,by decide⟩) (aq (ai 2 rfl) a7))) ⟨p,m/3,rfl,hp,hl,rfl⟩) (ik rfl (b_ (bP (i:=3) nd rfl (bq rfl)) (b_ (bP (i:=4) nd rfl (bq rfl)) fP))) rfl) (bw (cD (gu (aq (ai 3 rfl) (aq aL (aq (ai 4 rfl) a7)))))))) rfl
  ·rw[qQ2 hc]
   refine aI (cy (VT.to UB (by rw[FD,decide_eq_false_iff_not,decide_eq_false_iff_not];exact(Decidable.em (m%3=0)).elim (λh=>.inr λz=>hc ⟨h,z⟩) .inl)) bS) ?_
   by_cases h2:m%3<2
   ·rw[qQ3 h2]
    exact dS (eu (VT.to (xG (cU (ai 1 rfl) aD (by decide)) aD) (qQ1 h2)) (bw (cD (gu (aq (bU C2 (hr.mono (by omega)) (aq (ai 0 rfl) (aq (fB (ai 1 rfl) aD ⟨by decide,by decide⟩) (aq (ai 2 rfl) a7))) ⟨p,m/3,rfl,hp,rfl⟩) (aq aL (aq (fD (bM (bM (cu (n:=5)) (eR (eX (ai 2 rfl) aD a4) w4)) (cu (n:=2))) (Xx _)) a7))))))) rfl
   ·rw[qQ2 h2]
    refine aI (cy (VT.to (xG (cU (ai 1 rfl) aD (by decide)) aD) (qQ0 h2)) bS) ?_
    exact bw (cD (gu (aq (bU C3 (hr.mono (by omega)) (aq (ai 0 rfl) (aq (fB (ai 1 rfl) aD ⟨by decide,by decide⟩) (aq (ai 2 rfl) a7))) ⟨p,m/3,rfl,hp,rfl⟩) (aq aL (aq (fD (bM (bM (cu (n:=5)) (eR (eX (ai 2 rfl) aD a4) w4)) (cu (n:=2))) (T2 _)) a7)))))
end
theorem T3{α:Type}(l:List α)(lo hi:Option Int):(L2.cutD l lo hi).length<=l.length:=by
 unfold L2.cutD;rw[bK,cW];omega
theorem P'(ns:List Int)(cell:Int):P4 (qc (dQ ns) cell):=by
 obtain⟨k1,k4⟩:=kz (g_ ns);obtain⟨g1,g3⟩:=ja (bR ns);obtain⟨p1,p6⟩:=jG (bR ns);have hkl:(cG (g_ ns)).length=jC (g_ ns):=by simp[cG]
 have hk:1<=(dQ ns).kinds.length:=by show 1<=(cG (g_ ns)).length;omega
 have Ko:(orderOf (bR ns)).length=(placesOf (bR ns)).length:=by
  unfold orderOf;rw[aH,cW,bK];have:=ou (bR ns) (n:=(placesOf (bR ns)).length) (by omega)
  omega
 have hgl:(h8 (bR ns)).length<=3:=by unfold h8;rw[bK];omega
 have hg:(h8 (bR ns)).length+(linesOf (bR ns)).length<=6:=by unfold h8 linesOf;rw[bK,cW];omega
 have Lx:(bZ (fY ns) (orderOf (bR ns)) (linesOf (bR ns))).length<=4:=by rw[lQ];exact(ky (fY ns) (by omega)).2.1
 have pT:∀x∈placesOf (bR ns),x∉dD:=λx hx z=>Kf x z (Ke hx)
 have Di:∀d∈bZ (fY ns) (orderOf (bR ns)) (linesOf (bR ns)),_:=λd hd=>Dm (by omega) (by omega) hd
 refine⟨MP (II ns) hk cell,G_ (J' ns) hk cell,hk,?_,?_,G9 ns,?_,λx hx=>?_,λq hq=>?_,?_⟩
 ·show 1<=(h8 (bR ns)).length
  unfold h8;rw[bK];omega
 ·show(h8 (bR ns)).length<=6;omega
 ·show((cG (g_ ns)).map (·.1)++h8 (bR ns)++((cv (linesOf (bR ns)).length).map (roomAt (bR ns) _ (linesOf (bR ns)))).map (·.1)++(bZ (fY ns) (orderOf (bR ns)) (linesOf (bR ns))).map (·.name)).length<=20
  simp only[aH,aj,dZ];omega
 ·rcases bp.mp hx with hx|hx
  ·exact pT x (dR (show x∈h8 (bR ns)from hx))
  ·obtain⟨q,hq,rfl⟩:=aA.mp hx
   obtain⟨k,Nx,rfl⟩:=aA.mp (show q∈(cv (linesOf (bR ns)).length).map (roomAt (bR ns) _ (linesOf (bR ns)))from hq)
   refine pT _ (er (i:=hV (bR ns)) ?_)
   show(linesOf (bR ns)).getD k ""∈linesOf (bR ns)
   have Nx:=dB.mp Nx;rw[aJ,ax Nx];exact dv Nx
 ·obtain⟨k,Nx,rfl⟩:=aA.mp (show q∈(cv (linesOf (bR ns)).length).map (roomAt (bR ns) (bZ (fY ns) (orderOf (bR ns)) (linesOf (bR ns))) (linesOf (bR ns)))from hq)
  have mo:=oM (iL (bZ (fY ns) (orderOf (bR ns)) (linesOf (bR ns))) ((linesOf (bR ns)).getD k ""));have mb:maxOf (iL (bZ (fY ns) (orderOf (bR ns)) (linesOf (bR ns))) ((linesOf (bR ns)).getD k ""))<=12:=by
   rcases aE.mp mo.1 with h|h
   ·rw[h];decide
   ·obtain⟨d,hd,he⟩:=iT.mp h
    split at he
    ·rw[<-dC he];exact(Di d hd).2.2.2.2.2
    ·cases he
  have a2:cY (bR ns) (20+k)%3<3:=bG _ (by decide)
  show maxOf (iL _ _)+cY (bR ns) (20+k)%3<=1000;omega
 ·have h1:=Kc ns
  have e:(dI (qc (dQ ns) cell)).length=(dI (dQ ns)).length+(pL (dQ ns) cell (dQ ns).gates.length).length:=by
   unfold dI ny nX;simp only[aH,aj];show _=_+([]:List (Str×Str×Int×Int)).length+_;rfl
  have h2:(pL (dQ ns) cell (dQ ns).gates.length).length<=(dQ ns).gates.length:=cj (hX _ _) (by rw[dZ];exact ay _)
  have h3:(dQ ns).gates.length<=3:=hgl;omega
theorem Hn(ok:jA p)(hk:p.kinds≠[]):cR (yG p) "\n"=dI p:=by
 unfold yG;rw[Mp];refine qZ (λz=>?_) (Aa ok).1
 rw[Dw]at z;unfold z_ at z;cases hq:p.kinds with
 |nil=>exact hk hq
 |cons _ _=>rw[hq]at z;simp at z
theorem Fd{l:List Str}(hl:l.length<=70)(h:∀x∈l,x.length<=1400):(l.map (·.length)).sum+l.length*("\n":Str).length<=16777216:=by
 have h1:=Hj h;have h2:l.length*1400<=70*1400:=ic hl (ay _);rw[show("\n":Str).length=1 by decide];omega
def oS:List Str:=["gate","x"]
theorem Nf:∀x∈oS,10∉x.cps.toList/\nO x/\x.length<=1400:=by
 intro x h;simp only[oS,aE,bB,or_false]at h;rcases h with rfl|rfl
 ·exact⟨by symm,gL,by decide⟩
 ·exact⟨by symm,gL,by decide⟩
def Fge:ao->Option ao
 | .str x=>some (.str ("gate m"++x++"w"))
 |_=>none
theorem Qa:(jR "abcde").filterMap Fge=(((dD.drop 1).map Ent.gate).map ez).map .str:=by
 have e:(("abcde":Str).cps.toList.map λc=>("gate m"++(⟨#[c]⟩:Str)++"w"))=((dD.drop 1).map Ent.gate).map ez:=by
  rw[bf];show _=(dD.drop 1).map λ(x:Str)=>("gate ":Str)++x
  symm
 rw[<-e];unfold jR;rw[cw,bf];exact filterMap_some λk _=>rfl
structure LawC(P:bL)(w:cH)(K:au)(mg:Str->Option aG)(base:dw)(C M:aR):Prop where
 n:Na mg
 ca:bO P w K mg base 1 "_law_cell_at" ["_law_script","_law_k"] (iE K IB)
 mx:bO P w K mg base 1 "_law_mix" ["_law_cell","_law_k"] (iE K GA)
 pl:bO P w K mg base 4 "_law_plant" ["_law_script"] (iE K Rpl)
 pa:bO P w K mg base 2 "_law_paced" ["_law_h","_law_cell"] (iE K Rpa)
 pt:bO P w K mg base 3 "_law_plant_text" ["_law_h"] (iE K Rpt)
 nw:bO P w K mg base 1 "_law_news" ["_law_h"] (iE K Rnw)
 cs:bO P w K mg base 3 "_law_case" ["_law_h","_law_m","_law_new"] (iE K Rca)
 rp:bO P w K mg base 9 "read_plant" ["text"] (iE K Rrp)
 lf:bO P w K mg base 10 "_law_fault" ["_law_text"] (iE K Rlf)
section
variable{P:bL}{w:cH}{K:au}{mg:Str->Option aG}{base:dw}{f C M:aR}{k:Nat}
abbrev T4:List Str:=["_law_script","_law_h","_law_rows","_law_new","_law_k","_law_cell","_law_m","_law_row","_law_word","_law_good","_law_told"]
theorem Nh:c7 T4 ["_law_script"] (bV (top 58)):=⟨rfl,rfl,rfl,by symm,rfl,by symm,by symm⟩
theorem Xy(C0:LawC P w K mg base C M){ns:List Int}(hn:ns.length<=63):Br P w K mg base T4 "law" (top 58) f 10 [pH ns] (.rt (.bool true)):=by
 intro iD A outer s H E hr;have n:=C0.n;have nd:T4.Nodup:=Nh.nd;have qd:gj 1 _:=hr.mono (by omega)
 have QJ:gj 2 _:=hr.mono (by omega)
 have hr3:gj 3 _:=hr.mono (by omega)
 have hr4:gj 4 _:=hr.mono (by omega)
 have hr9:gj 9 _:=hr.mono (by omega)
 have hk:1<=(dQ ns).kinds.length:=by
  have:=(G8 ns).1;cases h:(dQ ns).kinds with
  |nil=>exact qQ7 h this
  |cons _ _=>rw[aX];omega
 refine aI (dq 1 (d:=eZ (qc (dQ ns) (ns.getD 3 0))) (bU C0.pa QJ (aq (bU C0.pl hr4 (aq (ai 0 rfl) a7) ⟨ns,rfl,rfl⟩) (aq (bU C0.ca qd (aq (ai 0 rfl) (aq aD a7)) ⟨ns,3,rfl,rfl⟩) a7)) ⟨_,_,rfl,II ns,hk,rfl⟩) nd) ?_
 have hp:=P' ns (ns.getD 3 0);have Pp:(qc (dQ ns) (ns.getD 3 0)).kinds.length<60:=by
  show(cG (g_ ns)).length<60
  have:=kz (g_ ns);simp only[cG,aj,dZ];omega
 have S':(qc (dQ ns) (ns.getD 3 0)).desks.length<60:=by
  have:=hp.few;unfold jK at this;simp only[aH,aj]at this;omega
 generalize qc (dQ ns) (ns.getD 3 0)=p at *
 have Up:=hp.ok;have Zw:p.kinds≠[]:=λz=>by have:=hp.k1;rw[z]at this;simp at this
 have Tq:=hp.rows;have otx:wD (yG p):=text_rows (λr hr=>BV Up r hr) (by omega)
 refine aI (dq 2 (d:=fE (dI p)) (VE.to (VO.ve (qu (bU C0.pt hr3 (aq (ai 1 rfl) a7) ⟨p,rfl,Up,rfl⟩) aL rfl (small (by have:=otx.1;omega)))) (by rw[Hn Up Zw];rfl)) nd) ?_
 refine aI (dq 3 (d:=.list ((gw p).map .str)) (bU C0.nw qd (aq (ai 1 rfl) a7) ⟨p,rfl,Up,rfl⟩) nd) ?_
 have ns1:(["_law_sign"]:List Str).Nodup:=by symm
 refine aI (dq 2 (d:=fE ((uw p).map ez)) (VE.to (VO.ve (iw (d1:=(dI p).map .str ++ [.str "gate extra"]) (d2:=(((dD.drop 1).map Ent.gate).map ez).map .str) (VO.ve (iw (d1:=(dI p).map .str) (d2:=[.str "gate extra"]) (ai 2 rfl) (VO.ve (fh (aq aL a7))) (small (by rw[aj];show _+1<=_;omega)))) (VO.ve (VO.to (fJ (own:=["_law_sign"]) (cap:=[]) (N:=["_law_sign"]) (cl:=[]) (tgt:=.one 0) (F:=Fge) (ds:=jR "abcde") rfl ⟨rfl,by symm,by symm,rfl,rfl,by simp⟩ (CZ aL) (λf s3 H3=>bP (i:=0) ns1 rfl (bq rfl)) rfl (small (by symm)) (λd hd=>?_)) Qa)) (small (by rw[aH,aj];show _+1+5<=_;omega)))) ?_) nd) ?_
 ·obtain⟨z,hz,rfl⟩:=aA.mp hd
  refine⟨_,rfl,λf s3 H3=>fQ,λr jT f s3 H3=>?_⟩
  cases jT;have e3:(⟨#[z]⟩:Str).length=1:=rfl;exact gv (gv aL (ai 0 rfl) (small (by rw[e3];decide))) aL (small (by rw[bJ,e3];decide))
 ·unfold fE uw
  rw[Dw];have e:(dD.map Ent.gate).map ez=("gate extra":Str)::((dD.drop 1).map Ent.gate).map ez:=by
   show("gate "++"extra":Str)::_=_
   rw[show("gate "++"extra":Str)="gate extra" by symm];rfl
  rw[aV,aV,e,c6];rfl
 have hes:=(M4 hp).ent;have hel:(uw p).length<=56:=by
  unfold uw;have:(dI p).length=(z_ p).length:=by rw[Dw,aj]
  rw[aH,<-this];show _+6<=56;omega
 have Kq:=T3 ns (some 4) (some 40);have zbK:L2.cutD (ns.map iO) (some 4) (some 40)=(L2.cutD ns (some 4) (some 40)).map .int:=ud _ _ _ _
 generalize L2.cutD ns (some 4) (some 40)=cs at *
 refine aI (lO (tgt:=.tup [4,5]) (o:=.nx [.val (pH ns),.val (eZ p),.val (fE ((uw p).map ez)),.val (.list ((gw p).map .str)),.un,.un,.un,.un,.un,.un,.un]) dP rfl (og (ds:=((5:Int)::cs).map .int) (VE.to (VO.ve (iw (d1:=[.int 5]) (d2:=cs.map .int) (VO.ve (fh (aq aD a7))) (VE.to (VO.ve (jJ (ds:=ns.map iO) (ai 0 rfl) (.yes aD) (.yes aD))) (by rw[zbK])) (small (by simp only[aj,aX,cz];omega)))) rfl) n.Nv)
   (ik rfl (b_ (bP (i:=4) nd rfl (bq rfl)) (b_ (bP (i:=5) nd rfl (bq rfl)) fP))) (λ_=>[.val (pH ns),.val (eZ p),.val (fE ((uw p).map ez)),.val (.list ((gw p).map .str)),.un,.un,.un,.un,.un,.un,.un]) (((5:Int)::cs).map iO).length rfl (by rw[dM];exact ay _) (λi d hi hd=>?_) (.inl ⟨by rw[dM],rfl⟩)) (bw (cD Lb))
 obtain⟨x,hx,rfl⟩:=jM hd;obtain⟨c,_,rfl⟩:=aA.mp (bF hx);have zha:i<64:=by rw[aj,aX]at hi;omega
 refine⟨_,rfl,?_⟩
 refine aI (dq 6 (d:=.int (cY c (500+i))) (bU C0.mx qd (aq (ai 5 rfl) (aq (eM aD (ai 4 rfl)) a7)) ⟨c,500+i,rfl,by omega,by omega,rfl⟩) nd) ?_
 generalize cY c (500+(i:Int))=m at *
 obtain⟨b1,b2,b3,g1,g2⟩:=P9 hp Pp S' (m/8);refine aI (zu (.tup [7,8,9]) (bU C0.cs hr3 (aq (ai 1 rfl) (aq (fB (ai 6 rfl) aD ⟨by decide,by decide⟩) (aq (ai 3 rfl) a7))) ⟨p,m/8,rfl,hp,rfl⟩) (ik rfl (b_ (bP (i:=7) nd rfl (bq rfl)) (b_ (bP (i:=8) nd rfl (bq rfl)) (b_ (bP (i:=9) nd rfl (bq rfl)) fP)))) rfl) ?_
 generalize pN p (m/8)=T at *
 obtain⟨e,wd,g⟩:=T;have b1:gX e:=b1;have b2:kA (mj p) e=wd:=b2;have b3:wd="twice"\/wd="name"\/wd="room":=b3;have g1:J8 (uw p ++ [g]):=g1;have g2:gX g:=g2;obtain⟨z,hz,hz2⟩:∃z:Nat,m%3=z/\z<=2:=⟨(m%3).toNat,by omega,by omega⟩
 refine aI (dq 10 (d:=fE ((uw p).map ez++aT z ("":Str))) (VE.to (VO.ve (iw (d1:=((uw p).map ez).map .str) (d2:=(aT z ("":Str)).map .str) (ai 2 rfl) (VE.to (VO.ve (Sn (ds:=[.str ""]) (fh (aq aL a7)) (cU (ai 6 rfl) aD (by decide)) ⟨by omega,by omega⟩ (by show 1<=100;decide))) (by rw[hz,fN,zS,wB])) (small (by simp only[aj,c9];omega)))) (by unfold fE;rw[aV])) nd) ?_
 obtain⟨t,ht,Ud⟩:∃t:Nat,m/3%3=t/\t<=2:=⟨(m/3%3).toNat,by omega,by omega⟩
 have Rg:∀r∈oS.take t,10∉r.cps.toList/\nO r/\r.length<=1400:=λr hr=>Nf r (dR hr)
 have U6:(oS.take t).length<=2:=by rw[bK];exact yQ _ _
 obtain⟨pre,post,r1,r2⟩:=M5 hes z b1 (post:=oS.take t) λr hr=>(Rg r hr).1
 have QM:((uw p).map ez++aT z ("":Str)).length=(uw p).length+z:=by rw[aH,aj,c9]
 have told:=xt hes z;have rb:=xq b1;have rg:=xq g2;have Xz:∀r∈(uw p).map ez++aT z ("":Str) ++ [ez e]++oS.take t,nO r/\r.length<=1400:=λr hr=>by
  rcases bp.mp hr with hr|hr
  ·rcases bp.mp hr with hr|hr
   ·exact⟨(told r hr).1,(told r hr).2.1⟩
   ·rw[aK.mp hr];exact⟨rb.1,rb.2.1⟩
  ·exact(Rg r hr).2
 have XA:∀r∈(uw p).map ez++aT z ("":Str) ++ [ez g],nO r/\r.length<=1400:=λr hr=>by
  rcases bp.mp hr with hr|hr
  ·exact⟨(told r hr).1,(told r hr).2.1⟩
  ·rw[aK.mp hr];exact⟨rg.1,rg.2.1⟩
 have bl:((uw p).map ez++aT z ("":Str) ++ [ez e]++oS.take t).length<=70:=by rw[aH,aH,QM,gS];omega
 have gl:((uw p).map ez++aT z ("":Str) ++ [ez g]).length<=70:=by rw[aH,QM,gS];omega
 have Xl:nO wd:=by rcases b3 with rfl|rfl|rfl<;>exact gL
 have T5:Lay 20 (.tuple [.int (((uw p).length+z:Nat):Int),.str wd]):=qR (n:=19) λd hd=>by
  simp only[aE,bB,or_false]at hd;rcases hd with rfl|rfl
  ·exact c0 19 _
  ·exact bH Xl
 refine aI (cy (VT.to (pE hr T5 T5 (bU C0.lf hr (aq (mW (zs:=(uw p).map ez++aT z ("":Str) ++ [ez e]++oS.take t) aL (VE.to (VO.ve (iw (d1:=((uw p).map ez++aT z ("":Str)).map .str ++ [.str (ez e)]) (d2:=(oS.take t).map .str) (VO.ve (iw (d1:=((uw p).map ez++aT z ("":Str)).map .str) (d2:=[.str (ez e)]) (ai 10 rfl) (VO.ve (fh (aq (ai 7 rfl) a7))) (small (by rw[aj,QM];show _+1<=_;omega)))) (VE.to (VO.ve (jJ (ds:=oS.map .str) (VE.to (k:=.list (oS.map .str)) (VO.ve (fh (aq aL (aq aL a7)))) rfl) .no (.yes (VE.to (cU (fB (ai 6 rfl) aD ⟨by decide,by decide⟩) aD (by decide)) (by rw[ht]))))) (by rw[ud,zv])) (small (by rw[aH,aj,aj,QM];show _+1+_<=_;omega)))) (by simp only[aV,f7])) (Fd bl λr hr=>(Xz r hr).2)) a7) ⟨(((uw p).length+z:Nat):Int),wd,⟨_,uw p,pre,post,(uw p).length+z,e,rfl,text_rows Xz bl,r1,r2,M4 hp,b1,by rw[(wq hp).2];exact b2,rfl,b3⟩,rfl⟩) (gu (aq (VE.to (jg (ds:=((uw p).map ez++aT z ("":Str)).map .str) (ai 10 rfl) n.len) (by rw[aj,QM])) (aq (ai 8 rfl) a7)))) (by rw[SeqAt.eqv_refl _ T5.1];rfl)) bS) ?_
 exact iP (bw (O4 (bU C0.rp hr9 (aq (mW (zs:=(uw p).map ez++aT z ("":Str) ++ [ez g]) aL (VE.to (VO.ve (iw (d1:=((uw p).map ez++aT z ("":Str)).map .str) (d2:=[.str (ez g)]) (ai 10 rfl) (VO.ve (fh (aq (ai 9 rfl) a7))) (small (by rw[aj,QM];show _+1<=_;omega)))) (by simp only[aV,f7])) (Fd gl λr hr=>(XA r hr).2)) a7) ⟨_,uw p ++ [g],rfl,text_rows XA gl,Kj hes z g2,g1,rfl⟩))) ⟨.inr rfl,.inr rfl,.inr rfl,.inr rfl,.inl rfl,.inl rfl,.inl rfl,.inl rfl,.inl rfl,.inl rfl,.inl rfl,trivial⟩
def Rh(K:au):Sp:=λvs H Q _=>∃(a:aR)(ns:List Int),vs=[.ref a]/\mJ K H a (ns.map V.int)/\ns.length<=63/\∀H',Q (.bl true) H'
theorem B6{K:au}{H:Hp}:∀ns:List Int,dz K H (ns.map V.int) (ns.map iO)
 | []=>.nil
 |n::ns=>.cons (.int n) (B6 ns)
theorem XB(F:mw K "law" "law" (top 58) f fd)(C0:LawC P w K mg base C M):fA P w K mg base kR 11 f fd ["_law_script"] (Rh K):=by
 refine F.ok Nh (λvs H Q E h=>?_) (λiD A outer s H vs Q E hr h=>?_)
 ·obtain⟨a,ns,rfl,_⟩:=h
  rfl
 ·obtain⟨a,ns,rfl,hS,hn,q⟩:=h
  exact⟨_,nW,LZ (Xy C0 hn iD A outer s H E hr) (.start (eC.refl _) (.cons (.lst hS (B6 ns)) .nil)) λv e9 H' g r=>by cases r;exact q H'⟩
end
end Mg
namespace Mg
open L2 PySem PyProof.Rows
variable{f g:aR}{HQ:Array (Option aG)}{h:dw}{ps:List Str}{an od:Option aR}{st:jq}{oc:aG}
structure fK(K:au)(mg:Str->Option aG)(g x:Str)(st:jq)(ps:List Str):Prop where
 ex:∃f fd,mw K x x st f fd/\mg g=some (.ref f)/\∀us:List aG,us.length=ps.length->bindArgs fd ⟨us,[]⟩=pure (ps.zip us)
theorem Ho{K:au}{mg:Str->Option aG}{g x:Str}{kV doc pm iD ct:aG}(X:K.In h)(G:h.Ns mainGlobals mg)
  (hb:∀(kV doc pm:aG)(an:Option aR)(iD ct:aG)(us:List aG),us.length=ps.length->bindArgs (iZ x x (pA st) (k8 st) (bV st) .none kV doc pm an iD ct) ⟨us,[]⟩=pure (ps.zip us))
  (a:kC K mainGlobals g=some (some (.ref f)))(l:K.lookup f=some ⟨oc,od,.func (iZ x x (pA st) (k8 st) (bV st) .none kV doc pm an iD ct),HQ⟩)
  (c:lL K iD x=true)(k:ft K (.ref f)=true):fK K mg g x st ps:=
 ⟨f,_,F6 l c k,iA X G a,hb kV doc pm an iD ct⟩
section
variable{P:bL}{w:cH}{K:au}{mg:Str->Option aG}{base:dw}{f:aR}{k:Nat}
theorem fK.call{g x:Str}{sp:Sp}(D:fK K mg g x st ps)(h:∀f fd,mw K x x st f fd->fA P w K mg base kR k f fd ps sp):bO P w K mg base k g ps sp:=by
 obtain⟨f,fd,F,hm,hb⟩:=D.ex;exact⟨f,fd,h f fd F,hm,F.kp,.all hb⟩
theorem lX{ws:List Str}{its:Array aG}{n:Nat}{sl:Array (Option aG)}(l:K.lookup g=some ⟨.type "tuple",od,.seq its n,sl⟩)(hs:its.size<=100)(hv:eO (ws.map V.str) its.toList):LK K g ws:=
 ⟨_,_,_,l,rfl,rfl,small (by omega),hv⟩
theorem Ri{pr:Ci}{kvs:List (Str×List Str)}{es:Array Cj}{ep:Nat}(nm:(g==sysModules)=false)(nd:(kvs.map (·.1)).Nodup)(l:K.lookup g=some ⟨.type "dict",none,.dict es ep,#[]⟩)(ge:GE pr K es.toList kvs):GD pr K g kvs:=
 ⟨nm,nd,_,es,ep,l,⟨rfl,rfl,rfl⟩,rfl,ge⟩
structure Qb(K:au)(mg:Str->Option aG):Prop where
 ex:∃C fi fd,mg "Plant"=some (.ref C)/\DZ K C/\(∀f∈Yv,gP K C f)/\Mk K C fi/\mw K "__init__" "Plant.__init__" zX fi fd/\Binds K fd ["self"] []
theorem XC{C: aR}{kV doc pm iD ct:aG}(X:K.In h)(G:h.Ns mainGlobals mg)(aC:kC K mainGlobals "Plant"=some (some (.ref C)))
  (a1:cp K (.ref C) "__init__"=some (some (.ref f)))(i1:vG K (.ref f)=true)(l:K.lookup f=some ⟨oc,od,.func (iZ "__init__" "Plant.__init__" (pA zX) (k8 zX) (bV zX) .none kV doc pm an iD ct),HQ⟩)(c:lL K iD "Plant.__init__"=true)(k:ft K (.ref f)=true)
  (pg:qe K C eS=true)(hd:hZ K C=true)(po:vE K C=true)(sa:cp K (.ref C) "__setattr__"=some (some (.builtin "object.__setattr__")))(mk:x6 K C=true)(kc:ft K (.ref C)=true)
  (z1:cp K (.ref C) "kinds"=some none)(z2:cp K (.ref C) "gates"=some none)(z3:cp K (.ref C) "lines"=some none)(z4:cp K (.ref C) "desks"=some none)(z5:cp K (.ref C) "times"=some none)(z6:cp K (.ref C) "hours"=some none)(z7:cp K (.ref C) "paces"=some none):Qb K mg:=by
 have F:=F6 (st:=zX) l c k;refine⟨C,f,_,iA X G aC,⟨pg,hd,po,sa⟩,λf hf=>?_,⟨mk,a1,i1,kc⟩,F,F.binds (ps:=["self"]) λ_ _ _ _ _ _ us hl=>match us,hl with | [_],_=>rfl⟩
 simp only[aE,bB,or_false]at hf;rcases hf with rfl|rfl|rfl|rfl|rfl|rfl|rfl
 ·exact z1
 ·exact z2
 ·exact z3
 ·exact z4
 ·exact z5
 ·exact z6
 ·exact z7
theorem Qb.pc(T:Qb K mg):PlC P w K mg base:=by
 obtain⟨C,fi,fd,h1,h2,h3,h4,h5,h6⟩:=T.ex;exact⟨C,fi,fd,h1,h2,h3,h4,zbb h5 h2 h3,h6⟩
structure XAt(K:au)(mg:Str->Option aG):Prop where
 ex:∃C M fi fd,X_ K C fi/\mw K "__init__" "BadPlant.__init__" TL fi fd/\Binds K fd TN []/\Xi K mg M/\XKd K mg C/\O9 K C M
theorem T6{C M M1 M2 M3: aR}{kV doc pm iD ct:aG}{nm q N bs bm hdct sn sub ab col dd k0 k1 k2 k3 k5 Yc q' N' Yd Uo Iv Ye O_ Yf Pa D7 Yg Yh Yi Yj Yk}(X:K.In h)(G:h.Ns mainGlobals mg)
  (aC:kC K mainGlobals "BadPlant"=some (some (.ref C)))(aM:kC K mainGlobals "MergeError"=some (some (.ref M)))(b1:kC K mainGlobals "BadBook"=some (some (.ref M1)))(b2:kC K mainGlobals "BadDay"=some (some (.ref M2)))(b3:kC K mainGlobals "NoBound"=some (some (.ref M3)))(bv:kC K mainGlobals "ValueError"=some none)
  (a1:cp K (.ref C) "__init__"=some (some (.ref f)))(i1:vG K (.ref f)=true)(l:K.lookup f=some ⟨oc,od,.func (iZ "__init__" "BadPlant.__init__" (pA TL) (k8 TL) (bV TL) .none kV doc pm an iD ct),HQ⟩)(c:lL K iD "BadPlant.__init__"=true)(k:ft K (.ref f)=true)
  (lC:K.lookup C=some (excClassObj nm q C N bs bm hdct sn sub ab col dd k0 k1 k2 k3 k5 "ValueError.__new__"))(lM:K.lookup M=some (excClassObj Yc q' M N' Yd Uo Iv Ye O_ Yf Pa D7 Yg Yh Yi Yj Yk "ValueError.__new__"))
  (e1:(bA C::bm).contains (.type "ValueError")=true)(e2:(bA C::bm).contains (.type "AttributeError")=false)(e3:(bA C::bm).contains (.type "NameError")=false)(e4:(bA C::bm).contains (.type "BaseException")=true)(e5:(bA C::bm).contains (.ref M)=true)(e6:(bA M::Uo).contains (.type "BaseException")=true)
  (sa:cp K (.ref C) "__setattr__"=some (some (.builtin "object.__setattr__")))(po:sY bm=Bz)(hd:hZ K C=true)(kp:ft K (.ref C)=true)(z1:cp K (.ref C) "place"=some none)(z2:cp K (.ref C) "word"=some none)
  (rd:yd K M (.type "type")=true)(fc:ye K (.ref M) (.type "type") "__init__"=some (.val (.builtin "ValueError.__init__")))(sp:lK K (.ref M) "__getattribute__"=some (some (.builtin "type.__getattribute__")))
  (ka:yW K (.ref C) [.ref M1,.ref M2,.ref M3]=some false)(kc:dH K (.ref C) (.ref C)=some true)(kv:dH K (.ref C) (.type "ValueError")=some true)
  (ga:cp K (.ref C) "__getattribute__"=some (some (.builtin "BaseException.__getattribute__")))(gh:cp K (.ref C) "__getattr__"=some none)(mb:uz K C (.type "BaseException")=some true)(cl:cp K (.ref C) "__class__"=some (some (.builtin "object.__class__")))(cg:lK K (.builtin "object.__class__") "__get__"=some (some (.builtin "getset_descriptor.__get__")))(ct':PySem.W.takesIn K (.builtin "object.__class__")=some true)(mo:uz K C (.type "object")=some true):XAt K mg:=by
 have F:=F6 (st:=TL) l c k;exact⟨C,M,f,_,⟨⟨⟨_,_,_,_,_,_,_,_,_,_,_,_,_,_,_,_,lC,e1,e2,e3,e4⟩,sa,⟨_,by unfold PySem.W.clsIn;rw[lC],po⟩,hd,kp⟩,a1,i1⟩,F,F.binds (ps:=TN) (λ_ _ _ _ _ _ us hl=>match us,hl with | [_,_,_],_=>rfl),⟨iA X G aM,rd,fc,sp⟩,⟨iA X G aC,⟨M1,M2,M3,iA X G b1,iA X G b2,iA X G b3,ka⟩,kc,kv,FE X G bv,⟨ga,gh,mb,hd,cl,cg,ct',mo⟩,z1,z2⟩,
  ⟨_,_,_,_,_,_,_,_,_,_,_,_,_,_,_,_,_,_,_,_,_,_,_,_,_,_,_,_,_,_,_,_,lC,lM,e5,e6⟩⟩
structure Defs(K:au)(mg:Str->Option aG)(pr:Ci):Prop where
 n:Np mg pr K
 nw:Nw mg
 kt:Ka K
 pa:Qb K mg
 xa:XAt K mg
 md:mg "dict"=none
 d0:fK K mg "is_made_of" "is_made_of" (top 13) ["signs","longest","word"]
 d1:fK K mg "is_name" "is_name" (top 14) ["word"]
 d2:fK K mg "is_number" "is_number" (top 15) ["word"]
 d3:fK K mg "words_of" "words_of" (top 16) ["row"]
 d4:fK K mg "rows_of" "rows_of" (top 17) ["text"]
 d5:fK K mg "greatest_load" "greatest_load" (top 7) ["rule","many"]
 d6:fK K mg "read_plant" "read_plant" (top 23) ["text"]
 d7:fK K mg "fits" "fits" (top 24) ["shape","word"]
 d8:fK K mg "value_of" "value_of" (top 25) ["shape","word"]
 d9:fK K mg "values_of" "values_of" (top 26) ["shapes","words"]
 d10:fK K mg "entry_of" "entry_of" (top 27) ["words"]
 d11:fK K mg "desk_entry" "desk_entry" (top 28) ["words"]
 d12:fK K mg "rule_of" "rule_of" (top 29) ["words","many"]
 d13:fK K mg "are_places" "are_places" (top 30) ["names"]
 YG:fK K mg "fault_of" "fault_of" (top 31) ["plant","entry"]
 d15:fK K mg "tells_twice" "tells_twice" (top 32) ["plant","entry"]
 d16:fK K mg "lacks_name" "lacks_name" (top 33) ["plant","entry"]
 d17:fK K mg "lacks_room" "lacks_room" (top 34) ["plant","entry"]
 d18:fK K mg "is_place" "is_place" (top 35) ["plant","name"]
 d19:fK K mg "is_desk" "is_desk" (top 36) ["plant","name"]
 d20:fK K mg "takers_of" "takers_of" (top 37) ["plant","place"]
 d21:fK K mg "add_entry" "add_entry" (top 38) ["plant","entry"]
 d22:fK K mg "_law_cell_at" "_law_cell_at" (top 40) ["_law_script","_law_k"]
 d23:fK K mg "_law_mix" "_law_mix" (top 41) ["_law_cell","_law_k"]
 d24:fK K mg "_law_names" "_law_names" (top 42) ["_law_cell","_law_many"]
 d25:fK K mg "_law_rule" "_law_rule" (top 43) ["_law_m","_law_many"]
 d26:fK K mg "_law_greatest" "_law_greatest" (top 44) ["_law_rule_here","_law_many"]
 d27:fK K mg "_law_desks" "_law_desks" (top 45) ["_law_cell","_law_places","_law_lines"]
 d28:fK K mg "_law_plant" "_law_plant" (top 46) ["_law_script"]
 d29:fK K mg "_law_dash" "_law_dash" (top 47) ["_law_thing"]
 d30:fK K mg "_law_rule_text" "_law_rule_text" (top 48) ["_law_rule_here"]
 d31:fK K mg "_law_plant_text" "_law_plant_text" (top 49) ["_law_h"]
 d32:fK K mg "_law_paced" "_law_paced" (top 50) ["_law_h","_law_cell"]
 d33:fK K mg "_law_fault" "_law_fault" (top 51) ["_law_text"]
 d34:fK K mg "_law_news" "_law_news" (top 52) ["_law_h"]
 d35:fK K mg "_law_picked" "_law_picked" (top 53) ["_law_h","_law_m"]
 d36:fK K mg "_law_twice" "_law_twice" (top 54) ["_law_h","_law_m","_law_new"]
 d37:fK K mg "_law_lacking" "_law_lacking" (top 55) ["_law_h","_law_m","_law_new"]
 d38:fK K mg "_law_crowded" "_law_crowded" (top 56) ["_law_h","_law_m","_law_new"]
 d39:fK K mg "_law_case" "_law_case" (top 57) ["_law_h","_law_m","_law_new"]
theorem Defs.all(D:Defs K mg w.params):∃C M,LawC P w K mg base C M:=by
 have n:=D.n;have nw:=D.nw;have pc:=D.pa.pc (P:=P) (w:=w) (base:=base);obtain⟨C,M,fi,fdi,mk,Fi,bI,S,xk,sub⟩:=D.xa.ex;have FI:=zbo (P:=P) (w:=w) (base:=base) Fi mk.toGq xk.np xk.nw S;have wt:=D.d0.call (P:=P) (w:=w) (base:=base) λ_ _ F=>zao F nw
 have xu:=D.d1.call (P:=P) (w:=w) (base:=base) λ_ _ F=>zap F nw wt
 have xZ:=D.d2.call (P:=P) (w:=w) (base:=base) λ_ _ F=>zaq F nw wt
 have Hq:=D.d3.call (P:=P) (w:=w) (base:=base) λ_ _ F=>zar F
 have B7:=D.d4.call (P:=P) (w:=w) (base:=base) λ_ _ F=>zat F nw Hq
 have yl:=D.d5.call (P:=P) (w:=w) (base:=base) λ_ _ F=>za3 F
 have Qc:=D.d7.call (P:=P) (w:=w) (base:=base) λ_ _ F=>WK F n.toNa xu xZ
 have T7:=D.d7.call (P:=P) (w:=w) (base:=base) λ_ _ F=>zaJ F n.toNa xu xZ Qc
 have Hr:=D.d8.call (P:=P) (w:=w) (base:=base) λ_ _ F=>zaK F n.toNa
 have tS:=D.d9.call (P:=P) (w:=w) (base:=base) λ_ _ F=>zaL F n.toNa n.zip T7 Hr
 have Kk:=D.d12.call (P:=P) (w:=w) (base:=base) λ_ _ F=>WR F n tS
 have DB:=D.d13.call (P:=P) (w:=w) (base:=base) λ_ _ F=>zaN F n xu
 have DC:=D.d11.call (P:=P) (w:=w) (base:=base) λ_ _ F=>zaP F n tS Kk DB
 have Ak:=D.d10.call (P:=P) (w:=w) (base:=base) λ_ _ F=>zaX F n tS DC
 have Al:=D.d18.call (P:=P) (w:=w) (base:=base) λ_ _ F=>za0 F
 have B8:=D.d19.call (P:=P) (w:=w) (base:=base) λ_ _ F=>za1 F
 have Fe:=D.d20.call (P:=P) (w:=w) (base:=base) λ_ _ F=>za2 F
 have uR:=D.d15.call (P:=P) (w:=w) (base:=base) λ_ _ F=>za7 F n Al B8 Fe
 have wu:=D.d16.call (P:=P) (w:=w) (base:=base) λ_ _ F=>za8 F n Al B8
 have wx:=D.d17.call (P:=P) (w:=w) (base:=base) λ_ _ F=>W8 F n yl
 have Am:=D.YG.call (P:=P) (w:=w) (base:=base) λ_ _ F=>zba F uR wu wx
 have x3:=D.d21.call (P:=P) (w:=w) (base:=base) λ_ _ F=>zbd F
 have DE:=D.d6.call (P:=P) (w:=w) (base:=base) λ_ _ F=>zbl F n pc B7 Ak Am x3
 have Ff:=D.YG.call (P:=P) (w:=w) (base:=base) λ_ _ F=>QV F uR wu wx
 have uS:=D.d22.call (P:=P) (w:=w) (base:=base) λ_ _ F=>Te F n.len
 have qC:=D.d23.call (P:=P) (w:=w) (base:=base) λ_ _ F=>Wy F
 have x4:=D.d24.call (P:=P) (w:=w) (base:=base) λ_ _ F=>zav F n.toNm qC
 have Hs:=D.d25.call (P:=P) (w:=w) (base:=base) λ_ _ F=>zaw F n.toNm
 have An:=D.d26.call (P:=P) (w:=w) (base:=base) λ_ _ F=>zax F
 have Fg:=D.d27.call (P:=P) (w:=w) (base:=base) λ_ _ F=>zaz F n.toNm qC x4 Hs
 have Fh:=D.d28.call (P:=P) (w:=w) (base:=base) λ_ _ F=>zaB F n.toNm uS qC x4 An Fg
 have Ao:=D.d29.call (P:=P) (w:=w) (base:=base) λ_ _ F=>zaG F n.toNa
 have ym:=D.d30.call (P:=P) (w:=w) (base:=base) λ_ _ F=>zaH F n.toNa Ao
 have xx:=D.d31.call (P:=P) (w:=w) (base:=base) λ_ _ F=>zaI F n.toNa Ao ym
 have Fj:=D.d32.call (P:=P) (w:=w) (base:=base) λ_ _ F=>zbq F n.toNa D.md qC
 have Ht:=D.d34.call (P:=P) (w:=w) (base:=base) λ_ _ F=>zbx F
 have wy:=D.d35.call (P:=P) (w:=w) (base:=base) λ_ _ F=>zbA F n.toNa
 have Fk:=D.d36.call (P:=P) (w:=w) (base:=base) λ_ _ F=>zbD F n.toNa wy
 have A0:=D.d37.call (P:=P) (w:=w) (base:=base) λ_ _ F=>zbF F n.toNa wy
 have A1:=D.d38.call (P:=P) (w:=w) (base:=base) λ_ _ F=>zbG F n.toNa
 have Hu:=D.d39.call (P:=P) (w:=w) (base:=base) λ_ _ F=>zbI F n.toNa A1 Fk A0
 obtain⟨frx,zhc,F,zce,zcf⟩:=D.d6.ex;have rx:BJ P w K mg base _ "read_plant" ["text"] C _:=⟨_,_,Xk F n pc B7 Ak Am Ff x3 xk.own mk FI bI,zce,F.kp,.all zcf⟩;exact⟨C,M,n.toNa,uS,qC,Fh,Fj,xx,Ht,Hu,DE,D.d33.call (P:=P) (w:=w) (base:=base) λ_ _ F=>zbp F n.toNa xk S.mg sub rx⟩
end
theorem walk{l:PySem.W.OpenLaw}{q:bL}{loose:List Str}{XP:(Str->Option aG)->dw->Prop}{YP:cH->dw->Prop}{d:DefRec}{K:Ci->au}(hn:l.most=some 63)(Vm:d.params.defaults=[])(S':d.name="law")
  (hY:∀(w:cH)(h:dw),YP w h->(K w.params).In h)
  (F:∀(w:cH)(mg:Str->Option aG)(h:dw),(K w.params).In h->h.Ns mainGlobals mg->Defs (K w.params) mg w.params/\fK (K w.params) mg "law" "law" (top 58) ["_law_script"]):
  PySem.W.WalkO q loose XP YP l.row.toRowW d [] (λf vs=>PySem.call f vs):=
 L2.Ob (n:=63) (k:=11) (x:="_law_script") (CX:=λ_=>kR) (sp:=λw=>Rh (K w.params)) hn (by decide) Vm ⟨rfl,by decide,by decide⟩ hY (λw mg fa h X G Nn=>by
  obtain⟨D,L⟩:=F w mg h X G;obtain⟨f,fd,Fl,hm,hb⟩:=L.ex;rw[S']at Nn;rw[hm]at Nn;cases Nn;exact⟨fd,λs v=>.of_eq (hb [v] rfl),λbase _ _=>(by obtain⟨_,_,L0⟩:=D.all (base:=base);exact XB Fl L0)⟩) (λ_ _ a ns hl _ hS=>⟨a,ns,rfl,hS,hl,λ_=>rfl⟩) λ_ _ _ _ _ z=>z
end Mg
namespace PySem.W.Fast
def tw10001924844885238369:=()
def tw10012557454909324499:=()
def tw10079036595988517910:=()
def tw10082665602684810313:=()
def tw1011185675320954028:=()
def tw10118817164293093937:=()
def tw10243003558419112523:=()
def tw10315287210092231215:=()
def tw10344083930414272983:=()
def tw1042908298279405642:=()
def tw10530675227342835833:=()
def tw1067921365172142690:=()
def tw10709646616262678017:=()
def tw10719135739202491386:=()
def tw10726841547221052606:=()
def tw10822921825043738641:=()
def tw10912718192310067268:=()
def tw10918732418418437714:=()
def tw11005387915138655083:=()
def tw11070993490525445452:=()
def tw110846497671507704:=()
def tw11106025377389172313:=()
def tw11177229849472969766:=()
def tw11195290036761874553:=()
def tw11364738360472339660:=()
def tw11383515726925992362:=()
def tw11444380522706812542:=()
def tw11468890613428632599:=()
def tw11506900923392728950:=()
def tw11531317195137890629:=()
def tw11593563193293571421:=()
def tw11620393817179229364:=()
def tw11776511687255003880:=()
def tw11857776415867202854:=()
def tw11878124717967287180:=()
def tw11889156797096871593:=()
def tw11891041142902176588:=()
def tw1193806297694189758:=()
def tw11950702885817245164:=()
def tw12032934010266888526:=()
def tw12054453219639762452:=()
def tw12068778023915766461:=()
def tw12102231802645450236:=()
def tw12109207443244266255:=()
def tw1212181305743631215:=()
def tw12153448474725629927:=()
def tw12181844122166089928:=()
def tw12203701674931735005:=()
def tw12240976813613152316:=()
def tw12274801053745546909:=()
def tw12284310216533254685:=()
def tw12305460258896254487:=()
def tw12440749388704843364:=()
def tw1256153959953024114:=()
def tw12597097816350873476:=()
def tw12655898588471649002:=()
def tw12666889520145951033:=()
def tw12788972580049936121:=()
def tw12848894124734549039:=()
def tw12882454983123883261:=()
def tw12904280402439032391:=()
def tw12912904650559070600:=()
def tw12981950376532759120:=()
def tw13107067567177480017:=()
def tw13119186057725447426:=()
def tw13125507323493776023:=()
def tw13325909867575218605:=()
def tw13344180510802189368:=()
def tw13361149460133783456:=()
def tw13379147317747704048:=()
def tw13439237231003132931:=()
def tw13520003500220243529:=()
def tw13520449375151807018:=()
def tw13583897258004648629:=()
def tw13632362060064036680:=()
def tw13751073666133903828:=()
def tw13811817082037350559:=()
def tw13885384623894888827:=()
def tw13897522226439655581:=()
def tw13898240294638805745:=()
def tw1391910715761085544:=()
def tw13927172875787614028:=()
def tw13945404916134787267:=()
def tw13962351675655964846:=()
def tw14026060342361046266:=()
def tw14191620939890887964:=()
def tw14223193889054350744:=()
def tw14267783194681190272:=()
def tw14301314120823222423:=()
def tw14334751837749462728:=()
def tw14335789226403968913:=()
def tw14431069074064298998:=()
def tw14490248941268365229:=()
def tw14519182545429468218:=()
def tw14561131988281145199:=()
def tw14583331746588688557:=()
def tw14639707507927728924:=()
def tw14649249454131856050:=()
def tw14716759012899855826:=()
def tw14801886960804518833:=()
def tw14803183377243469341:=()
def tw14890711955828292984:=()
def tw14926076746662179646:=()
def tw14953872995076752562:=()
def tw1496786891958314723:=()
def tw15062530475286067580:=()
def tw15087877023080427190:=()
def tw15221473193547613234:=()
def tw15237936675835118092:=()
def tw15255688862283875873:=()
def tw15269641180542497664:=()
def tw15288389704458047896:=()
def tw15453543044506594472:=()
def tw15580870509855118392:=()
def tw15588804076394896860:=()
def tw15624969054764945745:=()
def tw15625249629718612307:=()
def tw1563394779702984382:=()
def tw15674707391410877520:=()
def tw15878356166735478722:=()
def tw15896939622858957815:=()
def tw15927238119250330844:=()
def tw15948307162470692795:=()
def tw15998726043148610528:=()
def tw161281780687488471:=()
def tw16134811399458735524:=()
def tw16170637975670890201:=()
def tw16214850023861745329:=()
def tw16229202833288985166:=()
def tw16308476504722826199:=()
def tw16330670560492572141:=()
def tw1634233485566901597:=()
def tw16364110579709856075:=()
def tw1644835081435588534:=()
def tw16458814206348041561:=()
def tw16613157015546929128:=()
def tw1664537632186060583:=()
def tw1685133845624882640:=()
def tw16900921749562853934:=()
def tw16958369212600435944:=()
def tw1700535744328140046:=()
def tw17021946605550815744:=()
def tw17036464516694674621:=()
def tw17037309977832262809:=()
def tw17056774714363041161:=()
def tw1718323862670338648:=()
def tw17185542281304019758:=()
def tw17337356531449870048:=()
def tw17404563572133585872:=()
def tw17449702173137520849:=()
def tw17469681354666568148:=()
def tw17527222930447410955:=()
def tw17541241875558198192:=()
def tw17548653351199333665:=()
def tw1757355722743939019:=()
def tw17576458019937902167:=()
def tw17632644281453147906:=()
def tw1767973217859237188:=()
def tw17690293945205301405:=()
def tw17733669443322741026:=()
def tw17757686577213721005:=()
def tw17773424299806987628:=()
def tw17810794861275639784:=()
def tw17891128377516552480:=()
def tw17946511600129507557:=()
def tw17954434686751051619:=()
def tw18020171491649728916:=()
def tw18021534897789853821:=()
def tw18054454369209769141:=()
def tw18099328960697848156:=()
def tw18105402053200961130:=()
def tw18123284424899053177:=()
def tw18146269353212322270:=()
def tw18149629425657929359:=()
def tw18182278163815879951:=()
def tw18226839673147732017:=()
def tw18253301729137866355:=()
def tw18268612025245153140:=()
def tw18270393694515649873:=()
def tw18292235053240857368:=()
def tw18391001337683914697:=()
def tw1848027434077066659:=()
def tw1896518874164657354:=()
def tw2006882980506787299:=()
def tw20158642884382321:=()
def tw203983402874912959:=()
def tw2049888708707040974:=()
def tw2053316587602835739:=()
def tw2087162598777408247:=()
def tw2149532724887640678:=()
def tw2326531511254501184:=()
def tw2411069232949718935:=()
def tw2418776390883640954:=()
def tw2422617282728202320:=()
def tw2487642445328770144:=()
def tw2497341301857410599:=()
def tw2547257559322559191:=()
def tw265808842582178878:=()
def tw2663454259715643198:=()
def tw268618425323346512:=()
def tw2710254223180089681:=()
def tw2744155139547440516:=()
def tw2778291748118768707:=()
def tw2878508387771204033:=()
def tw2926617284649652560:=()
def tw2988268682212760910:=()
def tw3089598051241466226:=()
def tw3199477199290392786:=()
def tw3201524134288675128:=()
def tw3223693151291166039:=()
def tw3243704580853538236:=()
def tw3353930870665192670:=()
def tw3394943690503412609:=()
def tw3420755411772888542:=()
def tw345985766600549638:=()
def tw349801061716137891:=()
def tw3616723011775038711:=()
def tw3708708538172908295:=()
def tw3731709677529295537:=()
def tw3740161573465723935:=()
def tw3744774900410210605:=()
def tw3798686915147202908:=()
def tw3833865933835297635:=()
def tw39425287111248658:=()
def tw3972813262301721523:=()
def tw4030879741988326524:=()
def tw4047524077771855005:=()
def tw4146859237137045253:=()
def tw4171976238139624739:=()
def tw417386552628999722:=()
def tw4194557942408303311:=()
def tw420636066874741654:=()
def tw4242269114680635773:=()
def tw4279253436043268113:=()
def tw4352344090202000350:=()
def tw4355175936720410788:=()
def tw4366690897002088684:=()
def tw4370864028333457308:=()
def tw4487791573859316079:=()
def tw4496798947097909090:=()
def tw4582396512743149430:=()
def tw4631468783351671751:=()
def tw4673347884480521372:=()
def tw4688316239924269824:=()
def tw4769175803853261849:=()
def tw4777926427845103753:=()
def tw4808911178149696152:=()
def tw4826130129124822355:=()
def tw4878204839705936497:=()
def tw4985391877378809500:=()
def tw5105175384916553520:=()
def tw5114525394167084047:=()
def tw5187821260654271333:=()
def tw5187924026175046753:=()
def tw5190624360864179299:=()
def tw5192191736870249483:=()
def tw5209754315936196856:=()
def tw5210330388617163928:=()
def tw5227873900762933466:=()
def tw5267566203187878998:=()
def tw5281990580088909384:=()
def tw5305511666129923761:=()
def tw5394395738334464819:=()
def tw5423343756721540924:=()
def tw5432317793272652611:=()
def tw5637778670906039897:=()
def tw5776719150283899246:=()
def tw5779453150728773735:=()
def tw5801045610823610663:=()
def tw5815642560617383961:=()
def tw5840542834670512285:=()
def tw5863939857526426525:=()
def tw5979017287746432353:=()
def tw5993504102428991267:=()
def tw6024870981952388475:=()
def tw6065074520488736525:=()
def tw6123305856792388147:=()
def tw6151432763172744061:=()
def tw6232322131505157328:=()
def tw6243008068680900356:=()
def tw6254754973822355137:=()
def tw6313317360141270436:=()
def tw6320490803041140358:=()
def tw6321218972931492137:=()
def tw6363532002542683188:=()
def tw6418178554117367922:=()
def tw645052738201702073:=()
def tw6460868833036913580:=()
def tw6480834644307593411:=()
def tw6533883228249370055:=()
def tw6536801222720122506:=()
def tw65657197806002997:=()
def tw6571271564304497639:=()
def tw659153103083420279:=()
def tw6597995436138915801:=()
def tw6755715861131012358:=()
def tw6834148415442863053:=()
def tw6834420750183045894:=()
def tw6841150437836722115:=()
def tw6884669291160398277:=()
def tw6905480132929638761:=()
def tw7045912474761495275:=()
def tw7084972960810265135:=()
def tw7098161273204685231:=()
def tw7098853315213396448:=()
def tw7247073396610966615:=()
def tw7265600139076131826:=()
def tw72718289658976337:=()
def tw7285361865671727111:=()
def tw7301014652419128086:=()
def tw7454061644936520986:=()
def tw7491942327587593349:=()
def tw7500144050139381160:=()
def tw7529991761447896617:=()
def tw7540793017456785499:=()
def tw7583733925451190104:=()
def tw7666978153577752988:=()
def tw7701244683981323457:=()
def tw7759872410141001365:=()
def tw7806101980837910148:=()
def tw7977906166001263822:=()
def tw8037461480468248850:=()
def tw8085153721261760117:=()
def tw8095476207123476030:=()
def tw817150068621419121:=()
def tw8194993144453875508:=()
def tw8197957265635662491:=()
def tw8213363834798936910:=()
def tw8259482861098993413:=()
def tw8317898952178711730:=()
def tw834421059992216337:=()
def tw8453315075514853288:=()
def tw8567289664149414400:=()
def tw8599344167132515563:=()
def tw8660851804361775289:=()
def tw883995083793860147:=()
def tw88432589311924098:=()
def tw8857891830166869382:=()
def tw886557446399401840:=()
def tw8954263587380213716:=()
def tw896384856143968817:=()
def tw9028392781666740720:=()
def tw9082524233248439358:=()
def tw9097662541377525593:=()
def tw916321093363438010:=()
def tw9178040953996154843:=()
def tw9181524810517237300:=()
def tw9214894962704113653:=()
def tw9244526783374039584:=()
def tw9259896770477216521:=()
def tw9317275927306392713:=()
def tw9333623716780935530:=()
def tw9459721297584294819:=()
def tw9494486059739926002:=()
def tw9504602671721029729:=()
def tw9506115058552750862:=()
def tw9512959788218048918:=()
def tw9515114154881869201:=()
def tw9564567885310882591:=()
def tw9575991950475428071:=()
def tw9610802537996872099:=()
def tw9697170104954886551:=()
def tw9700672971582482833:=()
def tw9731153554461541911:=()
def tw9736526696948369125:=()
def tw9795604779087915232:=()
def tw9832442793422442921:=()
def tw9944379848349293362:=()
def tw999713877638315181:=()
end PySem.W.Fast
open PySem PySem.W PyProof.Rows
theorem PySem.Challenge.cw_mergeline_k04_twice_lacking_and_room_holds : PySem.Challenge.rw_mergeline_k04_twice_lacking_and_room.Holds := by
 w_on;o_law;k_head;(case hw=>w_witness2)
 k_fill
 refine Mg.walk (l:=PySem.Challenge.rw_mergeline_k04_twice_lacking_and_room) rfl rfl rfl (λw h Y=>PySem.W.kIn_of Y) ?F
 case F=>
  intro w mg h KX G;refine⟨⟨⟨⟨⟨?n1,?n2,?n3,?n4,?n5,?n6,?n7,?n8,?n9,?n10,?n11,?n12⟩,?n13,?n14⟩,?y1,?y2,?y3,?ymp,?yfo,?yru⟩,⟨?w1,?w2,?w3,?xa,?xb,?xc,?xd⟩,⟨?t0,?t1,?t2,?t3,?t4,?t5,?t6,?t7,?t8,?t9,?t10,?t11⟩,?ypl,?yxa,?md,?d0,?d1,?d2,?d3,?d4,?d5,?d6,?d7,?d8,?d9,?d10,?d11,?d12,?d13,?YG,?d15,?d16,?d17,?d18,?d19,?d20,?d21,?d22,?d23,?d24,?d25,?d26,?d27,?d28,?d29,?d30,?d31,?d32,?d33,?d34,?d35,?d36,?d37,?d38,?d39⟩,?law⟩
  case n1|n2|n3|n4|n5|n6|n7|n8|n9|n10|n11|n12|n13|n14|y1|y2|y3|w1|w2|w3|md=>exact FE KX G (by k_is)
  case ymp|xa|xb|xc|xd=>exact⟨_,iA KX G (by k_is)⟩
  case yfo=>refine⟨_,iA KX G (by k_is),Mg.Ri (by decide) (by symm) (by k_is) (.cons rfl (Mg.lX (by k_is) (by decide) (.cons ⟨_,rfl⟩ (.cons ⟨_,rfl⟩ .nil))) (.cons rfl (Mg.lX (by k_is) (by decide) (.cons ⟨_,rfl⟩ .nil)) (.cons rfl (Mg.lX (by k_is) (by decide) (.cons ⟨_,rfl⟩ (.cons ⟨_,rfl⟩ .nil))) (.cons rfl (Mg.lX (by k_is) (by decide) (.cons ⟨_,rfl⟩ (.cons ⟨_,rfl⟩ (.cons ⟨_,rfl⟩ .nil)))) (.cons rfl (Mg.lX (by k_is) (by decide) (.cons ⟨_,rfl⟩ (.cons ⟨_,rfl⟩ (.cons ⟨_,rfl⟩ .nil)))) (.cons rfl (Mg.lX (by k_is) (by decide) (.cons ⟨_,rfl⟩ (.cons ⟨_,rfl⟩ (.cons ⟨_,rfl⟩ (.cons ⟨_,rfl⟩ .nil))))) .nil))))))⟩
  case yru=>refine⟨_,iA KX G (by k_is),Mg.Ri (by decide) (by symm) (by k_is) (.cons rfl (Mg.lX (by k_is) (by decide) .nil) (.cons rfl (Mg.lX (by k_is) (by decide) (.cons ⟨_,rfl⟩ .nil)) (.cons rfl (Mg.lX (by k_is) (by decide) (.cons ⟨_,rfl⟩ .nil)) (.cons rfl (Mg.lX (by k_is) (by decide) (.cons ⟨_,rfl⟩ (.cons ⟨_,rfl⟩ .nil))) (.cons rfl (Mg.lX (by k_is) (by decide) .nil) .nil)))))⟩
  case t0|t1|t2|t3|t4|t5|t6|t7|t8|t9|t10|t11=>kit_is
  case ypl=>refine' Mg.XC KX G ?aC ?a1 ?i1 ?l ?c ?k ?pg ?hd ?po ?sa ?mk ?kc ?z1 ?z2 ?z3 ?z4 ?z5 ?z6 ?z7;(case aC|a1|i1|l|c|k|pg|hd|po|sa|mk|kc|z1|z2|z3|z4|z5|z6|z7=>k_is)
  case yxa=>refine' Mg.T6 KX G ?xaC ?xaM ?xb1 ?xb2 ?xb3 ?xbv ?xa1 ?xi1 ?xl ?xc ?xk ?xlC ?xlM ?xe1 ?xe2 ?xe3 ?xe4 ?xe5 ?xe6 ?xsa ?xpo ?xhd ?xkp ?xz1 ?xz2 ?xrd ?xfc ?xsp ?xka ?xkc ?xkv ?xga ?xgh ?xmb ?xcl ?xcg ?zcg ?xmo;(case xaC|xaM|xb1|xb2|xb3|xbv|xa1|xi1|xl|xc|xk|xlC|xlM=>k_is);(case xe1|xe2|xe3|xe4|xe5|xe6=>rfl);(case xsa=>k_is);(case xpo=>rfl);(case xhd|xkp|xz1|xz2|xrd|xfc|xsp=>k_is);(case xka|xkc|xkv=>kit_is);(case xga|xgh|xmb|xcl|xcg|zcg|xmo=>k_is)
  case d1|d2|d3|d4|d6|d10|d11|d13|d28|d29|d30|d31|d33|d34|law=>refine' Mg.Ho KX G (λ_ _ _ _ _ _ us hl=>match us,hl with | [_],_=>rfl) ?a ?l ?c ?k;(case a|l|c|k=>k_is)
  case d5|d7|d8|d9|d12|YG|d15|d16|d17|d18|d19|d20|d21|d22|d23|d24|d25|d26|d32|d35=>refine' Mg.Ho KX G (λ_ _ _ _ _ _ us hl=>match us,hl with | [_,_],_=>rfl) ?a ?l ?c ?k;(case a|l|c|k=>k_is)
  case d0|d27|d36|d37|d38|d39=>refine' Mg.Ho KX G (λ_ _ _ _ _ _ us hl=>match us,hl with | [_,_,_],_=>rfl) ?a ?l ?c ?k;(case a|l|c|k=>k_is)
