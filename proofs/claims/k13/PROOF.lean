import PyProof.Rows.All
import Wide.All
import OpenK.AllK
import Wide.FinOn
import Lean
import PyProof.EqAt
import PyProof.EqKinds
import PyProof.TupleCall
import PyProof.Rows.SetFrom
import PyProof.TupleKey
import KE.KSortTup
import PyProof.ListRange
import PyProof.ConsumeS
import KE.KIntText
import PyProof.StrCalls2
import PyProof.StrOps2
import PyProof.SliceStr2
import PyProof.StrWalks
import PyProof.Rows.StrJoin2
import PyProof.ZipIter
import PyProof.TupleIter
import PyProof.ListMulRoad
import PyProof.WalksMore
import KE.KDictLaws
import KE.KDictList
import PyProof.IsiH_list
import PyProof.AttrMiss
import KE.KDictOf
import PyProof.StationsW
import PyProof.ExcInit
import PyProof.ExcClass2
import PyProof.ExcBaseAll.ValueError
import OpenK.KMake
import OpenK.KCls
import PyProof.Rows.FStr
import PyProof.LayNew
import PyProof.RulesAs
import PyProof.NsDelKeeps
import PyProof.ExcAttrAll.ValueError
import KE.KIsAll
import PySem.Challenge.RW_mergeline_k13_rows_refused
set_option Elab.async false
set_option linter.all false
set_option maxRecDepth 100000
set_option maxHeartbeats 4000000
open Array renaming getElem?_eq_some_iff→eE,getElem?_toList→Fv,length_toList→cq,toList_append→HY
open Bool renaming and_eq_true_iff→dC,and_eq_true→rK,and_false→o_,eq_false_iff→x',eq_iff_iff→ic,false_ne_true→bP,false_or→qD,or_eq_true→AF,or_true→sk,true_and→i9
open Decidable renaming not_not→oX
open False renaming elim→fh
open ForInStep renaming yield→qE
open Int renaming emod_lt_of_pos→bL,emod_nonneg→bH,eq_ofNat_of_zero_le→lO,mul_le_mul→Ct,mul_nonneg→uY,toNat_natCast→eJ
open List renaming all_eq_true→eV,all_map→oW,any_cons→vM,any_eq_true→yK,append_assoc→fJ,append_nil→dA,drop_eq_nil_of_le→sr,drop_succ_cons→vF,drop_zero→lX,eq_nil_of_length_eq_zero→nP,ext_getElem?→lY,filterMap_append→tX,filterMap_cons_none→ei,filterMap_cons_some→c7,filterMap_cons→iq,filterMap_map→cW,filter_append→wW,filter_cons→jq,filter→H_,find?_cons→ft,flatten_cons→gi,foldl_append→hX,foldl_cons→oj,forIn_cons→AB,fst_mem_of_mem_zipIdx→kA,getD_eq_getElem?_getD→aG,getElem?_append_left→cL,getElem?_append_right→cD,getElem?_eq_getElem→aw,getElem?_eq_none→gD,getElem?_eq_some_iff→aL,getElem?_map→aP,getElem?_range→ou,getElem?_replicate→eG,getElem?_set_ne→a7,getElem?_set_self→bf,getElem?_zipIdx→i6,getElem_cons_drop→Fw,getElem_map→rL,getElem_mem→cK,getElem_toArray→nR,length_append→a8,length_cons→bh,length_drop→cP,length_filterMap_le→qG,length_filter_le→mV,length_map→aj,length_nil→cv,length_range→dY,length_replicate→dM,length_set→oi,length_singleton→jZ,length_take→bW,length→i5,lookup_cons→dU,lookup→ly,map_append→aX,map_congr_left→jm,map_cons→aR,map_drop→k7,map_map→bC,map_nil→iA,map_set→l',map_singleton→pf,map_take→nI,map→HX,mem_append_left→dg,mem_append_right→cu,mem_append→bX,mem_cons_of_mem→aU,mem_cons_self→aO,mem_cons→aJ,mem_filterMap→jJ,mem_filter→lb,mem_flatMap→yL,mem_iff_getElem?→tY,mem_map→aI,mem_of_getElem?→bF,mem_of_mem_drop→eM,mem_of_mem_take→eL,mem_or_eq_of_mem_set→pW,mem_range→cY,mem_replicate→jL,mem_singleton→a_,nil_append→AG,nodup_append→e8,nodup_cons→ia,nodup_nil→Bh,not_mem_nil→b7,of_mem_zip→sA,pairwise_iff_getElem→pX,range_succ→sJ,range→cp,replicate_succ→eC,replicate→bu,set_comm→vH,size_toArray→bj,sum_cons→vP,take_add_one→dv,take_append_drop→iJ,take_length→eW,take_of_length_le→dF,zipIdx_cons→nE,zip_cons_cons→lu
open List.cons renaming inj→kF
open Nat renaming add_lt_add_left→jo,eq_zero_or_pos→xh,le_add_right→fW,le_of_lt→oZ,le_of_not_lt→gN,le_refl→aA,le_succ→jK,le_trans→b9,lt_add_of_pos_right→rV,lt_irrefl→jf,lt_of_lt_of_le→bY,lt_succ_of_lt→mw,lt_succ_self→kK,min_eq_left→oy,mul_le_mul→ju,ne_of_gt→fy,ne_of_lt→bB,not_lt_zero→tZ,sub_self→FJ,succ_le_succ→y',succ_mul→FG,toDigits_of_lt_base→lP,toDigits→i7,zero_add→sG,zero_le→bK
open Ne renaming symm→bU
open Option renaming isSome_map→wR,map_eq_some_iff→DQ,map_some→nQ,toList_some→vE
open Option.some renaming injEq→iF,inj→c9
open Or renaming inl→aV,inr→cX
open PyProof.Rows renaming AllBare→sf,IntsAre→AY,assignInOrder_cons→j3,assignInOrder_nil→AW,callWith_type1→jt,slot_tuple_getitem→k6
open PyProof.Rows.F renaming entry_set_update_loop→HV,plain_set_update_loop→sC
open PyProof.Rows.IsTup renaming new→uD
open PySem renaming Addr→aN,Around→ej,Builtin→p_,CmpOp→AV,DictEntry→Cj,ExcBaseFacts→qc,Expr→cw,FuncData→fN,GenState→uw,Heap→dq,IsPair→sD,IsPart→Cg,IsZip→DT,Keyword→iI,NameKind→oY,Paired→FD,Params→Ci,PassesOwn→B',Program→bM,PyData→aq,Result→uV,Scope→lS,Shared→aQ,Spec→gE,Stmt→iH,Value→aD,Within→lU,World→cy,boot_len→uz,call_meets→kU,codeAny_builtin→vD,codeAny_call_builtin→o5,codeAny_mono→lj,length_partsBetween→yv,mem_of_lookup→jl,pastItsLine_dict→Cb,plainObj_wpAny_Assign_Attribute→nV,sizeLine_eq→du,tupleKind_room_in1→mv,typeIs_str→uX,wpAny_Call_Name_kw→j5,wpAny_attempt→yJ,wpAny_bindName→qK,wpAny_bind→au,wpAny_callSpecial?_slot→jO,wpAny_call_entry→oq,wpAny_call→mq,wpAny_execs_cons→ux,wpAny_execs_nil→pN,wpAny_field→dQ,wpAny_holding→iP,wpAny_isSubtype_exc→iG,wpAny_ite_false→lZ,wpAny_letGo→DU,wpAny_loadPart'→gJ,wpAny_loadPart_at→fk,wpAny_loadPart→w8,wpAny_lookBehind→Ca,wpAny_mono→eT,wpAny_newObj_type→fj,wpAny_onRaise→sE,wpAny_passesOwn→pO,wpAny_pure→aZ,wpAny_pyIter_list→sj,wpAny_pyIter_tuple→y9,wpAny_rule→y8,wpAny_seqItems→jP,wpAny_setField_rec→j8,wpAny_setField→kW,wpAny_standAt→lV,wpAny_truthy_bool→eO,wpAny_updateSeq_pair→xi
open PySem.Around renaming under_plainId→tW,under→DP
open PySem.AutoSeq1 renaming idx_int→HW,sub_tuple_tuple→AH
open PySem.Builtin.List renaming listFitsIndex→wU
open PySem.Builtin.Slice renaming sliceAdjust→nG,sliceApplied→vL,slicePlaces→jS
open PySem.Builtin.SmallTypes renaming nextOf→dB,ownedTupleHandOut→o9,ownedTupleIsFree→gF
open PySem.Builtin.Tuple renaming tupleExact→j7,tupleTooMany→vN
open PySem.Calls renaming Name_function_global→AU,callWith_builtin→rT,evalArgs_plain→uy,spliced_cons→lg,spliced_nil→w_
open PySem.Code renaming isFrame→Fu,quiet_builtin→wV
open PySem.EntryCells renaming newEntry→Cq
open PySem.F renaming args_dict_get_3→Bi,args_str_split_2→yw,args_tuple_add_2→AX,args_tuple_iterator_next_1→Cp,attr_ValueError→Bm,called_set→kX,entry_dict_get→Ck,entry_str_split→za,entry_tuple_add→Bg,entry_tuple_iterator_next→DS,excBase_ValueError→zc,plainAttrs_dict→Bj,plainAttrs_list→gZ,plainAttrs_str→Cm,slot_dict_getitem→AA,slot_dict_get→rU,slot_dict_setdefault→yx,slot_list_append→pQ,slot_list_index→Bk,slot_str_split→AZ,slot_tuple_add→Ce,slot_tuple_iterator_next→kL,slot_tuple_mul→sH,slot_zip_next→uF,type_list_append→pR,type_list_index→Bl
open PySem.Flow renaming next→DX
open PySem.Heap renaming SameBut→kI,get?_none_of_le→nM,get?_push_of_some→aE,get?_push_size→bQ,get?_update_other→df,get?_update_self→eY,lt_size→aW,size_after_update→iB,size_push→gf
open PySem.Heap.FunFrames renaming cons→zh
open PySem.Heap.Ns1 renaming of_empty→FE
open PySem.Heap.SameBut renaming update→A1
open PySem.MeetsSeq renaming plain_index_loop→sF
open PySem.NameKind renaming cell→kJ,free→eD
open PySem.NumText renaming AllDigits→HZ
open PySem.Obj renaming data_mapFields→fS,isFreed_of_fields→iR,mapFields→j0,mapSeq→xg
open PySem.Paired renaming length→uU
open PySem.PassesOwn renaming leaving→uZ,never→cZ
open PySem.PyData renaming bool→lq,canLay0→cn,canLayAll0→pP,eqv→cU,int→dO,list→yA,str→aH,tuple→gK
open PySem.SeqAt renaming readOf→kE
open PySem.Str renaming empty→eP,join→cj,length_append→cF,ofString→o4
open PySem.StrLaws renaming found_one→vO,join_split→jv,occ_length_le→DR,sliceText_from→Cr,sliceText_to→DY,split_free→oA
open PySem.Txt renaming slice_le→FH,slice→nH,split→bR
open PySem.Value renaming builtin→nF,int→DM,isStrOf→vC,none→ef,ref→bA,str→DN,type→mU
open PySem.W renaming Frag→av,InstAt→oo,Looks→A2,any_some→wZ,callWith_K→uW,cellsFrom_some→Cd,codeIn→lA,emptyDict→fX,findCls→yz,findIn→ck,findObj_own→Ft,fnOf→iT,hasDictIn→gY,instObj→iO,isFn→vK,keepIn→eA,kia_one→iQ,kitAny→zj,kitOne→dm,lookIn→sx,looks_clsIn→nO,looks_findIn→sy,makesIn→yu,methodObj→vG,mg_none_of→FK,mg_of→iu,mroIn→uE,nsIn→ky,plainGet→p9,plainOver→vI,readsIn→yy,set_plain→vJ,specialIn→lz,takerIn→kR,typeIn→y_
open PySem.W.InstAt renaming type→qF
open PySem.W.Looks renaming andThen→pS,here→f6,now→sI
open PySem.Within renaming cons→nU
open Sum renaming inl→yt,inr→cz
open True renaming intro→eX
namespace L2
open PySem PySem.Spec PyProof.Rows
variable{C a it:aN}{A:ej}{g':Array uw}{d':Drawn}{c e tg:cw}{base h:dq}{g:Int->Int->Int}{pins:List (aN×Obj)}{kw:List (Str×aD)}{ch fp:List aN}{outer:List Env}{es:List cw}{body:List iH}{N ps:List Str}{us:List aD}{M:Model}{k t':Nat}{o:Obj}{P:bM}{K:av}{scope:lS}{s s':aQ}{kindOf:Str->Option oY}{mA mg:Str->Option aD}{u:aD}{E Q:aD->aQ->Prop}{f:aD->aD->Sem aD}{w:cy}
abbrev Key:=Sum Int Str
def Bn:Key->aD->Bool
 | .inl k,v=>aD.isInt k v
 | .inr x,v=>vC x v
def Zt(w:cy):Key->Int
 | .inl k=>hashInt k
 | .inr x=>hashStr w x
theorem iw:∀{k:Key}{v:aD},Bn k v=true->(∃i t,k=yt i/\v=DM i t)\/(∃x t,k=cz x/\v=DN x t)
 | .inl i,v,h=>by
  obtain⟨t,e⟩:=aD.isInt_shape (k:=i) (v:=v) h;exact .inl ⟨i,t,rfl,e⟩
 | .inr x,v,h=>by
  obtain⟨t,e⟩:=aD.isStrOf_shape (x:=x) (v:=v) h;exact .inr ⟨x,t,rfl,e⟩
theorem JA(i:Int)(t:Tok):Bn (.inl i) (.int i t)=true:=by simp[Bn,aD.isInt]
theorem JB(x:Str)(t:Tok):Bn (.inr x) (.str x t)=true:=by simp[Bn,vC]
theorem Ry(a b:Int):decide ((yt a:Key)=yt b)=(a==b):=by
 by_cases e:a=b
 ·subst e;simp
 ·have h:¬(yt a:Key)=yt b:=λq=>e (yt.inj q)
  rw[decide_eq_false h];exact(beq_eq_false_iff_ne.mpr e).symm
theorem Rz(a b:Str):decide ((cz a:Key)=cz b)=decide (a=b):=by
 by_cases e:a=b
 ·subst e;simp
 ·have h:¬(cz a:Key)=cz b:=λq=>e (cz.inj q)
  rw[decide_eq_false h,decide_eq_false e]
theorem RA(a:Int)(b:Str):decide ((yt a:Key)=cz b)=false:=decide_eq_false (λq=>nomatch q)
theorem RB(a:Str)(b:Int):decide ((cz a:Key)=yt b)=false:=decide_eq_false (λq=>nomatch q)
def fE(prog:bM)(w:cy):PySem.KeyKind prog w Key where
 is:=Bn
 hash:=Zt w
 inj:=λv a b ha hb=>by
  rcases iw ha with⟨i,t,rfl,rfl⟩|⟨x,t,rfl,rfl⟩
  ·rcases iw hb with⟨j,u,rfl,e⟩|⟨y,u,rfl,e⟩
   ·injection e with e1 _;rw[e1]
   ·exact nomatch e
  ·rcases iw hb with⟨j,u,rfl,e⟩|⟨y,u,rfl,e⟩
   ·exact nomatch e
   ·injection e with e1 _;rw[e1]
 byValue:=λk v h=>by
  rcases iw h with⟨i,t,rfl,rfl⟩|⟨x,t,rfl,rfl⟩<;>rfl
 pyHash:=λhv h=>by
  rcases iw hv with⟨i,t,rfl,rfl⟩|⟨x,t,rfl,rfl⟩
  ·exact wpAny_pyHash_int h
  ·exact wpAny_pyHash_str h
 eqBool:=λhu hv h=>by
  rcases iw hu with⟨i,t,rfl,rfl⟩|⟨x,t,rfl,rfl⟩
  ·rcases iw hv with⟨j,u,rfl,rfl⟩|⟨y,u,rfl,rfl⟩
   ·rw[Ry]at h;exact wpAny_eqBool_int h
   ·rw[RA]at h;exact SeqAt.EqAt.int_str i t y u _ _ _ _ h
  ·rcases iw hv with⟨j,u,rfl,rfl⟩|⟨y,u,rfl,rfl⟩
   ·rw[RB]at h;exact SeqAt.EqAt.str_int x t j u _ _ _ _ h
   ·rw[Rz]at h;exact wpAny_eqBool_str h
 «strs»:=λk x t v h=>by
  rcases iw h with⟨i,u,rfl,e⟩|⟨y,u,rfl,e⟩
  ·exact nomatch e
  ·injection e with e1 _
   subst e1;cases v<;>rfl
theorem DZ(prog:bM)(w:cy)(i:Int)(t:Tok):(fE prog w).is (.inl i) (.int i t)=true:=JA i t
theorem sL(prog:bM)(w:cy)(x:Str)(t:Tok):(fE prog w).is (.inr x) (.str x t)=true:=JB x t
inductive V where
 |non|bl (b:Bool)|int (i:Int)|str (x:Str)|Uj (b:Array UInt8)|flt (b:UInt64)|ref (a:aN)|ty (n:String)
 deriving DecidableEq
variable{vs xs:List V}
def RelV:V->aD->Prop
 | .non,u=>u=ef
 | .bl b,u=>u=aD.bool b
 | .int i,u=>∃t,u=DM i t
 | .str x,u=>∃t,u=DN x t
 | .Uj b,u=>∃t,u=aD.bytes b t
 | .flt b,u=>∃t,u=aD.float b t
 | .ref a,u=>u=bA a
 | .ty n,u=>u=mU n
abbrev dZ:List V->List aD->Prop:=FD RelV
theorem dZ.length(r:dZ xs us):xs.length=us.length:=uU r
theorem dZ.get:∀{xs:List V}{us:List aD}{i:Nat}{x:V},dZ xs us->xs[i]?=some x->∃u,us[i]?=some u/\RelV x u
 |_,_,_,_,.nil,e=>by simp at e
 |_,_,0,_,.cons r _,e=>by simp at e;subst e;exact⟨_,rfl,r⟩
 |_,_,i+1,x,.cons _ t,e=>by
  obtain⟨u,h1,h2⟩:=dZ.get (i:=i) (x:=x) t (by simpa using e)
  exact⟨u,by simpa using h1,h2⟩
theorem dZ.set{x:V}(r:RelV x u):∀{xs:List V}{us:List aD}(i:Nat),dZ xs us->dZ (xs.set i x) (us.set i u)
 |_,_,_,.nil=>.nil
 |_,_,0,.cons _ t=>.cons r t
 |_,_,i+1,.cons q t=>.cons q (dZ.set r i t)
theorem dZ.append:∀{xs ys:List V}{us ws:List aD},dZ xs us->dZ ys ws->dZ (xs++ys) (us++ws)
 |_,_,_,_,.nil,s=>s
 |_,_,_,_,.cons r t,s=>.cons r (dZ.append t s)
theorem dZ.take:∀{xs:List V}{us:List aD}(n:Nat),dZ xs us->dZ (xs.take n) (us.take n)
 |_,_,0,_=>.nil
 |_,_,_+1,.nil=>.nil
 |_,_,n+1,.cons r t=>.cons r (dZ.take n t)
theorem dZ.drop:∀{xs:List V}{us:List aD}(n:Nat),dZ xs us->dZ (xs.drop n) (us.drop n)
 |_,_,0,r=>r
 |_,_,_+1,.nil=>.nil
 |_,_,n+1,.cons _ t=>dZ.drop n t
def oB:Option V->Option aD->Prop
 |some v,some u=>RelV v u
 |none,none=>True
 |_,_=>False
def KV{κ:Type}:List (κ×V)->List (κ×aD)->Prop:=FD λ(p:κ×V)(q:κ×aD)=>p.1=q.1/\RelV p.2 q.2
def kV:Key->V
 | .inl i=>.int i
 | .inr x=>.str x
inductive HO where
 |lst (xs:List V)
 |tup (xs:List V)
 |dK (kvs:List (Key×V))|dT (kvs:List (List Key×V))
 |set (S:Int->Bool) (n:Nat)
 |ins (C dx:aN) (fs:List (Str×V))
 |own (x:aN)
 |xd (fs:List (Str×V))
 |met (f x:aN)
 |rng (lo hi:Int)
 |K7 (o:Obj) (u:HO)
 |RC (ps:Array aD)
 |ext (φ:dq->Prop)
abbrev Hp:=aN->Option HO
variable{H:Hp}{R:V->V->Hp->Prop}
def upd(H:Hp)(a:aN)(o:HO):Hp:=λb=>if b=a then some o else H b
theorem b0{o:HO}:upd H a o a=some o:=by unfold upd;rw[if_pos rfl]
theorem aT{b: aN}{o:HO}(h:b≠a):upd H a o b=H b:=by unfold upd;rw[if_neg h]
theorem UW{b: aN}{o u:HO}(h:H a=some o)(h':H b=some u)(d:o≠u):a≠b:=by
 intro e;subst e;rw[h]at h';exact d (c9 h')
theorem bE{b: aN}{o:HO}(h:H a=some o)(h':H b=none):a≠b:=by
 intro e;subst e;rw[h]at h';cases h'
section
variable(P:bM)(w:cy)
def hZ(H:Hp)(h:dq)(a:aN):HO->Prop
 | .lst xs=>xs.length<=sizeLine/\∃(its:List aD)(n:Nat),dZ xs its/\h.get? a=some { cls:=.type "list",data:=.seq its.toArray n }
 | .tup xs=>xs.length<=sizeLine/\∃its:List aD,dZ xs its/\IsTup h a its.toArray
 | .dK kvs=>kvs.length<=sizeLine/\(a==sysModules)=false/\∃vs,KV kvs vs/\h.DictOf (fE P w) a vs
 | .dT kvs=>kvs.length<=sizeLine/\(a==sysModules)=false/\∃xs:List (List Key×aN×aD),
   FD (λ(p:List Key×V)(q:List Key×aN×aD)=>p.1=q.1/\H q.2.1=some (.tup (p.1.map kV))/\RelV p.2 q.2.2) kvs xs/\
   ∃o es ep,h.get? a=some o/\o.ExactDict/\o.data=.dict es ep/\es.toList=xs.map (entryOfKey (tupleKind (fE P w)))/\(xs.map (·.1)).Nodup
 | .set S n=>h.SetOf (intKind P w) a S n
 | .ins C dx fs=>H dx=some (.own a)/\fs.length<=1000/\dx≠a/\h.get? a=some (iO C dx)/\
   ∃mA,h.Ns1 dx mA/\(∀f,oB (fs.lookup f) (mA f))/\lU mA (fs.map (·.1))
 | .own _=>∃o,h.get? a=some o
 | .xd fs=>∃mA,h.Ns1 a mA/\∀f,oB (fs.lookup f) (mA f)
 | .rng lo hi=>∃t u v,h.get? a=some { cls:=.type "range",data:=.fields #[.int lo t,.int hi u,.int 1 v] }
 | .K7 o u=>h.get? a=some o/\hZ H h a u
 | .RC ps=>h.get? a=some { cls:=.none,data:=.fields ps }
 | .met f x=>h.get? a=some (vG (.ref f) (.ref x))
 | .ext φ=>φ h/\(∃o,h.get? a=some o)/\∀h1 h2:dq,φ h1->(∀o,h1.get? a=some o->h2.get? a=some o)->φ h2
def su(H:Hp)(h:dq):Prop:=∀a o,H a=some o->hZ P w H h a o
end
section
variable{P:bM}{w:cy}{H H':Hp}{h h':dq}{a:aN}{o:HO}
theorem hZ.lt(x:hZ P w H h a o):a<h.objs.size:=by
 cases o with
 |lst xs=>obtain⟨_,_,_,_,e⟩:=x;exact aW e
 |tup xs=>obtain⟨_,_,_,p⟩:=x;exact p.lt
 |dK kvs=>obtain⟨_,_,_,_,o,_,_,e,_⟩:=x;exact aW e
 |dT kvs=>obtain⟨_,_,_,_,o,_,_,e,_⟩:=x;exact aW e
 |set S n=>obtain⟨o,_,_,_,e,_⟩:=x;exact aW e
 |ins C dx fs=>obtain⟨_,_,_,e,_⟩:=x;exact aW e
 |own y=>obtain⟨_,e⟩:=x;exact aW e
 |xd fs=>obtain⟨_,⟨_,_,_,e,_⟩,_⟩:=x;exact aW e
 |rng lo hi=>obtain⟨_,_,_,e⟩:=x;exact aW e
 |K7 ob u=>obtain⟨e,_⟩:=x;exact aW e
 |RC ps=>exact aW (show h.get? a=some _ from x)
 |met f y=>exact aW (show h.get? a=some _ from x)
 |ext φ=>obtain⟨_,⟨_,e⟩,_⟩:=x;exact aW e
theorem FD.RD{α β:Type}{F G:α->β->Prop}:∀{l₁:List α}{l₂:List β},FD F l₁ l₂->(∀a b,F a b->G a b)->FD G l₁ l₂
 |_,_,.nil,_=>.nil
 |_,_,.cons r t,f=>.cons (f _ _ r) (FD.RD t f)
theorem hZ.stay(x:hZ P w H h a o)(k:∀b u,(b=a\/H b=some (.own a))->h.get? b=some u->h'.get? b=some u)
  (ho:∀b,H b=some (.own a)->H' b=some (.own a))(ht:∀b xs,H b=some (.tup xs)->H' b=some (.tup xs)):hZ P w H' h' a o:=by
 induction o with
 |lst xs=>obtain⟨z,its,n,r,e⟩:=x;exact⟨z,its,n,r,k _ _ (.inl rfl) e⟩
 |tup xs=>obtain⟨z,its,r,ob,e,c⟩:=x;exact⟨z,its,r,ob,k _ _ (.inl rfl) e,c⟩
 |dK kvs=>obtain⟨z,y,vs,r,ob,es,ep,e,c⟩:=x;exact⟨z,y,vs,r,ob,es,ep,k _ _ (.inl rfl) e,c⟩
 |dT kvs=>
  obtain⟨z,y,xs,r,ob,es,ep,e,c⟩:=x;exact⟨z,y,xs,FD.RD r λp q z=>⟨z.1,ht _ _ z.2.1,z.2.2⟩,ob,es,ep,k _ _ (.inl rfl) e,c⟩
 |set S n=>obtain⟨ob,es,ep,t,e,c⟩:=x;exact⟨ob,es,ep,t,k _ _ (.inl rfl) e,c⟩
 |ins C dx fs=>
  obtain⟨d,z,ne,e,mA,⟨od,es,ep,e2,c⟩,r⟩:=x;exact⟨ho _ d,z,ne,k _ _ (.inl rfl) e,mA,⟨od,es,ep,k _ _ (.inr d) e2,c⟩,r⟩
 |own y=>obtain⟨ob,e⟩:=x;exact⟨ob,k _ _ (.inl rfl) e⟩
 |xd fs=>obtain⟨mA,⟨od,es,ep,e,c⟩,r⟩:=x;exact⟨mA,⟨od,es,ep,k _ _ (.inl rfl) e,c⟩,r⟩
 |rng lo hi=>obtain⟨t,u,v,e⟩:=x;exact⟨t,u,v,k _ _ (.inl rfl) e⟩
 |K7 ob u ih=>obtain⟨e,q⟩:=x;exact⟨k _ _ (.inl rfl) e,ih q⟩
 |RC ps=>
  have e:h.get? a=some { cls:=.none,data:=.fields ps }:=x;show h'.get? a=some { cls:=.none,data:=.fields ps };exact k a _ (.inl rfl) e
 |met f y=>
  have e:h.get? a=some (vG (.ref f) (.ref y)):=x;show h'.get? a=some (vG (.ref f) (.ref y));exact k a _ (.inl rfl) e
 |ext φ=>obtain⟨p,⟨o,e⟩,st⟩:=x;exact⟨st _ _ p λo q=>k _ _ (.inl rfl) q,⟨o,k _ _ (.inl rfl) e⟩,st⟩
theorem su.lt(x:su P w H h)(e:H a=some o):a<h.objs.size:=(x a o e).lt
theorem su.fresh(x:su P w H h)(e:h.objs.size<=a):H a=none:=by
 cases q:H a with
 |none=>rfl
 |some u=>exact absurd (bY (x.lt q) e) (jf _)
theorem su.kept(x:su P w H h)(k:∀b u,h.get? b=some u->h'.get? b=some u):su P w H h':=λa o e=>
 (x a o e).stay (λb u _ q=>k b u q) (λ_ q=>q) λ_ _ q=>q
theorem su.laid(x:su P w H h)(k:∀b u,h.get? b=some u->h'.get? b=some u)(hp:h.objs.size<=a)(new:hZ P w (upd H a o) h' a o):su P w (upd H a o) h':=λb u e=>by
 have hn:=x.fresh hp;by_cases hb:b=a
 ·subst hb;rw[b0]at e;cases e;exact new
 ·rw[aT hb]at e
  exact(x b u e).stay (λc v _ q=>k c v q) (λc q=>by rw[aT (bE q hn)];exact q) λc xs q=>by rw[aT (bE q hn)];exact q
end
def Rd(H:Hp)(a:aN)(u:HO):Prop:=H a=some u\/∃o,H a=some (.K7 o u)
theorem Rd.ok{u:HO}(r:Rd H a u)(x:su P w H h):hZ P w H h a u:=by
 rcases r with r|⟨o,r⟩
 ·exact x a u r
 ·obtain⟨_,q⟩:=x a _ r
  exact q
def UX:Option HO->Prop
 |some (.lst _)=>True
 |some (.dK _)=>True
 |some (.dT _)=>True
 |some (.set _ _)=>True
 |some (.ins _ _ _)=>True
 |some (.ext _)=>True
 |_=>False
section
variable{P:bM}{w:cy}{H:Hp}{h h':dq}{x e:aN}{o':HO}
theorem su.write(ok:su P w H h)(mu:UX (H x))(he:e=x\/H e=some (.own x))(k:∀b u,b≠e->h.get? b=some u->h'.get? b=some u)(Qz:∃u,h'.get? e=some u)
  (new:hZ P w (upd H x o') h' x o'):su P w (upd H x o') h':=λb u q=>by
 have UY:∀c y,H c=some (.own y)->c≠x:=λc y r z=>by subst z;rw[r]at mu;exact mu
 have Zu:∀c xs,H c=some (.tup xs)->c≠x:=λc xs r z=>by subst z;rw[r]at mu;exact mu
 by_cases hb:b=x
 ·subst hb;rw[b0]at q;cases q;exact new
 ·rw[aT hb]at q
  by_cases RG:b=e
  ·have q':H b=some (.own x):=by
    rcases he with z|z
    ·exact absurd (RG.trans z) hb
    ·rw[RG];exact z
   rw[q]at q';cases q';obtain⟨v,hv⟩:=Qz;exact⟨v,by rw[RG];exact hv⟩
  ·refine(ok b u q).stay (λc v hc r=>k c v ?_ r) (λc r=>by rw[aT (UY c b r)];exact r) λc xs r=>by rw[aT (Zu c xs r)];exact r
   rcases hc with rfl|hc
   ·exact RG
   ·rintro rfl
    rcases he with z|z
    ·exact UY c b hc z
    ·rw[hc]at z;cases z;exact hb rfl
end
structure Un(fs ex:List aN)(H H':Hp)(h h':dq):Prop where
 keep:∀b o,h.get? b=some o->H b=none->b∉fs->b∉ex->h'.get? b=some o
 slot:∀b o,h.get? b=some o->H b=none->b∈fs->b∉ex->∃sl,h'.get? b=some { o with slots:=sl }
 free:∀b o,h.get? b=some o->H b=none->b∉ex->H' b=none
 there:∀b o,h.get? b=some o->b∉ex->∃o',h'.get? b=some o'
 tups:∀b xs,H b=some (.tup xs)->H' b=some (.tup xs)
 xj:∀b o u,H b=some (.K7 o u)->H' b=some (.K7 o u)
 yB:∀b ps,H b=some (.RC ps)->∃more,H' b=some (.RC (ps++more))
section
variable{fs fs' ex ex':List aN}{H H1 H2:Hp}{h h1 h2 h':dq}{a x e:aN}{o:HO}
theorem Un.any(u:Un fs ex H H1 h h1){b:aN}{ob:Obj}(q:h.get? b=some ob)(n:H b=none)(hx:b∉ex):∃sl,h1.get? b=some { ob with slots:=sl }:=by
 by_cases hb:b∈fs
 ·exact u.slot b ob q n hb hx
 ·exact⟨ob.slots,u.keep b ob q n hb hx⟩
theorem Un.kept(k:∀b u,h.get? b=some u->h'.get? b=some u):Un fs ex H H h h':=
 ⟨λb ob q _ _ _=>k b ob q,λb ob q _ _ _=>⟨ob.slots,k b ob q⟩,λ_ _ _ n _=>n,λb ob q _=>⟨ob,k b ob q⟩,λ_ _ q=>q,λ_ _ _ q=>q,λ_ ps q=>⟨#[],by rw[q];simp⟩⟩
theorem Un.refl:Un fs ex H H h h:=Un.kept λ_ _ q=>q
theorem Un.laid(k:∀b u,h.get? b=some u->h'.get? b=some u)(hp:h.objs.size<=a)(hn:H a=none):Un fs ex H (upd H a o) h h' where
 keep:=λb u q _ _ _=>k b u q
 slot:=λb u q _ _ _=>⟨u.slots,k b u q⟩
 free:=λb u q n _=>by rw[aT (bB (bY (aW q) hp))];exact n
 there:=λb u q _=>⟨u,k b u q⟩
 tups:=λb xs q=>by rw[aT (bE q hn)];exact q
 xj:=λb u xs q=>by rw[aT (bE q hn)];exact q
 yB:=λb ps q=>⟨#[],by rw[aT (bE q hn),q];simp⟩
theorem Un.write(mu:UX (H x))(he:e=x\/H e=some (.own x))(k:∀b u,b≠e->h.get? b=some u->h'.get? b=some u)(Qz:∃u,h'.get? e=some u):Un fs ex H (upd H x o) h h':=by
 have hx:∀b,H b=none->b≠x:=λb n z=>by subst z;rw[n]at mu;exact mu
 have hb:∀b,H b=none->b≠e:=λb n z=>by
  subst z;rcases he with r|r
  ·exact hx b n r
  ·rw[n]at r;cases r
 have hm:∀b u,H b=some u->¬UX (some u)->b≠x:=λb u q nm z=>by subst z;rw[q]at mu;exact nm mu
 refine⟨λb u q n _ _=>k b u (hb b n) q,λb u q n _ _=>⟨u.slots,k b u (hb b n) q⟩,λb u q n _=>by rw[aT (hx b n)];exact n,λb u q _=>?_,
  λb xs q=>by rw[aT (hm b _ q λz=>z)];exact q,λb u xs q=>by rw[aT (hm b _ q λz=>z)];exact q,λb ps q=>⟨#[],by rw[aT (hm b _ q λz=>z),q];simp⟩⟩
 by_cases RG:b=e
 ·subst RG;exact Qz
 ·exact⟨u,k b u RG q⟩
end
def Yj(h:dq)(H:Hp):List aN:=(cp h.objs.size).filter λa=>(H a).isSome
def Cu(h:dq)(H:Hp):dq:=PySem.W.hideAll h (Yj h H)
theorem JC(h:dq)(H:Hp):(Cu h H).objs.size=h.objs.size:=PySem.W.hideAll_size _ _
theorem Lb{b:aN}(e:h.get? b=some o)(n:H b=none):(Cu h H).get? b=some o:=
 PySem.W.hideAll_get _ e λhm=>by
  have q:(H b).isSome=true:=(lb.mp hm).2;rw[n]at q;simp at q
theorem Od{b:aN}(e:(Cu h H).get? b=some o):h.get? b=some o/\H b=none:=by
 have e':h.get? b=some o:=PySem.W.of_hideAll (Yj h H) e;refine⟨e',?_⟩
 cases q:H b with
 |none=>rfl
 |some x=>
  have hm:b∈Yj h H:=lb.mpr ⟨cY.mpr (aW e'),by simp[q]⟩
  have z:(Cu h H).get? b=none:=PySem.W.hideAll_none (Yj h H) hm;rw[z]at e;cases e
structure Mod(K:av)(mg:Str->Option aD)(base:dq):Prop where
 RH:K.In base
 glob:base.Ns mainGlobals mg
 blt:∃mb,base.Ns builtinsNs mb/\∀x:Str,x≠"__name__"->mb x=bootBuiltins x
 nolimit:base.NoLimit
structure Cx where
 prog:bM
 w:cy
 K:av
 mg:Str->Option aD
 base:dq
 A:ej
 N:List Str
 s₀:aQ
 H₀:Hp
 env:Env
 outer:List Env
 stack:List Env
 ex:List aN
 fn:Str->Bool
 calm:Bool
 pn:List (aN×Obj)
 xe:aD->aQ->Prop
variable{X:Cx}
def DV(l:List Env):List aN:=l.filterMap (·.frame)
abbrev Cx.fs(X:Cx):List aN:=DV X.outer
def D0(sc:lS)(x:Str):Prop:=sc.names.lookup x=some .local\/sc.names.lookup x=some .cell\/sc.names.lookup x=some .free
def Loc(sc:lS)(x:Str):Prop:=sc.names.lookup x=some .local\/sc.names.lookup x=some .cell
def Look(env:Env)(h:dq)(m:Str->Option aD)(x:Str)(u:aD):Prop:=
 (env.kindOf x=some .local/\m x=some u)\/((env.kindOf x=some .cell\/env.kindOf x=some .free)/\∃c,env.cells.lookup x=some c/\h.IsCell c (some u))
structure Cx.Ok(X:Cx):Prop where
 mod:Mod X.K X.mg X.base
 kind:X.env.scope.kind=.function
 glob:X.env.globals=mainGlobals
 blt:X.env.builtins=builtinsNs
 above:X.s₀.heap.objs.size<=X.env.locals
 inj:∀x y c,X.env.cells.lookup x=some c->X.env.cells.lookup y=some c->x=y
 has:∀x,(X.env.kindOf x=some .cell\/X.env.kindOf x=some .free)->∃c,X.env.cells.lookup x=some c
 cab:∀x c,X.fn x=true->X.env.cells.lookup x=some c->X.s₀.heap.objs.size<=c
 hd:X.calm=true->X.A.handled=none
 frames:X.A.frames=some X.stack
 stk:X.stack=X.outer\/(X.stack=X.env::X.outer/\X.env.frame=some X.env.locals)
 Yk:∀b∈X.ex,b≠X.env.locals/\∀x c,X.env.cells.lookup x=some c->c≠b
 bs:∀b o,X.base.get? b=some o->X.s₀.heap.get? b=some o/\X.H₀ b=none
 N0:X.base.objs.size<=X.s₀.heap.objs.size
 FL:∀b o,X.base.get? b=some o->b∉X.ex
 JD:∀b∈X.ex,b∉X.fs
 rW:X.s₀.heap.FunFrames X.base X.outer
 Lc:∀b∈X.fs,X.H₀ b=none
structure Inv(X:Cx)(pins:List (aN×Obj))(σ:List (Option V))(H:Hp)(s:aQ):Prop where
 ok:X.Ok
 os:s.os=X.s₀.os
 bare:sf s.gens
 base:Un X.fs X.ex X.H₀ H X.s₀.heap s.heap
 loc:∃m,s.heap.Ns X.env.locals m/\∀(i:Nat)(x:Str)(v:V),X.N[i]?=some x->σ[i]?=some (some v)->D0 X.env.scope x->∃u,RelV v u/\Look X.env s.heap m x u
 cell:∀x c,X.env.cells.lookup x=some c->∃v,s.heap.IsCell c v
 free:H X.env.locals=none
 pj:∀x c,X.env.cells.lookup x=some c->H c=none
 pin:∀p∈X.pn++pins,s.heap.get? p.1=some p.2/\H p.1=none/\p.1≠X.env.locals/\p.1∉X.fs/\∀v,p.2.data≠.cell v
 hok:su X.prog X.w H s.heap
 len:σ.length=X.N.length
section
variable{X:Cx}{pins:List (aN×Obj)}{σ:List (Option V)}{H H':Hp}{s:aQ}{h':dq}
theorem Cx.Ok.Zv(ok:X.Ok){b:aN}(e:X.base.get? b=some o):b∉X.fs:=λhb=>by
 have:=(ok.rW.mem hb).1;rw[e]at this;cases this
theorem Inv.bs(I:Inv X pins σ H s):∀b o,X.base.get? b=some o->s.heap.get? b=some o/\H b=none:=λb o e=>
 ⟨I.base.keep b o (I.ok.bs b o e).1 (I.ok.bs b o e).2 (I.ok.Zv e) (I.ok.FL b o e),I.base.free b o (I.ok.bs b o e).1 (I.ok.bs b o e).2 (I.ok.FL b o e)⟩
theorem Inv.bk(I:Inv X pins σ H s):∀b o,X.base.get? b=some o->s.heap.get? b=some o:=λb o e=>(I.bs b o e).1
theorem Inv.mod(I:Inv X pins σ H s):Mod X.K X.mg X.base:=I.ok.mod
theorem Inv.sv(I:Inv X pins σ H s):X.K.In s.heap:=I.ok.mod.RH.keeps I.bk
theorem Inv.lt(I:Inv X pins σ H s):X.env.locals<s.heap.objs.size:=let⟨_,hn,_⟩:=I.loc;hn.lt
theorem Inv.sz(I:Inv X pins σ H s):X.s₀.heap.objs.size<=s.heap.objs.size:=b9 I.ok.above (oZ I.lt)
theorem Inv.Zw(I:Inv X pins σ H s)(h:s.heap.objs.size<=a):a∉X.fs:=λhb=>by
 obtain⟨_,o,ho,_⟩:=I.ok.rW.mem hb;exact absurd (bY (aW ho) (b9 I.sz h)) (jf _)
theorem Inv.Ld(I:Inv X pins σ H s):∀x c,X.env.cells.lookup x=some c->c≠X.env.locals:=λx c e z=>by
 obtain⟨v,o,ho,hd⟩:=I.cell x c e;obtain⟨m,⟨o',es,ep,Cv,rX,_⟩,_⟩:=I.loc;rw[z,Cv]at ho;cases ho;rw[rX]at hd;cases hd
theorem Inv.rW(I:Inv X pins σ H s):s.heap.FunFrames X.base X.outer:=by
 have all:∀(l:List Env),(∀b∈DV l,b∈X.fs)->X.s₀.heap.FunFrames X.base l->s.heap.FunFrames X.base l:=by
  intro l
  induction l with
  |nil=>intro _ _;trivial
  |cons env r ih=>
   intro hs hl;obtain⟨hk,⟨L,o,hf,hn,ho,hd⟩,hr⟩:=hl;have hL:L∈X.fs:=hs L (by unfold DV;rw[iq,hf];exact aO)
   obtain⟨sl,e⟩:=I.base.slot L o ho (I.ok.Lc L hL) hL λz=>I.ok.JD L z hL
   exact⟨hk,⟨L,_,hf,hn,e,hd⟩,ih (λb hb=>hs b (by unfold DV;rw[iq,hf];exact aU _ hb)) hr⟩
 exact all X.outer (λ_ hb=>hb) I.ok.rW
theorem Inv.stack(I:Inv X pins σ H s):s.heap.FunFrames X.base X.stack:=by
 rcases I.ok.stk with e|⟨e,hf⟩
 ·rw[e];exact I.rW
 ·rw[e]
  obtain⟨m,hn,_⟩:=I.loc;refine .cons (by rw[I.ok.kind];decide) hf hn ?_ I.rW
  exact nM (b9 I.ok.N0 I.ok.above)
theorem Inv.Cw(I:Inv X pins σ H s):∀b∈DV X.stack,b∈X.env.locals::X.fs:=λb hb=>by
 rcases I.ok.stk with e|⟨e,hf⟩
 ·rw[e]at hb;exact aU _ hb
 ·rw[e]at hb
  unfold DV at hb;rw[iq,hf]at hb;exact hb
theorem Inv.Ia(I:Inv X pins σ H s):∀b∈DV X.stack,H b=none:=λb hb=>by
 rcases aJ.mp (I.Cw b hb)with e|hb
 ·rw[e];exact I.free
 ·obtain⟨_,o,ho,_⟩:=I.ok.rW.mem hb
  exact I.base.free b o ho (I.ok.Lc b hb) λz=>I.ok.JD b z hb
theorem Inv.step(I:Inv X pins σ H s)
  (K8:∀b∈ch,(b∈X.ex\/X.s₀.heap.objs.size<=b)/\b≠X.env.locals/\(∀x c,X.env.cells.lookup x=some c->c≠b)/\∀p∈X.pn++pins,p.1≠b)
  (keep:∀b o,b≠X.env.locals->b∉X.fs->b∉ch->s.heap.get? b=some o->H b=none->h'.get? b=some o)
  (slot:∀b o,b≠X.env.locals->b∈X.fs->b∉ch->s.heap.get? b=some o->H b=none->∃sl,h'.get? b=some { o with slots:=sl })(free:∀b o,b∉ch->s.heap.get? b=some o->H b=none->H' b=none)
  (there:∀b o,b∉ch->s.heap.get? b=some o->∃o',h'.get? b=some o')
  (tups:∀b xs,H b=some (.tup xs)->H' b=some (.tup xs))(xj:∀b o u,H b=some (.K7 o u)->H' b=some (.K7 o u))(yB:∀b ps,H b=some (.RC ps)->∃more,H' b=some (.RC (ps++more)))
  (ns:∀m,s.heap.Ns X.env.locals m->h'.Ns X.env.locals m)(hok:su X.prog X.w H' h')(hg:sf g'):
  Inv X pins σ H' { s with heap:=h',gens:=g',drawn:=d',toks:=t' }:=by
 have neL:∀b o,X.s₀.heap.get? b=some o->b≠X.env.locals:=λb o e=>bB (bY (aW e) I.ok.above)
 have Uk:∀b o,X.s₀.heap.get? b=some o->b∉X.ex->b∉ch:=λb o e hx hb=>by
  rcases(K8 b hb).1 with z|z
  ·exact hx z
  ·exact absurd (bY (aW e) z) (jf _)
 have cellK:∀x c,X.env.cells.lookup x=some c->∀v,s.heap.IsCell c v->h'.IsCell c v:=λx c e v ⟨o,ho,hd⟩=>by
  have UZ:c∉ch:=λz=>(K8 c z).2.2.1 x c e rfl
  by_cases hc:c∈X.fs
  ·obtain⟨sl,q⟩:=slot c o (I.Ld x c e) hc UZ ho (I.pj x c e)
   exact⟨_,q,hd⟩
  ·exact⟨o,keep c o (I.Ld x c e) hc UZ ho (I.pj x c e),hd⟩
 refine⟨I.ok,I.os,hg,⟨λb o e n hb hx=>?_,λb o e n hb hx=>?_,λb o e n hx=>?_,λb o e hx=>?_,λb xs e=>tups b xs (I.base.tups b xs e),λb o xs e=>xj b o xs (I.base.xj b o xs e),λb ps e=>?_⟩,?_,λx c e=>?_,?_,λx c e=>?_,λp hp=>?_,hok,I.len⟩
 ·exact keep b o (neL b o e) hb (Uk b o e hx) (I.base.keep b o e n hb hx) (I.base.free b o e n hx)
 ·obtain⟨sl,e1⟩:=I.base.slot b o e n hb hx
  obtain⟨RJ,e2⟩:=slot b _ (neL b o e) hb (Uk b o e hx) e1 (I.base.free b o e n hx);exact⟨RJ,e2⟩
 ·obtain⟨o',e1⟩:=I.base.there b o e hx
  exact free b o' (Uk b o e hx) e1 (I.base.free b o e n hx)
 ·obtain⟨o',e1⟩:=I.base.there b o e hx
  exact there b o' (Uk b o e hx) e1
 ·obtain⟨m1,e1⟩:=I.base.yB b ps e
  obtain⟨m2,e2⟩:=yB b _ e1;exact⟨m1++m2,by rw[e2,Array.append_assoc]⟩
 ·obtain⟨m,hn,hl⟩:=I.loc
  refine⟨m,ns m hn,λi x v e1 e2 e3=>?_⟩
  obtain⟨u,r,l⟩:=hl i x v e1 e2 e3;refine⟨u,r,?_⟩
  rcases l with l|⟨k,c,e,z⟩
  ·exact .inl l
  ·exact .inr ⟨k,c,e,cellK x c e _ z⟩
 ·obtain⟨v,z⟩:=I.cell x c e
  exact⟨v,cellK x c e v z⟩
 ·obtain⟨m,⟨o,_,_,ho,_⟩,_⟩:=I.loc
  exact free _ o (λz=>(K8 _ z).2.1 rfl) ho I.free
 ·obtain⟨v,o,ho,hd⟩:=I.cell x c e
  exact free c o (λz=>(K8 c z).2.2.1 x c e rfl) ho (I.pj x c e)
 ·obtain⟨e,n,ne,nf,d⟩:=I.pin p hp
  have UZ:p.1∉ch:=λz=>(K8 p.1 z).2.2.2 p hp rfl
  exact⟨keep p.1 p.2 ne nf UZ e n,free p.1 p.2 UZ e n,ne,nf,d⟩
theorem Inv.un(I:Inv X pins σ H s)(u:Un X.fs [] H H' s.heap h')(hok:su X.prog X.w H' h'):Inv X pins σ H' { s with heap:=h',toks:=t' }:=by
 obtain⟨m,⟨o,es,ep,ho,r⟩,_⟩:=id I.loc;obtain⟨sl,hL⟩:=u.any ho I.free (by simp)
 exact I.step (g':=s.gens) (d':=s.drawn) (ch:=[]) (λ_ z=>nomatch z) (λb o _ hb _ e n=>u.keep b o e n hb (by simp)) (λb o _ hb _ e n=>u.slot b o e n hb (by simp)) (λb o _ e n=>u.free b o e n (by simp)) (λb o _ e=>u.there b o e (by simp)) u.tups u.xj u.yB (λm' hm=>by
  obtain⟨o',Zx,Zy,Cv,r'⟩:=hm;rw[ho]at Cv;cases Cv;exact⟨_,Zx,Zy,hL,r'⟩) hok I.bare
theorem Inv.call(I:Inv X pins σ H s)(u:Un (DV X.stack) ch H H' s.heap h')(hok:su X.prog X.w H' h')(hg:sf g')
  (K8:∀b∈ch,(b∈X.ex\/X.s₀.heap.objs.size<=b)/\b≠X.env.locals/\(∀x c,X.env.cells.lookup x=some c->c≠b)/\∀p∈X.pn++pins,p.1≠b):
  Inv X pins σ H' { s with heap:=h',gens:=g',drawn:=d',toks:=t' }:=by
 obtain⟨m,⟨o,es,ep,ho,r⟩,_⟩:=id I.loc;obtain⟨sl,hL⟩:=u.any ho I.free λz=>(K8 _ z).2.1 rfl
 exact I.step (ch:=ch) K8 (λb o hL hb hc e n=>u.keep b o e n (λz=>(aJ.mp (I.Cw b z)).elim hL hb) hc) (λb o _ _ hc e n=>u.any e n hc) (λb o hc e n=>u.free b o e n hc) (λb o hc e=>u.there b o e hc) u.tups u.xj u.yB (λm' hm=>by
  obtain⟨o',Zx,Zy,Cv,r'⟩:=hm;rw[ho]at Cv;cases Cv;exact⟨_,Zx,Zy,hL,r'⟩) hok hg
theorem Inv.turned(I:Inv X pins σ H s)(k:∀b o,b≠it->s.heap.get? b=some o->h'.get? b=some o)(hn:H it=none)(hL:it≠X.env.locals)
  (h1:it∈X.ex\/X.s₀.heap.objs.size<=it)(h2:∀x c,X.env.cells.lookup x=some c->c≠it)(h3:∀p∈X.pn++pins,p.1≠it):Inv X pins σ H { s with heap:=h',toks:=t' }:=by
 have U0:∀b u,H b=some u->b≠it:=λb u e z=>by rw[z,hn]at e;cases e
 refine I.step (g':=s.gens) (d':=s.drawn) (ch:=[it]) (λb hb=>?_) (λb o _ _ hc e _=>k b o (λz=>hc (by simp[z])) e) (λb o _ _ hc e _=>⟨o.slots,k b o (λz=>hc (by simp[z])) e⟩) (λ_ _ _ _ n=>n)
  (λb o hc e=>⟨o,k b o (λz=>hc (by simp[z])) e⟩) (λ_ _ e=>e) (λ_ _ _ e=>e) (λb ps e=>⟨#[],by rw[e];simp⟩) (λm hm=>?_) (λb u e=>?_) I.bare
 ·have e:b=it:=by simpa using hb
  subst e;exact⟨h1,hL,h2,h3⟩
 ·obtain⟨o,es,ep,ho,r⟩:=hm
  exact⟨o,es,ep,k _ o (bU hL) ho,r⟩
 ·refine(I.hok b u e).stay (λc v hc q=>k c v ?_ q) (λ_ q=>q) λ_ _ q=>q
  rcases hc with z|z
  ·rw[z];exact U0 b u e
  ·exact U0 c _ z
theorem Inv.tok(I:Inv X pins σ H s)(t:Nat):Inv X pins σ H { s with toks:=t }:=I.un (h':=s.heap) (t':=t) Un.refl I.hok
theorem Inv.kept(I:Inv X pins σ H s)(k:∀b u,s.heap.get? b=some u->h'.get? b=some u):Inv X pins σ H { s with heap:=h',toks:=t' }:=I.un (Un.kept k) (I.hok.kept k)
theorem Inv.laid{o:HO}(I:Inv X pins σ H s)(k:∀b u,s.heap.get? b=some u->h'.get? b=some u)(hp:s.heap.objs.size<=a)(new:hZ X.prog X.w (upd H a o) h' a o):
  Inv X pins σ (upd H a o) { s with heap:=h',toks:=t' }:=I.un (Un.laid k hp (I.hok.fresh hp)) (I.hok.laid k hp new)
theorem Inv.write{x e:aN}{o:HO}(I:Inv X pins σ H s)(mu:UX (H x))(he:e=x\/H e=some (.own x))(k:∀b u,b≠e->s.heap.get? b=some u->h'.get? b=some u)(Qz:∃u,h'.get? e=some u)
  (new:hZ X.prog X.w (upd H x o) h' x o):Inv X pins σ (upd H x o) { s with heap:=h',toks:=t' }:=I.un (Un.write mu he k Qz) (I.hok.write mu he k Qz new)
theorem Inv.Ib{QB:List (aN×Obj)}(I:Inv X pins σ H s)(h:∀p∈QB,s.heap.get? p.1=some p.2/\H p.1=none/\p.1≠X.env.locals/\p.1∉X.fs/\∀v,p.2.data≠.cell v):Inv X QB σ H s:=
 ⟨I.ok,I.os,I.bare,I.base,I.loc,I.cell,I.free,I.pj,λp hp=>(bX.mp hp).elim (λz=>I.pin p (dg _ z)) (h p),I.hok,I.len⟩
theorem zk(hN:N.Nodup){i j:Nat}{x:Str}(a:N[i]?=some x)(b:N[j]?=some x):i=j:=by
 obtain⟨h1,e1⟩:=aL.mp a;obtain⟨h2,e2⟩:=aL.mp b;exact(List.getElem_inj hN).mp (e1.trans e2.symm)
theorem Bo{i:Nat}{x:Str}{v:V}{Q:Unit->aQ->Prop}(I:Inv X pins σ H s)(hN:X.N.Nodup)(hi:X.N[i]?=some x)(hx:Loc X.env.scope x)(r:RelV v u)
  (h:∀s',Inv X pins (σ.set i (some v)) H s'->(∃a,kI a s.heap s'.heap/\(a=X.env.locals\/X.env.cells.lookup x=some a))->Q () s')(hf:X.fn x=true\/X.env.scope.names.lookup x=some .local:=by first|exact .inl rfl|exact .inr rfl|assumption):wpAny M A (storeName X.env x u) Q E s:=by
 obtain⟨m,hn,hl⟩:=id I.loc;have RK:(X.env.scope.kind == .class||(X.env.scope.kind == .module&&X.env.locals != X.env.globals))=false:=by rw[I.ok.kind];rfl
 have hiσ:i < σ.length:=by rw[I.len];exact(aL.mp hi).1
 have Ld:=I.Ld;have tracked:∀{a:aN}{h':dq},(∃o,s.heap.get? a=some o/\H a=none)->kI a s.heap h'->su X.prog X.w H h':=λ{a h'}ha hs b ob e=>by
  obtain⟨_,_,QC⟩:=ha;refine(I.hok b ob e).stay (λc w' hc q=>(hs.2 c ?_).trans q) (λ_ q=>q) λ_ _ q=>q
  rintro rfl
  rcases hc with rfl|hc
  ·rw[QC]at e;cases e
  ·rw[QC]at hc;cases hc
 rcases hx with hk|hk
 ·refine wpAny_storeName_local hk hn (λh' Zz hs=>?_) RK
  obtain⟨oL,_,_,hoL,_⟩:=id hn;refine h _ ⟨I.ok,I.os,I.bare,⟨λb o e n hb hx=>?_,λb o e n hb hx=>?_,I.base.free,λb o e hx=>?_,I.base.tups,I.base.xj,I.base.yB⟩,⟨_,Zz,λj y v' e1 e2 e3=>?_⟩,λy c e=>?_,I.free,I.pj,λp hp=>?_,tracked ⟨oL,hoL,I.free⟩ hs,by simpa using I.len⟩ ⟨_,hs,.inl rfl⟩
  ·exact(hs.2 b (bB (bY (aW e) I.ok.above))).trans (I.base.keep b o e n hb hx)
  ·obtain⟨sl,e1⟩:=I.base.slot b o e n hb hx
   exact⟨sl,(hs.2 b (bB (bY (aW e) I.ok.above))).trans e1⟩
  ·obtain⟨o',e1⟩:=I.base.there b o e hx
   exact⟨o',(hs.2 b (bB (bY (aW e) I.ok.above))).trans e1⟩
  ·by_cases hj:j=i
   ·subst hj
    rw[hi]at e1;cases e1;rw[bf hiσ]at e2;cases e2;exact⟨u,r,.inl ⟨hk,by simp⟩⟩
   ·rw[a7 (bU hj)]at e2
    obtain⟨u',r',q⟩:=hl j y v' e1 e2 e3;refine⟨u',r',?_⟩
    rcases q with⟨k,e⟩|⟨k,c,e,z⟩
    ·refine .inl ⟨k,?_⟩
     have:y≠x:=λe=>hj (zk hN e1 (e▸hi))
     simp[this,e]
    ·exact .inr ⟨k,c,e,z.sameBut hs (Ld y c e)⟩
  ·obtain⟨w',z⟩:=I.cell y c e
   exact⟨w',z.sameBut hs (Ld y c e)⟩
  ·obtain⟨e,n,ne,nf,d⟩:=I.pin p hp
   exact⟨(hs.2 p.1 ne).trans e,n,ne,nf,d⟩
 ·have ZC:X.fn x=true:=by
   rcases hf with z|z
   ·exact z
   ·rw[z]at hk;cases hk
  obtain⟨c,hc⟩:=I.ok.has x (.inl hk);obtain⟨w',z⟩:=I.cell x c hc;refine wpAny_storeName_cell I.ok.kind hk hc z (λh' Ul hs=>?_)
  obtain⟨oc,hoc,ZD⟩:=id z;refine h { s with heap:=h' } ⟨I.ok,I.os,I.bare,⟨λb o e n hb hx=>?_,λb o e n hb hx=>?_,I.base.free,λb o e hx=>?_,I.base.tups,I.base.xj,I.base.yB⟩,⟨m,hn.sameBut hs (bU (Ld x c hc)),λj y v' e1 e2 e3=>?_⟩,λy c' e=>?_,I.free,I.pj,λp hp=>?_,tracked ⟨oc,hoc,I.pj x c hc⟩ hs,by simpa using I.len⟩ ⟨c,hs,.inr hc⟩
  ·exact(hs.2 b (bB (bY (aW e) (I.ok.cab x c ZC hc)))).trans (I.base.keep b o e n hb hx)
  ·obtain⟨sl,e1⟩:=I.base.slot b o e n hb hx
   exact⟨sl,(hs.2 b (bB (bY (aW e) (I.ok.cab x c ZC hc)))).trans e1⟩
  ·obtain⟨o',e1⟩:=I.base.there b o e hx
   exact⟨o',(hs.2 b (bB (bY (aW e) (I.ok.cab x c ZC hc)))).trans e1⟩
  ·by_cases hj:j=i
   ·subst hj
    rw[hi]at e1;cases e1;rw[bf hiσ]at e2;cases e2;exact⟨u,r,.inr ⟨.inl hk,c,hc,Ul⟩⟩
   ·rw[a7 (bU hj)]at e2
    obtain⟨u',r',q⟩:=hl j y v' e1 e2 e3;refine⟨u',r',?_⟩
    rcases q with q|⟨k,c',e,z'⟩
    ·exact .inl q
    ·refine .inr ⟨k,c',e,z'.sameBut hs ?_⟩
     rintro rfl
     exact hj (zk hN e1 (I.ok.inj _ _ _ e hc▸hi))
  ·by_cases Yl:c'=c
   ·subst Yl;exact⟨_,Ul⟩
   ·obtain⟨w2,z2⟩:=I.cell y c' e
    exact⟨w2,z2.sameBut hs Yl⟩
  ·obtain⟨e,n,ne,nf,d⟩:=I.pin p hp
   refine⟨(hs.2 p.1 ?_).trans e,n,ne,nf,d⟩
   intro q;rw[q,hoc]at e;have q':oc=p.2:=c9 e;exact d w' (by rw[<-q'];exact ZD)
theorem mW{i:Nat}{x:Str}{v:V}{Q:Unit->aQ->Prop}(I:Inv X pins σ H s)(hN:X.N.Nodup)(hi:X.N[i]?=some x)(hx:Loc X.env.scope x)(r:RelV v u)
  (h:∀s',Inv X pins (σ.set i (some v)) H s'->Q () s')(hf:X.fn x=true\/X.env.scope.names.lookup x=some .local:=by first|exact .inl rfl|exact .inr rfl|assumption):wpAny M A (storeName X.env x u) Q E s:=
 Bo I hN hi hx r (λs' I' _=>h s' I') hf
theorem Inv.call'(I:Inv X pins σ H s)(ho:s'.os=s.os)(u:Un (DV X.stack) ch H H' s.heap s'.heap)(hok:su X.prog X.w H' s'.heap)(hg:sf s'.gens)
  (K8:∀b∈ch,(b∈X.ex\/X.s₀.heap.objs.size<=b)/\b≠X.env.locals/\(∀x c,X.env.cells.lookup x=some c->c≠b)/\∀p∈X.pn++pins,p.1≠b):Inv X pins σ H' s':=by
 obtain⟨h',g',d',t',o'⟩:=s';have e:o'=s.os:=ho;subst e;exact I.call (g':=g') (t':=t') (d':=d') u hok hg K8
end
abbrev XK:=aD->Option aN->Hp->Prop
abbrev St:=List (Option V)
variable{σ:St}
abbrev VK:=V->Hp->Prop
abbrev TE:=St->Hp->VK->Prop
variable{t:TE}
abbrev TT:=St->Hp->(Bool->Hp->Prop)->Prop
abbrev TA:=St->Hp->(List V->Hp->Prop)->Prop
structure Ends where
 nx:St->Hp->Prop
 rt:VK
 bk:St->Hp->Prop:=λ_ _=>False
 ct:St->Hp->Prop:=λ_ _=>False
abbrev TS:=Ends->St->Hp->Prop
def EP(X:Cx)(pins:List (aN×Obj))(σ:St)(Q:VK)(u:aD)(s':aQ):Prop:=∃v H',Inv X pins σ H' s'/\RelV v u/\Q v H'
def TP(X:Cx)(pins:List (aN×Obj))(σ:St)(Q:Bool->Hp->Prop)(b:Bool)(s':aQ):Prop:=∃H',Inv X pins σ H' s'/\Q b H'
def AP(X:Cx)(pins:List (aN×Obj))(σ:St)(Q:List V->Hp->Prop)(us:List aD)(s':aQ):Prop:=∃vs H',Inv X pins σ H' s'/\dZ vs us/\Q vs H'
def SP(X:Cx)(pins:List (aN×Obj))(D:Ends)(f:Flow)(s':aQ):Prop:=
 match f with
 | .next=>∃σ' H',Inv X pins σ' H' s'/\D.nx σ' H'
 | .brk=>∃σ' H',Inv X pins σ' H' s'/\D.bk σ' H'
 | .cont=>∃σ' H',Inv X pins σ' H' s'/\D.ct σ' H'
 | .ret u=>∃v σ' H',Inv X pins σ' H' s'/\RelV v u/\D.rt v H'
def PE(X:Cx)(e:cw)(t:TE):Prop:=
 ∀(pins:List (aN×Obj))(s:aQ)(σ:St)(H:Hp)(Q:VK),Inv X pins σ H s->t σ H Q->wpAny (model X.prog X.w) X.A (eval e X.env) (EP X pins σ Q) X.xe s
def PT(X:Cx)(e:cw)(t:TT):Prop:=
 ∀(pins:List (aN×Obj))(s:aQ)(σ:St)(H:Hp)(Q:Bool->Hp->Prop),Inv X pins σ H s->t σ H Q->wpAny (model X.prog X.w) X.A (isTrue e X.env (eval e X.env)) (TP X pins σ Q) X.xe s
def PW(X:Cx)(e:cw)(t:TT):Prop:=
 ∀(whole:Sem aD)(pins:List (aN×Obj))(s:aQ)(σ:St)(H:Hp)(Q:Bool->Hp->Prop),Inv X pins σ H s->t σ H Q->wpAny (model X.prog X.w) X.A (isTrue e X.env whole) (TP X pins σ Q) X.xe s
theorem PW.pt{t:TT}(h:PW X e t):PT X e t:=h _
def PA(X:Cx)(es:List cw)(t:TA):Prop:=
 ∀(pos:Pos)(pins:List (aN×Obj))(s:aQ)(σ:St)(H:Hp)(Q:List V->Hp->Prop),Inv X pins σ H s->t σ H Q->wpAny (model X.prog X.w) X.A (spliced (backTo pos (starEach es X.env))) (AP X pins σ Q) X.xe s
def PS(X:Cx)(st:iH)(t:TS):Prop:=
 ∀(pins:List (aN×Obj))(s:aQ)(σ:St)(H:Hp)(D:Ends),Inv X pins σ H s->t D σ H->wpAny (model X.prog X.w) X.A (exec st X.env) (SP X pins D) X.xe s
def Ie(X:Cx)(st:List iH)(t:TS):Prop:=
 ∀(pins:List (aN×Obj))(s:aQ)(σ:St)(H:Hp)(D:Ends),Inv X pins σ H s->t D σ H->wpAny (model X.prog X.w) X.A (execs st X.env) (SP X pins D) X.xe s
theorem gj{α:Type}{t:Sem α}{Q Q':α->aQ->Prop}(h:wpAny M A t Q E s)(hQ:∀a s,Q a s->Q' a s):wpAny M A t Q' E s:=eT h hQ λ_ _ x=>x
section
variable{X:Cx}
theorem bin{a b:cw}{ta tb:TE}(ha:PE X a ta)(hb:PE X b tb)(I:Inv X pins σ H s)(h:ta σ H λx H1=>tb σ H1 λy H2=>R x y H2)
  {α:Type}{Q:α->aQ->Prop}{f:aD->aD->Sem α}
  (hf:∀v u s2 x y H2,Inv X pins σ H2 s2->RelV x v->RelV y u->R x y H2->wpAny (model X.prog X.w) X.A (f v u) Q X.xe s2):
  wpAny (model X.prog X.w) X.A (eval a X.env) (λv s₁=>wpAny (model X.prog X.w) X.A (eval b X.env) (λu s₂=>wpAny (model X.prog X.w) X.A (f v u) Q X.xe s₂) X.xe s₁) X.xe s:=by
 refine gj (ha pins s σ H _ I h) λv s1 ⟨x,H1,I1,r1,q1⟩=>?_
 refine gj (hb pins s1 σ H1 _ I1 q1) λu s2 ⟨y,H2,I2,r2,q2⟩=>?_
 exact hf v u s2 x y H2 I2 r1 r2 q2
def U1(i:Nat):TE:=λσ H Q=>∃v,σ[i]?=some (some v)/\Q v H
def tC(v:V):TE:=λ_ H Q=>Q v H
theorem gO{i:Nat}{x:Str}{pos:Pos}(hN:X.N[i]?=some x)(hv:D0 X.env.scope x)(hd:(x==("__debug__":Str))=false:=by decide)(pT:(x==("__classdict__":Str))=false:=by decide):PE X (.Name x pos) (U1 i):=by
 intro pins s σ H Q I h;obtain⟨v,e,h⟩:=h;obtain⟨m,hn,hl⟩:=I.loc;obtain⟨u,r,l⟩:=hl i x v hN e hv;have fin:EP X pins σ Q u s:=⟨v,H,I,r,h⟩;rcases l with⟨hk,hm⟩|⟨hk,c,hc,QD⟩
 ·exact wpAny_Name (wpAny_loadName_local I.ok.kind hk hn hm fin) hd
 ·rcases hk with hk|hk
  ·exact wpAny_Name (wpAny_loadName_cell I.ok.kind hk hc QD fin) hd
  ·exact wpAny_Name (wpAny_loadName_free I.ok.kind hk hc QD fin pT) hd
theorem RL{i j pos}:PE X (.Constant (.int i) j pos) (tC (.int i)):=λ_ _ _ H _ I h=>wpAny_Constant_int ⟨.int i,H,I.tok _,⟨_,rfl⟩,h⟩
theorem U2{b j pos}:PE X (.Constant (.bool b) j pos) (tC (.bl b)):=λ_ _ _ H _ I h=>Constant_bool ⟨.bl b,H,I,rfl,h⟩
theorem RM{j pos}:PE X (.Constant .none j pos) (tC .non):=λ_ _ _ H _ I h=>Constant_none ⟨.non,H,I,rfl,h⟩
theorem RN{x j pos}:PE X (.Constant (.str x) j pos) (tC (.str x)):=λ_ _ _ H _ I h=>Calls.Constant_str ⟨.str x,H,I.tok _,⟨_,rfl⟩,h⟩
def Gl(X:Cx)(x:Str):Prop:=X.env.kindOf x=some .globalImplicit
theorem qL{x:Str}{pos:Pos}(I:Inv X pins σ H s)(hg:Gl X x)(hm:X.mg x=some u)(h:Q u s)
  (hd:(x==("__debug__":Str))=false:=by decide):wpAny (model X.prog X.w) X.A (eval (.Name x pos) X.env) Q E s:=
 AU I.ok.kind hg (Calls.loadGlobal_global (by rw[I.ok.glob];exact I.mod.glob.keeps I.bk) hm h) hd
theorem xm{x:Str}{pos:Pos}(I:Inv X pins σ H s)(hg:Gl X x)(hm:X.mg x=none)(hv:bootBuiltins x=some u)(h:Q u s)
  (hn:x≠"__name__":=by decide)(hd:(x==("__debug__":Str))=false:=by decide):wpAny (model X.prog X.w) X.A (eval (.Name x pos) X.env) Q E s:=by
 obtain⟨mb,h1,h2⟩:=I.mod.blt;exact AU I.ok.kind hg (Calls.loadGlobal_builtin (by rw[I.ok.glob];exact I.mod.glob.keeps I.bk) hm (by rw[I.ok.blt];exact h1.keeps I.bk) ((h2 x hn).trans hv) h) hd
theorem pq{x:Str}{v:V}{pos:Pos}(hg:Gl X x)(hm:X.mg x=some u)(r:RelV v u)(hd:(x==("__debug__":Str))=false:=by decide):PE X (.Name x pos) (tC v):=
 λ_ _ _ H _ I h=>qL I hg hm ⟨v,H,I,r,h⟩ hd
theorem vQ{x:Str}{v:V}{pos:Pos}(hg:Gl X x)(hm:X.mg x=none)(hv:bootBuiltins x=some u)(r:RelV v u)(hn:x≠"__name__":=by decide)(hd:(x==("__debug__":Str))=false:=by decide):PE X (.Name x pos) (tC v):=
 λ_ _ _ H _ I h=>xm I hg hm hv ⟨v,H,I,r,h⟩ hn hd
variable{a b:cw}{ta tb:TE}{pos:Pos}
def PC(X:Cx)(op:AV)(a b:cw)(t:TE):Prop:=
 ∀(pins:List (aN×Obj))(s:aQ)(σ:St)(H:Hp)(Q:VK),Inv X pins σ H s->t σ H Q->
  wpAny (model X.prog X.w) X.A (eval a X.env) (λv s₁=>wpAny (model X.prog X.w) X.A (eval b X.env) (λu s₂=>wpAny (model X.prog X.w) X.A (compareOp op v u) (EP X pins σ Q) X.xe s₂) X.xe s₁) X.xe s
def tB(t:TE):TT:=λσ H Q=>t σ H λx H1=>∃c,x=.bl c/\Q c H1
theorem FN{op:AV}(h:PC X op a b t)(h1:behindInMarks op b=false:=by first|exact Le _ (by decide) (by decide)|rfl):PE X (.Compare a [op] [b] pos) t:=λpins s σ H Q I hw=>wpAny_Compare1 (h pins s σ H Q I hw) h1
theorem RP{op:AV}(h:PC X op a b t)(h1:behindInMarks op b=false:=by first|exact Le _ (by decide) (by decide)|rfl):PT X (.Compare a [op] [b] pos) (tB t):=by
 intro pins s σ H Q I hw;refine wpAny_isTrue_Compare1 (gj (h pins s σ H _ I hw) λv s1 h1=>gj h1 λu s2 h2=>gj h2 λc s3 ⟨x,H1,I1,r1,q1⟩=>?_) h1
 obtain⟨d,rfl,q⟩:=q1;cases r1;exact eO ⟨H1,I1,q⟩
theorem u0(h:PE X e t)(he:∀whole,isTrue e X.env whole=(do let v <-whole;standAt e.pos;holding [v] (truthy v)):=by intro _;rfl):PT X e (tB t):=by
 intro pins s σ H Q I hw;refine isTrue_plain (gj (h pins s σ H _ I hw) λv s1 ⟨x,H1,I1,r1,q1⟩=>?_) (he _)
 obtain⟨d,rfl,q⟩:=q1;cases r1;exact eO ⟨H1,I1,q⟩
variable{tA Ym:TT}{rest:List cw}
def ZE(t u:TT):TT:=λσ H Q=>t σ H λc H1=>if c=true then u σ H1 Q else Q false H1
def tOr(t u:TT):TT:=λσ H Q=>t σ H λc H1=>if c=true then Q true H1 else u σ H1 Q
def ZF(t:TT):TT:=λσ H Q=>t σ H λc H1=>Q (!c) H1
theorem pw_and1(ha:PT X a tA):PW X (.BoolOp .And [a] pos) tA:=by
 intro wh pins s σ H Q I h;refine isTrue_and (gj (ha pins s σ H Q I h) λc s1 e=>?_)
 cases c with
 |true=>exact isTrue_and_nil e
 |false=>exact e
theorem pw_or1(ha:PT X a tA):PW X (.BoolOp .Or [a] pos) tA:=by
 intro wh pins s σ H Q I h;refine isTrue_or (gj (ha pins s σ H Q I h) λc s1 e=>?_)
 cases c with
 |false=>exact isTrue_or_nil e
 |true=>exact e
theorem pw_and(ha:PT X a tA)(hb:PW X (.BoolOp .And (b::rest) pos) Ym):PW X (.BoolOp .And (a::b::rest) pos) (ZE tA Ym):=by
 intro wh pins s σ H Q I h;refine isTrue_and (gj (ha pins s σ H _ I h) λc s1 ⟨H1,I1,q1⟩=>?_)
 cases c with
 |true=>exact hb wh pins s1 σ H1 Q I1 q1
 |false=>exact⟨H1,I1,q1⟩
theorem pw_or(ha:PT X a tA)(hb:PW X (.BoolOp .Or (b::rest) pos) Ym):PW X (.BoolOp .Or (a::b::rest) pos) (tOr tA Ym):=by
 intro wh pins s σ H Q I h;refine isTrue_or (gj (ha pins s σ H _ I h) λc s1 ⟨H1,I1,q1⟩=>?_)
 cases c with
 |true=>exact⟨H1,I1,q1⟩
 |false=>exact hb wh pins s1 σ H1 Q I1 q1
theorem xn(ha:PT X a tA):PT X (.UnaryOp .Not a pos) (ZF tA):=by
 intro pins s σ H Q I h;exact isTrue_not (ha pins s σ H (λc H1=>Q (!c) H1) I h)
def U3(ta tb:TE):TE:=λσ H Q=>ta σ H λx H1=>∃c,x=.bl c/\if c=true then tb σ H1 Q else Q (.bl false) H1
def ZG(ta tb:TE):TE:=λσ H Q=>ta σ H λx H1=>∃c,x=.bl c/\if c=true then Q (.bl true) H1 else tb σ H1 Q
def U4(ta:TE):TE:=λσ H Q=>ta σ H λx H1=>∃c,x=.bl c/\Q (.bl (!c)) H1
theorem RQ{op}(h:PE X a t):PE X (.BoolOp op [a] pos) t:=λpins s σ H Q I hw=>BoolOp_one (h pins s σ H Q I hw)
theorem Lf(ha:PE X a ta)(hb:PE X (.BoolOp .And (b::rest) pos) tb):PE X (.BoolOp .And (a::b::rest) pos) (U3 ta tb):=by
 intro pins s σ H Q I h;refine BoolOp_and (gj (ha pins s σ H _ I h) λv s1 ⟨x,H1,I1,r1,q1⟩=>?_)
 obtain⟨c,rfl,q1⟩:=q1;cases r1;refine eO ?_
 cases c with
 |true=>exact hb pins s1 σ H1 Q I1 q1
 |false=>exact⟨.bl false,H1,I1,rfl,q1⟩
theorem QF(ha:PE X a ta)(hb:PE X (.BoolOp .Or (b::rest) pos) tb):PE X (.BoolOp .Or (a::b::rest) pos) (ZG ta tb):=by
 intro pins s σ H Q I h;refine BoolOp_or (gj (ha pins s σ H _ I h) λv s1 ⟨x,H1,I1,r1,q1⟩=>?_)
 obtain⟨c,rfl,q1⟩:=q1;cases r1;refine eO ?_
 cases c with
 |false=>exact hb pins s1 σ H1 Q I1 q1
 |true=>exact⟨.bl true,H1,I1,rfl,q1⟩
theorem RT(ha:PE X a ta):PE X (.UnaryOp .Not a pos) (U4 ta):=by
 intro pins s σ H Q I h;refine UnaryOp_ (gj (ha pins s σ H _ I h) λv s1 ⟨x,H1,I1,r1,q1⟩=>?_)
 obtain⟨c,rfl,q1⟩:=q1;cases r1;exact not_of (eO ⟨.bl (!c),H1,I1,rfl,q1⟩)
def tIf(t:TT)(ta tb:TE):TE:=λσ H Q=>t σ H λc H1=>if c=true then ta σ H1 Q else tb σ H1 Q
theorem Lg(hc:PT X c tA)(ha:PE X a ta)(hb:PE X b tb):PE X (.IfExp c a b pos) (tIf tA ta tb):=by
 intro pins s σ H Q I h;refine wpAny_IfExp (gj (hc pins s σ H _ I h) λd s1 ⟨H1,I1,q1⟩=>?_)
 cases d with
 |true=>exact ha pins s1 σ H1 Q I1 q1
 |false=>exact hb pins s1 σ H1 Q I1 q1
end
def lW(K:av)(H:Hp)(a:aN)(xs:List V):Prop:=
 Rd H a (.lst xs)\/
  ∃(o:Obj)(its:Array aD)(n:Nat),K.lookup a=some o/\o.cls=.type "list"/\o.dict=none/\o.data=.seq its n/\its.size<=sizeLine/\dZ xs its.toList
def qM(K:av)(H:Hp)(a:aN)(xs:List V):Prop:=
 Rd H a (.tup xs)\/
  ∃(o:Obj)(its:Array aD)(n:Nat),K.lookup a=some o/\o.cls=.type "tuple"/\o.data=.seq its n/\its.size<=sizeLine/\dZ xs its.toList
def ZH:aD->Option V
 | .none=>some .non
 | .bool b=>some (.bl b)
 | .int i _=>some (.int i)
 | .str x _=>some (.str x)
 | .bytes b _=>some (.Uj b)
 | .float b _=>some (.flt b)
 | .ref a=>some (.ref a)
 | .type n=>some (.ty n)
 |_=>none
theorem RelV.abs{x:V}(r:RelV x u):ZH u=some x:=by
 cases x with
 |non=>cases r;rfl
 |bl _=>cases r;rfl
 |int _=>obtain⟨t,rfl⟩:=r;rfl
 |str _=>obtain⟨t,rfl⟩:=r;rfl
 |Uj _=>obtain⟨t,rfl⟩:=r;rfl
 |flt _=>obtain⟨t,rfl⟩:=r;rfl
 |ref _=>cases r;rfl
 |ty _=>cases r;rfl
theorem RelV.inj{x y:V}(r:RelV x u)(q:RelV y u):x=y:=c9 (r.abs.symm.trans q.abs)
theorem dZ.inj:∀{xs ys:List V}{us:List aD},dZ xs us->dZ ys us->xs=ys
 |_,_,_,.nil,.nil=>rfl
 |_,_,_,.cons r t,.cons r' t'=>by rw[r.inj r',dZ.inj t t']
section
variable{X:Cx}{pins:List (aN×Obj)}{σ:St}{H:Hp}{s:aQ}{a:aN}{xs ys:List V}
theorem lW.of(h:H a=some (.lst xs)):lW K H a xs:=.inl (.inl h)
theorem qM.of(h:H a=some (.tup xs)):qM K H a xs:=.inl (.inl h)
theorem Inv.list(I:Inv X pins σ H s)(h:lW X.K H a xs):∃its:List aD,dZ xs its/\PlainL s.heap a its.toArray/\xs.length<=sizeLine:=by
 rcases h with h|⟨o,its,n,hk,hc,hd,hs,hz,r⟩
 ·obtain⟨z,its,n,r,e⟩:=h.ok I.hok
  exact⟨its,r,⟨_,n,e,rfl,rfl,rfl⟩,z⟩
 ·refine⟨its.toList,r,⟨o,n,I.sv a o hk,hc,hd,by simpa using hs⟩,?_⟩
  have e:=r.length;simp only[cq]at e;omega
theorem Inv.tuple(I:Inv X pins σ H s)(h:qM X.K H a xs):∃its:List aD,dZ xs its/\IsTup s.heap a its.toArray/\xs.length<=sizeLine:=by
 rcases h with h|⟨o,its,n,hk,hc,hs,hz,r⟩
 ·obtain⟨z,its,r,p⟩:=h.ok I.hok
  exact⟨its,r,p,z⟩
 ·refine⟨its.toList,r,⟨o,I.sv a o hk,hc,n,by simpa using hs⟩,?_⟩
  have e:=r.length;simp only[cq]at e;omega
theorem Inv.zl(I:Inv X pins σ H s)(h:lW X.K H a xs)(h':lW X.K H a ys):xs=ys:=by
 obtain⟨its,r,⟨o,n,e,_,_,d⟩,_⟩:=I.list h;obtain⟨its',r',⟨o',n',e',_,_,d'⟩,_⟩:=I.list h';rw[e]at e';cases e';rw[d]at d'
 injection d' with d1 _
 have:its=its':=by simpa using congrArg Array.toList d1
 subst this;exact r.inj r'
theorem Inv.Bp(I:Inv X pins σ H s)(h:qM X.K H a xs)(h':qM X.K H a ys):xs=ys:=by
 obtain⟨its,r,⟨o,e,_,n,d⟩,_⟩:=I.tuple h;obtain⟨its',r',⟨o',e',_,n',d'⟩,_⟩:=I.tuple h';rw[e]at e';cases e';rw[d]at d'
 injection d' with d1 _
 have:its=its':=by simpa using congrArg Array.toList d1
 subst this;exact r.inj r'
end
abbrev Cx.wish(X:Cx)(E:aD->aQ->Prop):Cx:={ X with xe:=E }
abbrev Cx.Ig(X:Cx):Cx:=X.wish λ_ _=>False
theorem Cx.Ok.wish(ok:X.Ok)(E:aD->aQ->Prop):(X.wish E).Ok:=
 ⟨ok.mod,ok.kind,ok.glob,ok.blt,ok.above,ok.inj,ok.has,ok.cab,ok.hd,ok.frames,ok.stk,ok.Yk,ok.bs,ok.N0,ok.FL,ok.JD,ok.rW,ok.Lc⟩
theorem Cx.Ok.sM(ok:(X.wish E).Ok):X.Ok:=
 ⟨ok.mod,ok.kind,ok.glob,ok.blt,ok.above,ok.inj,ok.has,ok.cab,ok.hd,ok.frames,ok.stk,ok.Yk,ok.bs,ok.N0,ok.FL,ok.JD,ok.rW,ok.Lc⟩
section
variable{X:Cx}{pins:List (aN×Obj)}{σ:St}{H:Hp}{s:aQ}{E:aD->aQ->Prop}
theorem Inv.wish(I:Inv X pins σ H s)(E:aD->aQ->Prop):Inv (X.wish E) pins σ H s:=⟨I.ok.wish E,I.os,I.bare,I.base,I.loc,I.cell,I.free,I.pj,I.pin,I.hok,I.len⟩
theorem Inv.sM(I:Inv (X.wish E) pins σ H s):Inv X pins σ H s:=⟨I.ok.sM,I.os,I.bare,I.base,I.loc,I.cell,I.free,I.pj,I.pin,I.hok,I.len⟩
theorem SP.sM{D:Ends}{f:Flow}(h:SP (X.wish E) pins D f s'):SP X pins D f s':=by
 cases f with
 |next=>obtain⟨σ',H',I,q⟩:=h;exact⟨σ',H',I.sM,q⟩
 |brk=>obtain⟨σ',H',I,q⟩:=h;exact⟨σ',H',I.sM,q⟩
 |cont=>obtain⟨σ',H',I,q⟩:=h;exact⟨σ',H',I.sM,q⟩
 |ret u=>obtain⟨v,σ',H',I,r,q⟩:=h;exact⟨v,σ',H',I.sM,r,q⟩
theorem Ie.Ig{st:List iH}{t:TS}(h:Ie X.Ig st t):Ie X st t:=λpins s σ H D I hw=>
 eT (h pins s σ H D (I.wish _) hw) (λ_ _ q=>q.sM) λ_ _ z=>fh z
end
section
variable{X:Cx}{st:iH}{rest:List iH}{t u:TS}{e:cw}{te:TE}{pos:Pos}
def U5:TS:=λD σ H=>D.nx σ H
def ZI(t u:TS):TS:=λD σ H=>t { D with nx:=u D } σ H
theorem vR:Ie X [] U5:=λ_ _ σ H _ I h=>pN ⟨σ,H,I,h⟩
theorem lB(h1:PS X st t)(h2:Ie X rest u):Ie X (st::rest) (ZI t u):=by
 intro pins s σ H D I h;refine ux (gj (h1 pins s σ H { D with nx:=u D } I h) λf s1 q=>?_)
 cases f with
 |next=>
  obtain⟨σ',H',I',q⟩:=q;exact h2 pins s1 σ' H' D I' q
 |ret v=>exact q
 |brk=>exact q
 |cont=>exact q
theorem yM(h1:PS X st t):Ie X [st] t:=by
 intro pins s σ H D I h;refine ux (gj (h1 pins s σ H D I h) λf s1 q=>?_)
 cases f with
 |next=>exact pN q
 |ret v=>exact q
 |brk=>exact q
 |cont=>exact q
theorem Inv.quiet(I:Inv X pins σ H s):interactive X.env=false:=by simp[interactive,I.ok.kind]
def U6(te:TE):TS:=λD σ H=>te σ H λ_ H1=>D.nx σ H1
theorem pw(he:PE X e te)(hs:swapsWith e none pos.line X.env=pure false:=by rfl):PS X (.Expr e pos) (U6 te):=by
 intro pins s σ H D I h;exact wpAny_Expr_any (gj (he pins s σ H _ I h) λv s1 ⟨x,H1,I1,r1,q1⟩=>⟨σ,H1,I1,q1⟩) I.quiet hs
def ZJ(te:TE):TS:=λD σ H=>te σ H D.rt
theorem zm(he:PE X e te):PS X (.Return (some e) pos) (ZJ te):=by
 intro pins s σ H D I h;exact wpAny_Return_some (gj (he pins s σ H _ I h) λv s1 ⟨x,H1,I1,r1,q1⟩=>⟨x,σ,H1,I1,r1,q1⟩)
def ZK(c:TT)(t u:TS):TS:=λD σ H=>c σ H λb H1=>if b=true then t D σ H1 else u D σ H1
theorem ya{a b:List iH}{tc:TT}(hc:PT X c tc)(ha:Ie X a t)(hb:Ie X b u):PS X (.If c a b pos) (ZK tc t u):=by
 intro pins s σ H D I h;refine wpAny_If (gj (hc pins s σ H _ I h) λd s1 ⟨H1,I1,q1⟩=>?_)
 cases d with
 |true=>exact ha pins s1 σ H1 D I1 q1
 |false=>exact hb pins s1 σ H1 D I1 q1
def RV:TS:=λ_ _ _=>False
theorem kz{sts:List iH}:Ie X sts RV:=λ_ _ _ _ _ _ h=>h.elim
end
abbrev TG:=V->St->Hp->(St->Hp->Prop)->Prop
abbrev QG:=List V->St->Hp->(St->Hp->Prop)->Prop
def PG(X:Cx)(target:cw)(t:TG):Prop:=
 ∀(pins:List (aN×Obj))(s:aQ)(σ:St)(H:Hp)(v:V)(u:aD)(Q:St->Hp->Prop),Inv X pins σ H s->RelV v u->t v σ H Q->
  wpAny (model X.prog X.w) X.A (assign target X.env u) (λ_ s'=>∃σ' H',Inv X pins σ' H' s'/\Q σ' H') X.xe s
def Yn(X:Cx)(ts:List cw)(t:QG):Prop:=
 ∀(pins:List (aN×Obj))(s:aQ)(σ:St)(H:Hp)(vs:List V)(us:List aD)(Q:St->Hp->Prop),Inv X pins σ H s->dZ vs us->t vs σ H Q->
  wpAny (model X.prog X.w) X.A (assignInOrder ((assignEach ts X.env).map (·.2)) us) (λ_ s'=>∃σ' H',Inv X pins σ' H' s'/\Q σ' H') X.xe s
abbrev RW:=V->V->V->Hp->(Hp->Prop)->Prop
def U7(X:Cx)(t:RW):Prop:=
 ∀(pins:List (aN×Obj))(s:aQ)(σ:St)(H:Hp)(o i v:V)(ov iv u:aD)(Q:Hp->Prop),Inv X pins σ H s->RelV o ov->RelV i iv->RelV v u->t o i v H Q->
  wpAny (model X.prog X.w) X.A (setItem ov iv u) (λ_ s'=>∃H',Inv X pins σ H' s'/\Q H') X.xe s
section
variable{X:Cx}{pos:Pos}
def Bq(i:Nat):TG:=λv σ H Q=>Q (σ.set i (some v)) H
theorem bD{i:Nat}{x:Str}(hN:X.N.Nodup)(hi:X.N[i]?=some x)(hx:Loc X.env.scope x)(hf:X.fn x=true\/X.env.scope.names.lookup x=some .local:=by first|exact .inl rfl|exact .inr rfl|assumption):PG X (.Name x pos) (Bq i):=by
 intro pins s σ H v u Q I r h;exact wpAny_assign_Name (mW I hN hi hx r (λs' I'=>⟨_,H,I',h⟩) hf)
def U8:QG:=λvs σ H Q=>vs=[]/\Q σ H
def QH(t:TG)(u:QG):QG:=λvs σ H Q=>∃v r,vs=v::r/\t v σ H λσ' H'=>u r σ' H' Q
theorem eu:Yn X [] U8:=by
 intro pins s σ H vs us Q I r h;obtain⟨e,h⟩:=h;subst e;cases r;exact AW ⟨σ,H,I,h⟩
theorem bO{t:TG}{u:QG}(h1:PG X e t)(h2:Yn X es u)
  (hs:(assignEach (e::es) X.env).map (·.2)=assign e X.env::(assignEach es X.env).map (·.2):=by rfl):Yn X (e::es) (QH t u):=by
 intro pins s σ H vs us Q I r h;obtain⟨v,vr,e1,h⟩:=h;subst e1;cases r with
 |cons r rr=>
  rw[hs];refine j3 (gj (h1 pins s σ H _ _ _ I r h) λ_ s1 ⟨σ1,H1,I1,q1⟩=>?_)
  exact h2 pins s1 σ1 H1 _ _ Q I1 rr q1
def U9(K:av)(n:Nat)(t:QG):TG:=λv σ H Q=>∃a xs,v=.ref a/\qM K H a xs/\xs.length=n/\t xs σ H Q
theorem fz{t:QG}{n:Nat}(hc:X.calm=true)(h:Yn X es t)
  (hn:(assignEach es X.env).length=n:=by rfl)(K9:(assignEach es X.env).findIdx? (·.1)=none:=by rfl):PG X (.Tuple es k pos) (U9 X.K n t):=by
 intro pins s σ H v u Q I r hw;obtain⟨a,xs,e1,hq,hl,hw⟩:=hw;subst e1;cases r;obtain⟨its,rv,ht,hz⟩:=I.tuple hq;refine assign_Tuple_tuple (I.ok.hd hc) ht (by simp[hn,<-hl,rv.length]) K9 λh' hx=>?_
 have I1:Inv X pins σ H { s with heap:=h' }:=I.kept (t':=s.toks) λb o e=>hx b o (bB (aW e)) e
 exact h pins _ σ H xs _ Q I1 (by simpa using rv) hw
def ZL(to ti:TE)(t:RW):TG:=λv σ H Q=>to σ H λo H1=>ti σ H1 λi H2=>t o i v H2 λH3=>Q σ H3
theorem RX{o i:cw}{to ti:TE}{t:RW}(ho:PE X o to)(hi:PE X i ti)(hs:U7 X t)
  (ha:∀v,assign (.Subscript o i pos) X.env v=(do
   let ov <-holding [v] (eval o X.env)
   let iv <-holding [v,ov] (eval i X.env)
   standAt pos
   holding [v,ov,iv] (setItem ov iv v)
   release [v,ov,iv] []):=by intro _;rfl):PG X (.Subscript o i pos) (ZL to ti t):=by
 intro pins s σ H v u Q I r h;rw[ha];refine au (iP (gj (ho pins s σ H _ I h) λov s1 ⟨x,H1,I1,r1,q1⟩=>?_))
 refine au (iP (gj (hi pins s1 σ H1 _ I1 q1) λiv s2 ⟨y,H2,I2,r2,q2⟩=>?_))
 refine au (lV (au (iP (gj (hs pins s2 σ H2 x y v ov iv u _ I2 r1 r2 r q2) λ_ s3 ⟨H3,I3,q3⟩=>?_))))
 exact wpAny_release ⟨σ,H3,I3,q3⟩
def RZ(te:TE)(g:TG):TS:=λD σ H=>te σ H λx H1=>g x σ H1 D.nx
theorem Lh{te:TE}{g:TG}(he:PE X e te)(hg:PG X tg g)(hs:swapsWithSole [tg] e pos.line X.env=pure false:=by rfl)(hw:swappedStores [tg] e X.env=pure none:=by rfl)
  (h1:(assignEach [tg] X.env).map (·.2)=[assign tg X.env]:=by rfl):PS X (.Assign [tg] e pos) (RZ te g):=by
 intro pins s σ H D I h;refine wpAny_Assign_stores (gj (he pins s σ H _ I h) λv s1 ⟨x,H1,I1,r1,q1⟩=>?_) hs hw
 rw[h1];exact gj (hg pins s1 σ H1 x v _ I1 r1 q1) λ_ s2 q=>q
theorem zo{i:Nat}{x:Str}{te:TE}{pos':Pos}(hN:X.N.Nodup)(hi:X.N[i]?=some x)(hx:Loc X.env.scope x)(he:PE X e te)(hs:swapsWith e (some (.Name x pos')) pos.line X.env=pure false:=by rfl)(hf:X.fn x=true\/X.env.scope.names.lookup x=some .local:=by first|exact .inl rfl|exact .inr rfl|assumption):
  PS X (.Assign [.Name x pos'] e pos) (RZ te (Bq i)):=by
 intro pins s σ H D I h;refine wpAny_Assign_Name (gj (he pins s σ H _ I h) λv s1 ⟨y,H1,I1,r1,q1⟩=>?_) hs
 exact mW I1 hN hi hx r1 (λs2 I2=>⟨_,H1,I2,q1⟩) hf
def ZM(i j:Nat)(ta:TA):TS:=λD σ H=>ta σ H λvs H1=>∃v w,vs=[v,w]/\D.nx ((σ.set i (some v)).set j (some w)) H1
theorem Li{i j:Nat}{x y:Str}{a b:cw}{ta:TA}{px py pt:Pos}{kt k2 FP}(hc:X.calm=true)(hN:X.N.Nodup)(hi:X.N[i]?=some x)(hj:X.N[j]?=some y)(AI:i≠j)
  (hx:X.env.scope.names.lookup x=some .local)(hy:X.env.scope.names.lookup y=some .local)(ha:PA X [a,b] ta)
  (hw:swappedStores [.Tuple [.Name x px,.Name y py] kt pt] (.Tuple [a,b] k2 FP) X.env=pure (some [x,y]))
  (hs:swapsWithSole [.Tuple [.Name x px,.Name y py] kt pt] (.Tuple [a,b] k2 FP) pos.line X.env=pure false:=by rfl):
  PS X (.Assign [.Tuple [.Name x px,.Name y py] kt pt] (.Tuple [a,b] k2 FP) pos) (ZM i j ta):=by
 intro pins s σ H D I h;rw[exec_Assign_arm];refine au (lV ?_)
 rw[hs];refine au (aZ ?_)
 rw[if_neg (by decide)]
 refine au (Tuple_ (gj (ha _ pins s σ H _ I h) λus s1 ⟨vs,H1,I1,r1,q1⟩=>?_))
 obtain⟨v,w,e1,q1⟩:=q1;subst e1;obtain⟨u1,u2,rfl,rv,rY⟩:∃u1 u2,us=[u1,u2]/\RelV v u1/\RelV w u2:=by
  cases r1 with
  |cons p q=>
   cases q with
   |cons p' q'=>
    cases q';exact⟨_,_,rfl,p,p'⟩
 refine fj ?_ (by show 2<=sizeLine;decide)
 have I2:Inv X pins σ H1 { s1 with heap:=s1.heap.push { cls:=.type "tuple",data:=.seq [u1,u2].toArray } }:=I1.kept (t':=s1.toks) λb o e=>aE _ e
 rw[hw];refine au (aZ ?_)
 show wpAny (model X.prog X.w) X.A (do rule "assign.swapped-stores";let items <-unpackItems (.ref s1.heap.objs.size) 2 none;assignInOrder [λv=>bindName X.env y v,λv=>bindName X.env x v] items.reverse;pure DX) _ _ _
 refine au (y8 (au (unpackItems_tuple (items:=#[u1,u2]) (I.ok.hd hc) (uD s1.heap _) λh' ZN=>?_)))
 have I3:=I2.kept (h':=h') (t':=s1.toks) λb o e=>ZN b o (bB (aW e)) e
 show wpAny _ _ (assignInOrder [λv=>bindName X.env y v,λv=>bindName X.env x v] [u2,u1] >>= λ_=>pure DX) _ _ _
 refine au (j3 (qK (mW I3 hN hj (.inl hy) rY (λs2 I4=>?_) (.inr hy))))
 refine j3 (qK (mW I4 hN hi (.inl hx) rv (λs3 I5=>AW (aZ ?_)) (.inr hx)))
 rw[vH _ _ (bU AI)]at I5;exact⟨_,H1,I5,q1⟩
end
section
variable{X:Cx}{pos:Pos}
end
structure It where
 go:Nat->Hp->Prop
 U_:Nat->Hp->V->Hp->Prop
 stop:Nat->Hp->Prop
def vS(X:Cx)(pins:List (aN×Obj))(H:Hp)(b:aN):Prop:=
 H b=none/\b≠X.env.locals/\b∉X.fs/\(b∈X.ex\/X.s₀.heap.objs.size<=b)/\(∀x c,X.env.cells.lookup x=some c->c≠b)/\∀p∈X.pn++pins,p.1≠b
theorem Inv.A3{H': Hp}{b:aN}(I:Inv X pins σ H s)(hb:s.heap.objs.size<=b)(hn:H' b=none):vS X pins H' b:=by
 refine⟨hn,fy (bY I.lt hb),I.Zw hb,.inr (b9 I.sz hb),λx c e z=>?_,λp hp z=>?_⟩
 ·obtain⟨v,q⟩:=I.cell x c e
  exact absurd (bY q.lt (by rw[z];exact hb)) (jf _)
 ·exact absurd (bY (aW (I.pin p hp).1) (by rw[z];exact hb)) (jf _)
structure Turn(P:bM)(w:cy)(K:av)(tg:cw)(J:It)(fp:List aN)(it:aN)(tn:Nat->dq->Prop):Prop where
 mem:it∈fp
 obj:∀i h,tn i h->∀b∈fp,∃o,h.get? b=some o/\∀v,o.data≠.cell v
 keep:∀i h h',tn i h->(∀b∈fp,∀o,h.get? b=some o->h'.get? b=some o)->tn i h'
 item:∀(X:Cx),X.prog=P->X.w=w->X.K=K->X.calm=true->∀(i:Nat)(pins:List (aN×Obj))(s:aQ)(σ:St)(H:Hp)(E:aD->aQ->Prop),Inv X pins σ H s->(∀b∈fp,vS X pins H b)->tn i s.heap->J.go i H->
  wpAny (model P w) X.A (pyNext (.ref it)) (λr s1=>∃u,r=some u/\
   wpAny (model P w) X.A (letOwnedTupleGo tg (.ref it) u) (λ_ s2=>∃x H',Inv X pins σ H' s2/\RelV x u/\J.U_ i H x H'/\tn (i+1) s2.heap/\∀b∈fp,H' b=none) E s1) E s
 done:∀(X:Cx),X.prog=P->X.w=w->X.K=K->X.calm=true->∀(i:Nat)(pins:List (aN×Obj))(s:aQ)(σ:St)(H:Hp)(E:aD->aQ->Prop),Inv X pins σ H s->(∀b∈fp,vS X pins H b)->tn i s.heap->J.stop i H->
  wpAny (model P w) X.A (pyNext (.ref it)) (λr s1=>r=none/\Inv X pins σ H s1) E s
 self:∀(A:ej)(i:Nat)(s:aQ)(Q:aD->aQ->Prop)(E:aD->aQ->Prop),tn i s.heap->Q (.ref it) s->wpAny (model P w) A (pyIter (.ref it)) Q E s
abbrev TI:=St->Hp->(It->Hp->Prop)->Prop
def ZO(X:Cx)(pins:List (aN×Obj))(σ:St)(tg:cw)(R:It->Hp->Prop)(Yo:aD)(s2:aQ):Prop:=
 ∃(it:aN)(fp:List aN)(tn:Nat->dq->Prop)(J:It)(H':Hp),Yo=.ref it/\Inv X pins σ H' s2/\Turn X.prog X.w X.K tg J fp it tn/\tn 0 s2.heap/\(∀b∈fp,vS X pins H' b)/\R J H'
def PI(X:Cx)(tg iter:cw)(wi:TI):Prop:=
 ∀(pins:List (aN×Obj))(s:aQ)(σ:St)(H:Hp)(R:It->Hp->Prop),Inv X pins σ H s->wi σ H R->
  wpAny (model X.prog X.w) X.A (eval iter X.env) (λv s1=>wpAny (model X.prog X.w) X.A (pyIter v) (ZO X pins σ tg R) X.xe s1) X.xe s
theorem Ih{n:String}{vs:Array aD}{Q:Unit->aQ->Prop}(ho:s.heap.get? it=some o)(hc:o.cls=.type n)(hd:o.data=.fields vs)
    (hn:["enumerate","zip","dict_itemiterator","dict_reverseitemiterator","odict_iterator","itertools.zip_longest","itertools.pairwise"].contains n=false)(hQ:Q () s):wpAny M A (letOwnedTupleGo tg (.ref it) u) Q E s:=by
  unfold letOwnedTupleGo;cases tg<;>first
    | exact aZ hQ
    | (cases u<;>first
        | exact aZ hQ
        | (refine au (wpAny_load ho ?_)
           rw[hc,hd];show wpAny M A (if(["enumerate","zip","dict_itemiterator","dict_reverseitemiterator","odict_iterator","itertools.zip_longest","itertools.pairwise"].contains n&&vs[0]?==some (rawInt _))=true then _ else _) Q E s
           rw[if_neg (by intro h;rw[hn,Bool.false_and]at h;cases h)]
           exact aZ hQ))
def Itl(K:av)(a:aN):It:=
 ⟨λi H=>∃xs x,lW K H a xs/\xs[i]?=some x,λi H x H'=>H'=H/\∀xs,lW K H a xs->xs[i]?=some x,λi H=>∃xs,lW K H a xs/\xs.length<=i⟩
def Itt(K:av)(a:aN):It:=
 ⟨λi H=>∃xs x,qM K H a xs/\xs[i]?=some x,λi H x H'=>H'=H/\∀xs,qM K H a xs->xs[i]?=some x,λi H=>∃xs,qM K H a xs/\xs.length<=i⟩
def ZP(lo:Int)(n:Nat):It:=⟨λi _=>i<n,λi H x H'=>H'=H/\x=.int (lo+i),λi _=>n<=i⟩
theorem JF(a it:aN):Turn P w K tg (Itl K a) [it] it (λi h=>h.IsListIter it a i) where
 mem:=by simp
 obj:=λi h st b hb=>by
  have e:b=it:=by simpa using hb
  subst e;obtain⟨o,e,c,d⟩:=st;exact⟨o,e,λv z=>by rw[d]at z;cases z⟩
 keep:=λi h h' st k=>st.at λo e=>k it (by simp) o e
 item:=by
  intro X hP hw hK hc i pins s σ H E I hf st hg;subst hP hw hK;obtain⟨xs,x,hq,hx⟩:=hg;obtain⟨its,rv,p,hz⟩:=I.list hq;obtain⟨u,hu,ru⟩:=rv.get hx;obtain⟨f0,f1,f2,f3,f4,f5⟩:=hf it (by simp)
  refine wpAny_pyNext_list_item st p.isList (x:=u) (by simpa using hu) λh' A4 sb=>?_
  have I1:Inv X pins σ H { s with heap:=h' }:=I.turned (t':=s.toks) (λb o hb e=>(sb.2 b hb).trans e) f0 f1 f3 f4 f5
  obtain⟨o,e,c,d⟩:=id A4;exact⟨u,rfl,Ih (s:={ s with heap:=h' }) e c d (by decide) ⟨x,H,I1,ru,⟨rfl,λys hy=>by rw[I.zl hy hq];exact hx⟩,A4,λb hb=>(hf b hb).1⟩⟩
 done:=by
  intro X hP hw hK hc i pins s σ H E I hf st hg;subst hP hw hK;obtain⟨xs,hq,hx⟩:=hg;obtain⟨its,rv,p,hz⟩:=I.list hq;obtain⟨f0,f1,f2,f3,f4,f5⟩:=hf it (by simp)
  have hl:=rv.length;exact wpAny_pyNext_list_end (I.ok.hd hc) st p.isList (by simp;omega) λh' eb=>⟨rfl,I.turned (t':=s.toks) (λb o hb e=>eb b o hb e) f0 f1 f3 f4 f5⟩
 self:=λ_ _ _ _ _ st h=>wpAny_pyIter_listiter st h
theorem FQ(a it:aN):Turn P w K tg (Itt K a) [it] it (λi h=>h.IsTupleIter it a i) where
 mem:=by simp
 obj:=λi h st b hb=>by
  have e:b=it:=by simpa using hb
  subst e;obtain⟨o,e,c,d⟩:=st;exact⟨o,e,λv z=>by rw[d]at z;cases z⟩
 keep:=λi h h' st k=>st.at λo e=>k it (by simp) o e
 item:=by
  intro X hP hw hK hc i pins s σ H E I hf st hg;subst hP hw hK;obtain⟨xs,x,hq,hx⟩:=hg;obtain⟨its,rv,p,hz⟩:=I.tuple hq;obtain⟨u,hu,ru⟩:=rv.get hx;obtain⟨f0,f1,f2,f3,f4,f5⟩:=hf it (by simp)
  refine wpAny_pyNext_tuple_item st (show s.heap.IsTuple a its.toArray from p) (x:=u) (by simpa using hu) λh' A4 sb=>?_
  have I1:Inv X pins σ H { s with heap:=h' }:=I.turned (t':=s.toks) (λb o hb e=>(sb.2 b hb).trans e) f0 f1 f3 f4 f5
  obtain⟨o,e,c,d⟩:=id A4;exact⟨u,rfl,Ih (s:={ s with heap:=h' }) e c d (by decide) ⟨x,H,I1,ru,⟨rfl,λys hy=>by rw[I.Bp hy hq];exact hx⟩,A4,λb hb=>(hf b hb).1⟩⟩
 done:=by
  intro X hP hw hK hc i pins s σ H E I hf st hg;subst hP hw hK;obtain⟨xs,hq,hx⟩:=hg;obtain⟨its,rv,p,hz⟩:=I.tuple hq;obtain⟨f0,f1,f2,f3,f4,f5⟩:=hf it (by simp)
  have hl:=rv.length;exact wpAny_pyNext_tuple_end (I.ok.hd hc) st (show s.heap.IsTuple a its.toArray from p) (by simp;omega) λh' eb=>⟨rfl,I.turned (t':=s.toks) (λb o hb e=>eb b o hb e) f0 f1 f3 f4 f5⟩
 self:=λ_ _ _ _ _ st h=>wpAny_pyIter_tupleiter st h
theorem FT(it:aN)(lo:Int)(n:Nat):Turn P w K tg (ZP lo n) [it] it (λi h=>IsRangeIter h it (lo+(i:Nat)*1) ((n:Int)-(i:Nat)) 1) where
 mem:=by simp
 obj:=λi h st b hb=>by
  have e:b=it:=by simpa using hb
  subst e;exact⟨_,st,λv z=>by
   have z':Data.fields _=Data.cell v:=z;cases z'⟩
 keep:=λi h h' st k=>k it (by simp) _ st
 item:=by
  intro X hP hw hK hc i pins s σ H E I hf st hg;subst hP hw hK;obtain⟨f0,f1,f2,f3,f4,f5⟩:=hf it (by simp)
  have W:=Walks.range (prog:=X.prog) (w:=X.w) (I.ok.hd hc) it lo 1 n;refine W.item i s _ _ hg st λv h' tk hv A4 kk=>?_
  obtain⟨t,rfl⟩:=hv;have I1:Inv X pins σ H { s with heap:=h',toks:=tk }:=I.turned (λb o hb e=>kk b o (by simpa using hb) e) f0 f1 f3 f4 f5
  refine⟨_,rfl,Ih (s:={ s with heap:=h',toks:=tk }) (n:="range_iterator") A4 rfl rfl (by decide) ⟨.int (lo+i),H,I1,⟨t,?_⟩,⟨rfl,rfl⟩,A4,λb hb=>(hf b hb).1⟩⟩
  rw[Int.mul_one]
 done:=by
  intro X hP hw hK hc i pins s σ H E I hf st hg;subst hP hw hK;obtain⟨f0,f1,f2,f3,f4,f5⟩:=hf it (by simp)
  exact wpAny_pyNext_range_end (I.ok.hd hc) st (by have:n<=i:=hg;omega) λh' eb=>⟨rfl,I.turned (t':=s.toks) (λb o hb e=>eb b o hb e) f0 f1 f3 f4 f5⟩
 self:=λ_ _ _ _ _ st h=>wpAny_pyIter_rangeiter st h
section
variable{X:Cx}{tg:cw}
def U'(K:av)(tl:TE):TI:=λσ H R=>tl σ H λx H1=>∃a,x=.ref a/\(∃xs,lW K H1 a xs)/\R (Itl K a) H1
def ZQ(K:av)(tl:TE):TI:=λσ H R=>tl σ H λx H1=>∃a,x=.ref a/\(∃xs,qM K H1 a xs)/\R (Itt K a) H1
theorem Oe{l:cw}{tl:TE}(hl:PE X l tl):PI X tg l (U' X.K tl):=by
 intro pins s σ H R I h;refine gj (hl pins s σ H _ I h) λv s1 ⟨x,H1,I1,r1,q1⟩=>?_
 obtain⟨a,e,⟨xs,hq⟩,q⟩:=q1;subst e;cases r1;obtain⟨its,rv,p,hz⟩:=I1.list hq;refine sj p.isList ?_
 refine⟨s1.heap.objs.size,[s1.heap.objs.size],_,_,H1,rfl,I1.kept (t':=s1.toks) λb o e=>aE _ e,JF a _,⟨_,bQ _ rfl,rfl,rfl⟩,λb hb=>?_,q⟩
 have e:b=s1.heap.objs.size:=by simpa using hb
 subst e;exact I1.A3 (aA _) (I1.hok.fresh (aA _))
theorem R0{l:cw}{tl:TE}(hl:PE X l tl):PI X tg l (ZQ X.K tl):=by
 intro pins s σ H R I h;refine gj (hl pins s σ H _ I h) λv s1 ⟨x,H1,I1,r1,q1⟩=>?_
 obtain⟨a,e,⟨xs,hq⟩,q⟩:=q1;subst e;cases r1;obtain⟨its,rv,p,hz⟩:=I1.tuple hq;refine y9 (show s1.heap.IsTuple a its.toArray from p) ?_
 refine⟨s1.heap.objs.size,[s1.heap.objs.size],_,_,H1,rfl,I1.kept (t':=s1.toks) λb o e=>aE _ e,FQ a _,⟨_,bQ _ rfl,rfl,rfl⟩,λb hb=>?_,q⟩
 have e:b=s1.heap.objs.size:=by simpa using hb
 subst e;exact I1.A3 (aA _) (I1.hok.fresh (aA _))
theorem Lj{R:It->Hp->Prop}{lo hi:Int}{t u v:Tok}{tk:Nat}(I:Inv X pins σ H s)(h1:-(2^62)<=lo)(h2:lo<2^62)(h3:-(2^62)<=hi)(h4:hi<2^62)
  (q:R (ZP lo (hi-lo).toNat) H):wpAny (model X.prog X.w) X.A (pyIter (.ref s.heap.objs.size)) (ZO X pins σ tg R) E { s with heap:=s.heap.push { cls:=.type "range",data:=.fields #[.int lo t,.int hi u,.int 1 v] },toks:=tk }:=by
 refine wpAny_pyIter_range (IsRange.new ..) (small_one h1 h2 h3 h4) ?_
 have I1:Inv X pins σ H { s with heap:=s.heap.push { cls:=.type "range",data:=.fields #[.int lo t,.int hi u,.int 1 v] },toks:=tk }:=I.kept λb o e=>aE _ e
 refine⟨(s.heap.push { cls:=.type "range",data:=.fields #[.int lo t,.int hi u,.int 1 v] }).objs.size,[(s.heap.push { cls:=.type "range",data:=.fields #[.int lo t,.int hi u,.int 1 v] }).objs.size],_,_,H,rfl,
  I1.kept (t':=tk) λb o e=>aE _ e,FT _ lo (hi-lo).toNat,?_,λb hb=>?_,q⟩
 ·have e1:lo+((0:Nat):Int)*1=lo:=by simp
  have e2:(((hi-lo).toNat:Nat):Int)-((0:Nat):Int)=p_.Range.rangeSize lo hi 1:=by rw[rangeSize_one];split<;>omega
  show IsRangeIter _ _ (lo+((0:Nat):Int)*1) ((((hi-lo).toNat:Nat):Int)-((0:Nat):Int)) 1;rw[e1,e2];exact bQ _ rfl
 ·have e:b=(s.heap.push { cls:=.type "range",data:=.fields #[.int lo t,.int hi u,.int 1 v] }).objs.size:=by simpa using hb
  subst e;exact I1.A3 (aA _) (I1.hok.fresh (aA _))
def Va(ta:TA):TI:=λσ H R=>ta σ H λvs H1=>∃j:Int,vs=[.int j]/\-(2^62)<=j/\j<2^62/\R (ZP 0 j.toNat) H1
theorem JG{a:cw}{ta:TA}{p pos:Pos}(hg:Gl X "range")(hm:X.mg "range"=none)(ha:PA X [a] ta)(hs:starEach [a] X.env=[(false,eval a X.env)]:=by rfl):PI X tg (.Call (.Name "range" p) [a] [] pos) (Va ta):=by
 intro pins s σ H R I h;refine Call_ (xm I hg hm boot_range (jt (gj (ha pos pins s σ H _ I h) λus s1 ⟨vs,H1,I1,r1,q1⟩=>?_) hs rfl))
 obtain⟨j,e,q1,q2,q⟩:=q1;subst e;cases r1 with
 |cons r rr=>
  cases rr;obtain⟨t,rfl⟩:=r;exact call_range_1 (Lj I1 (by omega) (by omega) q1 q2 (by simpa using q))
def ZR(wi:TI)(g:TG)(tb:TS):TS:=λD σ H=>wi σ H λJ H1=>∃W:Nat->Nat->St->Hp->Prop,(∃m,W 0 m σ H1)/\∀i m σ H,W i m σ H->
 (J.stop i H/\D.nx σ H)\/(J.go i H/\∃N:St->Hp->Prop,(∀σ' H',N σ' H'->∃m',m'<m/\W (i+1) m' σ' H')/\∀x H',J.U_ i H x H'->g x σ H' λσ2 H2=>tb { D with nx:=N,ct:=N,bk:=D.nx } σ2 H2)
def zp(fp:List aN)(h:dq):List (aN×Obj):=fp.filterMap λb=>(h.get? b).map λo=>(b,o)
theorem qN{b:aN}(hb:b∈fp)(e:h.get? b=some o):(b,o)∈zp fp h:=jJ.mpr ⟨b,hb,by rw[e];rfl⟩
theorem JH{p:aN×Obj}(hp:p∈zp fp h):p.1∈fp/\h.get? p.1=some p.2:=by
 obtain⟨b,hb,e⟩:=jJ.mp hp;cases q:h.get? b with
 |none=>rw[q]at e;cases e
 |some o=>
  rw[q]at e;have e':(b,o)=p:=c9 e;subst e';exact⟨hb,q⟩
theorem Inv.pinned(I:Inv X pins σ H s)(hf:∀b∈fp,vS X pins H b)(ho:∀b∈fp,∃o,s.heap.get? b=some o/\∀v,o.data≠.cell v):Inv X (pins++zp fp s.heap) σ H s:=
 I.Ib λp hp=>(bX.mp hp).elim (λz=>I.pin p (cu _ z)) λz=>by
  obtain⟨hb,e⟩:=JH z;obtain⟨f0,f1,f2,_⟩:=hf p.1 hb;obtain⟨o,e',d⟩:=ho p.1 hb;rw[e]at e';cases e';exact⟨e,f0,f1,f2,d⟩
theorem Inv.sN{pl: List (aN×Obj)}(I:Inv X (pins++pl) σ H s):Inv X pins σ H s:=I.Ib λp hp=>I.pin p (cu _ (dg _ hp))
theorem Cy{iter:cw}{wi:TI}{g:TG}{tb:TS}{pos:Pos}(hp:B' (model X.prog X.w) X.A X.env X.xe)(hc:X.calm=true)(hi:PI X tg iter wi)(hg:PG X tg g)(hb:Ie X body tb)
  (hs:∀x,foldedSetIterable iter X.env x=pure x:=by intro _;rfl):PS X (.For tg iter body [] pos) (ZR wi g tb):=by
 intro pins s σ H D I h;refine wpAny_For (gj (hi pins s σ H _ I h) λv s1 h1=>gj h1 λYo s2 h2=>?_) hs
 obtain⟨it,fp,tn,J,H2,e,I2,T,Vb,f2,W,⟨m0,w0⟩,turn⟩:=h2;subst e;have stat:∀{H':Hp},(∀b∈fp,H' b=none)->∀b∈fp,vS X pins H' b:=λhn b hb=>⟨hn b hb,(f2 b hb).2⟩
 refine codeAny_forLoop_any (λn s'=>∃i σ' H',Inv X pins σ' H' s'/\tn i s'.heap/\(∀b∈fp,H' b=none)/\W i n σ' H') ?_ m0 ⟨0,σ,H2,I2,Vb,λb hb=>(f2 b hb).1,w0⟩
 rintro n s3 ⟨i,σ3,H3,I3,st3,Yp,w3⟩
 rcases turn i n σ3 H3 w3 with⟨stop,qn⟩|⟨go,N,hN,step⟩
 ·refine pO hp (gj (T.done X rfl rfl rfl hc i pins s3 σ3 H3 X.xe I3 (stat Yp) st3 stop) λr s4 ⟨hr,I4⟩=>?_)
  subst hr;exact pN ⟨σ3,H3,I4,qn⟩
 ·refine pO hp (gj (T.item X rfl rfl rfl hc i pins s3 σ3 H3 X.xe I3 (stat Yp) st3 go) λr s4 ⟨u,hr,h4⟩=>?_)
  subst hr;refine pO hp (gj h4 λ_ s5 ⟨x,H5,I5,r5,y5,ZS,fr5⟩=>?_)
  have I5':=I5.pinned (stat fr5) (T.obj _ _ ZS);refine pO hp (gj (hg _ s5 σ3 H5 x u _ I5' r5 (step x H5 y5)) λ_ s6 ⟨σ6,H6,I6,q6⟩=>?_)
  refine pO hp (gj (hb _ s6 σ6 H6 _ I6 q6) λf s7 q7=>?_)
  have again:∀{σ7:St}{H7:Hp},Inv X (pins++zp fp s5.heap) σ7 H7 s7->N σ7 H7->∃m,m<n/\∃i σ' H',Inv X pins σ' H' s7/\tn i s7.heap/\(∀b∈fp,H' b=none)/\W i m σ' H':=λ{σ7 H7}I7 n7=>by
   obtain⟨m',hm,w7⟩:=hN σ7 H7 n7;refine⟨m',hm,i+1,σ7,H7,I7.sN,T.keep _ _ _ ZS λb hb o e=>(I7.pin (b,o) (cu _ (cu _ (qN hb e)))).1,λb hb=>?_,w7⟩
   obtain⟨o,e,d⟩:=T.obj _ _ ZS b hb;exact(I7.pin (b,o) (cu _ (cu _ (qN hb e)))).2.1
  cases f with
  |next=>obtain⟨σ7,H7,I7,n7⟩:=q7;exact again I7 n7
  |cont=>obtain⟨σ7,H7,I7,n7⟩:=q7;exact again I7 n7
  |brk=>obtain⟨σ7,H7,I7,q7⟩:=q7;exact⟨σ7,H7,I7.sN,q7⟩
  |ret v=>obtain⟨x7,σ7,H7,I7,r7,q7⟩:=q7;exact⟨x7,σ7,H7,I7.sN,r7,q7⟩
end
abbrev R2:=V->V->Hp->VK->Prop
variable{r:R2}
def rM(X:Cx)(f:aD->aD->Sem aD)(r:R2):Prop:=
 ∀(pins:List (aN×Obj))(s:aQ)(σ:St)(H:Hp)(x y:V)(v u:aD)(Q:VK),Inv X pins σ H s->RelV x v->RelV y u->r x y H Q->
  wpAny (model X.prog X.w) X.A (f v u) (EP X pins σ Q) X.xe s
def jT(X:Cx)(f:aD)(r:List V->Hp->VK->Prop):Prop:=
 ∀(pins:List (aN×Obj))(s:aQ)(σ:St)(H:Hp)(xs:List V)(us:List aD)(Q:VK),Inv X pins σ H s->dZ xs us->r xs H Q->
  wpAny (model X.prog X.w) X.A (call f us) (EP X pins σ Q) X.xe s
def ZT(X:Cx)(r:V->Hp->(Bool->Hp->Prop)->Prop):Prop:=
 ∀(pins:List (aN×Obj))(s:aQ)(σ:St)(H:Hp)(x:V)(v:aD)(Q:Bool->Hp->Prop),Inv X pins σ H s->RelV x v->r x H Q->
  wpAny (model X.prog X.w) X.A (truthy v) (TP X pins σ Q) X.xe s
def Vc(r:R2)(ta tb:TE):TE:=λσ H Q=>ta σ H λx H1=>tb σ H1 λy H2=>r x y H2 Q
def rI(C:Int->Int->Prop)(g:Int->Int->V):R2:=λx y H Q=>∃i j,x=.int i/\y=.int j/\C i j/\Q (g i j) H
def N1(g:Int->Int->V):R2:=λx y H Q=>∃i j,x=.int i/\y=.int j/\Q (g i j) H
section
variable{X:Cx}{a b c:cw}{ta tb tc:TE}{pos:Pos}
theorem R1(ha:PE X a ta)(hb:PE X b tb)(I:Inv X pins σ H s)
  (h:ta σ H λx H1=>tb σ H1 λy H2=>R x y H2)
  (hf:∀v u s2 x y H2,Inv X pins σ H2 s2->RelV x v->RelV y u->R x y H2->wpAny (model X.prog X.w) X.A (f v u) Q X.xe s2):
  wpAny (model X.prog X.w) X.A (eval a X.env) (λv s₁=>wpAny (model X.prog X.w) X.A (eval b X.env) (λu s₂=>wpAny (model X.prog X.w) X.A (f v u) Q X.xe s₂) X.xe s₁) X.xe s:=by
 refine gj (ha pins s σ H _ I h) λv s1 ⟨x,H1,I1,r1,q1⟩=>?_
 refine gj (hb pins s1 σ H1 _ I1 q1) λu s2 ⟨y,H2,I2,r2,q2⟩=>?_
 exact hf v u s2 x y H2 I2 r1 r2 q2
theorem Ii{op:Operator}(ho:rM X (binaryOp op) r)(ha:PE X a ta)(hb:PE X b tb):PE X (.BinOp a op b pos) (Vc r ta tb):=by
 intro pins s σ H Q I h;exact wpAny_BinOp (R1 ha hb I h λv u s2 x y H2 I2 rx ry q=>ho pins s2 σ H2 x y v u Q I2 rx ry q)
theorem ZU{C:Int->Int->Prop}
  (rule:∀(i j:Int)(t u:Tok)(s:aQ)(Q:aD->aQ->Prop)(E:aD->aQ->Prop),C i j->Q (.int (g i j) s.toks) { s with toks:=s.toks+1 }->wpAny (model X.prog X.w) X.A (f (.int i t) (.int j u)) Q E s):
  rM X f (rI C λi j=>.int (g i j)):=by
 intro pins s σ H x y v u Q I rx ry h;obtain⟨i,j,rfl,rfl,hc,q⟩:=h;obtain⟨t,rfl⟩:=rx;obtain⟨t',rfl⟩:=ry;exact rule i j t t' s _ _ hc ⟨.int (g i j),H,I.tok _,⟨_,rfl⟩,q⟩
theorem Vd
  (rule:∀(i j:Int)(t u:Tok)(s:aQ)(Q:aD->aQ->Prop)(E:aD->aQ->Prop),Q (.int (g i j) s.toks) { s with toks:=s.toks+1 }->wpAny (model X.prog X.w) X.A (f (.int i t) (.int j u)) Q E s):
  rM X f (N1 λi j=>.int (g i j)):=by
 intro pins s σ H x y v u Q I rx ry h;obtain⟨i,j,rfl,rfl,q⟩:=h;obtain⟨t,rfl⟩:=rx;obtain⟨t',rfl⟩:=ry;exact rule i j t t' s _ _ ⟨.int (g i j),H,I.tok _,⟨_,rfl⟩,q⟩
theorem Og{g:Int->Int->Bool}
  (rule:∀(i j:Int)(t u:Tok)(s:aQ)(Q:aD->aQ->Prop)(E:aD->aQ->Prop),Q (.bool (g i j)) s->wpAny (model X.prog X.w) X.A (f (.int i t) (.int j u)) Q E s):
  rM X f (N1 λi j=>.bl (g i j)):=by
 intro pins s σ H x y v u Q I rx ry h;obtain⟨i,j,rfl,rfl,q⟩:=h;obtain⟨t,rfl⟩:=rx;obtain⟨t',rfl⟩:=ry;exact rule i j t t' s _ _ ⟨.bl (g i j),H,I,rfl,q⟩
def Ve(i j:Int):Prop:=0<j/\j<1073741824
def Oh(i j:Int):Prop:=(-(2^64)<i/\i<2^64)\/(-(2^64)<j/\j<2^64)
theorem Oh.ok{i j:Int}(h:Oh i j):IntMulOk i j:=by
 rcases h with⟨h1,h2⟩|⟨h1,h2⟩
 ·exact .of_left (intBits_le_64 h1 h2)
 ·exact .of_right (intBits_le_64 h1 h2)
theorem R3:rM X (binaryOp .Add) (N1 λi j=>.int (i+j)):=Vd λ_ _ _ _ _ _ _ q=>add_int q
theorem R4:rM X (binaryOp .Sub) (N1 λi j=>.int (i-j)):=Vd λ_ _ _ _ _ _ _ q=>sub_int q
theorem R5:rM X (binaryOp .Mult) (rI Oh λi j=>.int (i*j)):=ZU λ_ _ _ _ _ _ _ hc q=>mul_int q hc.ok
theorem Oi:rM X (binaryOp .FloorDiv) (rI Ve λi j=>.int (i/j)):=ZU λi j _ _ _ _ _ hc q=>by
 have h1:(0:Int)<j:=hc.1;have h2:j<1073741824:=hc.2;exact floordiv_int (by omega) (by rw[Int.fdiv_eq_ediv_of_nonneg i (by omega)];exact q) (.inl (PyProof.noPylong_small (by omega)))
theorem R6:rM X (binaryOp .Mod) (rI (λ_ j=>0<j) λi j=>.int (i%j)):=ZU λi j _ _ _ _ _ hc q=>by
 have h1:(0:Int)<j:=hc;exact mod_int' (by omega) (by rw[Int.fmod_eq_emod_of_nonneg i (by omega)];exact q)
end
section
variable{X:Cx}{a b c:cw}{ta tb tc:TE}{pos:Pos}
theorem FU{Q:VK}{k k':Bool}(I:Inv X pins σ H s)(q:Q (.bl k) H)(e:k=k'):EP X pins σ Q (.bool k') s:=by
 subst e;exact⟨.bl k,H,I,rfl,q⟩
theorem Vf:rM X (compareOp .Lt) (N1 λi j=>.bl (decide (i<j))):=Og λ_ _ _ _ _ _ _ q=>lt_int q
theorem pA:rM X (compareOp .LtE) (N1 λi j=>.bl (decide (i<=j))):=Og λ_ _ _ _ _ _ _ q=>le_int q
theorem QI:rM X (compareOp .Gt) (N1 λi j=>.bl (decide (j<i))):=Og λ_ _ _ _ _ _ _ q=>gt_int q
theorem Vg:rM X (compareOp .GtE) (N1 λi j=>.bl (decide (j<=i))):=Og λ_ _ _ _ _ _ _ q=>ge_int q
theorem JK:rM X (compareOp .In) (λx y H Q=>∃i j,x=.str i/\y=.str j/\Q (.bl (!(p_.Str.occurrences j i 0 j.length 1).isEmpty)) H):=by
 intro pins s σ H x y v u Q I rx ry h;obtain⟨i,j,rfl,rfl,q⟩:=h;obtain⟨t,rfl⟩:=rx;obtain⟨t',rfl⟩:=ry;exact in_str (FU I q rfl)
theorem iK:rM X (compareOp .Is) (λx y H Q=>y=.non/\Q (.bl (decide (x=.non))) H):=by
 intro pins s σ H x y v u Q I rx ry h;obtain⟨rfl,q⟩:=h;cases ry;refine is_none_gen (FU I q ?_)
 cases x<;>first
  |(cases rx;rfl)
  |(obtain⟨t,rfl⟩:=rx;rfl)
theorem Ij:rM X (compareOp .IsNot) (λx y H Q=>y=.non/\Q (.bl (!decide (x=.non))) H):=by
 intro pins s σ H x y v u Q I rx ry h;obtain⟨rfl,q⟩:=h;cases ry;refine isnot_none_gen (FU I q ?_)
 cases x<;>first
  |(cases rx;rfl)
  |(obtain⟨t,rfl⟩:=rx;rfl)
theorem fA(b:cw){op:AV}(h:op≠.In:=by decide)(h2:op≠.NotIn:=by decide):behindInMarks op b=false:=by
 have e1:(op==AV.In)=false:=by cases op<;>first|rfl|exact absurd rfl h
 have e2:(op==AV.NotIn)=false:=by cases op<;>first|rfl|exact absurd rfl h2
 cases b<;>simp[behindInMarks,e1,e2]
theorem Ik{op:AV}(ho:rM X (compareOp op) r)(ha:PE X a ta)(hb:PE X b tb)(hm:behindInMarks op b=false):PE X (.Compare a [op] [b] pos) (Vc r ta tb):=by
 intro pins s σ H Q I h;exact wpAny_Compare1 (R1 ha hb I h λv u s2 x y H2 I2 rx ry q=>ho pins s2 σ H2 x y v u Q I2 rx ry q) hm
def QJ(t:TE):TT:=λσ H Q=>t σ H λx H'=>∃k,x=.bl k/\Q k H'
theorem Oj{op:AV}(ho:rM X (compareOp op) r)(ha:PE X a ta)(hb:PE X b tb)(hm:behindInMarks op b=false):PT X (.Compare a [op] [b] pos) (QJ (Vc r ta tb)):=by
 intro pins s σ H Q I h;refine wpAny_isTrue_Compare1 (gj (ha pins s σ H _ I h) λv s1 ⟨x,H1,I1,r1,q1⟩=>gj (hb pins s1 σ H1 _ I1 q1) λu s2 ⟨y,H2,I2,r2,q2⟩=>
  gj (ho pins s2 σ H2 x y v u _ I2 r1 r2 q2) λc s3 ⟨z,H3,I3,r3,k,e,q3⟩=>?_) hm
 subst e;cases r3;exact eO ⟨H3,I3,q3⟩
def Lk(r r':R2)(ta tb tc:TE):TE:=λσ H Q=>ta σ H λx H1=>tb σ H1 λy H2=>r x y H2 λz H3=>∃k,z=.bl k/\
 (if k=true then tc σ H3 λw' H4=>r' y w' H4 Q else Q (.bl false) H3)
theorem D1{op op':AV}{r': R2}(ho:rM X (compareOp op) r)(Cv:rM X (compareOp op') r')(ha:PE X a ta)(hb:PE X b tb)(hc:PE X c tc)
  (hm:lastMarks [op,op'] [b,c]=false:=by with_unfolding_all rfl):PE X (.Compare a [op,op'] [b,c] pos) (Lk r r' ta tb tc):=by
 intro pins s σ H Q I h;refine Compare_chain (gj (ha pins s σ H _ I h) λv s1 ⟨x,H1,I1,r1,q1⟩=>chain_link (gj (hb pins s1 σ H1 _ I1 q1) λu s2 ⟨y,H2,I2,r2,q2⟩=>
  gj (ho pins s2 σ H2 x y v u _ I2 r1 r2 q2) λd s3 ⟨z,H3,I3,r3,k,e,q3⟩=>?_)) hm
 subst e;cases r3;refine eO ?_
 cases k with
 |false=>exact ite_ff ⟨.bl false,H3,I3,rfl,q3⟩
 |true=>exact ite_tt (chain_last (gj (hc pins s3 σ H3 _ I3 q3) λw' s4 ⟨z',H4,I4,r4,q4⟩=>Cv pins s4 σ H4 y z' u w' Q I4 r2 r4 q4))
theorem D2{op op':AV}{r': R2}(ho:rM X (compareOp op) r)(Cv:rM X (compareOp op') r')(ha:PE X a ta)(hb:PE X b tb)(hc:PE X c tc)
  (hm:lastMarks [op,op'] [b,c]=false:=by with_unfolding_all rfl):PT X (.Compare a [op,op'] [b,c] pos) (QJ (Lk r r' ta tb tc)):=by
 intro pins s σ H Q I h;refine isTrue_chain (gj (ha pins s σ H _ I h) λv s1 ⟨x,H1,I1,r1,q1⟩=>test_link (gj (hb pins s1 σ H1 _ I1 q1) λu s2 ⟨y,H2,I2,r2,q2⟩=>
  gj (ho pins s2 σ H2 x y v u _ I2 r1 r2 q2) λd s3 ⟨z,H3,I3,r3,k,e,q3⟩=>?_)) hm
 subst e;cases r3;refine eO ?_
 cases k with
 |false=>
  obtain⟨k',e',q'⟩:=q3;cases e';exact ite_ff ⟨H3,I3,q'⟩
 |true=>
  refine ite_tt (test_last (gj (hc pins s3 σ H3 _ I3 q3) λw' s4 ⟨z',H4,I4,r4,q4⟩=>gj (Cv pins s4 σ H4 y z' u w' _ I4 r2 r4 q4) λd' s5 ⟨z2,H5,I5,r5,k2,e2,q5⟩=>?_))
  subst e2;cases r5;exact eO ⟨H5,I5,q5⟩
def Vh(K:av)(x:V)(H:Hp)(k:Bool):Prop:=
 match x with
 | .non=>k=false
 | .bl b=>k=b
 | .int i=>k=(i != 0)
 | .str y=>y.length<=sizeLine/\k=((y.length:Int) != 0)
 | .Uj y=>y.size<=sizeLine/\k=((y.size:Int) != 0)
 | .ref p=>(∃xs,lW K H p xs/\k=!xs.isEmpty)\/(∃xs,qM K H p xs/\k=!xs.isEmpty)\/∃kvs,H p=some (.dK kvs)/\k=!kvs.isEmpty
 |_=>False
theorem FV{κ:Type}{kvs:List (κ×V)}{vs:List (κ×aD)}(r:KV kvs vs):(!vs.isEmpty)=!kvs.isEmpty:=by
 cases r<;>rfl
theorem zq{its:List aD}(r:dZ xs its):(!its.toArray.isEmpty)=!xs.isEmpty:=by
 cases r<;>simp
theorem qO:(sizeLine:Nat)<2^63:=by rw[du];decide
theorem R7:ZT X (λx H Q=>∃k,Vh X.K x H k/\Q k H):=by
 intro pins s σ H x v Q I rx h;obtain⟨k,e,q⟩:=h;have hl:=qO;have hs:sizeLine=16777216:=du;cases x with
 |non=>
  cases rx;have e':k=false:=e;subst e';exact truthy_none ⟨H,I,q⟩
 |bl b=>
  cases rx;have e':k=b:=e;subst e';exact eO ⟨H,I,q⟩
 |int i=>
  obtain⟨t,rfl⟩:=rx;have e':k=(i != 0):=e;subst e';exact PySem.P.truthy_int ⟨H,I,q⟩
 |str y=>
  obtain⟨t,rfl⟩:=rx;obtain⟨hy,e'⟩:y.length<=sizeLine/\k=((y.length:Int) != 0):=e;subst e';exact PySem.P.truthy_str (by omega) ⟨H,I.tok _,q⟩
 |Uj y=>
  obtain⟨t,rfl⟩:=rx;obtain⟨hy,e'⟩:y.size<=sizeLine/\k=((y.size:Int) != 0):=e;subst e';exact PySem.W.truthy_bytes (by omega) ⟨H,I.tok _,q⟩
 |ref p=>
  cases rx;have e':(∃xs,lW X.K H p xs/\k=!xs.isEmpty)\/(∃xs,qM X.K H p xs/\k=!xs.isEmpty)\/∃kvs,H p=some (.dK kvs)/\k=!kvs.isEmpty:=e;rcases e' with⟨xs,hx,e'⟩|⟨xs,hx,e'⟩|⟨kvs,hx,e'⟩
  ·subst e'
   obtain⟨its,r,pl,hz⟩:=I.list hx;have hlen:=r.length;exact wpAny_truthy_list pl.isList (by simp only[bj];omega) ⟨H,I.tok _,by rw[zq r];exact q⟩
  ·subst e'
   obtain⟨its,r,pl,hz⟩:=I.tuple hx;have hlen:=r.length;exact truthy_tuple pl (by simp only[bj];omega) ⟨H,I.tok _,by rw[zq r];exact q⟩
  ·subst e'
   obtain⟨hz,hS,vs,r,m⟩:kvs.length<=sizeLine/\(p==sysModules)=false/\∃vs,KV kvs vs/\s.heap.DictOf (fE X.prog X.w) p vs:=I.hok p _ hx;have hlen:kvs.length=vs.length:=uU r;exact wpAny_truthy_dict hS m (by omega) ⟨H,I.tok _,by rw[FV r];exact q⟩
 |_=>exact(show False from e).elim
theorem Ln(ha:PE X a ta)(he:∀whole,isTrue a X.env whole=(do let v <-whole;standAt a.pos;holding [v] (truthy v))):
  PT X a (λσ H Q=>ta σ H λx H'=>∃k,Vh X.K x H' k/\Q k H'):=by
 intro pins s σ H Q I h;exact isTrue_plain (gj (ha pins s σ H _ I h) λv s1 ⟨x,H1,I1,r1,q1⟩=>R7 pins s1 σ H1 x v Q I1 r1 q1) (he _)
theorem FW:rM X (binaryOp .Add) (λx y H Q=>∃i j,x=.str i/\y=.str j/\i.length+j.length<=sizeLine/\Q (.str (i++j)) H):=by
 intro pins s σ H x y v u Q I rx ry h;obtain⟨i,j,rfl,rfl,hz,q⟩:=h;obtain⟨t,rfl⟩:=rx;obtain⟨t',rfl⟩:=ry;exact add_str (λt' tk=>⟨.str (i++j),H,I.tok _,⟨_,rfl⟩,q⟩) hz
theorem vals1{x:V}(r:dZ [x] us):∃u,us=[u]/\RelV x u:=by
 cases r with
 |cons r1 r2=>cases r2;exact⟨_,rfl,r1⟩
theorem vals2{x y:V}(r:dZ [x,y] us):∃u w',us=[u,w']/\RelV x u/\RelV y w':=by
 cases r with
 |cons r1 r2=>
  cases r2 with
  |cons r3 r4=>cases r4;exact⟨_,_,rfl,r1,r3⟩
theorem JL(hc:X.calm=true):jT X (.builtin "min") (λxs H Q=>∃i j,xs=[.int i,.int j]/\Q (.int (if j<i then j else i)) H):=by
 intro pins s σ H xs us Q I r h;obtain⟨i,j,rfl,q⟩:=h;obtain⟨u,w',rfl,⟨t,rfl⟩,⟨t',rfl⟩⟩:=vals2 r;refine min_two_ints (I.ok.hd hc) λh' tk k=>⟨_,H,I.kept k,?_,q⟩
 by_cases hj:j<i
 ·rw[if_pos hj,if_pos hj];exact⟨_,rfl⟩
 ·rw[if_neg hj,if_neg hj];exact⟨_,rfl⟩
theorem JM:jT X (.type "int") (λxs H Q=>(∃i,xs=[.int i]/\Q (.int i) H)\/∃k,xs=[.bl k]/\Q (.int (if k then 1 else 0)) H):=by
 intro pins s σ H xs us Q I r h;rcases h with⟨i,rfl,q⟩|⟨k,rfl,q⟩
 ·obtain⟨u,rfl,t,rfl⟩:=vals1 r
  exact call_int_int ⟨.int i,H,I,⟨_,rfl⟩,q⟩
 ·obtain⟨u,rfl,r1⟩:=vals1 r
  cases r1;exact call_int_bool ⟨.int (if k then 1 else 0),H,I.tok _,⟨_,rfl⟩,q⟩
theorem Cz:jT X (.type "str") (λxs H Q=>∃i,xs=[.int i]/\i.natAbs.log2<1920/\Q (.str (toString i)) H):=by
 intro pins s σ H xs us Q I r h;obtain⟨i,rfl,hz,q⟩:=h;obtain⟨u,rfl,t,rfl⟩:=vals1 r;exact PySem.P.str_of_int hz ⟨.str _,H,I.tok _,⟨_,rfl⟩,q⟩
end
structure JN(h:dq)(x dx C:aN)(mA:Str->Option aD):Prop where
 obj:h.get? x=some (iO C dx)
 ns:h.Ns1 dx mA
 ne:dx≠x
theorem xo{dx:aN}(n:h.Ns1 dx mA):∃od,h.get? dx=some od/\∀name,sx name od=some (mA name):=by
 obtain⟨o,es,ep,ho,hd,hk,_,hm⟩:=n;refine⟨o,ho,λname=>?_⟩
 have e:=hm name;unfold nsFind findBy at e;rw[<-Array.find?_toList]at e
 unfold sx;rw[hd]
 dsimp only
 split
 ·rename_i y q
  rw[q]at e;exact congrArg some e
 ·rename_i q
  rw[q]at e;have a:es.toList.any (·.refKey)=false:=by
   rw[List.any_eq_false];intro y hy;obtain⟨z,t,ZV⟩:=hk y (Array.mem_toList_iff.mp hy);simp[Cj.refKey,ZV]
  have a':¬es.toList.any (·.refKey)=true:=by rw[a];exact bP
  rw[if_neg a'];exact congrArg some e
theorem JN.look{x dx: aN}(I:JN h x dx C mA):∃od,oo h x (iO C dx) C (some od)/\∀name,sx name od=some (mA name):=
 let⟨od,ho,hl⟩:=xo I.ns
 ⟨od,⟨I.obj,rfl,rfl,ho⟩,hl⟩
section
variable{prog:bM}{w:cy}{A:ej}{E:aD->aQ->Prop}{s:aQ}{K:av}{x dx C f:aN}{mA:Str->Option aD}{name:Str}{v:aD}
theorem get_map{expr:Bool}(X:K.In s.heap)(I:JN s.heap x dx C mA)(hg:p9 K C name=true)(hh:gY K C=true)
  (ha:ck K (.ref C) name=some none)(hv:mA name=some v)(Ol:PySem.W.handedIn v=true)(h:Q v { s with toks:=s.toks+1 }):
  wpAny (model prog w) A (getAttr (.ref x) name expr) Q E s:=by
 obtain⟨od,J,hl⟩:=I.look;exact PySem.W.get_value X J (PySem.W.plainGet_of hg).1 (Ft hh ha rfl (by rw[hl,hv])) Ol h
theorem Om{ns:List Str}{Q:Unit->aQ->Prop}(X:K.In s.heap)(I:JN s.heap x dx C mA)
  (hs:ck K (.ref C) "__setattr__"=some (some (.builtin "object.__setattr__")))(hp:vI K C=true)(ht:kR K C name=some none)(hh:gY K C=true)
  (hw:lU mA ns)(hsz:ns.length<=sizeLine)
  (h:∀h',JN h' x dx C (λy=>if y=name then some v else mA y)->kI dx s.heap h'->Q () { s with heap:=h',toks:=s.toks+2 }):
  wpAny (model prog w) A (setAttr (.ref x) name v) Q E s:=by
 obtain⟨od,J,hl⟩:=I.look;refine vJ X J hs (PySem.W.osa_open (s:={ s with toks:=s.toks+1 }) (r:=none) X J hp ht λb=>?_)
 obtain⟨cd,hc,rX⟩:=wZ hh;have hx:s.heap.get? x=some ⟨.ref C,some dx,.plain,#[]⟩:=I.obj;refine au (aZ (au (au (w8 hx (au (f6 (s:={ s with toks:=s.toks+1 }) (nO X hc) ?_))))))
 rw[rX];refine aZ (a:=some dx) (au (aZ (au ?_)))
 refine wpAny_nsSet1 (s:={ s with toks:=s.toks+1 }) I.ns λh' Lp qH=>?_
 obtain⟨oD,esD,epD,Vi,Vj,JP⟩:=Lp.count (nU name v hw);refine au (Ca Vi (by rw[Vj];exact Cb (b9 JP (by rw[bh];omega))) ?_)
 exact aZ (h _ ⟨(qH.2 _ (bU I.ne)).trans I.obj,Lp,I.ne⟩ qH)
theorem Lq{R:uV->aQ->Prop}{vs:List aD}(X:K.In s.heap)(hm:yu K C=true)
  (hi:ck K (.ref C) "__init__"=some (some (.ref f)))(hf:y_ K (.ref f)=some (.type "function"))
  (h:codeAny (model prog w) (A.under (.builtin "type.__call__" ⟨.ref C::vs,kw⟩)) (.call (.ref f) ⟨.ref (s.heap.objs.size+1)::vs,kw⟩) (PySem.W.InitBack (s.heap.objs.size+1) R)
   { s with heap:=(s.heap.push fX).push (iO C s.heap.objs.size) }) :
  codeAny (model prog w) A (.call (.ref C) ⟨vs,kw⟩) R s:=by
 obtain⟨hh,g,d,t,os⟩:=s;exact PySem.W.make_core (PySem.W.makes_of X hm) (sy X hi) (λself=>PySem.W.bind_fn X self hf) (.inl rfl) h
end
def lr(f:Str)(v:V):List (Str×V)->List (Str×V)
 | []=>[(f,v)]
 |(g,x)::r=>if g=f then(g,v)::r else(g,x)::lr f v r
theorem sO(f g:Str)(v:V):∀fs:List (Str×V),(lr f v fs).lookup g=if g=f then some v else fs.lookup g
 | []=>by
  show ly g [(f,v)]=_;by_cases h:g=f
  ·have hb:(g==f)=true:=beq_iff_eq.mpr h
   simp only[ly,hb,if_pos h]
  ·have hb:(g==f)=false:=beq_eq_false_iff_ne.mpr h
   simp only[ly,hb,if_neg h]
 |(k,x)::r=>by
  have ih:=sO f g v r;rw[show lr f v ((k,x)::r)=(if k=f then(k,v)::r else(k,x)::lr f v r)from rfl]
  by_cases hk:k=f
  ·rw[if_pos hk]
   by_cases h:g=k
   ·have hb:(g==k)=true:=beq_iff_eq.mpr h
    simp only[ly,hb,if_pos (h.trans hk)]
   ·have hb:(g==k)=false:=beq_eq_false_iff_ne.mpr h
    simp only[ly,hb,if_neg (λe:g=f=>h (e.trans hk.symm))]
  ·rw[if_neg hk]
   by_cases h:g=k
   ·have hb:(g==k)=true:=beq_iff_eq.mpr h
    simp only[ly,hb,if_neg (λe:g=f=>hk (h.symm.trans e))]
   ·have hb:(g==k)=false:=beq_eq_false_iff_ne.mpr h
    simp only[ly,hb];exact ih
theorem qd(f:Str)(v:V):∀fs:List (Str×V),f∈(lr f v fs).map (·.1)/\∀g,g∈fs.map (·.1)->g∈(lr f v fs).map (·.1)
 | []=>⟨by simp[lr],λg h=>by simp at h⟩
 |(k,x)::r=>by
  obtain⟨i1,i2⟩:=qd f v r;rw[show lr f v ((k,x)::r)=(if k=f then(k,v)::r else(k,x)::lr f v r)from rfl]
  by_cases hk:k=f
  ·rw[if_pos hk]
   subst hk;exact⟨by simp,λg h=>by simpa using h⟩
  ·rw[if_neg hk]
   refine⟨?_,λg h=>?_⟩
   ·rw[aR]
    exact aU _ i1
   ·rw[aR]at h ⊢
    rcases aJ.mp h with e|e
    ·exact aJ.mpr (.inl e)
    ·exact aU _ (i2 g e)
theorem yb(f:Str)(v:V):∀fs:List (Str×V),(lr f v fs).length<=fs.length+1
 | []=>by simp[lr]
 |(k,x)::r=>by
  have ih:=yb f v r;rw[show lr f v ((k,x)::r)=(if k=f then(k,v)::r else(k,x)::lr f v r)from rfl]
  by_cases hk:k=f
  ·rw[if_pos hk,bh,bh];omega
  ·rw[if_neg hk,bh,bh];omega
theorem oB.some_of{v:V}{o:Option aD}(r:oB (some v) o):∃u,o=some u/\RelV v u:=by
 cases o with
 |none=>exact(show False from r).elim
 |some u=>exact⟨u,rfl,r⟩
theorem Br{v:V}(r:RelV v u):PySem.W.handedIn u=true:=by
 cases v with
 |non=>cases(show u=ef from r);rfl
 |bl b=>cases(show u=aD.bool b from r);rfl
 |int i=>obtain⟨t,e⟩:=(show ∃t,u=DM i t from r);cases e;rfl
 |str x=>obtain⟨t,e⟩:=(show ∃t,u=DN x t from r);cases e;rfl
 |Uj b=>obtain⟨t,e⟩:=(show ∃t,u=aD.bytes b t from r);cases e;rfl
 |flt b=>obtain⟨t,e⟩:=(show ∃t,u=aD.float b t from r);cases e;rfl
 |ref a=>cases(show u=bA a from r);rfl
 |ty n=>cases(show u=mU n from r);rfl
section
variable{P:bM}{w:cy}{H H':Hp}{h h':dq}{a C dx:aN}{fs fs':List (Str×V)}
theorem Il(hok:su P w H h)(e:H a=some (.ins C dx fs)):∃mA,JN h a dx C mA/\(∀f,oB (fs.lookup f) (mA f))/\lU mA (fs.map (·.1))/\fs.length<=1000/\H dx=some (.own a):=by
 obtain⟨d,z,ne,ob,mA,n,r,q⟩:=(show hZ P w H h a (.ins C dx fs)from hok a _ e)
 exact⟨mA,⟨ob,n,ne⟩,r,q,z,d⟩
end
structure D3(K:av)(C:aN):Prop where
 pg:p9 K C eP=true
 hd:gY K C=true
 po:vI K C=true
 sa:ck K (.ref C) "__setattr__"=some (some (.builtin "object.__setattr__"))
theorem D3.get(c:D3 K C)(f:Str):p9 K C f=true:=c.pg
def fY(K:av)(C:aN)(f:Str):Prop:=ck K (.ref C) f=some none
theorem fY.taker{f:Str}(n:fY K C f):kR K C f=some none:=by
 unfold kR;rw[show ck K (.ref C) f=some none from n]
 rfl
section
variable{X:Cx}{pins:List (aN×Obj)}{σ:St}{H:Hp}{s:aQ}{a C dx:aN}{fs:List (Str×V)}{f:Str}{v:V}{A:ej}{E:aD->aQ->Prop}
theorem FY{b:Bool}(I:Inv X pins σ H s)(e:H a=some (.ins C dx fs))(c:D3 X.K C)(n:fY X.K C f)(l:fs.lookup f=some v)
  (h:∀u s',Inv X pins σ H s'->RelV v u->Q u s'):wpAny (model X.prog X.w) A (getAttr (.ref a) f b) Q E s:=by
 obtain⟨mA,O,r,_,_,_⟩:=Il I.hok e;obtain⟨u,hu,ru⟩:=oB.some_of (v:=v) (o:=mA f) (by rw[<-l];exact r f)
 exact get_map I.sv O (c.get f) c.hd n hu (Br ru) (h u _ (I.tok _) ru)
theorem FZ{y:V}{Q:Unit->aQ->Prop}(I:Inv X pins σ H s)(e:H a=some (.ins C dx fs))(c:D3 X.K C)(n:fY X.K C f)(hl:fs.length<1000)(ry:RelV y u)
  (h:∀s',Inv X pins σ (upd H a (.ins C dx (lr f y fs))) s'->Q () s'):wpAny (model X.prog X.w) A (setAttr (.ref a) f u) Q E s:=by
 obtain⟨mA,O,r,wi,_,ho⟩:=Il I.hok e;have hz:(fs.map (·.1)).length<=sizeLine:=by rw[aj,du];omega
 refine Om I.sv O c.sa c.po n.taker c.hd wi hz λh' O' sb=>h _ ?_
 have hd:∃o,h'.get? dx=some o:=let⟨o,_,_,e',_⟩:=O'.ns;⟨o,e'⟩;refine I.write (x:=a) (e:=dx) (by rw[e];exact eX) (.inr ho) (λb q hb z=>(sb.2 b hb).trans z) hd ?_
 refine⟨by rw[aT O.ne];exact ho,?_,O.ne,O'.obj,_,O'.ns,λg=>?_,λg hg=>?_⟩
 ·have:=yb f y fs;omega
 ·show oB ((lr f y fs).lookup g) (if g=f then some u else mA g)
  rw[sO];by_cases q:g=f
  ·rw[if_pos q,if_pos q];exact ry
  ·rw[if_neg q,if_neg q];exact r g
 ·by_cases q:g=f
  ·rw[q];exact(qd f y fs).1
  ·refine(qd f y fs).2 g (wi g λz=>hg ?_)
   show(if g=f then some u else mA g)=none
   rw[if_neg q];exact z
theorem Inv.made(I:Inv X pins σ H s):Inv X pins σ (upd (upd H s.heap.objs.size (.own (s.heap.objs.size+1))) (s.heap.objs.size+1) (.ins C s.heap.objs.size []))
  { s with heap:=(s.heap.push fX).push (iO C s.heap.objs.size) }:=by
 have e1:(s.heap.push fX).get? s.heap.objs.size=some fX:=bQ s.heap rfl;have e2:((s.heap.push fX).push (iO C s.heap.objs.size)).get? (s.heap.objs.size+1)=some (iO C s.heap.objs.size):=by
  have:=bQ (s.heap.push fX) (o:=iO C s.heap.objs.size) rfl
  rwa [gf]at this
 have e3:(s.heap.push fX).Ns s.heap.objs.size (λ_=>none):=⟨fX,#[],_,e1,rfl,(λe he=>absurd he (by simp)),λ_=>rfl⟩
 have I1:=I.laid (a:=s.heap.objs.size) (o:=.own (s.heap.objs.size+1)) (h':=s.heap.push fX) (t':=s.toks) (λb u q=>aE _ q) (aA _) ⟨_,e1⟩
 refine I1.laid (a:=s.heap.objs.size+1) (o:=.ins C s.heap.objs.size []) (t':=s.toks) (λb u q=>aE _ q) (Nat.le_of_eq (gf _ _)) ?_
 have ne:s.heap.objs.size≠s.heap.objs.size+1:=bB (kK _);refine⟨by rw[aT ne,b0],bK _,ne,e2,λ_=>none,(FE e3).at λo q=>aE _ q,λ_=>eX,λy hy=>absurd rfl hy⟩
theorem Im{prog:bM}{env:Env}{f:Str}{pos:Pos}(hb:attributeBase e f env (eval e env)=eval e env)
  (h:wpAny (model prog w) A (eval e env) (λo s₁=>wpAny (model prog w) A (getAttr o f true) Q E s₁) E s):wpAny (model prog w) A (eval (.Attribute e f pos) env) Q E s:=
 Attribute_any_ h (by rw[arm_eval_Attribute,hb])
end
def ZW(K:av)(ta:TE)(f:Str):TE:=λσ H Q=>ta σ H λx H1=>∃a C dx fs v,x=.ref a/\H1 a=some (.ins C dx fs)/\D3 K C/\fY K C f/\fs.lookup f=some v/\Q v H1
def ZX(K:av)(ta tv:TE)(f:Str):TS:=λD σ H=>tv σ H λy H1=>ta σ H1 λx H2=>∃a C dx fs,x=.ref a/\H2 a=some (.ins C dx fs)/\D3 K C/\fY K C f/\fs.length<1000/\
 D.nx σ (upd H2 a (.ins C dx (lr f y fs)))
section
variable{X:Cx}{o e value:cw}{f:Str}{pos pos' ZY:Pos}{ta tv:TE}
theorem zr(he:PE X e ta)(hb:attributeBase e f X.env (eval e X.env)=eval e X.env):PE X (.Attribute e f pos) (ZW X.K ta f):=by
 intro pins s σ H Q I h;refine Im hb (gj (he pins s σ H _ I h) λu s1 ⟨x,H1,I1,rx,a,C,dx,fs,v,ex,ea,c,n,l,q⟩=>?_)
 subst ex;obtain rfl:u=bA a:=rx;exact FY I1 ea c n l λu' s2 I2 ru=>⟨v,H1,I2,ru,q⟩
theorem u5(ha:PE X o ta)(hv:PE X value tv)(hs:swapsWith value (some (.Attribute o f pos')) pos.line X.env=pure false):PS X (.Assign [.Attribute o f pos'] value pos) (ZX X.K ta tv f):=by
 intro pins s σ H D I h;refine nV (gj (hv pins s σ H _ I h) λu s1 ⟨y,H1,I1,ry,q⟩=>gj (ha pins s1 σ H1 _ I1 q) λov s2 ⟨x,H2,I2,rx,a,C,dx,fs,ex,ea,c,n,l,q2⟩=>?_) hs
 subst ex;obtain rfl:ov=bA a:=rx;exact FZ I2 ea c n l ry λs3 I3=>⟨σ,_,I3,q2⟩
end
section
variable{X:Cx}{pins:List (aN×Obj)}{σ:St}{H:Hp}{s:aQ}{A:ej}{E:aD->aQ->Prop}{Q:aD->aQ->Prop}{c:aD}{b:Bool}
inductive zt(K:av)(H:Hp):V->aD->Prop where
 |non:zt K H .non (.type "NoneType")
 |bl (x:Bool):zt K H (.bl x) (.type "bool")
 |int (i:Int):zt K H (.int i) (.type "int")
 |str (x:Str):zt K H (.str x) (.type "str")
 |flt (x:UInt64):zt K H (.flt x) (.type "float")
 |lst {a:aN} {xs:List V} (e:H a=some (.lst xs)):zt K H (.ref a) (.type "list")
 |K7 {a:aN} {o:Obj} {xs:List V} (e:H a=some (.K7 o (.lst xs))):zt K H (.ref a) (.type "list")
 |tup {a:aN} {xs:List V} (e:H a=some (.tup xs)):zt K H (.ref a) (.type "tuple")
 |dK {a:aN} {kvs:List (Key×V)} (e:H a=some (.dK kvs)):zt K H (.ref a) (.type "dict")
 |dT {a:aN} {kvs:List (List Key×V)} (e:H a=some (.dT kvs)):zt K H (.ref a) (.type "dict")
 |ins {a C dx:aN} {fs:List (Str×V)} (e:H a=some (.ins C dx fs)) (cl:D3 K C) (ha:ck K (.ref C) "__class__"=some (some (.builtin "object.__class__")))
   (hn:lz K (.builtin "object.__class__") "__get__"=some (some (.builtin "getset_descriptor.__get__"))) (ZZ:PySem.W.takesIn K (.builtin "object.__class__")=some true)
   (hm:uE K C (.type "object")=some true):zt K H (.ref a) (.ref C)
end
structure fZ(k:Nat)(A:ej):Prop where
 hd:A.handled=none
 dp:A.depth+3*k+5<recursionLimit
 un:A.units+16*k+200<cLine
theorem fZ.mono{j: Nat}(r:fZ k A)(h:j<=k):fZ j A:=⟨r.hd,by have:=r.dp;omega,by have:=r.un;omega⟩
theorem fZ.deeper(r:fZ (k+1) A)(env:Env):fZ k (A.deeper env):=
 ⟨r.hd,by have:=r.dp;show A.depth+1+3*k+5<_;omega,by have:=r.un;show A.units+3+16*k+200<_;omega⟩
theorem F0:(A.under (.builtin "type.__call__" ⟨.ref C::us,kw⟩)).depth=A.depth+1:=by
 first|rfl|simp[DP,Code.weight,Code.isCreation,Code.isGuard,Code.isCaller,Code.frames,Fu,guardIds]
theorem F1:(A.under (.builtin "type.__call__" ⟨.ref C::us,kw⟩)).units=A.units+1:=by
 first|rfl|simp[DP,Code.cUnits,Code.frames,Fu]
theorem fZ.make(r:fZ (k+1) A)(C:aN)(us:List aD)(kw:List (Str×aD)):fZ k (A.under (.builtin "type.__call__" ⟨.ref C::us,kw⟩)):=
 ⟨r.hd,by have:=r.dp;rw[F0];omega,by have:=r.un;rw[F1];omega⟩
theorem fZ.depth(r:fZ k A):A.depth<recursionLimit:=by have:=r.dp;omega
def Vk:TA:=λ_ H Q=>Q [] H
def Vl(ta:TE)(tr:TA):TA:=λσ H Q=>ta σ H λx H1=>tr σ H1 λxs H2=>Q (x::xs) H2
section
variable{X:Cx}{e:cw}{es:List cw}{te:TE}{t:TA}{pos:Pos}
theorem fB:PA X [] Vk:=λ_ _ _ _ H Q I h=>w_ ⟨[],H,I,.nil,h⟩
theorem cV(ha:PE X e te)(hr:PA X es t)(hs:starEach (e::es) X.env=(false,eval e X.env)::starEach es X.env:=by rfl):PA X (e::es) (Vl te t):=by
 intro pos pins s σ H Q I h;rw[hs];show wpAny _ _ (spliced ((false,eval e X.env)::backTo pos (starEach es X.env))) _ _ s;refine lg (gj (ha pins s σ H _ I h) λu s1 ⟨x,H1,I1,r1,q1⟩=>?_)
 exact gj (hr pos pins s1 σ H1 _ I1 q1) λus s2 ⟨xs,H2,I2,r2,q2⟩=>⟨x::xs,H2,I2,.cons r1 r2,q2⟩
def Z0(t:TA):TE:=λσ H Q=>t σ H λxs H1=>xs.length<=sizeLine/\∀p,H1 p=none->Q (.ref p) (upd H1 p (.tup xs))
def Z1(t:TA):TE:=λσ H Q=>t σ H λxs H1=>xs.length<=sizeLine/\∀p,H1 p=none->Q (.ref p) (upd H1 p (.lst xs))
theorem zu{x1}(h:PA X es t):PE X (.Tuple es x1 pos) (Z0 t):=by
 intro pins s σ H Q I hq;refine wpAny_Tuple_spliced (gj (h pos pins s σ H _ I hq) λus s1 ⟨xs,H1,I1,r,z,q⟩=>⟨by rw[<-r.length];exact z,?_⟩)
 have hf:H1 s1.heap.objs.size=none:=I1.hok.fresh (aA _);refine⟨.ref s1.heap.objs.size,upd H1 s1.heap.objs.size (.tup xs),I1.laid (t':=s1.toks) (λb u e=>aE _ e) (aA _) ?_,rfl,q _ hf⟩
 exact⟨z,us,r,⟨_,bQ _ rfl,rfl,_,rfl⟩⟩
theorem CB(h:PA X es t):PE X (.List es pos) (Z1 t):=by
 intro pins s σ H Q I hq;refine wpAny_List_spliced (gj (h pos pins s σ H _ I hq) λus s1 ⟨xs,H1,I1,r,z,q⟩=>⟨by rw[<-r.length];exact z,?_⟩)
 have hf:H1 s1.heap.objs.size=none:=I1.hok.fresh (aA _);refine⟨.ref s1.heap.objs.size,upd H1 s1.heap.objs.size (.lst xs),I1.laid (t':=s1.toks) (λb u e=>aE _ e) (aA _) ?_,rfl,q _ hf⟩
 exact⟨z,us,0,r,bQ _ rfl⟩
end
abbrev Sp:=List V->Hp->VK->XK->Prop
abbrev JQ:=List Env->Hp->aQ->XK->aD->aQ->Prop
variable{CX:JQ}
structure F2(P:bM)(w:cy)(K:av)(mg:Str->Option aD)(base:dq)(A:ej)(outer:List Env)(s:aQ)(H:Hp):Prop where
 frames:A.frames=some outer
 mod:Mod K mg base
 bs:∀b o,base.get? b=some o->s.heap.get? b=some o/\H b=none
 N0:base.objs.size<=s.heap.objs.size
 rW:s.heap.FunFrames base outer
 Lc:∀b∈DV outer,H b=none
 hok:su P w H s.heap
 bare:sf s.gens
def CE(outer:List Env)(P:bM)(w:cy)(H:Hp)(s:aQ)(Q:VK)(u:aD)(s':aQ):Prop:=
 ∃v H',s'.os=s.os/\sf s'.gens/\Un (DV outer) [] H H' s.heap s'.heap/\su P w H' s'.heap/\RelV v u/\Q v H'
def CR(CX:JQ)(outer:List Env)(P:bM)(w:cy)(H:Hp)(s:aQ)(Q:VK)(E:XK)(r:uV)(s':aQ):Prop:=
 match r with
 | .ok (.ret u)=>CE outer P w H s Q u s'
 | .ok _=>False
 | .error e=>CX outer H s E e s'
structure eQ(P:bM)(w:cy)(K:av)(mg:Str->Option aD)(base:dq)(CX:JQ)(k:Nat)(f:aN)(fd:fN)(ps:List Str)(sp:Sp):Prop where
 len:∀vs H Q E,sp vs H Q E->vs.length=ps.length
 run:∀(A:ej)(outer:List Env)(s:aQ)(H:Hp)(args:Args)(us:List aD)(vs:List V)(Q:VK)(E:XK),fZ k A->F2 P w K mg base A outer s H->BindsTo s fd args (ps.zip us)->dZ vs us->sp vs H Q E->
  codeAny (model P w) A (.call (.ref f) args) (CR CX outer P w H s Q E) s
theorem F2.make(e:F2 P w K mg base A outer s H)(C:aN)(us:List aD)(kw:List (Str×aD)):
  F2 P w K mg base (A.under (.builtin "type.__call__" ⟨.ref C::us,kw⟩)) outer s H:=⟨by first|exact e.frames|(simpa[DP,Code.envs,Fu,pushEnvs]using e.frames),e.mod,e.bs,e.N0,e.rW,e.Lc,e.hok,e.bare⟩
section
variable{X:Cx}{pins:List (aN×Obj)}{σ:St}{H:Hp}{s s':aQ}
theorem Inv.env0(I:Inv X pins σ H s):F2 X.prog X.w X.K X.mg X.base X.A X.stack s H:=
 ⟨I.ok.frames,I.ok.mod,I.bs,b9 I.ok.N0 I.sz,I.stack,I.Ia,I.hok,I.bare⟩
theorem Inv.after{Q:VK}(I:Inv X pins σ H s)(h:CE X.stack X.prog X.w H s Q u s'):EP X pins σ Q u s':=by
 obtain⟨v,H',os,bare,un,hok,r,q⟩:=h;obtain⟨hh,g,d,t,Lr⟩:=s';obtain rfl:Lr=s.os:=os;exact⟨v,H',I.call (h':=hh) (g':=g) (d':=d) (t':=t) (ch:=[]) un hok bare (λb z=>absurd z (by simp)),r,q⟩
end
def Vm(sp:Sp)(F3:List V)(E:XK)(t:TA):TE:=λσ H Q=>t σ H λvs H1=>sp (vs++F3) H1 Q E
def Vn(C:aN)(sp:Sp)(F3:List V)(E:XK)(t:TA):TE:=λσ H Q=>t σ H λvs H1=>∀x dx,H1 x=none->H1 dx=none->dx≠x->
 sp (.ref x::(vs++F3)) (upd (upd H1 dx (.own x)) x (.ins C dx [])) (λv H2=>v=.non/\Q (.ref x) H2) E
def Binds(K:av)(fd:fN)(ps:List Str)(ds:List aD):Prop:=
 ∀(s:aQ)(us:List aD),K.In s.heap->(us++ds).length=ps.length->BindsTo s fd ⟨us,[]⟩ (ps.zip (us++ds))
theorem Binds.all{fd:fN}(h:∀us:List aD,us.length=ps.length->bindArgs fd ⟨us,[]⟩=pure (ps.zip us)):Binds K fd ps []:=λs us _ hl=>by
 rw[dA]at hl ⊢;exact .of_eq (h us hl)
def u6(CX:JQ)(X:Cx)(E:XK):Prop:=∀(pins:List (aN×Obj))(σ:St)(H:Hp)(s:aQ)(e:aD)(s':aQ),Inv X pins σ H s->CX X.stack H s E e s'->X.xe e s'
section
variable{X:Cx}{CX:JQ}{k:Nat}{f C:aN}{fd:fN}{ps:List Str}{sp:Sp}{F3:List V}{ds:List aD}{E:XK}{x m:Str}{p pos apos:Pos}{e o:cw}{es:List cw}{ta:TE}{t:TA}
theorem R8{Q:VK}(F:eQ X.prog X.w X.K X.mg X.base CX k f fd ps sp)(hr:fZ k X.A)(hb:Binds X.K fd ps ds)(hd:dZ F3 ds)(hx:u6 CX X E)
  (I:Inv X pins σ H s)(r:dZ vs us)(h:sp (vs++F3) H Q E):wpAny (model X.prog X.w) X.A (call (.ref f) us) (EP X pins σ Q) X.xe s:=by
 have r2:dZ (vs++F3) (us++ds):=r.append hd;have hl:(us++ds).length=ps.length:=by rw[<-r2.length];exact F.len _ _ _ _ h
 refine mq (lj (F.run X.A X.stack s H ⟨us,[]⟩ (us++ds) (vs++F3) Q E hr I.env0 (hb s us I.sv hl) r2 h) λr s' hq=>?_)
 cases r with
 |error e=>exact hx pins σ H s e s' I hq
 |ok fl=>
  cases fl with
  |ret u=>exact I.after hq
  |next=>exact fh hq
  |brk=>exact fh hq
  |cont=>exact fh hq
theorem vT(F:eQ X.prog X.w X.K X.mg X.base CX k f fd ps sp)(hr:fZ k X.A)(hg:Gl X x)(hm:X.mg x=some (.ref f))(hk:eA X.K (.ref f)=true)(hb:Binds X.K fd ps ds)(hd:dZ F3 ds)(hx:u6 CX X E)
  (ha:PA X (e::es) t)(qP:(x==("__debug__":Str))=false:=by decide)(he:starEach (e::es) X.env=(false,eval e X.env)::starEach es X.env:=by rfl)(pY:(backTo pos (starEach es X.env)).any (·.1)=false:=by rfl):
  PE X (.Call (.Name x p) (e::es) [] pos) (Vm sp F3 E t):=by
 intro pins s σ H Q I h;refine j5 (qL I hg hm ?_ qP)
 refine uW (h₀:=X.base) I.ok.mod.RH hk (gj (ha pos pins s σ H _ I h) λus s1 ⟨vs,H1,I1,r,q⟩=>⟨I1.sv,?_⟩) he pY
 exact R8 F hr hb hd hx I1 r q
structure Mk(K:av)(C f:aN):Prop where
 makes:yu K C=true
 init:ck K (.ref C) "__init__"=some (some (.ref f))
 fn:vK K (.ref f)=true
 kp:eA K (.ref C)=true
theorem Ls{Q:VK}(M:Mk X.K C f)(F:eQ X.prog X.w X.K X.mg X.base CX k f fd ps sp)(hr:fZ (k+1) X.A)(hb:Binds X.K fd ps ds)(hd:dZ F3 ds)
  (hx:u6 CX X E)(I:Inv X pins σ H s)(r:dZ vs us)
  (h:∀x dx,H x=none->H dx=none->dx≠x->sp (.ref x::(vs++F3)) (upd (upd H dx (.own x)) x (.ins C dx [])) (λv H2=>v=.non/\Q (.ref x) H2) E):
  wpAny (model X.prog X.w) X.A (call (.ref C) us) (EP X pins σ Q) X.xe s:=by
 have hq:=h (s.heap.objs.size+1) s.heap.objs.size (I.hok.fresh (jK _)) (I.hok.fresh (aA _)) (bB (kK _));have I2:=Inv.made (C:=C) I;have r2:dZ (V.ref (s.heap.objs.size+1)::(vs++F3)) (bA (s.heap.objs.size+1)::(us++ds)):=.cons rfl (r.append hd);have hl:(bA (s.heap.objs.size+1)::us++ds).length=ps.length:=by
  have e:=r2.length;rw[F.len _ _ _ _ hq]at e;exact e.symm
 refine mq (Lq (f:=f) I.sv M.makes M.init (beq_iff_eq.mp M.fn) (lj (F.run _ X.stack _ _ ⟨bA (s.heap.objs.size+1)::us,[]⟩ (bA (s.heap.objs.size+1)::(us++ds)) _ _ E (hr.make C us [])
  (I2.env0.make C us []) (hb _ (bA (s.heap.objs.size+1)::us) I2.sv hl) r2 hq) λr s' D4=>?_))
 cases r with
 |error e=>exact hx pins σ _ _ e s' I2 D4
 |ok fl=>
  cases fl with
  |ret u=>
   obtain⟨v,H',I3,rv,ev,q3⟩:=I2.after D4;subst ev;exact⟨rv,⟨V.ref (s.heap.objs.size+1),H',I3,rfl,q3⟩⟩
  |next=>exact fh D4
  |brk=>exact fh D4
  |cont=>exact fh D4
theorem Lv(M:Mk X.K C f)(F:eQ X.prog X.w X.K X.mg X.base CX k f fd ps sp)(hr:fZ (k+1) X.A)(hg:Gl X x)(hm:X.mg x=some (.ref C))(hb:Binds X.K fd ps ds)(hd:dZ F3 ds)(hx:u6 CX X E)
  (qP:(x==("__debug__":Str))=false:=by decide):PE X (.Call (.Name x p) [] [] pos) (Vn C sp F3 E Vk):=by
 intro pins s σ H Q I h;refine j5 (qL I hg hm ?_ qP)
 exact PySem.W.callWith_K0 I.sv M.kp (Ls (us:=[]) M F hr hb hd hx I .nil h)
end
section
variable{X:Cx}{CX:JQ}{k:Nat}{f C:aN}{fd:fN}{ps ks:List Str}{sp:Sp}{E:XK}{x m:Str}{p pos apos zfi:Pos}{e o:cw}{es:List cw}{kws:List iI}{te ta:TE}{t tk:TA}{nm:Option Str}
variable{g:List aD->List aD->List aD}{gV:List V->List V->List V}
end
structure cG(N P:List Str)(sc:lS):Prop where
 kind:sc.kind=.function
 co:sc.isCoroutine=false
 gen:sc.isGenerator=false
 nd:N.Nodup
 pre:N.take P.length=P
 par:∀x∈P,sc.names.lookup x=some .local\/sc.names.lookup x=some .cell
 R9:∀y∈sc.names,y.2≠.free
theorem Bs{x:Str}:∀{binds:List (Str×aD)}{m:Str->Option aD},(∀v,(x,v)∉binds)->bindL kindOf binds m x=m x
 | [],_,_=>rfl
 |(n,v)::r,m,h=>by
  unfold bindL;rw[Bs λw hw=>h w (aU _ hw)]
  split
  ·have:x≠n:=by rintro rfl;exact h v aO
   simp[this]
  ·rfl
theorem Bt{x:Str}:∀{binds:List (Str×aD)}{m:Str->Option aD},(∀v,(x,v)∉binds)->bindC kindOf binds m x=m x
 | [],_,_=>rfl
 |(n,v)::r,m,h=>by
  unfold bindC;rw[Bt λw hw=>h w (aU _ hw)]
  split
  ·rfl
  ·have:x≠n:=by rintro rfl;exact h v aO
   simp[this]
theorem Bu{kindOf:Str->Option oY}{x:Str}{v:aD}:∀{P:List Str}{vs:List aD}{i:Nat}{m:Str->Option aD},P.Nodup->P[i]?=some x->vs[i]?=some v->kindOf x=some .local->
  bindL kindOf (P.zip vs) m x=some v
 | [],_,_,_,_,h,_,_=>by simp at h
 |_::_,[],_,_,_,_,h,_=>by simp at h
 |p::P,w::vs,0,m,nd,h1,h2,hk=>by
  simp at h1 h2;subst h1;subst h2;show bindL kindOf ((p,w)::P.zip vs) m p=_;unfold bindL;rw[Bs λv hv=>(ia.mp nd).1 (sA hv).1,if_pos hk]
  simp
 |p::P,w::vs,i+1,m,nd,h1,h2,hk=>by
  show bindL kindOf ((p,w)::P.zip vs) m x=_;unfold bindL;exact Bu (i:=i) (ia.mp nd).2 (by simpa using h1) (by simpa using h2) hk
theorem Bv{kindOf:Str->Option oY}{x:Str}{v:aD}:∀{P:List Str}{vs:List aD}{i:Nat}{m:Str->Option aD},P.Nodup->P[i]?=some x->vs[i]?=some v->kindOf x≠some .local->
  bindC kindOf (P.zip vs) m x=some v
 | [],_,_,_,_,h,_,_=>by simp at h
 |_::_,[],_,_,_,_,h,_=>by simp at h
 |p::P,w::vs,0,m,nd,h1,h2,hk=>by
  simp at h1 h2;subst h1;subst h2;show bindC kindOf ((p,w)::P.zip vs) m p=_;unfold bindC;rw[Bt λv hv=>(ia.mp nd).1 (sA hv).1,if_neg hk]
  simp
 |p::P,w::vs,i+1,m,nd,h1,h2,hk=>by
  show bindC kindOf ((p,w)::P.zip vs) m x=_;unfold bindC;exact Bv (i:=i) (ia.mp nd).2 (by simpa using h1) (by simpa using h2) hk
def start(N:List Str)(vs:List V):St:=vs.map some++bu (N.length-vs.length) none
def sP(CX:JQ)(P:bM)(w:cy)(K:av)(mg:Str->Option aD)(base:dq)(N:List Str)(qual:Str)(scope:lS)(f:aN)(cd:aD)(A:ej)(outer:List Env)(s:aQ)(H:Hp)(E:XK):Cx where
 prog:=P
 w:=w
 K:=K
 mg:=mg
 base:=base
 A:=A.deeper (envOfC qual scope s.heap.objs.size f cd)
 N:=N
 s₀:=s
 H₀:=H
 env:=envOfC qual scope s.heap.objs.size f cd
 outer:=outer
 stack:=envOfC qual scope s.heap.objs.size f cd::outer
 ex:=[]
 calm:=true
 fn:=λ_=>true
 pn:=[]
 xe:=λe s'=>wpAny (model P w) (A.deeper (envOfC qual scope s.heap.objs.size f cd)) (leaving (envOfC qual scope s.heap.objs.size f cd) e) (λ_ R_=>CX outer H s E e R_) (λe' R_=>CX outer H s E e' R_) s'
theorem D5{sc:lS}{n:Nat}{x:Str}(h:sc.names.lookup x=some .cell):∃c,(cellsFrom n sc.names []).lookup x=some c:=by
 have q:=Cd sc.names n [] (.inl h);exact Option.isSome_iff_exists.mp q
theorem JR{qual:Str}{f:aN}{cd:aD}{s1: aQ}{E:XK}
  (S:cG N ps scope)(hd:A.handled=none)(e0:F2 P w K mg base A outer s H)(hl:vs.length=ps.length)(r:dZ vs us)
  (x:InCallC s s.heap.objs.size (bindL (envOfC qual scope s.heap.objs.size f cd).kindOf (ps.zip us) λ_=>none) (cellsFrom (s.heap.objs.size+1) scope.names []) (bindC (envOfC qual scope s.heap.objs.size f cd).kindOf (ps.zip us) λ_=>none) s1):
  Inv (sP CX P w K mg base N qual scope f cd A outer s H E) [] (start N vs) H s1:=by
 have pY:ps.length<=N.length:=by have:=congrArg i5 S.pre;rw[bW]at this;omega
 obtain⟨h1,tk,rfl,hk⟩:=x.done;have Vo:∀b:aN,b∉(sP CX P w K mg base N qual scope f cd A outer s H E).ex:=λb z=>absurd (show b∈([]:List aN)from z) (by simp)
 refine⟨⟨e0.mod,S.kind,rfl,rfl,aA _,λy z c h1 h2=>?_,λy hy=>?_,λy c _ h=>?_,λ_=>hd,ej.frames_deeper e0.frames,.inr ⟨rfl,rfl⟩,λb z=>absurd z (Vo b),e0.bs,e0.N0,λb _ _=>Vo b,λb z=>absurd z (Vo b),e0.rW,e0.Lc⟩,
  rfl,e0.bare,Un.kept hk,⟨_,x.toInCall.ns,λi y v h1 h2 h3=>?_⟩,λy c h=>⟨_,x.cell y c h⟩,e0.hok.fresh (aA _),λy c h=>?_,λp hp=>absurd (show p∈([]:List (aN×Obj))from hp) (by simp),e0.hok.kept hk,?_⟩
 ·exact name_of_addr x.apart (jl h1) (jl h2)
 ·have hy:scope.names.lookup y=some .cell\/scope.names.lookup y=some .free:=hy
  rcases hy with hy|hy
  ·exact D5 hy
  ·exact absurd rfl (S.R9 _ (jl hy))
 ·exact oZ (x.above y c (jl h))
 ·have hi:i<vs.length:=by
   unfold start at h2;by_cases hi:i<vs.length
   ·exact hi
   ·rw[cD (by simpa using hi)]at h2
    rw[eG]at h2
    split at h2<;>cases h2
  have ha:vs[i]?=some v:=by
   unfold start at h2;rw[cL (by simpa using hi),aP]at h2
   cases e:vs[i]? with
   |none=>rw[e]at h2;cases h2
   |some a=>rw[e]at h2;cases h2;rfl
  obtain⟨u,hu,rv⟩:=r.get ha;have hp:ps[i]?=some y:=by
   rw[<-S.pre,List.getElem?_take_of_lt (by omega)];exact h1
  have ndP:ps.Nodup:=by rw[<-S.pre];exact S.nd.sublist (List.take_sublist _ _)
  refine⟨u,rv,?_⟩
  rcases S.par y (bF hp)with k|k
  ·exact .inl ⟨k,Bu ndP hp hu k⟩
  ·obtain⟨c,e⟩:=D5 (n:=s.heap.objs.size+1) k
   refine .inr ⟨.inl k,c,e,?_⟩
   have q:=x.cell y c e;rw[Bv ndP hp hu (by show scope.names.lookup y≠_;rw[k];decide)]at q
   exact q
 ·exact e0.hok.fresh (oZ (x.above y c (jl h)))
 ·unfold start
  show _=N.length;rw[a8,aj,dM];omega
theorem Lw{f:aN}{name qual:Str}{params:Arguments}{dV kV doc pm gy ct oc:aD}{an od:Option aN}
  {F4:Array (Option aD)}{sp:Sp}(lk:K.lookup f=some ⟨oc,od,.func (iT name qual params body scope dV kV doc pm an gy ct),F4⟩)(pT:lA K gy qual=true)(S:cG N ps scope)
  (len:∀vs H Q E,sp vs H Q E->vs.length=ps.length)
  (Lx:∀(A:ej)(outer:List Env)(s:aQ)(H:Hp)(vs:List V)(Q:VK)(E:XK),fZ k (A.deeper (envOfC qual scope s.heap.objs.size f gy))->sp vs H Q E->
   ∃t,Ie (sP CX P w K mg base N qual scope f gy A outer s H E) body t/\t { nx:=λ_ H'=>Q .non H',rt:=Q } (start N vs) H) :
  eQ P w K mg base CX (k+1) f (iT name qual params body scope dV kV doc pm an gy ct) ps sp:=by
 refine⟨len,λA outer s H args us vs Q E hr e0 hb r yN=>?_⟩
 have hl:=len _ _ _ _ yN;have KX:K.In s.heap:=e0.mod.RH.keeps λb o e=>(e0.bs b o e).1
 have lim:s.heap.NoLimit:=e0.mod.nolimit.keeps λb o e=>(e0.bs b o e).1
 have D6:∀y∈ps.zip us,scope.names.lookup y.1=some .local\/(scope.names.lookup y.1=some .cell/\((cellsFrom (s.heap.objs.size+1) scope.names []).lookup y.1).isSome=true):=λ⟨n,v⟩ hy=>by
  rcases S.par n (sA hy).1 with q|q
  ·exact .inl q
  ·exact .inr ⟨q,Cd _ _ _ (.inl q)⟩
 refine codeAny_call_function hr.depth (KX _ _ lk) rfl S.co S.gen rfl (PySem.W.codeRec_of KX pT) (hb _ _ _ _ ?_)
 refine wpAny_newFunctionEnv_cells S.kind D6 λenv he s1 x=>?_
 subst he;refine⟨lim.keeps x.toInCall.keep,codeAny_func ?_⟩
 obtain⟨t,ht,hq⟩:=Lx A outer s H vs Q E (hr.deeper _) yN;have I:Inv (sP CX P w K mg base N qual scope f gy A outer s H E) [] (start N vs) H s1:=JR S hr.hd e0 hl r x;refine eT (ht [] s1 (start N vs) H _ I hq) (λfl s' hs=>?_) λe s' hs=>hs
 have fin:∀{σ':St}{H':Hp}{v:V}{u:aD},Inv (sP CX P w K mg base N qual scope f gy A outer s H E) [] σ' H' s'->RelV v u->Q v H'->CE outer P w H s Q u s':=
  λ{σ' H' v u}J rv q=>⟨v,H',J.os,J.bare,J.base,J.hok,rv,q⟩
 cases fl with
 |ret u=>
  obtain⟨v,σ',H',J,rv,q⟩:=hs;exact fin J rv q
 |next=>
  obtain⟨σ',H',J,q⟩:=hs;exact fin (v:=V.non) (u:=ef) J rfl q
 |brk=>
  obtain⟨_,_,_,q⟩:=hs;exact fh q
 |cont=>
  obtain⟨_,_,_,q⟩:=hs;exact fh q
section
variable{X:Cx}{x:Str}{p pos:Pos}{e:cw}{es:List cw}{t:TA}{id T:String}{r:List V->Hp->VK->Prop}
def tCB(r:List V->Hp->VK->Prop)(t:TA):TE:=λσ H Q=>t σ H λvs H1=>r vs H1 Q
theorem lD(hc:jT X (.builtin id) r)(hg:Gl X x)(hm:X.mg x=none)(hv:bootBuiltins x=some (.builtin id))(ha:PA X (e::es) t)(hn:x≠"__name__":=by decide)(qP:(x==("__debug__":Str))=false:=by decide)
  (he:starEach (e::es) X.env=(false,eval e X.env)::starEach es X.env:=by rfl)(pY:(backTo pos (starEach es X.env)).any (·.1)=false:=by rfl):PE X (.Call (.Name x p) (e::es) [] pos) (tCB r t):=by
 intro pins s σ H Q I h;refine j5 (xm I hg hm hv ?_ hn qP)
 exact PyProof.Rows.callWith_builtin1 (gj (ha pos pins s σ H _ I h) λus s1 ⟨vs,H1,I1,r1,q1⟩=>hc pins s1 σ H1 vs us Q I1 r1 q1) he pY
theorem xq(hc:jT X (.type T) r)(hg:Gl X x)(hm:X.mg x=none)(hv:bootBuiltins x=some (.type T))(ha:PA X (e::es) t)(hn:x≠"__name__":=by decide)(qP:(x==("__debug__":Str))=false:=by decide)
  (he:starEach (e::es) X.env=(false,eval e X.env)::starEach es X.env:=by rfl)(pY:(backTo pos (starEach es X.env)).any (·.1)=false:=by rfl):PE X (.Call (.Name x p) (e::es) [] pos) (tCB r t):=by
 intro pins s σ H Q I h;refine j5 (xm I hg hm hv ?_ hn qP)
 exact jt (gj (ha pos pins s σ H _ I h) λus s1 ⟨vs,H1,I1,r1,q1⟩=>hc pins s1 σ H1 vs us Q I1 r1 q1) he pY
end
end L2
namespace HT
open PySem PyProof.Rows
variable{Q:aD->aQ->Prop}
section
open PySem.SeqAt
open PySem.AutoSeq1 (wpAny_loadPart')
open PySem.MeetsSeq PySem.MeetsSeq2 PySem.MeetsSeq3
end
section
variable{prog:bM}{w:cy}{A:ej}{E:aD->aQ->Prop}{s:aQ}
theorem Oo{t b:aN}{vs ws:List aD}(ht:IsTup s.heap t vs.toArray)(hb:IsTup s.heap b ws.toArray)(hv:vs≠[])
  (h1:ws=[]->Q (.ref t) s)(h2:ws≠[]->Q (.ref s.heap.objs.size) { s with heap:=s.heap.push { cls:=.type "tuple",data:=.seq (vs++ws).toArray } })
  (hsz:vs.length+ws.length<=sizeLine):wpAny (model prog w) A (binaryOp .Add (.ref t) (.ref b)) Q E s:=by
 obtain⟨⟨cls,dd,data,sl⟩,ho,hc,n,hd⟩:=id ht;obtain⟨⟨Z2,Yq,data2,Um⟩,Yr,Uo,n2,hd2⟩:=id hb;simp only at hc hd Uo hd2;subst hc hd Uo hd2;have e:vs.toArray++ws.toArray=(vs++ws).toArray:=by simp
 by_cases hw:ws=[]
 ·exact concat_meets ⟨_,ho,rfl⟩ ⟨_,Yr,rfl⟩ noFill_tuple_add seq_tuple_add Ce Bg (AX _ _)
   (tuple_addW1 t b vs.toArray ws.toArray n n2 dd Yq sl Um (by simpa using hv) (by simp[hw])) ⟨ho,Yr,h1 hw⟩
 ·refine concat_meets ⟨_,ho,rfl⟩ ⟨_,Yr,rfl⟩ noFill_tuple_add seq_tuple_add Ce Bg (AX _ _)
   (tuple_addW2 t b vs.toArray ws.toArray n n2 dd Yq sl Um (by simpa using hv) (by simpa using hw) (by rw[bj,bj];exact hsz)) ⟨ho,Yr,?_⟩
  rw[e];exact h2 hw
def lQ(n d:Nat):Option Int->Nat
 |none=>d
 |some v=>if v<0 then(v+(n:Int)).toNat else min v.toNat n
theorem D7(n d:Nat):lQ n d none=d:=rfl
theorem nW(n d k:Nat):lQ n d (some (k:Int))=min k n:=by
 show(if(k:Int)<0 then((k:Int)+(n:Int)).toNat else min (k:Int).toNat n)=min k n
 rw[if_neg (by omega),eJ]
theorem Sb(n d:Nat)(hd:d<=n)(o:Option Int):lQ n d o<=n:=by
 cases o with
 |none=>exact hd
 |some v=>
  show(if v<0 then(v+(n:Int)).toNat else min v.toNat n)<=n
  by_cases hv:v<0
  ·rw[if_pos hv];omega
  ·rw[if_neg hv];exact Nat.min_le_right _ _
theorem Io(v:Int)(n d:Nat):(if v<0 then max (v+(n:Int)) 0 else min v (n:Int))=((lQ n d (some v):Nat):Int):=by
 show(if v<0 then max (v+(n:Int)) 0 else min v (n:Int))=(((if v<0 then(v+(n:Int)).toNat else min v.toNat n):Nat):Int)
 by_cases hv:v<0
 ·simp only[if_pos hv];omega
 ·simp only[if_neg hv];omega
theorem F5(lo hi:Option Int)(n:Nat):nG lo hi 1 (n:Int)=(((lQ n 0 lo:Nat):Int),((lQ n n hi:Nat):Int)):=by
 have h1:¬((1:Int)<0):=by omega
 unfold nG;simp only[h1,if_false];refine Prod.ext ?_ ?_
 ·cases lo with
  |none=>rfl
  |some v=>exact Io v n 0
 ·cases hi with
  |none=>rfl
  |some v=>exact Io v n n
theorem F6(i j:Nat):jS (i:Int) (j:Int) 1=j-i:=by
 unfold jS;have h1:(1:Int)>0:=by omega
 simp only[h1,if_true,Int.ediv_one]
 split<;>omega
theorem zv{v:aD}{o:Option Int}{Q:Option Int->aQ->Prop}(p:Cg v o)(h:Q o s):wpAny (model prog w) A (p_.Slice.slicePartIndex v) Q E s:=by
 cases p with
 |none=>exact slicePart_none h
 |int i t=>exact slicePart_int h
theorem xr{sl:aN}{vl vu:aD}{lo hi:Option Int}{n:Nat}{Q:Int×Int×Nat->aQ->Prop}(hs:s.heap.IsSliceOf sl vl vu .none)(pl:Cg vl lo)(pu:Cg vu hi)
  (h:Q (((lQ n 0 lo:Nat):Int),1,lQ n n hi-lQ n 0 lo) s):wpAny (model prog w) A (vL (.ref sl) (pure (n:Int))) Q E s:=by
 obtain⟨os,Vp,Vq,Oq⟩:=id hs;unfold vL p_.Slice.sliceFields;refine au (au (dQ Vp Oq (x:=vl) rfl (au (dQ Vp Oq (x:=vu) rfl (au (dQ Vp Oq (x:=.none) rfl (aZ ?_)))))))
 refine au (slicePart_none ?_)
 show wpAny _ _ (if((1:Int)==0)=true then _ else _) _ _ s
 rw[if_neg (by decide)]
 refine au (zv pl (au (zv pu (au (aZ ?_)))))
 show wpAny _ _ (match nG lo hi 1 (n:Int)with|(lo,hi)=>pure (lo,(1:Int),jS lo hi 1)) _ _ s
 rw[F5 lo hi n];show wpAny _ _ (pure (((lQ n 0 lo:Nat):Int),(1:Int),jS ((lQ n 0 lo:Nat):Int) ((lQ n n hi:Nat):Int) 1)) _ _ s;rw[F6];exact aZ h
theorem Ly(xs:Array aD)(i k:Nat):((cp k).filterMap λ(m:Nat)=>xs[((i:Int)+(m:Int)*1).toNat]?).toArray=((xs.toList.drop i).take k).toArray:=by
 have e:(λ(m:Nat)=>xs[((i:Int)+(m:Int)*1).toNat]?)=λm=>xs[i+m]?:=by
  funext m
  have:((i:Int)+(m:Int)*1).toNat=i+m:=by omega
  rw[this]
 rw[e];have:=pick_run xs i k;rw[cW]at this;have e2:((λx=>xs[x]?)∘λx=>i+x)=λm=>xs[i+m]?:=rfl
 rw[e2]at this;rw[this]
theorem vU{t sl:aN}{items:Array aD}{vl vu:aD}{lo hi:Option Int}(ht:IsTup s.heap t items)(hs:s.heap.IsSliceOf sl vl vu .none)(pl:Cg vl lo)(pu:Cg vu hi)
  (hw:¬(lQ items.size 0 lo=0/\lQ items.size items.size hi=items.size))
  (h:Q (.ref s.heap.objs.size) { s with heap:=s.heap.push { cls:=.type "tuple",data:=.seq ((items.toList.drop (lQ items.size 0 lo)).take (lQ items.size items.size hi-lQ items.size 0 lo)).toArray } })
  (hsz:items.size<=sizeLine):wpAny (model prog w) A (getItem (.ref t) (.ref sl)) Q E s:=by
 have Ip:sizeOk (.seq ((items.toList.drop (lQ items.size 0 lo)).take (lQ items.size items.size hi-lQ items.size 0 lo)).toArray):=by
  show((items.toList.drop (lQ items.size 0 lo)).take (lQ items.size items.size hi-lQ items.size 0 lo)).toArray.size<=sizeLine
  rw[bj,bW,cP,cq];omega
 have hj:lQ items.size items.size hi<=items.size:=Sb _ _ (aA _) hi;obtain⟨os,Vp,Vq,Oq⟩:=id hs;have hTs:s.TypeIs (.ref sl) "slice":=⟨os,Vp,Vq⟩;unfold getItem
 try with_reducible refine iP ?_
 first|refine au (aZ ?_)|skip
 refine au (wpAny_sequenceKey ht.typeIs (by decide) ?_)
 refine au (jO (name:=o4 "__getitem__") ht.typeIs k6
  (oq k6 ht.typeIs entry_tuple_getitem ?_ (args_tuple_getitem _ _)))
 show wpAny _ _ (p_.Tuple.tupleItemsOf (.ref t) >>= _) _ _ s;refine au (tupleItemsOf_ ht ?_)
 refine au (wpAny_typeOf hTs ?_)
 rw[if_pos (by decide)]
 refine au (xr hs pl pu ?_)
 have yC:¬((((lQ items.size 0 lo:Nat):Int)==0&&(1:Int)==1&&(lQ items.size items.size hi-lQ items.size 0 lo)==items.size)=true):=by
  intro q;rw[rK,rK]at q;have q1:((lQ items.size 0 lo:Nat):Int)=0:=eq_of_beq q.1.1;have q2:lQ items.size items.size hi-lQ items.size 0 lo=items.size:=eq_of_beq q.2;exact hw ⟨by omega,by omega⟩
 show wpAny _ _ (if(((lQ items.size 0 lo:Nat):Int)==0&&(1:Int)==1&&(lQ items.size items.size hi-lQ items.size 0 lo)==items.size)=true then _ else _) _ _ s
 rw[if_neg yC,Ly]
 first
  |exact au (m:=j7 _) (fj (aZ ⟨_,rfl,aZ h⟩) Ip)
  |exact au (m:=j7 _) (fj (au (aZ (aZ ⟨_,rfl,aZ h⟩))) Ip)
  |exact au (au (m:=j7 _) (fj (aZ (aZ ⟨_,rfl,aZ h⟩)) Ip))
  |exact au (au (m:=j7 _) (fj (aZ ⟨_,rfl,aZ h⟩) Ip))
end
end HT
namespace L2
open PySem PySem.Spec PyProof.Rows
variable{p:aN}{H:Hp}{pins:List (aN×Obj)}{xs:List V}{its us:List aD}{n t':Nat}{s:aQ}{σ:St}
abbrev TO:=St->Hp->(Option Int->Hp->Prop)->Prop
def PO(X:Cx)(e:Option cw)(t:TO):Prop:=
 ∀(pins:List (aN×Obj))(s:aQ)(σ:St)(H:Hp)(Q:Option Int->Hp->Prop),Inv X pins σ H s->t σ H Q->
  wpAny (model X.prog X.w) X.A (evalPart e X.env) (λu s'=>∃o H',Inv X pins σ H' s'/\Cg u o/\Q o H') X.xe s
def Ot:TO:=λ_ H Q=>Q none H
def Vr(t:TE):TO:=λσ H Q=>t σ H λx H1=>∃i,x=.int i/\Q (some i) H1
theorem intsAre_of{ns:List Int}:∀{us:List aD},dZ (ns.map V.int) us->AY us ns:=by
 induction ns with
 |nil=>intro us r;rw[iA]at r;cases r;exact .nil
 |cons n ns ih=>
  intro us r;rw[aR]at r;cases r with
  |cons r1 r2=>
   obtain⟨t,e⟩:=r1;subst e;exact .cons n t (ih r2)
section
variable{X:Cx}{e:cw}{te:TE}{lo hi:Option cw}{tl th:TO}{pos p2:Pos}
theorem Ou:PO X none Ot:=by
 intro pins s σ H Q I h;rw[evalPart_none];exact aZ ⟨none,H,I,.none,h⟩
theorem Ov(h:PE X e te):PO X (some e) (Vr te):=by
 intro pins s σ H Q I hw;rw[evalPart_some];refine gj (h pins s σ H _ I hw) λu s1 ⟨x,H1,I1,r1,q1⟩=>?_
 obtain⟨i,rfl,q⟩:=q1;obtain⟨t,rfl⟩:=r1;exact⟨some i,H1,I1,.int i t,q⟩
def Ys(X:Cx)(r:V->Option Int->Option Int->Hp->VK->Prop):Prop:=
 ∀(pins:List (aN×Obj))(s:aQ)(σ:St)(H:Hp)(x:V)(v vl vu:aD)(lo hi:Option Int)(sl:aN)(Q:VK),Inv X pins σ H s->RelV x v->s.heap.IsSliceOf sl vl vu .none->Cg vl lo->Cg vu hi->r x lo hi H Q->
  ∃T id,typeLookup (.type T) "__getitem__"=pure (some (.builtin id))/\s.TypeIs v T/\wpAny (model X.prog X.w) X.A (getItem v (.ref sl)) (EP X pins σ Q) X.xe s
def tSl(r:V->Option Int->Option Int->Hp->VK->Prop)(te:TE)(tl th:TO):TE:=λσ H Q=>te σ H λx H1=>tl σ H1 λl H2=>th σ H2 λu H3=>r x l u H3 Q
theorem zx{r:V->Option Int->Option Int->Hp->VK->Prop}(hr:Ys X r)(he:PE X e te)(hl:PO X lo tl)(hu:PO X hi th):PE X (.Subscript e (.Slice lo hi none p2) pos) (tSl r te tl th):=by
 intro pins s σ H Q I h;refine Subscript_ (gj (he pins s σ H _ I h) λv s1 ⟨x,H1,I1,r1,q1⟩=>?_)
 refine wpAny_Slice (gj (hl pins s1 σ H1 _ I1 q1) λvl s2 ⟨l,H2,I2,pl,q2⟩=>gj (hu pins s2 σ H2 _ I2 q2) λvu s3 ⟨u,H3,I3,pu,q3⟩=>?_)
 rw[evalPart_none];refine aZ ?_
 have I4:Inv X pins σ H3 { s3 with heap:=s3.heap.push { cls:=.type "slice",data:=.fields #[vl,vu,.none] } }:=I3.kept (t':=s3.toks) λb ob q=>aE _ q
 obtain⟨T,id,hT,ht,hg⟩:=hr pins { s3 with heap:=s3.heap.push { cls:=.type "slice",data:=.fields #[vl,vu,.none] } } σ H3 x v vl vu l u s3.heap.objs.size Q I4 r1 (dq.IsSliceOf.new ..) pl pu q3
 show wpAny (model X.prog X.w) X.A (subscriptTail e (.Slice lo hi none p2) v (.ref s3.heap.objs.size)) (EP X pins σ Q) X.xe { s3 with heap:=s3.heap.push { cls:=.type "slice",data:=.fields #[vl,vu,.none] } }
 exact tail_any (ops:=[.ref s3.heap.objs.size,v]) ht hT hg (by with_unfolding_all rfl)
def D8(xs:List V)(lo hi:Option Int):List V:=(xs.drop (HT.lQ xs.length 0 lo)).take (HT.lQ xs.length xs.length hi-HT.lQ xs.length 0 lo)
theorem yc(xs:List V)(lo hi:Option Int):(D8 xs lo hi).length<=xs.length:=by
 unfold D8;rw[bW,cP];omega
def Z3(K:av):V->Option Int->Option Int->Hp->VK->Prop:=λx lo hi H Q=>∃a xs,x=.ref a/\qM K H a xs/\
 ¬(HT.lQ xs.length 0 lo=0/\HT.lQ xs.length xs.length hi=xs.length)/\∀p,H p=none->Q (.ref p) (upd H p (.tup (D8 xs lo hi)))
theorem Sd:Ys X (Z3 X.K):=by
 intro pins s σ H x v vl vu lo hi sl Q I rx hs pl pu h;obtain⟨a,xs,rfl,hx,hw,q⟩:=h;cases rx;obtain⟨its,r,ht,hz⟩:=I.tuple hx;have hlen:its.toArray.size=xs.length:=by rw[bj];exact r.length.symm
 refine⟨"tuple",_,k6.lookup,ht.typeIs,?_⟩
 refine HT.vU ht hs pl pu (by rw[hlen];exact hw) ?_ (by rw[hlen];exact hz)
 rw[hlen];refine⟨.ref s.heap.objs.size,_,I.laid (t':=s.toks) (o:=.tup (D8 xs lo hi)) (λb ob q=>aE _ q) (aA _) ?_,rfl,q _ (I.hok.fresh (aA _))⟩
 exact⟨b9 (yc xs lo hi) hz,_,(r.drop (HT.lQ xs.length 0 lo)).take (HT.lQ xs.length xs.length hi-HT.lQ xs.length 0 lo),uD _ _⟩
def Vs(K:av):R2:=λx y H Q=>∃a b xs ys,x=.ref a/\y=.ref b/\qM K H a xs/\qM K H b ys/\xs≠[]/\xs.length+ys.length<=sizeLine/\
 (ys=[]->Q (.ref a) H)/\(ys≠[]->∀p,H p=none->Q (.ref p) (upd H p (.tup (xs++ys))))
theorem dZ.yO(r:dZ xs us):us=[]↔xs=[]:=by
 cases r with
 |nil=>simp
 |cons _ _=>simp
theorem Ow:rM X (binaryOp .Add) (Vs X.K):=by
 intro pins s σ H x y v u Q I rx ry h;obtain⟨a,b,xs,ys,rfl,rfl,ha,hb,hx,hz,q1,q2⟩:=h;cases rx;cases ry;obtain⟨its,r1,p1,_⟩:=I.tuple ha;obtain⟨Ox,r2,p2,_⟩:=I.tuple hb;refine HT.Oo p1 p2 (λz=>hx (r1.yO.mp z)) (λz=>⟨.ref a,H,I,rfl,q1 (r2.yO.mp z)⟩) (λz=>?_) (by rw[<-r1.length,<-r2.length];exact hz)
 refine⟨.ref s.heap.objs.size,_,I.laid (t':=s.toks) (o:=.tup (xs++ys)) (λb ob q=>aE _ q) (aA _) ?_,rfl,q2 (λw=>z (r2.yO.mpr w)) _ (I.hok.fresh (aA _))⟩
 exact⟨by rw[a8];exact hz,_,r1.append r2,uD _ _⟩
end
def N2(n:Nat)(i:Int):Option Nat:=if 0<=i then(if i<n then some i.toNat else none)else if -(n:Int)<=i then some (i+n).toNat else none
def qQ{α:Type}(xs:List α)(i:Int):Option α:=(N2 xs.length i).bind λj=>xs[j]?
theorem Iq{i:Int}{j:Nat}(h:N2 n i=some j):seqIndex? i n=some j/\j<n/\-(n:Int)<=i/\i<n:=by
 unfold N2 at h;by_cases h0:0<=i
 ·rw[if_pos h0]at h
  by_cases h1:i<n
  ·rw[if_pos h1]at h
   have e:i.toNat=j:=c9 h;exact⟨by rw[seqIndex_of h0 h1,e],by omega,by omega,h1⟩
  ·rw[if_neg h1]at h;cases h
 ·rw[if_neg h0]at h
  by_cases h1:-(n:Int)<=i
  ·rw[if_pos h1]at h
   have e:(i+n).toNat=j:=c9 h;exact⟨by rw[seqIndex_neg (by omega) h1,e],by omega,h1,by omega⟩
  ·rw[if_neg h1]at h;cases h
theorem CD{α:Type}{xs:List α}{i:Int}{v:α}(h:qQ xs i=some v):∃j,seqIndex? i xs.length=some j/\xs[j]?=some v/\j<xs.length/\-(xs.length:Int)<=i/\i<xs.length:=by
 unfold qQ at h;cases e:N2 xs.length i with
 |none=>rw[e]at h;cases h
 |some j=>
  rw[e]at h;obtain⟨h1,h2,h3,h4⟩:=Iq e;exact⟨j,h1,h,h2,h3,h4⟩
theorem a9{α:Type}{xs:List α}{j:Nat}{v:α}(h:xs[j]?=some v):qQ xs (j:Int)=some v:=by
 have hj:j<xs.length:=(aL.mp h).1;have e:N2 xs.length (j:Int)=some j:=by
  unfold N2;rw[if_pos (by omega),if_pos (by omega)];simp
 unfold qQ;rw[e];exact h
def qR(b:cw):Prop:=∀o i,subscripted b false o i=operate [o,i] (getItem o i)
def N3(X:Cx)(r:R2):Prop:=
 ∀(value slice:cw)(pins:List (aN×Obj))(s:aQ)(σ:St)(H:Hp)(x y:V)(v u:aD)(Q:VK),Inv X pins σ H s->RelV x v->RelV y u->r x y H Q->
  subscripted slice false v u=operate [v,u] (getItem v u)->wpAny (model X.prog X.w) X.A (subscriptTail value slice v u) (EP X pins σ Q) X.xe s
def MtR(X:Cx)(id:String)(r:V->List V->Hp->VK->Prop):Prop:=
 ∀(pins:List (aN×Obj))(s:aQ)(σ:St)(H:Hp)(x:V)(xs:List V)(v:aD)(us:List aD)(Q:VK),Inv X pins σ H s->RelV x v->dZ xs us->r x xs H Q->
  wpAny (model X.prog X.w) X.A (call (.builtin id) (v::us)) (EP X pins σ Q) X.xe s
section
variable{X:Cx}{a b:cw}{ta tb:TE}{pos:Pos}
theorem N3.or{r r':R2}(h:N3 X r)(h':N3 X r'):N3 X (λx y H Q=>r x y H Q\/r' x y H Q):=by
 intro value slice pins s σ H x y v u Q I rx ry q hs;rcases q with q|q
 ·exact h value slice pins s σ H x y v u Q I rx ry q hs
 ·exact h' value slice pins s σ H x y v u Q I rx ry q hs
theorem Lz{r:R2}(hr:N3 X r)(ha:PE X a ta)(hb:PE X b tb)(hs:qR b):PE X (.Subscript a b pos) (Vc r ta tb):=by
 intro pins s σ H Q I h;exact Subscript_ (R1 ha hb I h λv u s2 x y H2 I2 rx ry q=>hr a b pins s2 σ H2 x y v u Q I2 rx ry q (hs _ _))
def Vt(K:av):R2:=λx y H Q=>∃p xs i v,x=.ref p/\y=.int i/\lW K H p xs/\qQ xs i=some v/\Q v H
def Vu(K:av):R2:=λx y H Q=>∃p xs i v,x=.ref p/\y=.int i/\qM K H p xs/\qQ xs i=some v/\Q v H
def Vv:R2:=λx y H Q=>∃z i c,x=.str z/\y=.int i/\z.length<=sizeLine/\qQ z.cps.toList i=some c/\Q (.str ⟨#[c]⟩) H
theorem Ir:N3 X (Vt X.K):=by
 intro value slice pins s σ H x y v u Q I rx ry h hs;obtain⟨p,xs,i,z,rfl,rfl,hq,he,q⟩:=h;cases rx;obtain⟨t,rfl⟩:=ry;obtain⟨its,r,pl,hz⟩:=I.list hq;obtain⟨j,h1,h2,h3,h4,h5⟩:=CD he;obtain⟨w,ew,rY⟩:=r.get h2;have hl:=r.length;have hn:=qO;have fin:EP X pins σ Q w s:=⟨z,H,I,rY,q⟩;by_cases h0:0<=i
 ·have hj:i.toNat=j:=by
   rw[seqIndex_of h0 h5]at h1;exact c9 h1
  exact item_listR pl.isList h0 (by omega) (by rw[hj];simpa using ew) fin hs
 ·have hj:(i+(its.toArray.size:Int)).toNat=j:=by
   rw[seqIndex_neg (by omega) h4]at h1
   rw[bj,<-hl];exact c9 h1
  exact subscriptTail_builtinR (x:=w) pl.isList.typeIs slot_list_getitem.lookup
   (wpAny_getItem_list_neg (Q:=λr s'=>r=w/\EP X pins σ Q r s') pl.isList (by omega) (by rw[bj]<;>omega) (by omega) (by rw[hj];simpa using ew) ⟨rfl,fin⟩) hs
theorem Se:N3 X (Vu X.K):=by
 intro value slice pins s σ H x y v u Q I rx ry h hs;obtain⟨p,xs,i,z,rfl,rfl,hq,he,q⟩:=h;cases rx;obtain⟨t,rfl⟩:=ry;obtain⟨its,r,pl,hz⟩:=I.tuple hq;obtain⟨j,h1,h2,h3,h4,h5⟩:=CD he;obtain⟨w,ew,rY⟩:=r.get h2;have hl:=r.length;have hn:=qO;have fin:EP X pins σ Q w s:=⟨z,H,I,rY,q⟩;exact subscriptTail_builtinR (x:=w) pl.typeIs slot_tuple_getitem.lookup
  (getItem_tuple (j:=j) (Q:=λr s'=>r=w/\EP X pins σ Q r s') pl (by omega) (by omega) (by rw[bj,<-hl];exact h1) (by simpa using ew) ⟨rfl,fin⟩) hs
theorem Sf:N3 X Vv:=by
 intro value slice pins s σ H x y v u Q I rx ry h hs;obtain⟨z,i,c,rfl,rfl,hz,he,q⟩:=h;obtain⟨t,rfl⟩:=rx;obtain⟨t',rfl⟩:=ry;obtain⟨j,h1,h2,h3,h4,h5⟩:=CD he;have hl:z.cps.toList.length=z.length:=by simp[Str.length]
 rw[hl]at h1 h4 h5;have hn:=qO;exact tail_any (uX s z t) slot_str_getitem.lookup (getItem_str (c:=c) (by
  have e1:decide (i < -(2^63:Int))=false:=decide_eq_false (by omega)
  have e2:decide (i>=2^63)=false:=decide_eq_false (by omega)
  rw[e1,e2,Bool.or_false]) (by rw[h1];simpa using h2) ⟨.str ⟨#[c]⟩,H,I.tok _,⟨_,rfl⟩,q⟩) hs
def Yt(K:av):R2:=λx y H Q=>Vt K x y H Q\/Vu K x y H Q\/Vv x y H Q
theorem CF:N3 X (Yt X.K):=Ir.or (Se.or Sf)
theorem F7(its:List aD)(n j:Nat)(u:aD):xg (·.setIfInBounds j u) { cls:=.type "list",data:=.seq its.toArray n }={ cls:=.type "list",data:=.seq (its.set j u).toArray n }:=by
 simp[xg]
theorem Inv.lst(I:Inv X pins σ H s)(h:H p=some (.lst xs)):
  ∃(its:List aD)(n:Nat),dZ xs its/\s.heap.get? p=some { cls:=.type "list",data:=.seq its.toArray n }/\xs.length<=sizeLine:=by
 obtain⟨z,its,n,r,e⟩:=I.hok p _ h;exact⟨its,n,r,e,z⟩
theorem Inv.Sg{ys: List V}{its': List aD}{n': Nat}{f:Obj->Obj}(I:Inv X pins σ H s)(h:H p=some (.lst xs))
  (ho:s.heap.get? p=some { cls:=.type "list",data:=.seq its.toArray n })(hf:f { cls:=.type "list",data:=.seq its.toArray n }={ cls:=.type "list",data:=.seq its'.toArray n' })(r:dZ ys its')(hz:ys.length<=sizeLine)(t:Nat):
  Inv X pins σ (upd H p (.lst ys)) { s with heap:=s.heap.update p f,toks:=t }:=by
 have e:(s.heap.update p f).get? p=some { cls:=.type "list",data:=.seq its'.toArray n' }:=by
  rw[eY f ho (by rw[hf]<;>rfl),hf]
 refine I.write (x:=p) (e:=p) (by rw[h];trivial) (.inl rfl) (λb u hb q=>(df _ _ (bU hb)).trans q) ⟨_,e⟩ ?_
 exact⟨hz,its',n',r,e⟩
def Vw:V->V->V->Hp->(Hp->Prop)->Prop:=λo i v H Q=>∃p xs k j,o=.ref p/\i=.int k/\H p=some (.lst xs)/\N2 xs.length k=some j/\Q (upd H p (.lst (xs.set j v)))
theorem set_list:U7 X Vw:=by
 intro pins s σ H o i v ov iv u Q I ro ri rv h;obtain⟨p,xs,k,j,rfl,rfl,hp,hj,q⟩:=h;cases ro;obtain⟨t,rfl⟩:=ri;obtain⟨its,n,r,ho,hz⟩:=I.lst hp;obtain⟨h1,h2,h3,h4⟩:=Iq hj;have hl:=r.length;have hn:=qO;have I':Inv X pins σ (upd H p (.lst (xs.set j v))) { s with heap:=s.heap.update p (xg (·.setIfInBounds j u)) }:=
  I.Sg hp ho (F7 its n j u) (r.set rv j) (by rw[oi];exact hz) s.toks
 by_cases h0:0<=k
 ·have hk:k.toNat=j:=by
   rw[seqIndex_of h0 h4]at h1;exact c9 h1
  exact PySem.W.ki_setAt ho h0 (by omega) (by rw[bj,<-hl];exact h4) (by rw[hk];exact⟨_,I',q⟩)
 ·have hk:(k+(its.toArray.size:Int)).toNat=j:=by
   rw[seqIndex_neg (by omega) h3]at h1
   rw[bj,<-hl];exact c9 h1
  exact PySem.W.ki_setBack ho (by omega) (by rw[bj,<-hl];exact h3) (by omega) (by rw[hk];exact⟨_,I',q⟩)
theorem CG(lo hi:Option Int)(n:Nat):(sliceBounds lo hi none n).1=((HT.lQ n 0 lo:Nat):Int)/\(sliceBounds lo hi none n).2.1=((HT.lQ n n hi:Nat):Int)/\(sliceBounds lo hi none n).2.2=1:=by
 refine⟨?_,?_,rfl⟩
 ·cases lo with
  |none=>simp[sliceBounds,HT.lQ]
  |some i=>
   simp only[sliceBounds,HT.lQ,Option.getD_none,show(1:Int)>0 by decide,if_true]
   by_cases h:i<0
   ·simp only[h,if_true]<;>omega
   ·simp only[h,if_false]<;>omega
 ·cases hi with
  |none=>simp[sliceBounds,HT.lQ]
  |some i=>
   simp only[sliceBounds,HT.lQ,Option.getD_none,show(1:Int)>0 by decide,if_true]
   by_cases h:i<0
   ·simp only[h,if_true]<;>omega
   ·simp only[h,if_false]<;>omega
theorem A5(its:List aD)(lo hi:Option Int):slicePick its.toArray lo hi none=((its.drop (HT.lQ its.length 0 lo)).take (HT.lQ its.length its.length hi-HT.lQ its.length 0 lo)).toArray:=by
 obtain⟨h1,h2,h3⟩:=CG lo hi its.toArray.size;unfold slicePick;rw[h1,h2,h3];simp only[sliceRange_one,pick_run,bj]<;>rfl
def Z4(K:av):V->Option Int->Option Int->Hp->VK->Prop:=λx lo hi H Q=>∃a xs,x=.ref a/\lW K H a xs/\∀p,H p=none->Q (.ref p) (upd H p (.lst (D8 xs lo hi)))
theorem Oy:Ys X (Z4 X.K):=by
 intro pins s σ H x v vl vu lo hi sl Q I rx hs pl pu h;obtain⟨a,xs,rfl,hx,q⟩:=h;cases rx;obtain⟨its,r,ht,hz⟩:=I.list hx;have hlen:=r.length;refine⟨"list",_,slot_list_getitem.lookup,ht.isList.typeIs,?_⟩
 refine wpAny_getItem_list_slice ht.isList hs pl pu .none (by simp) ?_ (by rw[bj]<;>omega)
 rw[A5,<-hlen];refine⟨.ref s.heap.objs.size,_,I.laid (t':=s.toks) (o:=.lst (D8 xs lo hi)) (λb ob q=>aE _ q) (aA _) ?_,rfl,q _ (I.hok.fresh (aA _))⟩
 exact⟨b9 (yc xs lo hi) hz,_,0,(r.drop (HT.lQ xs.length 0 lo)).take (HT.lQ xs.length xs.length hi-HT.lQ xs.length 0 lo),bQ _ rfl⟩
theorem vV:jT X (.builtin "len") (λxs H Q=>∃p ys,xs=[.ref p]/\(lW X.K H p ys\/qM X.K H p ys)/\Q (.int ys.length) H):=by
 intro pins s σ H xs us Q I r h;obtain⟨p,ys,rfl,hq,q⟩:=h;obtain⟨u,rfl,rx⟩:=vals1 r;cases rx;have hn:=qO;rcases hq with hq|hq
 ·obtain⟨its,r',pl,hz⟩:=I.list hq
  have hlen:=r'.length;exact Calls.call_len_list pl.isList (by simp only[bj]<;>omega) ⟨.int ys.length,H,I.tok _,⟨s.toks+1,by rw[bj,hlen]⟩,q⟩
 ·obtain⟨its,r',pl,hz⟩:=I.tuple hq
  have hlen:=r'.length;exact len_tuple pl (by simp only[bj]<;>omega) ⟨.int ys.length,H,I.tok _,⟨s.toks+1,by rw[bj,hlen]⟩,q⟩
theorem CH:jT X (.builtin "len") (λxs H Q=>∃z,xs=[.str z]/\z.length<=sizeLine/\Q (.int z.length) H):=by
 intro pins s σ H xs us Q I r h;obtain⟨z,rfl,hz,q⟩:=h;obtain⟨u,rfl,t,rfl⟩:=vals1 r;have hn:=qO;exact len_str (by omega) ⟨.int z.length,H,I.tok _,⟨_,rfl⟩,q⟩
theorem vW:jT X (.type "list") (λxs H Q=>∃p ys,xs=[.ref p]/\(lW X.K H p ys\/qM X.K H p ys)/\∀l,H l=none->Q (.ref l) (upd H l (.lst ys))):=by
 intro pins s σ H xs us Q I r h;obtain⟨p,ys,rfl,hq,q⟩:=h;obtain⟨u,rfl,rx⟩:=vals1 r;cases rx;have fin:∀(its:List aD),dZ ys its->ys.length<=sizeLine->∀(h':dq)(c':Nat),(∀b o',s.heap.get? b=some o'->h'.get? b=some o')->
   h'.get? s.heap.objs.size=some { cls:=.type "list",dict:=none,data:=.seq its.toArray c',slots:=#[] }->EP X pins σ Q (.ref s.heap.objs.size) { s with heap:=h' }:=λits r' hz h' c' kp e=>
  ⟨.ref s.heap.objs.size,_,I.laid (t':=s.toks) kp (aA _) (show hZ X.prog X.w _ h' _ (.lst ys) from⟨hz,its,c',r',e⟩),rfl,q _ (I.hok.fresh (aA _))⟩
 rcases hq with hq|hq
 ·obtain⟨its,r',pl,hz⟩:=I.list hq
  have hlen:=r'.length;obtain⟨o,ho,hc,n,hd⟩:=pl.isList;exact call_list_seq p (.inl rfl) ho hc hd (λh' c' kp e=>fin its r' hz h' c' kp e) (by simp only[bj]<;>omega)
 ·obtain⟨its,r',pl,hz⟩:=I.tuple hq
  have hlen:=r'.length;obtain⟨o,ho,hc,n,hd⟩:=pl;exact call_list_seq p (.inr rfl) ho hc hd (λh' c' kp e=>fin its r' hz h' c' kp e) (by simp only[bj]<;>omega)
theorem mN:jT X (.type "tuple") (λxs H Q=>∃p ys,xs=[.ref p]/\((lW X.K H p ys/\∀l,H l=none->Q (.ref l) (upd H l (.tup ys)))\/(qM X.K H p ys/\Q (.ref p) H))):=by
 intro pins s σ H xs us Q I r h;obtain⟨p,ys,rfl,h⟩:=h;obtain⟨u,rfl,rx⟩:=vals1 r;cases rx;rcases h with⟨hq,q⟩|⟨hq,q⟩
 ·obtain⟨its,r',pl,hz⟩:=I.list hq
  have hlen:=r'.length;refine call_tuple_list pl.isList (λh' kp=>?_) (by simp only[bj]<;>omega)
  have I1:Inv X pins σ H { s with heap:=h' }:=I.kept (t':=s.toks) kp
  have I2:Inv X pins σ (upd H h'.objs.size (.tup ys)) { s with heap:=h'.push { cls:=.type "tuple",data:=.seq its.toArray } }:=
   I1.laid (t':=s.toks) (λb o e=>aE _ e) (aA _) (show hZ X.prog X.w _ _ _ (.tup ys) from⟨hz,its,r',uD _ _⟩)
  exact⟨.ref h'.objs.size,_,I2,rfl,q _ (I1.hok.fresh (aA _))⟩
 ·obtain⟨its,r',pl,hz⟩:=I.tuple hq
  exact call_tuple_same pl ⟨.ref p,H,I,rfl,q⟩
def tyV(K:av)(T:String)(x:V)(H:Hp):Prop:=match x with
 | .str _=>T="str"
 | .int _=>T="int"
 | .ref p=>(T="list"/\∃xs,lW K H p xs)\/(T="tuple"/\∃o,K.lookup p=some o/\o.cls=.type "tuple"/\o.dict=none)\/
   (T="dict"/\((∃kvs,H p=some (.dK kvs))\/∃kvs,H p=some (.dT kvs)))\/(T="set"/\∃S n,H p=some (.set S n))
 |_=>False
theorem Si{T:String}{x:V}{v:aD}(I:Inv X pins σ H s)(r:RelV x v)(ty:tyV X.K T x H):
  s.TypeIs v T/\∀a,v=.ref a->∃ob,s.heap.get? a=some ob/\ob.dict=none:=by
 cases x with
 |str z=>
  obtain⟨t,rfl⟩:=r
  cases(show T="str" from ty)
  exact⟨uX s z t,λ_ e=>nomatch e⟩
 |int i=>
  obtain⟨t,rfl⟩:=r
  cases(show T="int" from ty)
  exact⟨typeIs_int s i t,λ_ e=>nomatch e⟩
 |ref p=>
  cases r;rcases ty with⟨rfl,xs,hq⟩|⟨rfl,o,hk,hc,hd⟩|⟨rfl,hk⟩|⟨rfl,S,n,hk⟩
  ·obtain⟨its,_,pl,_⟩:=I.list hq
   refine⟨pl.isList.typeIs,λa e=>?_⟩
   cases e;obtain⟨o,n,e,c,hd,_⟩:=pl;exact⟨o,e,hd⟩
  ·refine⟨⟨o,I.sv p o hk,hc⟩,λa e=>?_⟩
   cases e;exact⟨o,I.sv _ o hk,hd⟩
  ·have z:∃o,s.heap.get? p=some o/\o.ExactDict:=by
    rcases hk with⟨kvs,hk⟩|⟨kvs,hk⟩
    ·obtain⟨_,_,_,_,o,_,_,e,ex,_⟩:=I.hok p _ hk
     exact⟨o,e,ex⟩
    ·obtain⟨_,_,_,_,o,_,_,e,ex,_⟩:=I.hok p _ hk
     exact⟨o,e,ex⟩
   obtain⟨o,e,ex⟩:=z;refine⟨⟨o,e,ex.1⟩,λa e2=>?_⟩
   cases e2;exact⟨o,e,ex.2.1⟩
  ·obtain⟨o,_,_,_,e,ex,_⟩:=I.hok p _ hk
   refine⟨⟨o,e,ex.1⟩,λa e2=>?_⟩
   cases e2;exact⟨o,e,ex.2.1⟩
 |_=>exact fh ty
def tBM(K:av)(T:String)(r:V->List V->Hp->VK->Prop)(to:TE)(t:TA):TE:=λσ H Q=>to σ H λx H1=>tyV K T x H1/\t σ H1 λxs H2=>r x xs H2 Q
variable{o e:cw}{es:List cw}{to:TE}{t:TA}{name:Str}{apos oC:Pos}{T id:String}{r:V->List V->Hp->VK->Prop}
theorem yd(pa:PlainAttrs T)(slot:Slot T name id)(QK:typeOf (.builtin id)=pure (.type "method_descriptor"))(hm:MtR X id r)(ho:PE X o to)(ha:PA X (e::es) t)
  (mX:attributeBase o name X.env (eval o X.env)=eval o X.env:=by rfl)
  (sQ:((backTo oC (starEach (e::es) X.env)).all (λx=>!x.1)&&(backToKw oC (keywordEach [] X.env)).all (λx=>x.1.isSome)
   && decide ((e::es).length+([]:List iI).length+(if([]:List iI).isEmpty then 0 else 1)<30))=true:=by rfl)
  (hline:(apos.endLine==oC.line)=true:=by rfl) (hs:starEach (e::es) X.env=(false,eval e X.env)::starEach es X.env:=by rfl) (j9:(backTo oC (starEach es X.env)).any (·.1)=false:=by rfl) :
  PE X (.Call (.Attribute o name apos) (e::es) [] oC) (tBM X.K T r to t):=by
 intro pins s σ H Q I h;refine wpAny_Call_method_late mX sQ hline rfl (gj (ho pins s σ H _ I h) λv s1 ⟨x,H1,I1,r1,ty,q1⟩=>?_)
 obtain⟨h1,h2⟩:=Si I1 r1 ty;refine⟨T,id,pa,slot,QK,h1,h2,?_⟩
 have hA:=ha oC pins s1 σ H1 _ I1 q1;rw[hs]at hA ⊢;refine rT (by show(false||(backTo oC (starEach es X.env)).any (·.1))=false;rw[j9]<;>rfl) (uy ?_)
 exact gj hA λus s2 ⟨vs,H2,I2,r2,q2⟩=>hm pins s2 σ H2 x vs v us Q I2 r1 r2 q2
end
def Up(X:Cx)(id:String)(r:V->List V->Hp->VK->Prop):Prop:=
 ∀(pins:List (aN×Obj))(s:aQ)(σ:St)(H:Hp)(x:V)(xs:List V)(v:aD)(us:List aD)(Q:VK),Inv X pins σ H s->RelV x v->dZ xs us->r x xs H Q->
  wpAny (model X.prog X.w) X.A (call (.builtin id) (v::us)) (EP X pins σ Q) X.xe s
theorem dZ.one:∀{x:V}{us:List aD},dZ [x] us->∃u,us=[u]/\RelV x u
 |_,_,.cons r .nil=>⟨_,rfl,r⟩
theorem dZ.two:∀{x y:V}{us:List aD},dZ [x,y] us->∃u v,us=[u,v]/\RelV x u/\RelV y v
 |_,_,_,.cons r (.cons q .nil)=>⟨_,_,rfl,r,q⟩
theorem dZ.rep(h:dZ xs us):∀k:Nat,dZ (bu k xs).flatten (bu k us).flatten
 |0=>.nil
 |k+1=>by
  rw[eC,eC,gi,gi];exact dZ.append h (dZ.rep h k)
theorem foldl_rep(its:List aD):∀(k:Nat)(acc:List aD),
  List.foldl (λx1 x2=>x1++x2) acc.toArray (bu k its.toArray)=(acc++(bu k its).flatten).toArray
 |0,acc=>by simp
 |k+1,acc=>by
  have e:acc.toArray++its.toArray=(acc++its).toArray:=by simp
  have e2:(acc++its)++(bu k its).flatten=acc++(bu (k+1) its).flatten:=by
   rw[eC,gi,fJ]
  rw[<-e2,<-foldl_rep its k (acc++its),<-e,eC,oj]
section
variable{X:Cx}{pins:List (aN×Obj)}{σ:St}{H:Hp}{s:aQ}{l b:aN}{xs ys zs:List V}
theorem Inv.Vx{its': List aD}{f:Array aD->Array aD}(I:Inv X pins σ H s)(hH:H l=some (.lst xs))
  (e:s.heap.get? l=some { cls:=.type "list",data:=.seq its.toArray n })(hf:f its.toArray=its'.toArray)(hv:dZ ys its')(hz:ys.length<=sizeLine):
  Inv X pins σ (upd H l (.lst ys)) { s with heap:=s.heap.update l (xg f),toks:=t' }:=by
 have q:=PySem.IsL.update e f;rw[hf]at q;refine I.write (x:=l) (e:=l) (by rw[hH];exact trivial) (.inl rfl) (λb' u hb hu=>(df s.heap (xg f) (bU hb)).trans hu) ⟨_,q⟩ ?_
 exact⟨hz,its',_,hv,q⟩
theorem Inv.Z5(I:Inv X pins σ H s)(hv:dZ ys its)(hz:ys.length<=sizeLine):
  Inv X pins σ (upd H s.heap.objs.size (.lst ys)) { s with heap:=s.heap.push { cls:=.type "list",data:=.seq its.toArray },toks:=t' }:=
 I.laid (λ_ _ q=>aE _ q) (aA _) ⟨hz,its,0,hv,bQ _ rfl⟩
theorem Inv.fresh(I:Inv X pins σ H s):H s.heap.objs.size=none:=I.hok.fresh (aA _)
theorem Inv.Vy(I:Inv X pins σ H s)(hH:H l=some (.lst xs)):xs.length<=sizeLine/\∃(its:List aD)(n:Nat),dZ xs its/\xs.length=its.length/\s.heap.get? l=some { cls:=.type "list",data:=.seq its.toArray n }:=by
 obtain⟨z,its,n,r,e⟩:=I.hok l _ hH;exact⟨z,its,n,r,r.length,e⟩
end
section
variable{X:Cx}
def Oz:V->List V->Hp->VK->Prop:=λx vs H Q=>∃l xs y,x=.ref l/\vs=[y]/\H l=some (.lst xs)/\xs.length<sizeLine/\Q .non (upd H l (.lst (xs ++ [y])))
theorem t_:Up X "list.append" Oz:=by
 intro pins s σ H x vs v us Q I rx rv h;obtain⟨l,xs,y,rfl,rfl,hH,hz,q⟩:=h;cases rx;obtain⟨u,rfl,ru⟩:=rv.one;obtain⟨z,its,n,r,hl,e⟩:=I.Vy hH;refine kU F.slot_list_append ⟨_,e,rfl⟩ F.entry_list_append (F.args_list_append_2 _ _) (PySem.list_append l its.toArray n u (by rw[bj];omega)) ⟨e,?_⟩
 refine⟨.non,_,I.Vx (its':=its ++ [u]) hH e (by simp) (r.append (.cons ru .nil)) ?_,rfl,q⟩
 rw[a8,jZ];omega
theorem len_rep{α:Type}(xs:List α)(k:Nat):(bu k xs).flatten.length=k*xs.length:=by
 induction k with
 |zero=>simp
 |succ k ih=>rw[eC,gi,a8,ih,FG,Nat.add_comm]
end
section
variable{prog:bM}{w:cy}{A:ej}{E:aD->aQ->Prop}{s:aQ}
end
section
variable{X:Cx}
end
end L2
namespace Att
open PySem PySem.W PySem.Calls PyProof.Rows
variable{h:dq}{l:OpenLaw}{P:Ci}
theorem yD:∀(ns:List Int)(vs:List aD),WellAll P h vs (ns.map WData.int)->AY vs ns:=by
 intro ns
 induction ns with
 |nil=>
  intro vs w;rw[iA]at w;cases w;exact .nil
 |cons n ns ih=>
  intro vs w;rw[aR]at w;cases w with
  |cons a b=>
   cases a;exact .cons _ _ (ih _ b)
theorem JS{n:Nat}(hn:l.most=some n){args:List WData}{vals:List aD}
  (CJ:l.row.toRowW.claim.pre args=true)(Sj:WellAll P h vals args):
  ∃a vs ns,vals=[bA a]/\args=[WData.list (ns.map WData.int)]/\h.get? a=some { cls:=.type "list",data:=.seq vs.toArray }/\AY vs ns/\ns.length<=n:=by
 have hsh:WShape.hasAll [] args [.list .int]=true:=(pre_splitW CJ).1;have hc:l.pre.holds [] { args:=args }=true:=(pre_splitW CJ).2;obtain⟨d,r,rfl,h1,h2⟩:=hasAllW_cons hsh;obtain rfl:=hasAllW_nil h2;obtain⟨xs,rfl,h3⟩:=hasW_list h1;obtain⟨ns,rfl⟩:=items_int h3;have hlen:ns.length<=n:=by
  unfold OpenLaw.pre at hc;have h4:(WTm.not (.lt (.lit (.int (n:Int))) (.len (.arg 0)))).holds [] { args:=[.list (ns.map .int)] }=true:=by
   have h4:=(holds_andW hc).1;rw[hn]at h4;exact h4
  have h5:=condW_of h4 (w_not (w_lt w_lit (w_len_list (w_arg rfl))));rw[aj]at h5;refine gN λq=>?_
  have q':(n:Int)<((ns.length:Nat):Int):=by omega
  first
   |(rw[decide_eq_true q']at h5;exact absurd h5 (by decide))
   |(simp at h5;omega)
 cases Sj with
 |cons w1 w2=>
  cases w2;cases w1 with
  |list ho yE=>exact⟨_,_,ns,rfl,rfl,ho,yD ns _ yE,hlen⟩
theorem JT(l:OpenLaw)(args:List WData):l.row.toRowW.claim.post args (.bool true) args=true:=
 postW_of (r:=l.row.toRowW) (X:=(true==true))
  (show WShape.has [] (.bool true) .bool=true by first|rfl|decide|simp[WShape.has,WShape.arms,WShape.armsAll])
  (show(WTm.eq .res (.lit (.bool true))).value [] { args:=args,res:=some (.bool true),after:=args }=some (.bool (true==true))from w_eq_bool (w_res rfl) w_lit) rfl
theorem D9{n:Nat}{q:bM}{loose:List Str}{XP:(Str->Option aD)->dq->Prop}{YP:cy->dq->Prop}{d:DefRec}
  (hn:l.most=some n)(Vz:d.params.defaults=[])
  (call:∀(w:cy)(s₀ s₁:aQ)(mg mb:Str->Option aD)(fa:aN)(o:Obj)(pm cd doc:aD)(a:aN)(vs:List aD)(ns:List Int),
   Ground q loose [] XP w s₀ mg mb s₁.heap->YP w s₁.heap->
   s₁.heap.get? fa=some o->o.data=.func (docDef d.name d.params d.body d.scope pm cd doc)->s₁.heap.CodeRec cd d.name->mg d.name=some (.ref fa)->
   s₁.heap.get? a=some { cls:=.type "list",data:=.seq vs.toArray }->AY vs ns->ns.length<=n->s₁.gens=#[]->
   codeAny (model l.prog w) callerA (.call (.ref fa) ⟨[.ref a],[]⟩) (λr s'=>r=.ok (.ret (.bool true))/\OldK s₁.heap s'.heap/\s'.os=s₁.os/\sf s'.gens) s₁) :
  WalkO q loose XP YP l.row.toRowW d [] (λf vs=>PySem.call f vs):=by
 intro w s₀ s₁ mg mb G Y fa o pm cd doc dV kV ho hd pT hD N4 hg args vals as CJ hlay hrd Sj hlo;obtain rfl:dV=.none:=Dflts.none hD Vz;obtain rfl:kV=.none:=Dflts.noKw hD;obtain⟨a,vs,ns,rfl,rfl,Sl,hints,hlen⟩:=JS hn CJ Sj;refine enter_call (lj (call w s₀ s₁ mg mb fa o pm cd doc a vs ns G Y ho (fd_plain hd) pT N4 Sl hints hlen hg) λr s' hq=>?_)
 obtain⟨rfl,h2,h3,h4⟩:=hq;exact⟨.inl ⟨.bool true,.bool true,[],rfl,λ_=>rfl,.bool true,JT l _,λ_=>⟨List.Pairwise.nil,λ_ hm=>(nomatch hm)⟩⟩,h2,h3,h4⟩
section
variable{prog:bM}{w:cy}{A:ej}{E:aD->aQ->Prop}{s:aQ}{K:Frag}
end
end Att
namespace L2
open PySem PySem.Spec PyProof.Rows
variable{a b f:aN}{X:Cx}{fd:fN}{h':dq}{H H':Hp}{pins:List (aN×Obj)}{xs:List (List Key×aN×aD)}{kvs:List (List Key×V)}{JV:List (TE×TE)}{ps:List Str}{o:Option V}{pos:Pos}{P:bM}{K:av}{s:aQ}{st:iH}{qual x:Str}{y:V}{u:aD}{Q:aD->aQ->Prop}{w:cy}
theorem Bw:∀{vs:List aD}{ns:List Int},AY vs ns->dZ (ns.map V.int) vs
 |_,_,.nil=>.nil
 |_,_,.cons n t h=>.cons ⟨t,rfl⟩ (Bw h)
def Only(H:Hp):Prop:=∀b,H b=none\/∃o xs,H b=some (.K7 o (.lst xs))
theorem LC{mg mb:Str->Option aD}{CX:JQ}{k:Nat}{fa: aN}{sp:Sp}{s₁:aQ}{vs:List aD}{ns:List Int}
  (KX:K.In s₁.heap)(F8:s₁.heap.Ns mainGlobals mg)(hb:s₁.heap.Ns builtinsNs mb)(Yu:∀x:Str,x≠"__name__"->mb x=bootBuiltins x)(Z6:s₁.heap.NoLimit)(hg:s₁.gens=#[])
  (ha:s₁.heap.get? a=some { cls:=.type "list",data:=.seq vs.toArray })(hi:AY vs ns)(hl:ns.length<=sizeLine)(hr:fZ k callerA)
  (F:∀base:dq,K.In base->base.Ns mainGlobals mg->eQ P w K mg base CX k fa fd [x] sp)(VB:∀(s:aQ)(u:aD),BindsTo s fd ⟨[u],[]⟩ [(x,u)])
  (yN:∀H:Hp,Only H->lW K H a (ns.map V.int)->sp [.ref a] H (λv _=>v=.bl true) λ_ _ _=>False)
  (Z7:∀H e s',CX [] H s₁ (λ_ _ _=>False) e s'->False):
  codeAny (model P w) callerA (.call (.ref fa) ⟨[.ref a],[]⟩) (λr s'=>r=.ok (.ret (.bool true))/\OldK s₁.heap s'.heap/\s'.os=s₁.os/\sf s'.gens) s₁:=by
 have rv:=Bw hi;have Z8:=hi.length;have core:∀H:Hp,Only H->lW K H a (ns.map V.int)->su P w H s₁.heap->(∀b,H b≠none->b=a)->(H a≠none->K.lookup a=none)->
   codeAny (model P w) callerA (.call (.ref fa) ⟨[.ref a],[]⟩) (λr s'=>r=.ok (.ret (.bool true))/\OldK s₁.heap s'.heap/\s'.os=s₁.os/\sf s'.gens) s₁:=by
  intro H hO hS hok hA hK;have Iu:∀{b:aN}{o:Obj},s₁.heap.get? b=some o->H b=none->(Cu s₁.heap H).get? b=some o:=λe n=>Lb e n
  have Vo:∀{b:aN}{o:Obj}{es:Array Cj}{ep:Nat},s₁.heap.get? b=some o->o.data=.dict es ep->H b=none:=λ{b o es ep}e d=>by
   cases q:H b with
   |none=>rfl
   |some u=>
    have e':b=a:=hA b (by rw[q];simp)
    subst e';rw[ha]at e;cases e;have d':Data.seq vs.toArray _=Data.dict es ep:=d;cases d'
  have Yv:∀{b:aN}{m:Str->Option aD},s₁.heap.Ns b m->(Cu s₁.heap H).Ns b m:=λ{b m}⟨o,es,ep,e,d,r⟩=>⟨o,es,ep,Iu e (Vo e d),d,r⟩
  have hKb:K.In (Cu s₁.heap H):=λb o e=>Iu (KX b o e) (by
   cases q:H b with
   |none=>rfl
   |some u=>
    have e':b=a:=hA b (by rw[q];simp)
    subst e';rw[hK (by rw[q];simp)]at e;cases e)
  have hM:Mod K mg (Cu s₁.heap H):=⟨hKb,Yv F8,⟨mb,Yv hb,Yu⟩,let⟨mc,h1,h2⟩:=Z6;⟨mc,Yv h1,h2⟩⟩;have e0:F2 P w K mg (Cu s₁.heap H) callerA [] s₁ H:=⟨rfl,hM,λb o e=>Od e,Nat.le_of_eq (JC _ _),trivial,λb hb=>absurd (show b∈([]:List aN)from hb) (by simp),hok,.of_eq hg⟩
  refine lj ((F _ hKb (Yv F8)).run callerA [] s₁ H ⟨[.ref a],[]⟩ [.ref a] [.ref a] _ _ hr e0 (VB s₁ (.ref a)) (.cons rfl .nil) (yN H hO hS)) λr s' h=>?_
  cases r with
  |error e=>exact(Z7 H e s' h).elim
  |ok fl=>
   cases fl with
   |next=>exact fh h
   |brk=>exact fh h
   |cont=>exact fh h
   |ret u=>
    obtain⟨v,H',os,bare,un,Z9,r',q⟩:=h;have q':v=.bl true:=q;subst q';obtain rfl:u=aD.bool true:=r';refine⟨rfl,OldK.of_keep λb o e=>?_,os,bare⟩
    cases q:H b with
    |none=>exact un.keep b o e q (by intro z;exact absurd (show b∈([]:List aN)from z) (by simp)) (by simp)
    |some u=>
     rcases hO b with z|⟨ob,xs,z⟩
     ·rw[q]at z;cases z
     ·have z2:=un.xj b ob _ z
      obtain⟨e1,_⟩:=hok b _ z;obtain⟨e2,_⟩:=Z9 b _ z2;rw[e]at e1;cases e1;exact e2
 cases hk:K.lookup a with
 |some o=>
  have e:=KX a o hk;rw[ha]at e;cases e;refine core (λ_=>none) (λ_=>.inl rfl) (.inr ⟨_,vs.toArray,_,hk,rfl,rfl,rfl,by rw[bj,Z8];exact hl,by simpa using rv⟩) (λb u z=>by have z':(none:Option HO)=some u:=z;cases z') (λb z=>absurd rfl z) λz=>absurd rfl z
 |none=>
  refine core (λb=>if b=a then some (.K7 { cls:=.type "list",data:=.seq vs.toArray } (.lst (ns.map V.int)))else none) (λb=>?_) (.inl (.inr ⟨{ cls:=.type "list",data:=.seq vs.toArray },if_pos rfl⟩)) (λb u z=>?_) (λb z=>?_) λ_=>hk
  ·by_cases hb:b=a
   ·exact .inr ⟨_,_,if_pos hb⟩
   ·exact .inl (if_neg hb)
  ·by_cases hb:b=a
   ·have z':=(if_pos hb).symm.trans z
    cases z';subst hb;exact⟨ha,by rw[aj];exact hl,vs,_,rv,ha⟩
   ·have z':=(if_neg hb).symm.trans z
    cases z'
  ·by_cases hb:b=a
   ·exact hb
   ·exact absurd (if_neg hb) z
theorem OB{l:PySem.W.OpenLaw}{n k:Nat}{q:bM}{loose:List Str}{XP:(Str->Option aD)->dq->Prop}{YP:cy->dq->Prop}{d:DefRec}{K:Ci->av}{CX:cy->JQ}{sp:cy->Sp}
  (hn:l.most=some n)(Lp:n<=sizeLine)(Vz:d.params.defaults=[])(hr:fZ k callerA)
  (hY:∀(w:cy)(h:dq),YP w h->(K w.params).In h)
  (F:∀(w:cy)(mg:Str->Option aD)(fa:aN)(h:dq),(K w.params).In h->h.Ns mainGlobals mg->mg d.name=some (.ref fa)->
   ∃fd:fN,(∀(s:aQ)(u:aD),BindsTo s fd ⟨[u],[]⟩ [(x,u)])/\
    ∀base:dq,(K w.params).In base->base.Ns mainGlobals mg->eQ l.prog w (K w.params) mg base (CX w) k fa fd [x] (sp w))
  (yN:∀(w:cy)(H:Hp)(a:aN)(ns:List Int),ns.length<=n->Only H->lW (K w.params) H a (ns.map V.int)->sp w [.ref a] H (λv _=>v=.bl true) λ_ _ _=>False)
  (Z7:∀(w:cy)(H:Hp)(s:aQ)(e:aD)(s':aQ),CX w [] H s (λ_ _ _=>False) e s'->False) :
  PySem.W.WalkO q loose XP YP l.row.toRowW d [] (λf vs=>PySem.call f vs):=by
 refine Att.D9 hn Vz λw s₀ s₁ mg mb fa o pm cd doc a vs ns G Y ho hd pT N4 Sl hints hlen hg=>?_
 have KX:=hY w _ Y;obtain⟨fd,hb,hF⟩:=F w mg fa _ KX G.T.g N4;exact LC KX G.T.g G.T.b G.T.builtins G.T.nolimit hg Sl hints (b9 hlen Lp) hr hF hb (λH hO hS=>yN w H a ns hlen hO hS) λH e s'=>Z7 w H s₁ e s'
def inClass(s:iH)(j:Nat):iH:=match s with
 | .ClassDef _ _ _ body _ _ _ _ _ _ _=>body.getD j (.Pass ⟨0,0,0,0⟩)
 |_=>.Pass ⟨0,0,0,0⟩
def pC(s:iH):Arguments:=match s with
 | .FunctionDef _ a _ _ _ _ _ _ _ _=>a
 |_=>{ posonlyargs:=[],args:=[],vararg:=none,kwonlyargs:=[],kw_defaults:=[],kwarg:=none,defaults:=[] }
def ik(s:iH):List iH:=match s with
 | .FunctionDef _ _ b _ _ _ _ _ _ _=>b
 |_=>[]
def bJ(s:iH):lS:=match s with
 | .FunctionDef _ _ _ _ _ _ sc _ _ _=>sc
 |_=>{ kind:=.function,names:=[],isGenerator:=false,isCoroutine:=false }
abbrev jE:JQ:=λ_ _ _ _ _ _=>False
abbrev E0:XK:=λ_ _ _=>False
theorem Bx:u6 jE X E0:=λ_ _ _ _ _ _ _ h=>h.elim
structure kM(K:av)(x qual:Str)(st:iH)(f:aN)(fd:fN):Prop where
 ex:∃(oc:aD)(od:Option aN)(kV doc pm:aD)(an:Option aN)(gy ct:aD)(F4:Array (Option aD)),
  fd=iT x qual (pC st) (ik st) (bJ st) .none kV doc pm an gy ct/\K.lookup f=some ⟨oc,od,.func fd,F4⟩/\lA K gy qual=true
 kp:eA K (.ref f)=true
section
variable{P:bM}{w:cy}{K:av}{mg:Str->Option aD}{base:dq}
theorem kM.ok{N: List Str}{k:Nat}{sp:Sp}(F:kM K x qual st f fd)(S:cG N ps (bJ st))(len:∀vs H Q E,sp vs H Q E->vs.length=ps.length)
  (Lx:∀(gy:aD)(A:ej)(outer:List Env)(s:aQ)(H:Hp)(vs:List V)(Q:VK)(E:XK),fZ k (A.deeper (envOfC qual (bJ st) s.heap.objs.size f gy))->sp vs H Q E->
   ∃t,Ie (sP jE P w K mg base N qual (bJ st) f gy A outer s H E).Ig (ik st) t/\t { nx:=λ_ H'=>Q .non H',rt:=Q } (start N vs) H):eQ P w K mg base jE (k+1) f fd ps sp:=by
 obtain⟨oc,od,kV,doc,pm,an,gy,ct,F4,rfl,lk,pT⟩:=F.ex;refine Lw lk pT S len λA outer s H vs Q E hr yN=>?_
 obtain⟨t,h,q⟩:=Lx gy A outer s H vs Q E hr yN;exact⟨t,h.Ig,q⟩
theorem kM.binds(F:kM K x qual st f fd)
  (h:∀(kV doc pm:aD)(an:Option aN)(gy ct:aD)(us:List aD),us.length=ps.length->bindArgs (iT x qual (pC st) (ik st) (bJ st) .none kV doc pm an gy ct) ⟨us,[]⟩=pure (ps.zip us)):Binds K fd ps []:=by
 obtain⟨oc,od,kV,doc,pm,an,gy,ct,F4,rfl,lk,pT⟩:=F.ex;exact .all (h kV doc pm an gy ct)
theorem F9{oc:aD}{od an:Option aN}{F4:Array (Option aD)}{kV doc pm gy ct:aD}(l:K.lookup f=some ⟨oc,od,.func (iT x qual (pC st) (ik st) (bJ st) .none kV doc pm an gy ct),F4⟩)
  (c:lA K gy qual=true)(k:eA K (.ref f)=true):kM K x qual st f (iT x qual (pC st) (ik st) (bJ st) .none kV doc pm an gy ct):=⟨⟨oc,od,kV,doc,pm,an,gy,ct,F4,rfl,l,c⟩,k⟩
end
section
variable{X:Cx}
theorem pv(i:Nat)(hN:X.N[i]?=some x:=by rfl)(hv:D0 X.env.scope x:=by first|exact aV rfl|exact cX (aV rfl)|exact cX (cX rfl))(hd:(x==("__debug__":Str))=false:=by decide)
  (pT:(x==("__classdict__":Str))=false:=by decide):PE X (.Name x pos) (U1 i):=gO hN hv hd pT
end
theorem A6{A B:Prop}(h:B):if false=true then A else B:=by
 rw[if_neg bP];exact h
theorem Sn{A B:Prop}(h:A):if true=true then A else B:=by
 rw[if_pos rfl];exact h
def er(H H':Hp):Prop:=∀b o,H b=some o->H' b=some o
theorem er.refl(H:Hp):er H H:=λ_ _ h=>h
theorem er.trans{H1 H2: Hp}(a:er H H1)(b:er H1 H2):er H H2:=λc o h=>b c o (a c o h)
theorem er.free(e:er H H'){l:aN}(h:H' l=Option.none):H l=Option.none:=by
 cases q:H l with
 |none=>rfl
 |some o=>
  rw[e l o q]at h;cases h
theorem er.seq{xs:List V}(e:er H H')(h:lW K H a xs):lW K H' a xs:=by
 rcases h with(h|⟨o,h⟩)|h
 ·exact .inl (.inl (e _ _ h))
 ·exact .inl (.inr ⟨o,e _ _ h⟩)
 ·exact .inr h
section
variable{κ:Type}[DecidableEq κ]
def jQ(kvs:List (κ×V))(k:κ):Option V:=(kvs.find? λkv=>decide (kv.1=k)).map (·.2)
def putK(kvs:List (κ×V))(k:κ)(v:V):List (κ×V):=
 if(kvs.any λkv=>decide (kv.1=k))=true then kvs.map (λkv=>if kv.1=k then(kv.1,v)else kv)else kvs ++ [(k,v)]
theorem qe{p:κ×V}{r:List (κ×V)}{k:κ}(e:p.1=k):jQ (p::r) k=some p.2:=by simp[jQ,ft,e]
theorem mY{p:κ×V}{r:List (κ×V)}{k:κ}(e:¬p.1=k):jQ (p::r) k=jQ r k:=by simp[jQ,ft,e]
theorem zy(k:κ):∀kvs:List (κ×V),(kvs.any λkv=>decide (kv.1=k))=(jQ kvs k).isSome
 | []=>rfl
 |p::r=>by
  rw[vM];by_cases e:p.1=k
  ·simp only[qe e,decide_eq_true e,Bool.true_or,Option.isSome_some]
  ·rw[mY e,decide_eq_false e,qD];exact zy k r
theorem pD(kvs:List (κ×V))(k:κ)(v:V):(putK kvs k v).length<=kvs.length+1:=by
 unfold putK
 split
 ·rw[aj];omega
 ·rw[a8,bh,cv];omega
theorem vX{kvs:List (κ×V)}{k:κ}(v:V)(h:jQ kvs k=none):putK kvs k v=kvs ++ [(k,v)]:=by
 unfold putK;rw[zy,h];exact if_neg (by decide)
theorem oB.qf{u:Option aD}(r:oB o u):o.isSome=u.isSome:=by
 cases o with
 |none=>cases u with
  |none=>rfl
  |some _=>exact(show False from r).elim
 |some _=>cases u with
  |none=>exact(show False from r).elim
  |some _=>rfl
theorem oB.getD{u:Option aD}{d:V}{d':aD}(r:oB o u)(rd:RelV d d'):RelV (o.getD d) (u.getD d'):=by
 cases o with
 |none=>cases u with
  |none=>exact rd
  |some _=>exact(show False from r).elim
 |some _=>cases u with
  |none=>exact(show False from r).elim
  |some _=>exact r
theorem KV.val{kvs:List (κ×V)}{vs:List (κ×aD)}(r:KV kvs vs)(k:κ):oB (jQ kvs k) (valueAt vs k):=by
 unfold KV at r
 induction r with
 |nil=>exact eX
 | @cons p q ps qs h t ih=>
  obtain⟨h1,h2⟩:=h;by_cases e:p.1=k
  ·have e':q.1=k:=h1.symm.trans e
   have b:valueAt (q::qs) k=some q.2:=by simp[valueAt,ft,e']
   rw[qe e,b];exact h2
  ·have e':¬q.1=k:=λz=>e (h1.trans z)
   have b:valueAt (q::qs) k=valueAt qs k:=by simp[valueAt,ft,e']
   rw[mY e,b];exact ih
theorem KV.any{kvs:List (κ×V)}{vs:List (κ×aD)}(r:KV kvs vs)(k:κ):(kvs.any λkv=>decide (kv.1=k))=vs.any λkv=>decide (kv.1=k):=by
 unfold KV at r
 induction r with
 |nil=>rfl
 |cons h t ih=>rw[vM,vM,ih,h.1]
theorem KV.repl{kvs:List (κ×V)}{vs:List (κ×aD)}(r:KV kvs vs)(k:κ)(ry:RelV y u):
  KV (kvs.map λkv=>if kv.1=k then(kv.1,y)else kv) (vs.map λkv=>if kv.1=k then(kv.1,u)else kv):=by
 unfold KV at r ⊢
 induction r with
 |nil=>exact .nil
 | @cons p q ps qs h t ih=>
  rw[aR,aR];refine .cons ?_ ih
  obtain⟨h1,h2⟩:=h;by_cases e:p.1=k
  ·rw[if_pos e,if_pos (h1.symm.trans e)];exact⟨h1,ry⟩
  ·rw[if_neg e,if_neg (λz=>e (h1.trans z))];exact⟨h1,h2⟩
theorem KV.put{kvs:List (κ×V)}{vs:List (κ×aD)}(r:KV kvs vs)(k:κ)(ry:RelV y u):KV (putK kvs k y) (stored vs k u):=by
 unfold putK stored;rw[r.any k];by_cases e:(vs.any λkv=>decide (kv.1=k))=true
 ·rw[if_pos e,if_pos e];exact r.repl k ry
 ·rw[if_neg e,if_neg e];exact FD.snoc r ⟨rfl,ry⟩
theorem KV.length{kvs:List (κ×V)}{vs:List (κ×aD)}(r:KV kvs vs):kvs.length=vs.length:=uU r
end
theorem uG{k:Key}(r:RelV (kV k) u):(fE P w).is k u=true:=by
 cases k with
 |inl i=>obtain⟨t,e⟩:=(show ∃t,u=DM i t from r);subst e;exact DZ P w i t
 |inr x=>obtain⟨t,e⟩:=(show ∃t,u=DN x t from r);subst e;exact sL P w x t
theorem By:∀{ks:List Key}{us:List aD},dZ (ks.map kV) us->ItemsAre (fE P w) ks us
 | [],_,r=>by rw[iA]at r;cases r;exact .nil
 |k::ks,_,r=>by
  rw[aR]at r;cases r with
  |cons h t=>exact .cons (uG h) (By t)
abbrev KT(H:Hp):List (List Key×V)->List (List Key×aN×aD)->Prop:=FD λp q=>p.1=q.1/\H q.2.1=some (.tup (p.1.map kV))/\RelV p.2 q.2.2
theorem KT.val(r:KT H kvs xs)(k:List Key):oB (jQ kvs k) ((atKey xs k).map (·.2)):=by
 induction r with
 |nil=>exact eX
 | @cons p q ps qs h t ih=>
  obtain⟨h1,_,h2⟩:=h;by_cases e:p.1=k
  ·have e':q.1=k:=h1.symm.trans e
   have b:atKey (q::qs) k=some q.2:=by simp[atKey,ft,e']
   rw[qe e,b];exact h2
  ·have e':¬q.1=k:=λz=>e (h1.trans z)
   have b:atKey (q::qs) k=atKey qs k:=by simp[atKey,ft,e']
   rw[mY e,b];exact ih
theorem KT.repl(r:KT H kvs xs)(k:List Key)(ry:RelV y u):
  KT H (kvs.map λkv=>if kv.1=k then(kv.1,y)else kv) (xs.map (putAt k u)):=by
 induction r with
 |nil=>exact .nil
 | @cons p q ps qs h t ih=>
  rw[aR,aR];refine .cons ?_ ih
  obtain⟨h1,h2,h3⟩:=h;unfold putAt;by_cases e:p.1=k
  ·rw[if_pos e,if_pos (h1.symm.trans e)];exact⟨h1,h2,ry⟩
  ·rw[if_neg e,if_neg (λz=>e (h1.trans z))];exact⟨h1,h2,h3⟩
theorem KT.put(r:KT H kvs xs)(k:List Key)(hb:H b=some (.tup (k.map kV)))(ry:RelV y u):
  KT H (putK kvs k y) (storedH xs k b u):=by
 have e:(kvs.any λkv=>decide (kv.1=k))=(atKey xs k).isSome:=by
  rw[zy,(r.val k).qf,wR]
 unfold putK storedH;rw[e];by_cases q:(atKey xs k).isSome=true
 ·rw[if_pos q,if_pos q];exact r.repl k ry
 ·rw[if_neg q,if_neg q];exact FD.snoc r ⟨rfl,hb,ry⟩
theorem KT.keeps(r:KT H kvs xs)(ht:∀b ys,H b=some (.tup ys)->H' b=some (.tup ys)):KT H' kvs xs:=
 FD.RD r λ_ _ z=>⟨z.1,ht _ _ z.2.1,z.2.2⟩
section
variable{P:bM}{w:cy}{H:Hp}{h:dq}{a:aN}
theorem QL{u:HO}(ok:su P w H h)(e:Rd H a u):hZ P w H h a u:=e.ok ok
theorem zz{kvs:List (Key×V)}(ok:su P w H h)(e:Rd H a (.dK kvs)):kvs.length<=sizeLine/\(a==sysModules)=false/\∃vs,KV kvs vs/\h.DictOf (fE P w) a vs:=
 show hZ P w H h a (.dK kvs)from QL ok e
theorem Iv{kvs:List (Key×V)}(ok:su P w H h)(e:H a=some (.dK kvs)):kvs.length<=sizeLine/\(a==sysModules)=false/\∃vs,KV kvs vs/\h.DictOf (fE P w) a vs:=zz ok (.inl e)
theorem xt{ks:List Key}(ok:su P w H h)(e:H a=some (.tup (ks.map kV))):(tupleKind (fE P w)).is h ks a:=by
 obtain⟨_,its,r,o,h1,h2,n,h3⟩:=(show hZ P w H h a (.tup (ks.map kV))from ok a _ e)
 exact⟨o,its.toArray,n,h1,h2,h3,by simpa using By r⟩
theorem zA(ok:su P w H h)(e:Rd H a (.dT kvs)):kvs.length<=sizeLine/\(a==sysModules)=false/\
  ∃xs,KT H kvs xs/\h.DictOfH (tupleKind (fE P w)) a xs:=by
 obtain⟨z,y,xs,r,o,es,ep,h1,h2,h3,h4,h5⟩:=(show hZ P w H h a (.dT kvs)from QL ok e)
 refine⟨z,y,xs,r,o,es,ep,h1,h2,h3,h4,λx hx=>?_,h5⟩
 have all:∀{l:List (List Key×V)}{m:List (List Key×aN×aD)},KT H l m->∀x∈m,(tupleKind (fE P w)).is h x.1 x.2.1:=by
  intro l m q
  induction q with
  |nil=>intro x hx;exact nomatch hx
  | @cons p q ps qs hq t ih=>
   intro x hx;rcases aJ.mp hx with e|hx
   ·subst e
    exact xt ok (by rw[<-hq.1];exact hq.2.1)
   ·exact ih x hx
 exact all r x hx
theorem VC(ok:su P w H h)(e:H a=some (.dT kvs)):kvs.length<=sizeLine/\(a==sysModules)=false/\
  ∃xs,KT H kvs xs/\h.DictOfH (tupleKind (fE P w)) a xs:=zA ok (.inl e)
end
def sR(H:Hp)(a:aN)(y:V)(r:Option V):Prop:=
 (∃kvs k,Rd H a (.dK kvs)/\y=kV k/\r=jQ kvs k)\/∃kvs k b,Rd H a (.dT kvs)/\y=.ref b/\H b=some (.tup (k.map kV))/\r=jQ kvs k
def D_(H:Hp)(a:aN)(y v:V)(H':Hp):Prop:=
 (∃kvs k,H a=some (.dK kvs)/\y=kV k/\kvs.length<sizeLine/\H'=upd H a (.dK (putK kvs k v)))\/
 ∃kvs k b,H a=some (.dT kvs)/\y=.ref b/\H b=some (.tup (k.map kV))/\kvs.length<sizeLine/\H'=upd H a (.dT (putK kvs k v))
theorem sR.k{kvs:List (Key×V)}{k:Key}(e:H a=some (.dK kvs)):sR H a (kV k) (jQ kvs k):=.inl ⟨kvs,k,.inl e,rfl,rfl⟩
theorem sR.t{k:List Key}(e:H a=some (.dT kvs))(eb:H b=some (.tup (k.map kV))):sR H a (.ref b) (jQ kvs k):=.inr ⟨kvs,k,b,.inl e,rfl,eb,rfl⟩
theorem D_.k{kvs:List (Key×V)}{k:Key}{v:V}(e:H a=some (.dK kvs))(hl:kvs.length<sizeLine):D_ H a (kV k) v (upd H a (.dK (putK kvs k v))):=.inl ⟨kvs,k,e,rfl,hl,rfl⟩
theorem D_.t{k:List Key}{v:V}(e:H a=some (.dT kvs))(eb:H b=some (.tup (k.map kV)))(hl:kvs.length<sizeLine):
  D_ H a (.ref b) v (upd H a (.dT (putK kvs k v))):=.inr ⟨kvs,k,b,e,rfl,eb,hl,rfl⟩
section
variable{X:Cx}{pins:List (aN×Obj)}{σ:St}{H:Hp}{s:aQ}{a:aN}{y v:V}{u r:aD}{o:Option V}{A:ej}{E:aD->aQ->Prop}
theorem Inv.big(I:Inv X pins σ H s):sysModules<s.heap.objs.size:=by
 have h:mainGlobals<s.heap.objs.size:=(I.mod.glob.keeps I.bk).lt;exact Nat.lt_trans (by decide) h
theorem JW(hu:A.units+1<cLine)(I:Inv X pins σ H s)(g:sR H a y (some v))(ry:RelV y u)(h:∀w' s',Inv X pins σ H s'->RelV v w'->Q w' s'):
  wpAny (model X.prog X.w) A (getItem (.ref a) u) Q E s:=by
 rcases g with⟨kvs,k,e,ey,l⟩|⟨kvs,k,b,e,ey,eb,l⟩
 ·subst ey
  obtain⟨z,hd,vs,rel,dd⟩:=zz I.hok e;obtain⟨w',hw,rY⟩:=oB.some_of (v:=v) (o:=valueAt vs k) (by rw[l];exact rel.val k)
  exact wpAny_getItem_of (uG ry) dd.mapOf hw (h w' _ (I.tok _) rY)
 ·subst ey
  cases(show u=bA b from ry)
  obtain⟨z,hd,xs,rel,dd⟩:=zA I.hok e;obtain⟨w',hw,rY⟩:=oB.some_of (v:=v) (o:=(atKey xs k).map (·.2)) (by rw[l];exact rel.val k)
  obtain⟨p,hp,hp2⟩:=DQ.mp hw;refine wpAny_getItem_heap (mv hu) (xt I.hok eb) dd hp ?_
  rw[hp2];exact h w' _ (I.tok _) rY
theorem Z_(hu:A.units+1<cLine)(I:Inv X pins σ H s)(g:sR H a y o)(ry:RelV y u)(h:∀s',Inv X pins σ H s'->Q (.bool o.isSome) s'):
  wpAny (model X.prog X.w) A (compareOp .In u (.ref a)) Q E s:=by
 rcases g with⟨kvs,k,e,ey,l⟩|⟨kvs,k,b,e,ey,eb,l⟩
 ·subst ey
  obtain⟨z,hd,vs,rel,dd⟩:=zz I.hok e;refine wpAny_in_of (uG ry) hd dd.mapOf ?_
  rw[<-(rel.val k).qf,<-l];exact h _ (I.tok _)
 ·subst ey
  cases(show u=bA b from ry)
  obtain⟨z,hd,xs,rel,dd⟩:=zA I.hok e;refine wpAny_in_heap (mv hu) (xt I.hok eb) hd dd ?_
  have q:=(rel.val k).qf;rw[wR]at q;rw[<-q,<-l];exact h _ (I.tok _)
theorem OD(hu:A.units+1<cLine)(I:Inv X pins σ H s)(g:sR H a y o)(ry:RelV y u)(h:∀s',Inv X pins σ H s'->Q (.bool (!o.isSome)) s'):
  wpAny (model X.prog X.w) A (compareOp .NotIn u (.ref a)) Q E s:=by
 rcases g with⟨kvs,k,e,ey,l⟩|⟨kvs,k,b,e,ey,eb,l⟩
 ·subst ey
  obtain⟨z,hd,vs,rel,dd⟩:=zz I.hok e;refine wpAny_notIn_of (uG ry) hd dd.mapOf ?_
  rw[<-(rel.val k).qf,<-l];exact h _ (I.tok _)
 ·subst ey
  cases(show u=bA b from ry)
  obtain⟨z,hd,xs,rel,dd⟩:=zA I.hok e;refine wpAny_notIn_heap (mv hu) (xt I.hok eb) hd dd ?_
  have q:=(rel.val k).qf;rw[wR]at q;rw[<-q,<-l];exact h _ (I.tok _)
theorem yP{t':Nat}{ob:HO}(I:Inv X pins σ H s)(mu:UX (H a))(hs:kI a s.heap h')(he:∃q,h'.get? a=some q)(new:hZ X.prog X.w (upd H a ob) h' a ob):
  Inv X pins σ (upd H a ob) { s with heap:=h',toks:=t' }:=
 I.write (x:=a) (e:=a) mu (.inl rfl) (λb q hb z=>(hs.2 b hb).trans z) he new
theorem Gb{kvs:List (Key×V)}{vs:List (Key×aD)}(z:kvs.length<=sizeLine)(hd:(a==sysModules)=false)(rel:KV kvs vs)(dd:h'.DictOf (fE P w) a vs):
  hZ P w H' h' a (.dK kvs):=⟨z,hd,vs,rel,dd⟩
theorem JX{Q:Unit->aQ->Prop}(hu:A.units+1<cLine)(I:Inv X pins σ H s)(g:D_ H a y v H')(ry:RelV y u)(rv:RelV v r)(h:∀s',Inv X pins σ H' s'->Q () s'):
  wpAny (model X.prog X.w) A (setItem (.ref a) u r) Q E s:=by
 rcases g with⟨kvs,k,e,ey,l,eH⟩|⟨kvs,k,b,e,ey,eb,l,eH⟩
 ·subst ey eH
  obtain⟨z,hd,vs,rel,dd⟩:=Iv I.hok e;have hz:vs.length<=sizeLine:=by rw[<-rel.length];exact z
  have hl:(putK kvs k v).length<=sizeLine:=by have:=pD kvs k v;omega
  refine wpAny_setItem_pairs (hsz:=hz) (uG ry) dd λh' Gc hs=>h _ ?_
  have he:∃q,h'.get? a=some q:=let⟨q,_,_,hq,_⟩:=Gc;⟨q,hq⟩;exact yP I (by rw[e];exact eX) hs he (Gb hl hd (rel.put k rv) Gc)
 ·subst ey eH
  cases(show u=bA b from ry)
  obtain⟨z,hd,xs,rel,dd⟩:=VC I.hok e;have hz:xs.length<=sizeLine:=by rw[<-uU rel];exact z
  have hl:(putK kvs k v).length<=sizeLine:=by have:=pD kvs k v;omega
  refine wpAny_setItem_heap (hsz:=hz) (mv hu) (xt I.hok eb) dd λh' Gc hs=>h _ ?_
  obtain⟨q,es,ep,hq,h2,h3,h4,_,h5⟩:=Gc;refine yP I (by rw[e];exact eX) hs ⟨q,hq⟩ ⟨hl,hd,_,(rel.put k eb rv).keeps λc ys ec=>?_,q,es,ep,hq,h2,h3,h4,h5⟩
  rw[aT (UW ec e (λz=>nomatch z))]
  exact ec
end
section
variable{X:Cx}{pins:List (aN×Obj)}{σ:St}{H:Hp}{s:aQ}{a:aN}{kvs:List (Key×V)}{k:Key}{u:aD}{A:ej}{E:aD->aQ->Prop}
end
def OG(i:cw):Prop:=∀ov iv,subscripted i false ov iv=operate [ov,iv] (getItem ov iv)
theorem Iw{prog:bM}{A:ej}{E:aD->aQ->Prop}{env:Env}{value slice:cw}{T id:String}
  (hl:typeLookup (.type T) "__getitem__"=pure (some (.builtin id)))(hs:OG slice)
  (h:wpAny (model prog w) A (eval value env) (λo s₁=>wpAny (model prog w) A (eval slice env) (λi s₂=>s₂.TypeIs o T/\wpAny (model prog w) A (getItem o i) Q E s₂) E s₁) E s):
  wpAny (model prog w) A (eval (.Subscript value slice pos) env) Q E s:=by
 refine Subscript_ (eT h (λo s₁ h₁=>eT h₁ (λi s₂ h₂=>?_) λ_ _ x=>x) λ_ _ x=>x)
 obtain⟨hT,h₂⟩:=h₂;unfold subscriptTail;refine au ?_
 rw[getitemInPython_of_ne hT.not_modules];refine au (wpAny_specialOf hT hl ?_)
 have fin:wpAny (model prog w) A (subscripted slice false o i) (λr s₃=>wpAny (model prog w) A (letTemporaryGo value o r >>= λ_=>pure r) Q E s₃) E s₂:=by
  rw[hs o i];exact wpAny_operating (eT h₂ (λr s₃ h₃=>au (wpAny_letTemporaryGo (aZ h₃))) λ_ _ x=>x)
 first
  |exact aZ (au fin)
  |exact au (aZ (au fin))
  |exact au fin
theorem Ea{σ:St}(I:Inv X pins σ H s)(g:sR H a y o):s.TypeIs (.ref a) "dict":=by
 rcases g with⟨kvs,k,e,_,_⟩|⟨kvs,k,b,e,_,_,_⟩
 ·obtain⟨_,_,vs,_,dd⟩:=zz I.hok e
  exact dd.typeIs
 ·obtain⟨_,_,xs,_,dd⟩:=zA I.hok e
  exact dd.typeIs
def VD(td ty:TE):TE:=λσ H Q=>td σ H λx H1=>ty σ H1 λy H2=>∃a v,x=.ref a/\sR H2 a y (some v)/\Q v H2
def Z'(ty td:TE):TE:=λσ H Q=>ty σ H λy H1=>td σ H1 λx H2=>∃a o,x=.ref a/\sR H2 a y o/\Q (.bl o.isSome) H2
def OI(ty td:TE):TE:=λσ H Q=>ty σ H λy H1=>td σ H1 λx H2=>∃a o,x=.ref a/\sR H2 a y o/\Q (.bl (!o.isSome)) H2
def VF(td ty tv:TE):TS:=λD σ H=>tv σ H λv H1=>td σ H1 λx H2=>ty σ H2 λy H3=>∃a H4,x=.ref a/\D_ H3 a y v H4/\D.nx σ H4
section
variable{X:Cx}{o i e value:cw}{pos pos' ZY:Pos}{td ty tv:TE}
theorem OJ(hu:X.A.units+1<cLine)(ho:PE X o td)(hi:PE X i ty)(hs:OG i):PE X (.Subscript o i pos) (VD td ty):=by
 intro pins s σ H Q I h;refine Iw AA.lookup hs (gj (ho pins s σ H _ I h) λu s1 ⟨x,H1,I1,rx,q1⟩=>gj (hi pins s1 σ H1 _ I1 q1) λiv s2 ⟨y,H2,I2,ry,a,v,ex,g,q2⟩=>?_)
 subst ex;obtain rfl:u=bA a:=rx;exact⟨Ea I2 g,JW hu I2 g ry λw' s3 I3 rY=>⟨v,H2,I3,rY,q2⟩⟩
theorem LD(hu:X.A.units+1<cLine)(hi:PE X i ty)(ho:PE X o td):PC X .In i o (Z' ty td):=by
 intro pins s σ H Q I h;refine gj (hi pins s σ H _ I h) λiv s1 ⟨y,H1,I1,ry,q1⟩=>gj (ho pins s1 σ H1 _ I1 q1) λu s2 ⟨x,H2,I2,rx,a,ov,ex,g,q2⟩=>?_
 subst ex;obtain rfl:u=bA a:=rx;exact Z_ hu I2 g ry λs3 I3=>⟨.bl ov.isSome,H2,I3,rfl,q2⟩
theorem JY(hu:X.A.units+1<cLine)(hi:PE X i ty)(ho:PE X o td):PC X .NotIn i o (OI ty td):=by
 intro pins s σ H Q I h;refine gj (hi pins s σ H _ I h) λiv s1 ⟨y,H1,I1,ry,q1⟩=>gj (ho pins s1 σ H1 _ I1 q1) λu s2 ⟨x,H2,I2,rx,a,ov,ex,g,q2⟩=>?_
 subst ex;obtain rfl:u=bA a:=rx;exact OD hu I2 g ry λs3 I3=>⟨.bl (!ov.isSome),H2,I3,rfl,q2⟩
theorem Iy(hu:X.A.units+1<cLine)(ho:PE X o td)(hi:PE X i ty)(hv:PE X value tv)(hs:swapsWith value (some (.Subscript o i pos')) pos.line X.env=pure false):
  PS X (.Assign [.Subscript o i pos'] value pos) (VF td ty tv):=by
 intro pins s σ H D I h;refine wpAny_Assign_Subscript (gj (hv pins s σ H _ I h) λr s1 ⟨v,H1,I1,rv,q1⟩=>gj (ho pins s1 σ H1 _ I1 q1) λu s2 ⟨x,H2,I2,rx,q2⟩=>gj (hi pins s2 σ H2 _ I2 q2) λiv s3 ⟨y,H3,I3,ry,a,H4,ex,g,q3⟩=>?_) hs
 subst ex;obtain rfl:u=bA a:=rx;exact JX hu I3 g ry rv λs4 I4=>⟨σ,H4,I4,q3⟩
end
theorem Eb(h:dq)(hb:sysModules<h.objs.size):hZ P w H (h.push { cls:=.type "dict",data:=.dict #[] }) h.objs.size (.dK []):=
 ⟨bK _,beq_eq_false_iff_ne.mpr (bU (bB hb)),[],.nil,dq.DictOf.new h⟩
theorem LJ(h:dq)(hb:sysModules<h.objs.size):hZ P w H (h.push { cls:=.type "dict",data:=.dict #[] }) h.objs.size (.dT []):=
 ⟨bK _,beq_eq_false_iff_ne.mpr (bU (bB hb)),[],.nil,_,#[],0,bQ _ rfl,⟨rfl,rfl,rfl⟩,rfl,rfl,Bh⟩
def Sq:TE:=λ_ H Q=>∀p,H p=none->Q (.ref p) (upd H p (.dK []))
def Sr:TE:=λ_ H Q=>∀p,H p=none->Q (.ref p) (upd H p (.dT []))
section
variable{X:Cx}{pos:Pos}
theorem vY:PE X (.Dict [] [] pos) Sq:=λpins s σ H Q I h=>
 wpAny_Dict_empty ⟨.ref s.heap.objs.size,_,I.laid (a:=s.heap.objs.size) (o:=.dK []) (t':=s.toks) (λ_ _ q=>aE _ q) (aA _) (Eb s.heap I.big),rfl,h _ (I.hok.fresh (aA _))⟩
theorem LK:PE X (.Dict [] [] pos) Sr:=λpins s σ H Q I h=>
 wpAny_Dict_empty ⟨.ref s.heap.objs.size,_,I.laid (a:=s.heap.objs.size) (o:=.dT []) (t':=s.toks) (λ_ _ q=>aE _ q) (aA _) (LJ s.heap I.big),rfl,h _ (I.hok.fresh (aA _))⟩
end
def CK:List (TE×TE)->St->Hp->(List (V×V)->Hp->Prop)->Prop
 | [],_,H,Q=>Q [] H
 |(tk,tv)::r,σ,H,Q=>tk σ H λx H1=>tv σ H1 λy H2=>CK r σ H2 λps H3=>Q ((x,y)::ps) H3
abbrev VV:List (V×V)->List (aD×aD)->Prop:=FD λp q=>RelV p.1 q.1/\RelV p.2 q.2
def VG(X:Cx)(pos:Pos)(keys:List (Option cw))(values:List cw)(JV:List (TE×TE)):Prop:=
 ∀(pins:List (aN×Obj))(s:aQ)(σ:St)(H:Hp)(Q:List (V×V)->Hp->Prop),Inv X pins σ H s->CK JV σ H Q->
  wpAny (model X.prog X.w) X.A (evalPairs (pairTrees keys values X.env pos)) (λvs s'=>∃ps H',Inv X pins σ H' s'/\VV ps vs/\Q ps H') X.xe s
theorem OL:VG X pos [] [] []:=λpins s σ H Q I h=>pairTrees_nil_walk ⟨[],H,I,.nil,h⟩
theorem LN{k v:cw}{ks:List (Option cw)}{vs:List cw}{tk tv:TE}(hk:PE X k tk)(hv:PE X v tv)(hr:VG X pos ks vs JV):
  VG X pos (some k::ks) (v::vs) ((tk,tv)::JV):=λpins s σ H Q I h=>
 pairTrees_cons_walk (gj (hk pins s σ H _ I h) λu s1 ⟨x,H1,I1,rx,q1⟩=>gj (hv pins s1 σ H1 _ I1 q1) λw2 s2 ⟨y,H2,I2,ry,q2⟩=>
  gj (hr pins s2 σ H2 _ I2 q2) λws s3 ⟨ps,H3,I3,rel,q3⟩=>⟨(x,y)::ps,H3,I3,.cons ⟨rx,ry⟩ rel,q3⟩)
def sS(kvs more:List (Key×V)):List (Key×V):=more.foldl (λacc kv=>putK acc kv.1 kv.2) kvs
theorem KV.merge:∀{more:List (Key×V)}{rs:List (Key×aD)}{kvs:List (Key×V)}{vs:List (Key×aD)},KV more rs->KV kvs vs->KV (sS kvs more) (merged vs rs):=by
 intro more rs kvs vs r;unfold KV at r
 induction r generalizing kvs vs with
 |nil=>intro q;exact q
 | @cons p q ps qs h t ih=>
  intro r0;have e:KV (putK kvs p.1 p.2) (stored vs q.1 q.2):=by
   have:=r0.put p.1 h.2;rw[<-h.1];exact this
  exact ih e
theorem uH:∀(more kvs:List (Key×V)),(sS kvs more).length<=kvs.length+more.length
 | [],kvs=>by show kvs.length<=kvs.length+0;omega
 |p::r,kvs=>by
  have h1:=uH r (putK kvs p.1 p.2);have h2:=pD kvs p.1 p.2
  show(sS (putK kvs p.1 p.2) r).length<=_
  rw[bh];omega
theorem zB{P:bM}{w:cy}:∀{kvs:List (Key×V)}{ws:List (aD×aD)},VV (kvs.map λkv=>(kV kv.1,kv.2)) ws->∃rs,Carries (fE P w) ws rs/\KV kvs rs
 | [],_,r=>by rw[iA]at r;cases r;exact⟨[],eX,.nil⟩
 |p::kvs,_,r=>by
  rw[aR]at r;cases r with
  | @cons a b as bs h t=>
   obtain⟨rs,c,q⟩:=zB (P:=P) (w:=w) t;obtain⟨b1,b2⟩:=b;exact⟨(p.1,b2)::rs,⟨uG h.1,rfl,c⟩,.cons ⟨rfl,h.2⟩ q⟩
def VH(JV:List (TE×TE)):TE:=λσ H Q=>∀p,H p=none->CK JV σ (upd H p (.dK [])) λps H2=>H2 p=some (.dK [])/\∃kvs:List (Key×V),ps=kvs.map (λkv=>(kV kv.1,kv.2))/\kvs.length<=15/\Q (.ref p) (upd H2 p (.dK (sS [] kvs)))
theorem OO{keys:List (Option cw)}{values:List cw}(h:VG X pos keys values JV)(yE:keys.all (·.isSome)=true)(hl:keys.length=values.length)(h0:keys≠[])
  (h15:keys.length<=15):PE X (.Dict keys values pos) (VH JV):=by
 intro pins s σ H Q I q;have hn:=I.hok.fresh (aA s.heap.objs.size);have I1:=I.laid (a:=s.heap.objs.size) (o:=.dK []) (h':=s.heap.push { cls:=.type "dict",data:=.dict #[] }) (t':=s.toks) (λ_ _ q=>aE _ q) (aA _) (Eb s.heap I.big)
 refine wpAny_Dict_walk (knd:=fE X.prog X.w) yE hl h0 h15 (gj (h pins _ σ _ _ I1 (q _ hn)) λws s2 ⟨ps,H2,I2,rel,e,kvs,ep,lk,q2⟩=>?_)
 subst ep;obtain⟨rs,c,rk⟩:=zB (P:=X.prog) (w:=X.w) rel;obtain⟨z,hd,vs0,r0,dd⟩:=Iv I2.hok e;cases r0;refine⟨rs,c,dd,λh' Gc hs=>⟨.ref s.heap.objs.size,_,?_,rfl,q2⟩⟩
 have hz:(sS [] kvs).length<=sizeLine:=by
  have h1:=uH kvs [];rw[cv]at h1;rw[du];omega
 have he:∃q,h'.get? s.heap.objs.size=some q:=let⟨q,_,_,hq,_⟩:=Gc;⟨q,hq⟩;exact yP I2 (by rw[e];exact eX) hs he (Gb hz hd (rk.merge .nil) Gc)
structure M2(X:Cx)(o:cw)(m:Str)(apos:Pos)(e f:cw)(oC:Pos):Prop where
 base:attributeBase o m X.env (eval o X.env)=eval o X.env
 few:((backTo oC (starEach [e,f] X.env)).all (λx=>!x.1)&&(backToKw oC (keywordEach [] X.env)).all (λx=>x.1.isSome)
  && decide (([e,f]:List cw).length+([]:List iI).length+(if([]:List iI).isEmpty then 0 else 1)<30))=true
 line:(apos.endLine==oC.line)=true
 trees:backTo oC (starEach [e,f] X.env)=[(false,eval e X.env),(false,eval f X.env)]
def IsD(H:Hp)(a:aN):Prop:=(∃kvs,Rd H a (.dK kvs))\/∃kvs,Rd H a (.dT kvs)
theorem LQ{σ:St}(I:Inv X pins σ H s)(d:IsD H a):
  s.TypeIs (.ref a) "dict"/\(∀b,bA a=.ref b->∃ob,s.heap.get? b=some ob/\ob.dict=none)/\(a==sysModules)=false:=by
 rcases d with⟨kvs,e⟩|⟨kvs,e⟩
 ·obtain⟨_,hd,vs,_,dd⟩:=zz I.hok e
  refine⟨dd.typeIs,λb q=>?_,hd⟩
  cases q;obtain⟨ob,_,_,h1,h2,_⟩:=dd;exact⟨ob,h1,h2.2.1⟩
 ·obtain⟨_,hd,xs,_,dd⟩:=zA I.hok e
  refine⟨dd.typeIs,λb q=>?_,hd⟩
  cases q;obtain⟨ob,_,_,h1,h2,_⟩:=dd;exact⟨ob,h1,h2.2.1⟩
section
variable{X:Cx}{pins:List (aN×Obj)}{σ:St}{H:Hp}{s:aQ}{a:aN}{y d:V}{u r:aD}{o:Option V}{A:ej}{E:aD->aQ->Prop}
theorem Ss(hu:A.units+1<cLine)(I:Inv X pins σ H s)(g:sR H a y o)(ry:RelV y u)(rd:RelV d r)(h:∀w' s',Inv X pins σ H s'->RelV (o.getD d) w'->Q w' s'):
  wpAny (model X.prog X.w) A (call (.builtin "dict.get") [.ref a,u,r]) Q E s:=by
 rcases g with⟨kvs,k,e,ey,l⟩|⟨kvs,k,b,e,ey,eb,l⟩
 ·subst ey
  obtain⟨z,hd,vs,rel,dd⟩:=zz I.hok e;refine call_meetsIn rU dd.typeIs Ck (Bi _ _ _) (meets_dict_get_default (fE X.prog X.w) a (uG ry) hd r) ⟨_,dd.mapOf,h _ _ (I.tok _) ?_⟩
  rw[l];exact(rel.val k).getD rd
 ·subst ey
  cases(show u=bA b from ry)
  obtain⟨z,hd,xs,rel,dd⟩:=zA I.hok e;refine call_meetsIn rU dd.typeIs Ck (Bi _ _ _) (meetsH_dict_get_default (tupleKind (fE X.prog X.w)) a b hd r) ⟨mv hu,k,xs,xt I.hok eb,dd,h _ _ (I.tok _) ?_⟩
  rw[l];exact(rel.val k).getD rd
end
def Sv(td ty tx:TE):TE:=λσ H Q=>td σ H λx H1=>∃a,x=.ref a/\IsD H1 a/\ty σ H1 λy H2=>tx σ H2 λz H3=>∃o,sR H3 a y o/\Q (o.getD z) H3
section
variable{X:Cx}{o e f:cw}{apos oC:Pos}{td ty tx:TE}
theorem LR(hu:X.A.units+1<cLine)(ho:PE X o td)(he:PE X e ty)(hf:PE X f tx)(m:M2 X o "get" apos e f oC):PE X (.Call (.Attribute o "get" apos) [e,f] [] oC) (Sv td ty tx):=by
 intro pins s σ H Q I h;refine wpAny_Call_method m.base m.few m.line Bj rU PySem.F.type_dict_get (gj (ho pins s σ H _ I h) λu s1 ⟨x,H1,I1,rx,a,ex,d,q1⟩=>?_)
 subst ex;obtain rfl:u=bA a:=rx;obtain⟨t1,t2,_⟩:=LQ I1 d;refine⟨t1,t2,?_⟩
 rw[m.trees];refine rT rfl (uy (lg (gj (he pins s1 σ H1 _ I1 q1) λiv s2 ⟨y,H2,I2,ry,q2⟩=>
  lg (gj (hf pins s2 σ H2 _ I2 q2) λfv s3 ⟨z,H3,I3,rz,ov,g,q3⟩=>w_ ?_))))
 exact Ss hu I3 g ry rz λw' s4 I4 rY=>⟨_,H3,I4,rY,q3⟩
end
section
variable{X:Cx}{pins:List (aN×Obj)}{σ:St}{H:Hp}{s:aQ}{a:aN}{kvs:List (Key×V)}{A:ej}{E:aD->aQ->Prop}
end
def zfq(o:Array (Option Nat)):Nat:=o.toList.countP Option.isSome
section
variable{prog:bM}{w:cy}{A:ej}{E:aD->aQ->Prop}{s:aQ}
end
section
variable{prog:bM}{w:cy}{A:ej}{R:uV->aQ->Prop}{I:aN}{fp wr:List aN}{G:Array uw->Array uw->Prop}{n:Nat}{P:Nat->aD->Prop}{St:Nat->aQ->Prop}
theorem LV(W:WalksS prog w A.in1 I fp wr G n P St)(S:aN)(Yw:S∉fp)(T:Nat->dq->Prop)(keep:∀i h h',T i h->(∀b o,b∉wr->h.get? b=some o->h'.get? b=some o)->T i h')
  (add:∀i v (s:aQ) (Q:Bool->aQ->Prop) (E:aD->aQ->Prop),i<n->P i v->T i s.heap->(∀h' tk b,s.toks<=tk->kI S s.heap h'->T (i+1) h'->Q b { s with heap:=h',toks:=tk })->wpAny (model prog w) A.in1 (setAdd S v) Q E s):
  ∀(k i:Nat)(s:aQ),n-i=k->i<=n->St i s->T i s.heap->(∀s',Moved (S::wr) G s s'->T n s'.heap->R (.ok (.ret .none)) s')->
   codeAny (model prog w) A (.builtin "set.update.loop" ⟨[.ref S,.ref I],[]⟩) R s:=by
 have hSw:S∉wr:=λh=>Yw (W.sub _ h)
 have OQ:∀b∈wr,b∈S::wr:=λb hb=>aU _ hb
 intro k
 induction k with
 |zero=>
  intro i s hk hi K9 hS hR;have VJ:i=n:=by omega
  subst VJ;refine vD HV ?_
  rw[tW sC _];show wpAny _ A.in1 (pyNext (.ref I) >>= _) _ _ s;refine au (W.done s _ _ K9 λs' hm=>?_)
  show wpAny _ A.in1 (ret ef) _ _ s';exact aZ (hR s' (hm.mono OQ) (keep _ _ _ hS λb o hb e=>hm.heap b o hb e))
 |succ k ih=>
  intro i s hk hi K9 hS hR;have qI:i<n:=by omega
  refine vD HV ?_
  rw[tW sC _];show wpAny _ A.in1 (pyNext (.ref I) >>= _) _ _ s;refine au (W.item i s _ _ qI K9 λv s' hP zab hm=>?_)
  have VL:T i s'.heap:=keep _ _ _ hS λb o hb e=>hm.heap b o hb e
  show wpAny _ A.in1 (holding [v] (setAdd S v) >>= _) _ _ s';refine au (iP ?_)
  refine add i v s' _ _ qI hP VL λh' tk b ZZ Yx hT=>?_
  refine aZ ⟨plainId_quiet sC _,ih (i+1) _ (by omega) qI (W.frame _ s' _ _ zab ZZ λb hb o e=>?_) hT λR_ zac zad=>?_⟩
  ·rw[Yx.2 b (λh:b=S=>Yw (by rw[<-h];exact hb))];exact e
  ·refine hR R_ (Moved.trans W.gtrans ((hm.mono OQ).then_heap ZZ λb o hb e=>?_) zac) zad
   rw[Yx.2 b (λh:b=S=>hb (by rw[h];exact aO))];exact e
end
section
variable{prog:bM}{w:cy}{A:ej}{E:aD->aQ->Prop}{s:aQ}
abbrev j_(led:Bool):Obj:={ cls:=.type "set",dict:=none,data:=.set #[] 0 (.fresh 0 0 led) }
end
end L2
namespace L2
open PySem
end L2
namespace L2
open PySem PySem.Spec PyProof.Rows
variable{a:aN}{b k1 k2:Bool}{op:AV}{X:Cx}{env:Env}{e:cw}{o:HO}{H H' H0:Hp}{g:Int->Int->Int}{pins:List (aN×Obj)}{elts:List cw}{cap:List Nat}{R:List aq->List aq->Prop}{own:List Str}{vs xs:List V}{r:List V->Hp->VK->Prop}{i n:Nat}{p p2 tp:Pos}{P:bM}{d:aq}{F:aq->Option aq}{K:av}{sc:lS}{s:aQ}{σ:St}{x:Str}{id:String}{w:cy}
abbrev OS:aD->aQ->Prop:=λ_ _=>False
abbrev testsOf(ifs:List cw)(env:Env):Sem Bool:=
 forIn ifs true λc r=>if r=true then(do let ok <-isTrue c env (eval c env);pure (qE ok))else pure (qE r)
theorem JZ{A:ej}{R:uV->aQ->Prop}{elt tg iter:cw}{ifs:List cw}{pos:Pos}{it acc:aD}(J:Nat->aQ->Prop)
  (turn:∀n s,J n s->wpAny (model P w) A (pyNext it) (λr s1=>match r with
   |none=>R (.ok .next) s1
   |some v=>wpAny (model P w) A (letOwnedTupleGo tg it v) (λ_ s2=>wpAny (model P w) A (assign tg env v) (λ_ s3=>
     wpAny (model P w) A (testsOf ifs env) (λok s4=>if ok=true then wpAny (model P w) A (eval elt env) (λx s5=>
       wpAny (model P w) A (call (.builtin "list.append") [acc,x]) (λ_ s6=>∃m,m<n/\J m s6) OS s5) OS s4
      else ∃m,m<n/\J m s4) OS s3) OS s2) OS s1) OS s)
  (h:J n s):codeAny (model P w) A (.compLoop (.ListComp elt [⟨tg,iter,ifs,0⟩] sc pos) 0 it acc env) R s:=by
 refine codeAny_loop rfl J (λn s hJ=>?_) n h
 show wpAny _ A ((compTurn (.ListComp elt [⟨tg,iter,ifs,0⟩] sc pos) 0 it acc env).onRaise (λx=>do noteFrame x env;theTreesLotGoes x)) _ _ s
 refine wpAny_noted ?_
 rw[compTurn_list];refine au (lV (au (eT (turn n s hJ) (λr s1 h1=>?_) λ_ _ f=>f.elim)))
 cases r with
 |none=>exact aZ h1
 |some v=>
  refine au (eT h1 (λ_ s2 h2=>?_) λ_ _ f=>f.elim)
  refine au (eT h2 (λ_ s3 h3=>?_) λ_ _ f=>f.elim)
  refine au (eT h3 (λok s4 h4=>?_) λ_ _ f=>f.elim)
  cases ok with
  |false=>exact aZ ⟨rfl,h4⟩
  |true=>
   refine au (au (eT h4 (λx s5 h5=>?_) λ_ _ f=>f.elim))
   exact au (eT h5 (λ_ s6 h6=>aZ (aZ ⟨rfl,h6⟩)) λ_ _ f=>f.elim)
def qg(env:Env):List (Str×oY)->List (Str×aN)->Option (List (Str×aN))
  | [],acc=>some acc
  | (n,k)::r,acc=>if(k==eD)=true then(match env.cells.lookup n with
      | some c=>qg env r ((n,c)::acc)
      | none=>none)else qg env r acc
theorem CL(env:Env):∀(names:List (Str×oY))(acc cl:List (Str×aN)),qg env names acc=some cl->
  (forIn names acc λ(x:Str×oY)(r:List (Str×aN))=>if(x.2==eD)=true then(do let c <-cellOf env x.1;pure (qE ((x.1,c)::r)))else pure (qE r):Sem (List (Str×aN)))=pure cl
 | [],acc,cl,h=>by
  simp only[qg,iF]at h;subst h;rfl
 |(n,k)::r,acc,cl,h=>by
  rw[AB];unfold qg at h;by_cases hk:(k==eD)=true
  ·rw[if_pos hk]at h
   rw[if_pos (show((n,k).2==eD)=true from hk)]
   cases e:env.cells.lookup n with
   |none=>rw[e]at h;cases h
   |some c=>
    rw[e]at h;have e2:cellOf env (n,k).1=pure c:=by unfold cellOf;rw[show ly (n,k).1 env.cells=some c from e]
    rw[e2,pure_bind,pure_bind];exact CL env r _ cl h
  ·rw[if_neg hk]at h
   rw[if_neg (show ¬((n,k).2==eD)=true from hk),pure_bind]
   exact CL env r acc cl h
theorem Iz{cl:List (Str×aN)}(h:qg env sc.names []=some cl):closureFor sc env=pure cl:=by
 unfold closureFor;have:=CL env sc.names [] cl h;simp only[bind_pure];exact this
theorem vZ{env:Env}:∀{names:List (Str×oY)}{acc cl:List (Str×aN)},qg env names acc=some cl->(∀x c,acc.lookup x=some c->env.cells.lookup x=some c)->∀x c,cl.lookup x=some c->env.cells.lookup x=some c
 | [],acc,cl,h,ha=>by
  simp only[qg,iF]at h;subst h;exact ha
 |(n,k)::r,acc,cl,h,ha=>by
  unfold qg at h;by_cases hk:(k==eD)=true
  ·rw[if_pos hk]at h
   cases e:env.cells.lookup n with
   |none=>rw[e]at h;cases h
   |some c=>
    rw[e]at h;refine vZ (names:=r) h λx d hx=>?_
    rw[dU]at hx;cases Yy:x==n with
    |true=>
     rw[Yy]at hx;have:x=n:=by simpa using Yy
     subst this;rw[e];exact hx
    |false=>rw[Yy]at hx;exact ha x d hx
  ·rw[if_neg hk]at h
   exact vZ (names:=r) h ha
theorem v3{env:Env}:∀{names:List (Str×oY)}{acc cl:List (Str×aN)},qg env names acc=some cl->∀x,((x,eD)∈names\/∃c,acc.lookup x=some c)->∃c,cl.lookup x=some c
 | [],acc,cl,h,x,hx=>by
  simp only[qg,iF]at h;subst h;rcases hx with hx|hx
  ·exact absurd hx (by simp)
  ·exact hx
 |(n,k)::r,acc,cl,h,x,hx=>by
  unfold qg at h;by_cases hk:(k==eD)=true
  ·rw[if_pos hk]at h
   cases e:env.cells.lookup n with
   |none=>rw[e]at h;cases h
   |some c=>
    rw[e]at h;refine v3 (names:=r) h x ?_
    rcases hx with hx|⟨d,hx⟩
    ·rcases aJ.mp hx with hx|hx
     ·cases hx
      exact .inr ⟨c,by simp[dU]⟩
     ·exact .inl hx
    ·refine .inr ?_
     rw[dU];cases Yy:x==n with
     |true=>exact⟨_,rfl⟩
     |false=>exact⟨d,hx⟩
  ·rw[if_neg hk]at h
   refine v3 (names:=r) h x ?_
   rcases hx with hx|hx
   ·rcases aJ.mp hx with hx|hx
    ·cases hx;exact absurd rfl hk
    ·exact .inl hx
   ·exact .inr hx
theorem v5{env:Env}:∀{names:List (Str×oY)}{x:Str},names.lookup x=some .free->
  (names.map λ(n,k)=>if(k==eD&&env.scope.kind == .function&&env.kindOf n==some .cell) then(n,kJ) else(n,k)).lookup x=some .cell\/
   (names.map λ(n,k)=>if(k==eD&&env.scope.kind == .function&&env.kindOf n==some .cell) then(n,kJ) else(n,k)).lookup x=some .free
 | [],x,h=>by simp at h
 |(n,k)::r,x,h=>by
  have ih:=@v5 env r x;rw[aR]
  dsimp only
  by_cases hb:(k==eD&&env.scope.kind == .function&&env.kindOf n==some .cell)=true
  ·rw[if_pos hb]
   cases hx:x==n with
   |true=>simp[dU,hx]
   |false=>
    simp only[dU,hx]at h ⊢;exact ih h
  ·rw[if_neg hb]
   cases hx:x==n with
   |true=>
    simp only[dU,hx]at h ⊢;exact .inr h
   |false=>
    simp only[dU,hx]at h ⊢;exact ih h
theorem ye{env:Env}:∀{names:List (Str×oY)}{x:Str},(∀y∈names,y.2≠kJ)->
  ((names.map λ(n,k)=>if(k==eD&&env.scope.kind == .function&&env.kindOf n==some .cell) then(n,kJ) else(n,k)).lookup x=some .cell\/
   (names.map λ(n,k)=>if(k==eD&&env.scope.kind == .function&&env.kindOf n==some .cell) then(n,kJ) else(n,k)).lookup x=some .free)->(x,eD)∈names
 | [],x,_,h=>by simp at h
 |(n,k)::r,x,hc,h=>by
  have ih:=@ye env r x λy hy=>hc y (aU _ hy)
  have VM:k≠kJ:=hc (n,k) aO;rw[aR]at h
  dsimp only at h
  by_cases hb:(k==eD&&env.scope.kind == .function&&env.kindOf n==some .cell)=true
  ·have hk:k=eD:=by
    simp only[rK]at hb;simpa using hb.1.1
   rw[if_pos hb]at h;cases hx:x==n with
   |true=>
    have:x=n:=by simpa using hx
    subst this;rw[hk];exact aO
   |false=>
    simp only[dU,hx]at h;exact aU _ (ih h)
  ·rw[if_neg hb]at h
   cases hx:x==n with
   |true=>
    have:x=n:=by simpa using hx
    subst this;simp only[dU,beq_self_eq_true,iF]at h;rcases h with h|h
    ·exact absurd h VM
    ·rw[h];exact aO
   |false=>
    simp only[dU,hx]at h;exact aU _ (ih h)
def gP(X:Cx)(sc:lS)(N:List Str)(cl:List (Str×aN))(fp:List aN)(s:aQ)(H:Hp):Cx where
 prog:=X.prog
 w:=X.w
 K:=X.K
 mg:=X.mg
 base:=X.base
 A:=X.A
 N:=N
 s₀:=s
 H₀:=H
 env:=compEnvC sc cl s.heap.objs.size X.env
 outer:=X.stack
 stack:=X.stack
 ex:=fp
 fn:=λ_=>false
 calm:=X.calm
 pn:=[]
 xe:=OS
structure k8(X:Cx)(sc:lS)(own:List Str)(cap:List Nat)(N:List Str)(cl:List (Str×aN)):Prop where
 kind:sc.kind=.function
 LW:∀y∈sc.names,y.2≠kJ
 loc:∀y∈sc.names,y.2=.local->sc.names.lookup y.1=some .local
 clos:qg X.env sc.names []=some cl
 names:N=own++cap.map λi=>X.N.getD i eP
 VN:∀i∈cap,i<X.N.length/\(X.env.kindOf (X.N.getD i eP)=some .cell\/X.env.kindOf (X.N.getD i eP)=some .free)/\sc.names.lookup (X.N.getD i eP)=some .free
def nJ(own:List Str)(cap:List Nat)(σ:St):St:=bu own.length none++cap.map λi=>σ.getD i none
section
variable{X:Cx}{pins:List (aN×Obj)}{σ:St}{H:Hp}{s:aQ}{sc:lS}{own N:List Str}{cap:List Nat}{cl:List (Str×aN)}{fp:List aN}{tg:cw}{J:It}{it:aN}{tn:Nat->dq->Prop}
theorem LX{h4:dq}{t4:Nat}(CS:k8 X sc own cap N cl)(I:Inv X pins σ H s)(T:Turn X.prog X.w X.K tg J fp it tn)(st:tn 0 s.heap)(hf:∀b∈fp,vS X pins H b)
  (D:aN)(hD:D=s.heap.objs.size)(s3:aQ)(h3:s3={ s with heap:=s.heap.push { cls:=.type "list",dict:=none,data:=.seq ([]:List aD).toArray } })
  (F8:h4.Ns s3.heap.objs.size (λ_=>none))(hk:∀b o,s3.heap.get? b=some o->h4.get? b=some o):
  Inv (gP X sc N cl fp s3 (upd H D (.lst []))) [] (nJ own cap σ) (upd H D (.lst [])) { s3 with heap:=h4,toks:=t4 }:=by
 subst hD;have hDn:H s.heap.objs.size=none:=I.fresh;have k3:∀b o,s.heap.get? b=some o->s3.heap.get? b=some o:=λb o e=>by rw[h3];exact aE _ e
 have z3:s3.heap.objs.size=s.heap.objs.size+1:=by rw[h3];exact gf ..
 have I3:Inv X pins σ (upd H s.heap.objs.size (.lst [])) s3:=by
  rw[h3];exact I.laid (t':=s.toks) (λb o e=>aE _ e) (aA _) ⟨bK _,[],0,.nil,bQ _ rfl⟩
 have OU:∀b∈fp,b<s.heap.objs.size:=λb hb=>by
  obtain⟨o,e,_⟩:=T.obj 0 _ st b hb;exact aW e
 have OV:∀b,b<s.heap.objs.size->b≠s3.heap.objs.size:=λb hb=>by rw[z3];exact bB (mw hb)
 have qS:∀x c,cl.lookup x=some c->X.env.cells.lookup x=some c:=vZ CS.clos λx c h=>by simp at h
 have ok:(gP X sc N cl fp s3 (upd H s.heap.objs.size (.lst []))).Ok:=by
  refine⟨I.ok.mod,CS.kind,I.ok.glob,I.ok.blt,aA _,λx y c hx hy=>I.ok.inj x y c (qS x c hx) (qS y c hy),λx hx=>?_,λx c hx _=>absurd (show false=true from hx) bP,I.ok.hd,I.ok.frames,.inl rfl,λb hb=>⟨?_,λx c hx=>?_⟩,λb o e=>?_,?_,λb o e hb=>?_,λb hb hs=>?_,?_,?_⟩
  ·exact v3 CS.clos x (.inl (ye CS.LW hx))
  ·exact OV b (OU b hb)
  ·exact(hf b hb).2.2.2.2.1 x c (qS x c hx)
  ·exact I3.bs b o e
  ·exact b9 I.ok.N0 (b9 I.sz (by show s.heap.objs.size<=s3.heap.objs.size;rw[z3];exact jK _))
  ·rcases(hf b hb).2.2.2.1 with z|z
   ·exact I.ok.FL b o e z
   ·exact absurd (bY (aW (I.ok.bs b o e).1) z) (jf _)
  ·rcases aJ.mp (I.Cw b hs)with z|z
   ·exact(hf b hb).2.1 z
   ·exact(hf b hb).2.2.1 z
  ·exact I3.stack
  ·exact I3.Ia
 have frC:∀b,s.heap.objs.size<b->(upd H s.heap.objs.size (.lst [])) b=none:=λb hb=>by
  rw[aT (fy hb)];exact I.hok.fresh (oZ hb)
 refine⟨ok,?_,I3.bare,Un.kept hk,⟨_,F8,λi x v e1 e2 e3=>?_⟩,λx c hx=>?_,?_,λx c hx=>?_,λp hp=>absurd (show p∈([]:List (aN×Obj))from hp) (by simp),I3.hok.kept hk,?_⟩
 ·rfl
 ·have Sw:(nJ own cap σ)[i]?=some (some v):=e2
  have VQ:N[i]?=some x:=e1;unfold nJ at Sw;by_cases hi:i<own.length
  ·rw[cL (by simpa using hi),eG]at Sw
   split at Sw<;>cases Sw
  ·rw[cD (by simpa using gN hi),dM,aP]at Sw
   rw[CS.names,cD (gN hi),aP]at VQ;cases ec:cap[i-own.length]? with
   |none=>rw[ec]at VQ;cases VQ
   |some j=>
    rw[ec]at VQ Sw;have ex:X.N.getD j eP=x:=by simpa using VQ
    have ev:σ.getD j none=some v:=by simpa using Sw
    obtain⟨hj,D6,v7⟩:=CS.VN j (bF ec);rw[ex]at D6 v7;obtain⟨m,hn,hl⟩:=I.loc;have hxj:X.N[j]?=some x:=by
     rw[aw hj];rw[<-ex,aG,aw hj];rfl
    have hvj:σ[j]?=some (some v):=by
     have:j < σ.length:=by rw[I.len];exact hj
     rw[aG,aw this]at ev;rw[aw this];exact congrArg some ev
    obtain⟨u,r,l⟩:=hl j x v hxj hvj (by
     rcases D6 with z|z
     ·exact .inr (.inl z)
     ·exact .inr (.inr z))
    refine⟨u,r,?_⟩
    rcases l with⟨k,_⟩|⟨k,c,e,z⟩
    ·rcases D6 with z|z<;>(rw[z]at k;cases k)
    ·obtain⟨c',ec'⟩:=v3 CS.clos x (.inl (jl v7))
     have:c'=c:=by
      have:=qS x c' ec';rw[e]at this;exact(c9 this).symm
     subst this;refine .inr ⟨?_,c',ec',?_⟩
     ·exact v5 v7
     ·obtain⟨o,ho,hd⟩:=z
      exact⟨o,hk _ _ (k3 _ _ ho),hd⟩
 ·obtain⟨v,o,ho,hd⟩:=I.cell x c (qS x c hx)
  exact⟨v,o,hk _ _ (k3 _ _ ho),hd⟩
 ·exact frC _ (by show s.heap.objs.size<s3.heap.objs.size;rw[z3];exact kK _)
 ·obtain⟨v,o,ho,hd⟩:=I.cell x c (qS x c hx)
  rw[aT (bB (aW ho))];exact I.pj x c (qS x c hx)
 ·show(nJ own cap σ).length=N.length
  unfold nJ;rw[CS.names];simp
theorem Inv.yQ{h':dq}{t':Nat}{ch:List aN}(I:Inv X pins σ H s)(k:∀b o,b∉ch->s.heap.get? b=some o->h'.get? b=some o)(hf:∀b∈ch,vS X pins H b):Inv X pins σ H { s with heap:=h',toks:=t' }:=by
 have U0:∀b u,H b=some u->b∉ch:=λb u e z=>by rw[(hf b z).1]at e;cases e
 refine I.step (g':=s.gens) (d':=s.drawn) (ch:=ch) (λb hb=>⟨(hf b hb).2.2.2.1,(hf b hb).2.1,(hf b hb).2.2.2.2.1,(hf b hb).2.2.2.2.2⟩) (λb o _ _ hc e _=>k b o hc e) (λb o _ _ hc e _=>⟨o.slots,k b o hc e⟩) (λ_ _ _ _ n=>n)
  (λb o hc e=>⟨o,k b o hc e⟩) (λ_ _ e=>e) (λ_ _ _ e=>e) (λb ps e=>⟨#[],by rw[e];simp⟩) (λm hm=>?_) (λb u e=>?_) I.bare
 ·obtain⟨o,es,ep,ho,r⟩:=hm
  exact⟨o,es,ep,k _ o (λz=>(hf _ z).2.1 rfl) ho,r⟩
 ·refine(I.hok b u e).stay (λc v hc q=>k c v ?_ q) (λ_ q=>q) λ_ _ q=>q
  rcases hc with z|z
  ·rw[z];exact U0 b u e
  ·exact U0 c _ z
theorem Inv.track(I:Inv X pins σ H s)(f:vS X pins H a)(new:hZ X.prog X.w (upd H a o) s.heap a o):Inv X pins σ (upd H a o) s:=by
 obtain⟨f0,f1,f2,f3,f4,f5⟩:=f;have ne:∀b u,H b=some u->b≠a:=λb u e=>bE e f0
 refine⟨I.ok,I.os,I.bare,⟨I.base.keep,I.base.slot,λb ob e n hx=>?_,I.base.there,λb xs e=>?_,λb ob u e=>?_,λb ps e=>?_⟩,I.loc,I.cell,?_,λx c e=>?_,λp hp=>?_,λb u e=>?_,I.len⟩
 ·have nb:b≠a:=λz=>by
   subst z;rcases f3 with z|z
   ·exact hx z
   ·exact absurd (bY (aW e) z) (jf _)
  rw[aT nb];exact I.base.free b ob e n hx
 ·have q:=I.base.tups b xs e
  rw[aT (ne _ _ q)];exact q
 ·have q:=I.base.xj b ob u e
  rw[aT (ne _ _ q)];exact q
 ·obtain⟨more,q⟩:=I.base.yB b ps e
  exact⟨more,by rw[aT (ne _ _ q)];exact q⟩
 ·rw[aT (bU f1)]
  exact I.free
 ·rw[aT (f4 x c e)]
  exact I.pj x c e
 ·obtain⟨e,n,r⟩:=I.pin p hp
  exact⟨e,by rw[aT (f5 p hp)];exact n,r⟩
 ·by_cases hb:b=a
  ·subst hb
   rw[b0]at e;cases e;exact new
  ·rw[aT hb]at e
   exact(I.hok b u e).stay (λ_ _ _ q=>q) (λc q=>by rw[aT (ne _ _ q)];exact q) λc xs q=>by rw[aT (ne _ _ q)];exact q
end
def VR(X:Cx)(ifs:List cw)(t:TT):Prop:=
 ∀(pins:List (aN×Obj))(s:aQ)(σ:St)(H:Hp)(Q:Bool->Hp->Prop),Inv X pins σ H s->t σ H Q->wpAny (model X.prog X.w) X.A (testsOf ifs X.env) (TP X pins σ Q) X.xe s
def zae:TT:=λ_ H Q=>Q true H
theorem OW:VR X [] zae:=λ_ _ _ H _ I h=>wpAny_tests_nil ⟨H,I,h⟩
theorem OX{c:cw}{t:TT}(h:PT X c t):VR X [c] t:=λpins s σ H Q I q=>wpAny_tests_one (h pins s σ H Q I q)
def xu(J:It)(g:TG)(tc:TT)(te:TE)(σ:St)(H:Hp)(Q:VK):Prop:=
 ∀D,H D=none->∃W:Nat->Nat->List V->St->Hp->Prop,(∃m,W 0 m [] σ (upd H D (.lst [])))/\∀i m ys σ' H',W i m ys σ' H'->
  (J.stop i H'/\Q (.ref D) H')\/(J.go i H'/\∀x H2,J.U_ i H' x H2->g x σ' H2 λσ3 H3=>tc σ3 H3 λb H4=>if b=true then te σ3 H4 λy H5=>
   H5 D=some (.lst ys)/\ys.length<sizeLine/\∃m',m'<m/\W (i+1) m' (ys ++ [y]) σ3 (upd H5 D (.lst (ys ++ [y])))else ∃m',m'<m/\W (i+1) m' ys σ3 H4)
def QM(own:List Str)(cap:List Nat)(wi:TI)(g:TG)(tc:TT)(te:TE):TE:=λσ H Q=>wi σ H λJ H1=>xu J g tc te (nJ own cap σ) H1 Q
section
variable{X:Cx}{pins:List (aN×Obj)}{σ:St}{H:Hp}{s:aQ}{sc:lS}{own N:List Str}{cap:List Nat}{cl:List (Str×aN)}{fp:List aN}{tg elt iter:cw}{ifs:List cw}{J:It}{it:aN}{tn:Nat->dq->Prop}{g:TG}{tc:TT}{te:TE}{wi:TI}{pos:Pos}
theorem Bz{RR:aD->aN->uV->aQ->Prop}{E:aD->aQ->Prop}{Q:VK}(hc:X.calm=true)(CS:k8 X sc own cap N cl)(I:Inv X pins σ H s)(T:Turn X.prog X.w X.K tg J fp it tn)(st:tn 0 s.heap)(hf:∀b∈fp,vS X pins H b)
  (hg:∀f s3 H3,PG (gP X sc N cl f s3 H3) tg g)(ht:∀f s3 H3,VR (gP X sc N cl f s3 H3) ifs tc)(he:∀f s3 H3,PE (gP X sc N cl f s3 H3) elt te)
  (h:xu J g tc te (nJ own cap σ) H Q)
  (fin:∀D C H' s',Inv X pins σ H' s'->(∃m,s'.heap.Ns C m)->vS X pins H' C->Q (.ref D) H'->RR (.ref D) C (.ok .next) s'):
  wpAny (model X.prog X.w) X.A (newList []) (λacc s₃=>wpAny (model X.prog X.w) X.A (newFunctionEnv sc X.env.globals cl [] X.env.qual none .none (some X.env)) (λVW s₄=>
   codeAny (model X.prog X.w) X.A (.compStart (.ListComp elt [⟨tg,iter,ifs,0⟩] sc pos) 0 (.ref it) acc { VW with scope:=relabel sc X.env }) (RR acc VW.locals) s₄) E s₃) E s:=by
 refine fj (wpAny_newFunctionEnv CS.LW (λy hy=>absurd hy (by simp)) (λh4 F8 Yx=>?_) CS.kind)
 have hD:H s.heap.objs.size=none:=I.fresh;obtain⟨W,⟨m0,w0⟩,turn⟩:=h s.heap.objs.size hD
 generalize hs3:({ s with heap:=s.heap.push { cls:=.type "list",dict:=none,data:=.seq ([]:List aD).toArray } }:aQ)=s3 at *
 have h3:=hs3.symm;have e3:s.heap.push { cls:=.type "list",dict:=none,data:=.seq ([]:List aD).toArray }=s3.heap:=by rw[h3]
 have z3:s3.heap.objs.size=s.heap.objs.size+1:=by rw[h3];exact gf ..
 have k3:∀b o,s.heap.get? b=some o->s3.heap.get? b=some o:=λb o e=>by rw[h3];exact aE _ e
 have k4:∀b o,s3.heap.get? b=some o->h4.get? b=some o:=λb o e=>Yx.extBut b o (bB (aW e)) (aE _ e)
 have OU:∀b∈fp,b<s.heap.objs.size:=λb hb=>by
  obtain⟨o,e,_⟩:=T.obj 0 _ st b hb;exact aW e
 have Ic:∀t4,Inv (gP X sc N cl fp s3 (upd H s.heap.objs.size (.lst []))) [] (nJ own cap σ) (upd H s.heap.objs.size (.lst [])) { s3 with heap:=h4,toks:=t4 }:=λt4=>
  LX (t4:=t4) CS I T st hf _ rfl s3 h3 (by simpa using F8) k4
 have st4:tn 0 h4:=T.keep _ _ _ st λb hb o e=>k4 b o (k3 b o e)
 have fr4:∀b∈fp,(upd H s.heap.objs.size (.lst [])) b=none:=λb hb=>by
  rw[aT (bB (OU b hb))];exact(hf b hb).1
 have stat:∀{H':Hp},(∀b∈fp,H' b=none)->∀b∈fp,vS (gP X sc N cl fp s3 (upd H s.heap.objs.size (.lst []))) [] H' b:=λ{H'}hn b hb=>by
  refine⟨hn b hb,?_,λhs=>?_,.inl hb,λx c hx=>?_,λp hp=>absurd (show p∈([]:List (aN×Obj))from hp) (by simp)⟩
  ·show b≠s3.heap.objs.size
   rw[z3];exact bB (mw (OU b hb))
  ·rcases aJ.mp (I.Cw b hs)with z|z
   ·exact(hf b hb).2.1 z
   ·exact(hf b hb).2.2.1 z
  ·exact(hf b hb).2.2.2.2.1 x c (vZ CS.clos (λx c h=>by simp at h) x c hx)
 have loop:∀s5:aQ,(∃t4,s5={ s3 with heap:=h4,toks:=t4 })->codeAny (model X.prog X.w) X.A (.compLoop (.ListComp elt [⟨tg,iter,ifs,0⟩] sc pos) 0 (.ref it) (.ref s.heap.objs.size) (compEnvC sc cl s3.heap.objs.size X.env))
   (RR (.ref s.heap.objs.size) s3.heap.objs.size) s5:=by
  rintro s5 ⟨t4,rfl⟩
  refine JZ (λn s'=>∃i ys σ' H',Inv (gP X sc N cl fp s3 (upd H s.heap.objs.size (.lst []))) [] σ' H' s'/\tn i s'.heap/\(∀b∈fp,H' b=none)/\W i n ys σ' H') ?_
   ⟨0,[],_,_,Ic t4,st4,fr4,w0⟩
  rintro n s' ⟨i,ys,σ',H',I',A4,fr',w'⟩
  rcases turn i n ys σ' H' w' with⟨stop,q⟩|⟨go,step⟩
  ·refine gj (T.done (gP X sc N cl fp s3 (upd H s.heap.objs.size (.lst []))) rfl rfl rfl hc i [] s' σ' H' OS I' (stat fr') A4 stop) λr s6 ⟨hr,I6⟩=>?_
   subst hr;have bs:=I6.base;have un:Un (DV X.stack) fp H H' s.heap s6.heap:=by
    have neD:∀b o,s.heap.get? b=some o->b≠s.heap.objs.size:=λb o e=>bB (aW e)
    refine⟨λb o e n hb hx=>bs.keep b o (k3 b o e) (by show upd H _ _ b=none;rw[aT (neD b o e)];exact n) hb hx,λb o e n hb hx=>bs.slot b o (k3 b o e) (by show upd H _ _ b=none;rw[aT (neD b o e)];exact n) hb hx,
     λb o e n hx=>bs.free b o (k3 b o e) (by show upd H _ _ b=none;rw[aT (neD b o e)];exact n) hx,λb o e hx=>bs.there b o (k3 b o e) hx,
     λb xs e=>bs.tups b xs (by show upd H _ _ b=_;rw[aT (bE e hD)];exact e),λb o u e=>bs.xj b o u (by show upd H _ _ b=_;rw[aT (bE e hD)];exact e),λb ps e=>bs.yB b ps (by show upd H _ _ b=_;rw[aT (bE e hD)];exact e)⟩
   have I7:Inv X pins σ H' s6:=I.call' (ch:=fp) (by rw[I6.os];show s3.os=s.os;rw[h3]) un I6.hok I6.bare λb hb=>⟨(hf b hb).2.2.2.1,(hf b hb).2.1,(hf b hb).2.2.2.2.1,(hf b hb).2.2.2.2.2⟩
   obtain⟨mC,nC,_⟩:=I6.loc;exact fin _ _ H' s6 I7 ⟨mC,nC⟩ (I.A3 (by show s.heap.objs.size<=s3.heap.objs.size;rw[z3];exact jK _) I6.free) q
  ·refine gj (T.item (gP X sc N cl fp s3 (upd H s.heap.objs.size (.lst []))) rfl rfl rfl hc i [] s' σ' H' OS I' (stat fr') A4 go) λr s6 ⟨u,hr,h6⟩=>?_
   subst hr;refine gj h6 λ_ s7 ⟨x,H7,I7,r7,y7,st7,fr7⟩=>?_
   have I7':=I7.pinned (stat fr7) (T.obj _ _ st7);have back:∀{σ8:St}{H8:Hp}{s8:aQ},Inv (gP X sc N cl fp s3 (upd H s.heap.objs.size (.lst []))) ([]++zp fp s7.heap) σ8 H8 s8->tn (i+1) s8.heap/\∀b∈fp,H8 b=none:=λ{σ8 H8 s8}I8=>by
    refine⟨T.keep _ _ _ st7 λb hb o e=>(I8.pin (b,o) (cu _ (cu _ (qN hb e)))).1,λb hb=>?_⟩
    obtain⟨o,e,d⟩:=T.obj _ _ st7 b hb;exact(I8.pin (b,o) (cu _ (cu _ (qN hb e)))).2.1
   refine gj (hg _ _ _ _ s7 σ' H7 x u _ I7' r7 (step x H7 y7)) λ_ s8 ⟨σ8,H8,I8,q8⟩=>?_
   refine gj (ht _ _ _ _ s8 σ8 H8 _ I8 q8) λok s9 ⟨H9,I9,q9⟩=>?_
   cases ok with
   |false=>
    rw[if_neg bP]at q9 ⊢;obtain⟨m',hm,w9⟩:=q9;exact⟨m',hm,i+1,ys,σ8,H9,I9.sN,(back I9).1,(back I9).2,w9⟩
   |true=>
    rw[if_pos rfl]at q9 ⊢;refine gj (he _ _ _ _ s9 σ8 H9 _ I9 q9) λxv s10 ⟨y,H10,I10,r10,Uq,hz,m',hm,w10⟩=>?_
    refine gj (t_ _ s10 σ8 H10 (.ref s.heap.objs.size) [y] (.ref s.heap.objs.size) [xv] (λ_ AJ=>AJ=upd H10 s.heap.objs.size (.lst (ys ++ [y]))) I10 rfl (.cons r10 .nil) ⟨_,ys,y,rfl,rfl,Uq,hz,rfl⟩) λ_ s11 ⟨_,H11,I11,_,e11⟩=>?_
    subst e11;exact⟨m',hm,i+1,ys ++ [y],σ8,_,I11.sN,(back I11).1,(back I11).2,w10⟩
 exact codeAny_compStart_list (loop _ ⟨_,rfl⟩) (T.self _ 0 _ _ _ st4 (loop _ ⟨_,rfl⟩))
theorem OY(hc:X.calm=true)(CS:k8 X sc own cap N cl)(hi:PI X tg iter wi)(hg:∀f s3 H3,PG (gP X sc N cl f s3 H3) tg g)(ht:∀f s3 H3,VR (gP X sc N cl f s3 H3) ifs tc)(he:∀f s3 H3,PE (gP X sc N cl f s3 H3) elt te)
  (hs:∀x,foldedSetIterable iter X.env x=pure x:=by intro _;rfl):PE X (.ListComp elt [⟨tg,iter,ifs,0⟩] sc pos) (QM own cap wi g tc te):=by
 intro pins s σ H Q I h;rw[eval_ListComp];refine wpAny_comprehension_free (use:=none) rfl hs (Iz CS.clos) CS.kind CS.loc (gj (hi pins s σ H _ I h) λv s1 h1=>gj h1 λYo s2 h2=>?_)
 obtain⟨it,fp,tn,J,H2,e,I2,T,Vb,f2,q2⟩:=h2;subst e;refine Bz (RR:=λacc C=>compPost (model X.prog X.w) X.A X.xe none (EP X pins σ Q) acc C) (Q:=Q) hc CS I2 T Vb f2 hg ht he q2 ?_
 intro D C H' s' I' ⟨m,hn⟩ fC q;exact⟨m,hn,λh' sb=>⟨.ref D,H',I'.turned (t':=s'.toks) (λb o hb e=>(sb.2 b hb).trans e) fC.1 fC.2.1 fC.2.2.2.1 fC.2.2.2.2.1 fC.2.2.2.2.2,rfl,q⟩⟩
theorem u9{px v8:Pos}(hN:X.N.Nodup)(Sx:X.N[i]?=some x)(hx:Loc X.env.scope x)(hc:X.calm=true)(CS:k8 X sc own cap N cl)(hi:PI X tg iter wi)(hg:∀f s3 H3,PG (gP X sc N cl f s3 H3) tg g)
  (ht:∀f s3 H3,VR (gP X sc N cl f s3 H3) ifs tc)(he:∀f s3 H3,PE (gP X sc N cl f s3 H3) elt te)(CM:swapsWith (.ListComp elt [⟨tg,iter,ifs,0⟩] sc pos) (some (.Name x px)) v8.line X.env=pure true:=by rfl)
  (hs:∀x,foldedSetIterable iter X.env x=pure x:=by intro _;rfl)(hf:X.fn x=true\/X.env.scope.names.lookup x=some .local:=by first|exact .inl rfl|exact .inr rfl|assumption):
  PS X (.Assign [.Name x px] (.ListComp elt [⟨tg,iter,ifs,0⟩] sc pos) v8) (RZ (QM own cap wi g tc te) (Bq i)):=by
 intro pins s σ H D I h;rw[exec_Assign_Name_used _ _ _ _ CM];refine au (lV (au (?_:wpAny _ _ _ _ _ _)))
 show wpAny _ X.A (do let _ <-comprehension (.ListComp elt [⟨tg,iter,ifs,0⟩] sc pos) sc X.env _ (newList []) false (eval iter X.env) (some (assign (.Name x px) X.env))) _ _ s
 refine au (eT (wpAny_comprehension_free (use:=some (assign (.Name x px) X.env)) (Q:=λ_ s'=>SP X pins D .next s') rfl hs (Iz CS.clos) CS.kind CS.loc
  (gj (hi pins s σ H _ I h) λv s1 h1=>gj h1 λYo s2 h2=>?_)) (λ_ s' hq=>aZ (aZ hq)) λ_ _ e=>e)
 obtain⟨it,fp,tn,J,H2,e,I2,T,Vb,f2,q2⟩:=h2;subst e;refine Bz (RR:=λacc C=>compPost (model X.prog X.w) X.A X.xe (some (assign (.Name x px) X.env)) (λ_ s'=>SP X pins D .next s') acc C) (Q:=λv H'=>Bq i v σ H' D.nx) hc CS I2 T Vb f2 hg ht he q2 ?_
 intro D' C H' s' I' ⟨m,hn⟩ fC q;show wpAny _ _ (assign (.Name x px) X.env (.ref D')) _ _ s';refine wpAny_assign_Name (Bo I' hN Sx hx (v:=.ref D') rfl (λR_ I'' ⟨a,sb,ha⟩=>?_) hf)
 have Uk:C≠a:=by
  rcases ha with z|z
  ·rw[z];exact fC.2.1
  ·exact λy=>fC.2.2.2.2.1 x a z y.symm
 exact⟨m,hn.sameBut sb Uk,λh' sb'=>⟨_,H',I''.turned (t':=R_.toks) (λb o hb e=>(sb'.2 b hb).trans e) fC.1 fC.2.1 fC.2.2.2.1 fC.2.2.2.2.1 fC.2.2.2.2.2,q⟩⟩
end
def Ite(K:av)(a:aN):It:=
 ⟨λi H=>∃xs x,lW K H a xs/\xs[i]?=some x,λi H v H'=>∃t x,v=.ref t/\H t=none/\H'=upd H t (.tup [.int i,x])/\∀xs,lW K H a xs->xs[i]?=some x,λi H=>∃xs,lW K H a xs/\xs.length<=i⟩
theorem J0{k}(a e it:aN)(Ur:e≠it):Turn P w K (.Tuple elts k tp) (Ite K a) [e,it] e (λi h=>(∃old,IsEnum h e it (i:Nat) old)/\h.IsListIter it a i) where
 mem:=by simp
 obj:=λi h st b hb=>by
  obtain⟨⟨old,he⟩,⟨o,ho,c,d⟩⟩:=st;rcases aJ.mp hb with z|z
  ·subst z
   exact⟨_,he,λv z=>by cases z⟩
  ·have z':b=it:=by simpa using z
   subst z';exact⟨o,ho,λv z=>by rw[d]at z;cases z⟩
 keep:=λi h h' st kp=>⟨let⟨old,he⟩:=st.1;⟨old,kp e (by simp) _ he⟩,st.2.at λo q=>kp it (by simp) o q⟩
 item:=by
  intro X hP hw hK hc i pins s σ H E I hf st hg;subst hP hw hK;obtain⟨⟨old,he⟩,hit⟩:=st;obtain⟨xs,x,hq,hx⟩:=hg;obtain⟨its,rv,p,hz⟩:=I.list hq;obtain⟨u,hu,ru⟩:=rv.get hx;refine wpAny_pyNext_enum_item he hit p.isList (x:=u) (by simpa using hu) Ur λh1 Qz zak ht1 hz1 VX=>?_
  refine⟨.ref s.heap.objs.size,rfl,wpAny_letOwnedTupleGo_enum Qz λh2 Sy qH=>?_⟩
  have elt:e<s.heap.objs.size:=aW he;have ilt:it<s.heap.objs.size:=by obtain⟨o,ho,_⟩:=id hit;exact aW ho
  have k2:∀b o,b∉[e,it]->s.heap.get? b=some o->h2.get? b=some o:=λb o hb q=>by
   have n1:b≠e:=λz=>hb (by simp[z])
   have n2:b≠it:=λz=>hb (by simp[z])
   exact(qH.2 b n1).trans (VX b o n1 n2 q)
  have I2:Inv X pins σ H { s with heap:=h2,toks:=s.toks+1 }:=I.yQ k2 hf
  have VY:h2.get? s.heap.objs.size=some { cls:=.type "tuple",data:=.seq #[.int i s.toks,u] }:=(qH.2 _ (fy elt)).trans ht1;have fT:vS X pins H s.heap.objs.size:=I.A3 (aA _) I.fresh;have I3:Inv X pins σ (upd H s.heap.objs.size (.tup [.int i,x])) { s with heap:=h2,toks:=s.toks+1 }:=
   I2.track fT ⟨by show 2<=sizeLine;rw[du];decide,[.int i s.toks,u],.cons ⟨_,rfl⟩ (.cons ru .nil),⟨_,VY,rfl,_,rfl⟩⟩
  refine⟨.ref s.heap.objs.size,_,I3,rfl,⟨_,x,rfl,I.fresh,rfl,λys hy=>by rw[I.zl hy hq];exact hx⟩,⟨⟨_,by simpa using Sy⟩,zak.at λo q=>(qH.2 it Ur.symm).trans q⟩,λb hb=>?_⟩
  rcases aJ.mp hb with z|z
  ·subst z
   rw[aT (bB elt)];exact(hf b hb).1
  ·have z':b=it:=by simpa using z
   subst z';rw[aT (bB ilt)];exact(hf b hb).1
 done:=by
  intro X hP hw hK hc i pins s σ H E I hf st hg;subst hP hw hK;obtain⟨⟨old,he⟩,hit⟩:=st;obtain⟨xs,hq,hx⟩:=hg;obtain⟨its,rv,p,hz⟩:=I.list hq;have hl:=rv.length;exact wpAny_pyNext_enum_end (I.ok.hd hc) he hit p.isList (by simp;omega) λh' eb=>⟨rfl,I.yQ (ch:=[e,it]) (t':=s.toks) (λb o hb q=>eb b o (λz=>hb (by simp[z])) q) hf⟩
 self:=λ_ _ _ _ _ st h=>let⟨⟨_,he⟩,_⟩:=st;wpAny_pyIter_enum he h
def VZ(K:av)(ta:TA):TI:=λσ H R=>ta σ H λvs H1=>∃a,vs=[.ref a]/\(∃xs,lW K H1 a xs)/\R (Ite K a) H1
theorem OZ{a:cw}{ta:TA}{pos: Pos}{k}(hg:Gl X "enumerate")(hm:X.mg "enumerate"=none)(ha:PA X [a] ta)(hs:starEach [a] X.env=[(false,eval a X.env)]:=by rfl):
  PI X (.Tuple elts k tp) (.Call (.Name "enumerate" p) [a] [] pos) (VZ X.K ta):=by
 intro pins s σ H R I h;refine Call_ (xm I hg hm boot_enumerate (jt (gj (ha pos pins s σ H _ I h) λus s1 ⟨vs,H1,I1,r1,q1⟩=>?_) hs rfl))
 obtain⟨l,e,⟨xs,hq⟩,q⟩:=q1;subst e;obtain⟨u,rfl,rx⟩:=vals1 r1;cases rx;obtain⟨its,rv,pl,hz⟩:=I1.list hq;refine call_enumerate_list pl.isList λh' he hit hsz hk=>wpAny_pyIter_enum he ?_
 have I2:Inv X pins σ H1 { s1 with heap:=h' }:=I1.kept (t':=s1.toks) hk
 refine⟨_,[s1.heap.objs.size+1,s1.heap.objs.size],_,_,H1,rfl,I2,J0 l _ _ (Nat.succ_ne_self _),⟨⟨_,he⟩,hit⟩,λb hb=>?_,q⟩
 rcases aJ.mp hb with z|z
 ·subst z
  exact I1.A3 (jK _) (I1.hok.fresh (jK _))
 ·have z':b=s1.heap.objs.size:=by simpa using z
  subst z';exact I1.A3 (aA _) I1.fresh
def CN:Key->aq
 | .inl i=>.int i
 | .inr x=>.str x
mutual
inductive Rep(K:av)(H:Hp):V->aq->Prop
 |non:Rep K H .non .none
 |bl (b:Bool):Rep K H (.bl b) (.bool b)
 |int (i:Int):Rep K H (.int i) (.int i)
 |str (x:Str):Rep K H (.str x) (.str x)
 |lst {a:aN} {xs:List V} {ds:List aq}:lW K H a xs->dz K H xs ds->Rep K H (.ref a) (.list ds)
 |tup {a:aN} {xs:List V} {ds:List aq}:qM K H a xs->dz K H xs ds->Rep K H (.ref a) (.tuple ds)
 |dct {a:aN} {kvs:List (Key×V)} {ds:List (aq×aq)}:H a=some (.dK kvs)->ds.map (·.1)=kvs.map (λp=>CN p.1)->dz K H (kvs.map (·.2)) (ds.map (·.2))->Rep K H (.ref a) (.dict ds)
 |Us {a:aN} {kvs:List (List Key×V)} {ds:List (aq×aq)}:H a=some (.dT kvs)->ds.map (·.1)=kvs.map (λp=>gK (p.1.map CN))->dz K H (kvs.map (·.2)) (ds.map (·.2))->Rep K H (.ref a) (.dict ((.none,.bool true)::ds))
 |obj {a C dx:aN} {fs:List (Str×V)} {ds:List (aq×aq)}:H a=some (.ins C dx fs)->D3 K C->(∀f∈fs.map (·.1),fY K C f)->ds.map (·.1)=fs.map (λp=>aH p.1)->dz K H (fs.map (·.2)) (ds.map (·.2))->Rep K H (.ref a) (.dict ((.none,.none)::ds))
inductive dz(K:av)(H:Hp):List V->List aq->Prop
 |nil:dz K H [] []
 |cons {x:V} {d:aq} {xs:List V} {ds:List aq}:Rep K H x d->dz K H xs ds->dz K H (x::xs) (d::ds)
end
theorem er.qT(e:er H H')(h:qM K H a xs):qM K H' a xs:=by
 rcases h with(h|⟨o,h⟩)|h
 ·exact .inl (.inl (e _ _ h))
 ·exact .inl (.inr ⟨o,e _ _ h⟩)
 ·exact .inr h
theorem Rep.mono(s:er H H'){v:V}(r:Rep K H v d):Rep K H' v d:=
 Rep.rec (motive_1:=λv d _=>Rep K H' v d) (motive_2:=λxs ds _=>dz K H' xs ds) .non (λb=>.bl b) (λi=>.int i) (λx=>.str x) (λh _ t=>.lst (s.seq h) t) (λh _ t=>.tup (s.qT h) t) (λh k _ t=>.dct (s _ _ h) k t) (λh k _ t=>.Us (s _ _ h) k t) (λh c n k _ t=>.obj (s _ _ h) c n k t) .nil (λ_ _ a t=>.cons a t) r
theorem dz.mono(s:er H H'):∀{ds:List aq}{xs:List V},dz K H xs ds->dz K H' xs ds
 | [],_,r=>by cases r;exact .nil
 |d::ds,_,r=>by cases r with|cons a t=>exact .cons (a.mono s) (dz.mono s t)
section
variable{K:av}{H:Hp}
theorem dz.length:∀{xs:List V}{ds:List aq},dz K H xs ds->xs.length=ds.length
 | [],_,r=>by cases r;rfl
 |x::xs,_,r=>by cases r with|cons a t=>simp[dz.length t]
theorem dz.get:∀{xs:List V}{ds:List aq}{i:Nat}{d:aq},dz K H xs ds->ds[i]?=some d->∃x,xs[i]?=some x/\Rep K H x d
 | [],_,_,_,r,e=>by cases r;simp at e
 |x::xs,_,i,d,r,e=>by
  cases r with
  |cons a t=>
   cases i with
   |zero=>simp at e;subst e;exact⟨x,rfl,a⟩
   |succ i=>simpa using dz.get (i:=i) t (by simpa using e)
theorem dz.at{ds:List aq}{x:V}(r:dz K H xs ds)(e:ds[i]?=some d)(h:xs[i]?=some x):Rep K H x d:=by
 obtain⟨y,h1,h2⟩:=r.get e;rw[h]at h1;cases h1;exact h2
theorem dz.append:∀{xs ys:List V}{ds es:List aq},dz K H xs ds->dz K H ys es->dz K H (xs++ys) (ds++es)
 | [],_,_,_,r,s=>by cases r;exact s
 |x::xs,_,_,_,r,s=>by cases r with|cons a t=>exact .cons a (dz.append t s)
theorem dz.take:∀{xs:List V}{ds:List aq}(n:Nat),dz K H xs ds->dz K H (xs.take n) (ds.take n)
 |_,_,0,_=>by simpa using dz.nil
 | [],_,_+1,r=>by cases r;exact .nil
 |x::xs,_,n+1,r=>by cases r with|cons a t=>exact .cons a (dz.take n t)
theorem dz.drop:∀{xs:List V}{ds:List aq}(n:Nat),dz K H xs ds->dz K H (xs.drop n) (ds.drop n)
 |_,_,0,r=>r
 | [],_,_+1,r=>by cases r;exact .nil
 |x::xs,_,n+1,r=>by cases r with|cons a t=>exact dz.drop n t
end
mutual
theorem j'(I:Inv X pins σ H s):∀(d:aq){v:V}{u:aD},d.canLay0=true->Rep X.K H v d->RelV v u->∃as,Reads s.heap u d as
 | .none,_,_,_,r,q=>by cases r;cases q;exact⟨_,.none⟩
 | .bool b,_,_,_,r,q=>by cases r;cases q;exact⟨_,.bool b⟩
 | .int i,_,_,_,r,q=>by cases r;obtain⟨t,rfl⟩:=q;exact⟨_,.int i t⟩
 | .str x,_,_,_,r,q=>by cases r;obtain⟨t,rfl⟩:=q;exact⟨_,.str x t⟩
 | .list ds,_,_,hc,r,q=>by
  cases r with
  |lst h t=>
   cases q;obtain⟨its,rv,⟨o,n,e,c,_,dt⟩,_⟩:=I.list h;obtain⟨as,ra⟩:=mZ I ds hc t rv;exact⟨_,.list e c dt (by simpa using ra)⟩
 | .tuple ds,_,_,hc,r,q=>by
  cases r with
  |tup h t=>
   cases q;obtain⟨its,rv,⟨o,e,c,n,dt⟩,_⟩:=I.tuple h;obtain⟨as,ra⟩:=mZ I ds hc t rv;exact⟨_,.tuple e c dt (by simpa using ra)⟩
 | .dict _,_,_,hc,_,_=>by cases hc
theorem mZ(I:Inv X pins σ H s):∀(ds:List aq){xs:List V}{us:List aD},pP ds=true->dz X.K H xs ds->dZ xs us->∃as,ReadsAll s.heap us ds as
 | [],_,_,_,r,q=>by cases r;cases q;exact⟨_,.nil⟩
 |d::ds,_,_,hc,r,q=>by
  have Ul:(d.canLay0&&pP ds)=true:=hc;rw[rK]at Ul;cases r with
  |cons a t=>
   cases q with
   |cons b w=>
    obtain⟨as,h1⟩:=j' I d Ul.1 a b;obtain⟨bs,h2⟩:=mZ I ds Ul.2 t w;exact⟨_,.cons h1 h2⟩
end
def Lay(n:Nat)(d:aq):Prop:=d.canLay0=true/\d.depth<=n
inductive Slot where
 |un
 |val (d:aq)
 |own (ds:List aq)
 |ref (a:aN)
variable{δ δ':List Slot}
structure dW(H0 H fq H':Hp):Prop where
 big:er H H'
 gL:er H0 fq
 sub:er fq H'
 new:∀a,fq a≠none->H0 a≠none\/H a=none
theorem dW.refl(s:er H0 H):dW H0 H H0 H:=⟨er.refl _,er.refl _,s,λ_ h=>.inl h⟩
theorem er.ne(s:er H H')(h:H a≠none):H' a≠none:=by
 cases e:H a with
 |none=>exact absurd e h
 |some o=>rw[s a o e];simp
theorem dW.trans{A B C D E F:Hp}(x:dW A B C D)(y:dW C D E F):dW A B E F:=
 ⟨x.big.trans y.big,x.gL.trans y.gL,y.sub,λa h=>(y.new a h).elim (x.new a) λz=>.inr (x.big.free z)⟩
theorem dW.laid(s:er H0 H){p:aN}(h:H p=none):dW H0 H (upd H0 p o) (upd H p o):=by
 have h0:H0 p=none:=s.free h;refine⟨λb u e=>?_,λb u e=>?_,λb u e=>?_,λb e=>?_⟩
 ·rw[aT (bE e h)];exact e
 ·rw[aT (bE e h0)];exact e
 ·by_cases hb:b=p
  ·subst hb;rw[b0]at e ⊢;exact e
  ·rw[aT hb]at e ⊢;exact s b u e
 ·by_cases hb:b=p
  ·subst hb;exact .inr h
  ·rw[aT hb]at e;exact .inl e
theorem dW.loose(s:er H0 H){p:aN}(h:H p=none):dW H0 H H0 (upd H p o):=
 ⟨λb u e=>by rw[aT (bE e h)];exact e,er.refl _,λb u e=>by rw[aT (bE (s b u e) h)];exact s b u e,λ_ e=>.inl e⟩
def LY(K:av)(B H0 H:Hp):Slot->Option (Option V)->Prop
 | .un,_=>True
 | .val d,o=>∃v,o=some (some v)/\Rep K H0 v d
 | .own ds,o=>∃p xs,o=some (some (.ref p))/\H p=some (.lst xs)/\H0 p=none/\B p=none/\dz K H0 xs ds
 | .ref a,o=>o=some (some (.ref a))
structure gW(K:av)(B0 B H0 H:Hp)(σ:St)(δ:List Slot):Prop where
 ent:dW B0 B H0 H
 len:σ.length=δ.length
 slot:∀(i:Nat)sl,δ[i]?=some sl->LY K B H0 H sl σ[i]?
 apart:∀(i j:Nat)ds es p,i≠j->δ[i]?=some (.own ds)->δ[j]?=some (.own es)->σ[i]?=some (some (.ref p))->σ[j]?≠some (some (.ref p))
section
variable{K:av}{B0 B H0 H fq H':Hp}{σ:St}{δ:List Slot}
theorem gW.sub(f:gW K B0 B H0 H σ δ):er H0 H:=f.ent.sub
theorem gW.grow(f:gW K B0 B H0 H σ δ)(g:dW H0 H fq H'):gW K B0 B fq H' σ δ:=by
 refine⟨f.ent.trans g,f.len,λi sl e=>?_,f.apart⟩
 have q:=f.slot i sl e;cases sl with
 |un=>trivial
 |ref a=>exact q
 |val d=>obtain⟨v,h1,h2⟩:=q;exact⟨v,h1,h2.mono g.gL⟩
 |own ds=>
  obtain⟨p,xs,h1,h2,h3,h4,h5⟩:=q;refine⟨p,xs,h1,g.big _ _ h2,?_,h4,h5.mono g.gL⟩
  cases e2:fq p with
  |none=>rfl
  |some o=>
   rcases g.new p (by rw[e2];simp)with z|z
   ·exact absurd h3 z
   ·rw[h2]at z;cases z
theorem gW.val(f:gW K B0 B H0 H σ δ)(h:δ[i]?=some (.val d)):∃v,σ[i]?=some (some v)/\Rep K H0 v d:=f.slot i _ h
theorem gW.set(f:gW K B0 B H0 H σ δ){v:V}(r:Rep K H0 v d):gW K B0 B H0 H (σ.set i (some v)) (δ.set i (.val d)):=by
 refine⟨f.ent,by simp[f.len],λj sl e=>?_,λj k ds es p DW e1 e2 e3=>?_⟩
 ·by_cases hj:j=i
  ·subst hj
   have hl:j < δ.length:=by
    have:=(aL.mp e).1;simpa using this
   rw[bf hl]at e;cases e;rw[bf (by rw[f.len];exact hl)]
   exact⟨v,rfl,r⟩
  ·rw[a7 (bU hj)]at e
   rw[a7 (bU hj)];exact f.slot j sl e
 ·have nj:j≠i:=λz=>by
   subst z;have hl:j < δ.length:=by simpa using(aL.mp e1).1
   rw[bf hl]at e1;cases e1
  have nk:k≠i:=λz=>by
   subst z;have hl:k < δ.length:=by simpa using(aL.mp e2).1
   rw[bf hl]at e2;cases e2
  rw[a7 (bU nj)]at e1 e3;rw[a7 (bU nk)]at e2 ⊢;exact f.apart j k ds es p DW e1 e2 e3
theorem gW.zC(f:gW K B0 B H0 H σ δ){ds:List aq}{p:aN}(h1:H p=some (.lst xs))(h2:H0 p=none)(h3:B p=none)(r:dz K H0 xs ds)(hn:∀(j:Nat)es,δ[j]?=some (.own es)->σ[j]?≠some (some (.ref p))):
  gW K B0 B H0 H (σ.set i (some (.ref p))) (δ.set i (.own ds)):=by
 refine⟨f.ent,by simp[f.len],λj sl e=>?_,λj k Fx es q DW e1 e2 e3=>?_⟩
 ·by_cases hj:j=i
  ·subst hj
   have hl:j < δ.length:=by simpa using(aL.mp e).1
   rw[bf hl]at e;cases e;rw[bf (by rw[f.len];exact hl)]
   exact⟨p,xs,rfl,h1,h2,h3,r⟩
  ·rw[a7 (bU hj)]at e
   rw[a7 (bU hj)];exact f.slot j sl e
 ·have hlj:j < δ.length:=by simpa using(aL.mp e1).1
  have hlk:k < δ.length:=by simpa using(aL.mp e2).1
  by_cases nj:j=i
  ·subst nj
   rw[bf (by rw[f.len];exact hlj)]at e3
   cases e3;rw[a7 DW]at e2 ⊢;exact hn k es e2
  ·rw[a7 (bU nj)]at e1 e3
   by_cases nk:k=i
   ·subst nk
    rw[bf (by rw[f.len];exact hlk)]
    intro z;cases z;exact hn j Fx e1 e3
   ·rw[a7 (bU nk)]at e2 ⊢
    exact f.apart j k Fx es q DW e1 e2 e3
theorem gW.push(f:gW K B0 B H0 H σ δ){ds:List aq}{p:aN}{y:V}(hi:δ[i]?=some (.own ds))(hp:σ[i]?=some (some (.ref p)))(h1:H p=some (.lst xs))(ry:Rep K H0 y d):
  gW K B0 B H0 (upd H p (.lst (xs ++ [y]))) σ (δ.set i (.own (ds ++ [d]))):=by
 obtain⟨p',LZ,e1,e2,e3,e4,e5⟩:=f.slot i _ hi;rw[hp]at e1;cases e1;rw[h1]at e2;cases e2;have hl:i < δ.length:=(aL.mp hi).1;refine⟨⟨λb u e=>?_,f.ent.gL,λb u e=>?_,f.ent.new⟩,by simp[f.len],λj sl e=>?_,λj k Fx es q DW a1 a2 a3=>?_⟩
 ·have:b≠p:=bE e e4
  rw[aT this];exact f.ent.big b u e
 ·have:b≠p:=bE e e3
  rw[aT this];exact f.ent.sub b u e
 ·by_cases hj:j=i
  ·subst hj
   rw[bf hl]at e;cases e;exact⟨p,xs ++ [y],hp,b0,e3,e4,e5.append (.cons ry .nil)⟩
  ·rw[a7 (bU hj)]at e
   have q:=f.slot j sl e;cases sl with
   |un=>trivial
   |ref a=>exact q
   |val d=>exact q
   |own Fx=>
    obtain⟨p2,V0,g1,g2,g3,g4,g5⟩:=q;have:p2≠p:=λz=>by subst z;exact f.apart i j ds Fx p2 (bU hj) hi e hp g1
    exact⟨p2,V0,g1,by rw[aT this];exact g2,g3,g4,g5⟩
 ·have c1:∃N5,δ[j]?=some (.own N5):=by
   by_cases hj:j=i
   ·subst hj;exact⟨_,hi⟩
   ·rw[a7 (bU hj)]at a1;exact⟨_,a1⟩
  have c2:∃N5,δ[k]?=some (.own N5):=by
   by_cases hk:k=i
   ·subst hk;exact⟨_,hi⟩
   ·rw[a7 (bU hk)]at a2;exact⟨_,a2⟩
  obtain⟨d1,c1⟩:=c1;obtain⟨d2,c2⟩:=c2;exact f.apart j k d1 d2 q DW c1 c2 a3
theorem gW.freeze(f:gW K B0 B H0 H σ δ){ds:List aq}{p:aN}(hi:δ[i]?=some (.own ds))(hp:σ[i]?=some (some (.ref p)))(h1:H p=some (.lst xs)):
  gW K B0 B (upd H0 p (.lst xs)) H σ (δ.set i (.val (.list ds)))/\er H0 (upd H0 p (.lst xs)):=by
 obtain⟨p',LZ,e1,e2,e3,e4,e5⟩:=f.slot i _ hi;rw[hp]at e1;cases e1;rw[h1]at e2;cases e2;have hl:i < δ.length:=(aL.mp hi).1;have sm:er H0 (upd H0 p (.lst xs)):=λb u e=>by rw[aT (bE e e3)];exact e
 refine⟨⟨⟨f.ent.big,f.ent.gL.trans sm,λb u e=>?_,λb e=>?_⟩,by simp[f.len],λj sl e=>?_,λj k Fx es q DW a1 a2 a3=>?_⟩,sm⟩
 ·by_cases hb:b=p
  ·subst hb;rw[b0]at e;rw[<-e];exact h1
  ·rw[aT hb]at e;exact f.ent.sub b u e
 ·by_cases hb:b=p
  ·subst hb;exact .inr e4
  ·rw[aT hb]at e;exact f.ent.new b e
 ·by_cases hj:j=i
  ·subst hj
   rw[bf hl]at e;cases e;exact⟨.ref p,hp,.lst (lW.of b0) (e5.mono sm)⟩
  ·rw[a7 (bU hj)]at e
   have q:=f.slot j sl e;cases sl with
   |un=>trivial
   |ref a=>exact q
   |val d=>obtain⟨v,g1,g2⟩:=q;exact⟨v,g1,g2.mono sm⟩
   |own Fx=>
    obtain⟨p2,V0,g1,g2,g3,g4,g5⟩:=q;have:p2≠p:=λz=>by subst z;exact f.apart i j ds Fx p2 (bU hj) hi e hp g1
    exact⟨p2,V0,g1,g2,by rw[aT this];exact g3,g4,g5.mono sm⟩
 ·have nj:j≠i:=λz=>by subst z;rw[bf hl]at a1;cases a1
  have nk:k≠i:=λz=>by subst z;rw[bf hl]at a2;cases a2
  rw[a7 (bU nj)]at a1;rw[a7 (bU nk)]at a2;exact f.apart j k Fx es q DW a1 a2 a3
end
def cE(X:Cx)(e:cw):TE:=λσ H Q=>∀pins s,Inv X pins σ H s->wpAny (model X.prog X.w) X.A (eval e X.env) (EP X pins σ Q) X.xe s
def cT(X:Cx)(e:cw):TT:=λσ H Q=>∀pins s,Inv X pins σ H s->wpAny (model X.prog X.w) X.A (isTrue e X.env (eval e X.env)) (TP X pins σ Q) X.xe s
def cS(X:Cx)(st:iH):TS:=λD σ H=>∀pins s,Inv X pins σ H s->wpAny (model X.prog X.w) X.A (exec st X.env) (SP X pins D) X.xe s
def J1(X:Cx)(st:List iH):TS:=λD σ H=>∀pins s,Inv X pins σ H s->wpAny (model X.prog X.w) X.A (execs st X.env) (SP X pins D) X.xe s
theorem dD:PE X e (cE X e):=λpins s _ _ _ I h=>h pins s I
theorem kY:PT X e (cT X e):=λpins s _ _ _ I h=>h pins s I
theorem L4{e:iH}:PS X e (cS X e):=λpins s _ _ _ I h=>h pins s I
theorem mh{e:List iH}:Ie X e (J1 X e):=λpins s _ _ _ I h=>h pins s I
def VE(X:Cx)(e:cw)(δ:List Slot)(d:aq):Prop:=∀B0 B σ H0 H Q,gW X.K B0 B H0 H σ δ->(∀v fq H',dW H0 H fq H'->Rep X.K fq v d->Q v H')->cE X e σ H Q
def VO(X:Cx)(e:cw)(δ:List Slot)(ds:List aq):Prop:=∀B0 B σ H0 H Q,gW X.K B0 B H0 H σ δ->
 (∀p xs fq H',dW H0 H fq H'->H p=none->fq p=none->H' p=some (.lst xs)->dz X.K fq xs ds->Q (.ref p) H')->cE X e σ H Q
def VT(X:Cx)(e:cw)(δ:List Slot)(b:Bool):Prop:=∀B0 B σ H0 H Q,gW X.K B0 B H0 H σ δ->(∀fq H',dW H0 H fq H'->Q b H')->cT X e σ H Q
def VA(X:Cx)(es:List cw)(δ:List Slot)(ds:List aq):Prop:=∃t,PA X es t/\∀B0 B σ H0 H Q,gW X.K B0 B H0 H σ δ->(∀vs fq H',dW H0 H fq H'->dz X.K fq vs ds->Q vs H')->t σ H Q
theorem VE.of{t:TE}(h:PE X e t)(q:∀B0 B σ H0 H Q,gW X.K B0 B H0 H σ δ->(∀v fq H',dW H0 H fq H'->Rep X.K fq v d->Q v H')->t σ H Q):VE X e δ d:=
 λB0 B σ H0 H Q f k pins s I=>h pins s σ H Q I (q B0 B σ H0 H Q f k)
theorem VO.of{ds:List aq}{t:TE}(h:PE X e t)(q:∀B0 B σ H0 H Q,gW X.K B0 B H0 H σ δ->
  (∀p xs fq H',dW H0 H fq H'->H p=none->fq p=none->H' p=some (.lst xs)->dz X.K fq xs ds->Q (.ref p) H')->t σ H Q):VO X e δ ds:=
 λB0 B σ H0 H Q f k pins s I=>h pins s σ H Q I (q B0 B σ H0 H Q f k)
theorem VT.of{t:TT}(h:PT X e t)(q:∀B0 B σ H0 H Q,gW X.K B0 B H0 H σ δ->(∀fq H',dW H0 H fq H'->Q b H')->t σ H Q):VT X e δ b:=
 λB0 B σ H0 H Q f k pins s I=>h pins s σ H Q I (q B0 B σ H0 H Q f k)
theorem VO.ve{ds:List aq}(h:VO X e δ ds):VE X e δ (.list ds):=λB0 B σ H0 H Q f k=>h B0 B σ H0 H Q f λp xs fq H' g h1 h2 h3 r=>by
 have sm:er fq (upd fq p (.lst xs)):=λb u e=>by rw[aT (bE e h2)];exact e
 refine k (.ref p) (upd fq p (.lst xs)) H' ⟨g.big,g.gL.trans sm,λb u e=>?_,λb e=>?_⟩ (.lst (lW.of b0) (r.mono sm))
 ·by_cases hb:b=p
  ·subst hb;rw[b0]at e;rw[<-e];exact h3
  ·rw[aT hb]at e;exact g.sub b u e
 ·by_cases hb:b=p
  ·subst hb;exact .inr h1
  ·rw[aT hb]at e;exact g.new b e
def AK(K:av)(r:R2)(d1 d2 d:aq):Prop:=∀x y H0 H Q,er H0 H->Rep K H0 x d1->Rep K H0 y d2->(∀v fq H',dW H0 H fq H'->Rep K fq v d->Q v H')->r x y H Q
section
variable{X:Cx}{a b c e:cw}{δ:List Slot}{d d1 d2 d3:aq}{pos:Pos}
theorem ai(i:Nat)(h:δ[i]?=some (.val d))(hN:X.N[i]?=some x:=by rfl)(hv:D0 X.env.scope x:=by first|exact aV rfl|exact cX (aV rfl)|exact cX (cX rfl))(hd:(x==("__debug__":Str))=false:=by decide)
  (pT:(x==("__classdict__":Str))=false:=by decide):VE X (.Name x pos) δ d:=
 .of (gO hN hv hd pT) λB0 B σ H0 H Q f k=>let⟨v,h1,h2⟩:=f.val h;⟨v,h1,k v H0 H (.refl f.sub) h2⟩
theorem ax{i:Int}{j}:VE X (.Constant (.int i) j pos) δ (.int i):=.of RL λ_ _ _ _ _ _ f k=>k _ _ _ (.refl f.sub) (.int i)
theorem BD{i:Bool}{j}:VE X (.Constant (.bool i) j pos) δ (.bool i):=.of U2 λ_ _ _ _ _ _ f k=>k _ _ _ (.refl f.sub) (.bl i)
theorem eB{j}:VE X (.Constant .none j pos) δ .none:=.of RM λ_ _ _ _ _ _ f k=>k _ _ _ (.refl f.sub) .non
theorem aF{i:Str}{j}:VE X (.Constant (.str i) j pos) δ (.str i):=.of RN λ_ _ _ _ _ _ f k=>k _ _ _ (.refl f.sub) (.str i)
theorem two_d{r:R2}(hd:AK X.K r d1 d2 d)(h1:VE X a δ d1)(h2:VE X b δ d2):∀B0 B σ H0 H Q,gW X.K B0 B H0 H σ δ->(∀v fq H',dW H0 H fq H'->Rep X.K fq v d->Q v H')->Vc r (cE X a) (cE X b) σ H Q:=λB0 B σ H0 H Q f k=>
 h1 B0 B σ H0 H _ f λv H1 dX g1 r1=>h2 B0 B σ H1 dX _ (f.grow g1) λu H2 iL g2 r2=>hd v u H2 iL Q g2.sub (r1.mono g2.gL) r2 λw H3 ua g3 r3=>k w H3 ua ((g1.trans g2).trans g3) r3
theorem u_{op:Operator}{r:R2}(ho:rM X (binaryOp op) r)(hd:AK X.K r d1 d2 d)(h1:VE X a δ d1)(h2:VE X b δ d2):VE X (.BinOp a op b pos) δ d:=.of (Ii ho dD dD) (two_d hd h1 h2)
theorem xx{r:R2}(ho:rM X (compareOp op) r)(hd:AK X.K r d1 d2 d)(h1:VE X a δ d1)(h2:VE X b δ d2)(hm:behindInMarks op b=false):VE X (.Compare a [op] [b] pos) δ d:=.of (Ik ho dD dD hm) (two_d hd h1 h2)
theorem fU{r:R2}{k:Bool}(ho:rM X (compareOp op) r)(hd:AK X.K r d1 d2 (.bool k))(h1:VE X a δ d1)(h2:VE X b δ d2)(hm:behindInMarks op b=false):VT X (.Compare a [op] [b] pos) δ k:=
 .of (Oj ho dD dD hm) λB0 B σ H0 H Q f q=>two_d hd h1 h2 B0 B σ H0 H _ f λv fq H' g r=>by cases r;exact⟨_,rfl,q fq H' g⟩
theorem Gd{r:R2}(ho:N3 X r)(hd:AK X.K r d1 d2 d)(h1:VE X a δ d1)(h2:VE X b δ d2)(hs:qR b:=by intro _ _;rfl):VE X (.Subscript a b pos) δ d:=.of (Lz ho dD dD hs) (two_d hd h1 h2)
end
theorem V1(i j:Int):AK K (N1 λi j=>.int (g i j)) (.int i) (.int j) (.int (g i j)):=λx y H0 H Q s r1 r2 k=>by cases r1;cases r2;exact⟨_,_,rfl,rfl,k _ _ _ (.refl s) (.int _)⟩
theorem rZ{g:Int->Int->Bool}(i j:Int):AK K (N1 λi j=>.bl (g i j)) (.int i) (.int j) (.bool (g i j)):=λx y H0 H Q s r1 r2 k=>by cases r1;cases r2;exact⟨_,_,rfl,rfl,k _ _ _ (.refl s) (.bl _)⟩
theorem Sz{C:Int->Int->Prop}(i j:Int)(h:C i j):AK K (rI C λi j=>.int (g i j)) (.int i) (.int j) (.int (g i j)):=λx y H0 H Q s r1 r2 k=>by cases r1;cases r2;exact⟨_,_,rfl,rfl,h,k _ _ _ (.refl s) (.int _)⟩
def SD(K:av)(n:Nat)(g:aq->aq->Bool):R2:=λx y H Q=>∃dx dy,Rep K H x dx/\Rep K H y dy/\Lay n dx/\Lay n dy/\Q (.bl (g dx dy)) H
theorem Ge(hu:X.A.units+n+2<cLine):rM X (compareOp .Eq) (SD X.K n λx y=>cU x y):=by
 intro pins s σ H x y v u Q I rx ry ⟨dx,dy,r1,r2,l1,l2,q⟩;obtain⟨as,ra⟩:=j' I dx l1.1 r1 rx;obtain⟨bs,rb⟩:=j' I dy l2.1 r2 ry;have h1:=l1.2;exact SeqAt.compareEq_reads ra rb l1.1 l2.1 (by omega) ⟨.bl _,H,I,rfl,q⟩
theorem L5(hu:X.A.units+n+2<cLine):rM X (compareOp .NotEq) (SD X.K n λx y=>!cU x y):=by
 intro pins s σ H x y v u Q I rx ry ⟨dx,dy,r1,r2,l1,l2,q⟩;obtain⟨as,ra⟩:=j' I dx l1.1 r1 rx;obtain⟨bs,rb⟩:=j' I dy l2.1 r2 ry;have h1:=l1.2;exact SeqAt.neOverData X.prog X.w X.A X.xe s v u dx dy as bs _ ra rb l1.1 l2.1 (by omega) ⟨.bl _,H,I,rfl,q⟩
def v9(d:aq):aq->Bool
 | .list xs=>xs.any λy=>cU y d
 | .tuple xs=>xs.any λy=>cU y d
 |_=>false
def Ec:aq->Bool
 | .list _=>true
 | .tuple _=>true
 |_=>false
def SG(K:av)(n:Nat)(neg:Bool):R2:=λx y H Q=>∃dx dy,Rep K H x dx/\Rep K H y dy/\Ec dy=true/\Lay n dx/\Lay n dy/\Q (.bl (if neg then !v9 dx dy else v9 dx dy)) H
theorem L6(hu:X.A.units+n+2<cLine):rM X (compareOp .In) (SG X.K n false):=by
 intro pins s σ H x y v u Q I rx ry ⟨dx,dy,r1,r2,hs,l1,l2,q⟩;obtain⟨as,ra⟩:=j' I dx l1.1 r1 rx;obtain⟨bs,rb⟩:=j' I dy l2.1 r2 ry;have h1:=l1.2;cases dy with
 |list ys=>exact SeqAt.in_list_reads rb ra l2.1 l1.1 (by omega) ⟨.bl _,H,I,rfl,q⟩
 |tuple ys=>exact SeqAt.in_tuple_reads rb ra l2.1 l1.1 (by omega) ⟨.bl _,H,I,rfl,q⟩
 |_=>cases hs
theorem J2(hu:X.A.units+n+2<cLine):rM X (compareOp .NotIn) (SG X.K n true):=by
 intro pins s σ H x y v u Q I rx ry ⟨dx,dy,r1,r2,hs,l1,l2,q⟩;obtain⟨as,ra⟩:=j' I dx l1.1 r1 rx;obtain⟨bs,rb⟩:=j' I dy l2.1 r2 ry;have h1:=l1.2;cases dy with
 |list ys=>exact SeqAt.notIn_list_reads rb ra l2.1 l1.1 (by omega) ⟨.bl _,H,I,rfl,q⟩
 |tuple ys=>exact SeqAt.notIn_tuple_reads rb ra l2.1 l1.1 (by omega) ⟨.bl _,H,I,rfl,q⟩
 |_=>cases hs
theorem Ed{g:aq->aq->Bool}{d1 d2:aq}(l1:Lay n d1)(l2:Lay n d2):AK K (SD K n g) d1 d2 (.bool (g d1 d2)):=λx y H0 H Q s r1 r2 k=>⟨d1,d2,r1.mono s,r2.mono s,l1,l2,k _ _ _ (.refl s) (.bl _)⟩
theorem SJ{neg:Bool}{d1 d2:aq}(hs:Ec d2=true)(l1:Lay n d1)(l2:Lay n d2):AK K (SG K n neg) d1 d2 (.bool (if neg then !v9 d1 d2 else v9 d1 d2)):=λx y H0 H Q s r1 r2 k=>
 ⟨d1,d2,r1.mono s,r2.mono s,hs,l1,l2,k _ _ _ (.refl s) (.bl _)⟩
theorem zan{ds:List aq}{i:Int}(h:qQ ds i=some d):AK K (Yt K) (.list ds) (.int i) d:=λx y H0 H Q s r1 r2 k=>by
 cases r2;cases r1 with
 |lst hq r=>
  rename_i p xs
  have hl:=r.length;unfold qQ at h;cases e:N2 ds.length i with
  |none=>rw[e]at h;cases h
  |some j=>
   rw[e]at h;obtain⟨v,hv,rv⟩:=r.get (i:=j) (d:=d) h;exact .inl ⟨p,xs,i,v,rfl,rfl,s.seq hq,by unfold qQ;rw[hl,e];exact hv,k v _ _ (.refl s) rv⟩
theorem V2{ds:List aq}{i:Int}(h:qQ ds i=some d):AK K (Yt K) (.tuple ds) (.int i) d:=λx y H0 H Q s r1 r2 k=>by
 cases r2;cases r1 with
 |tup hq r=>
  rename_i p xs
  have hl:=r.length;unfold qQ at h;cases e:N2 ds.length i with
  |none=>rw[e]at h;cases h
  |some j=>
   rw[e]at h;obtain⟨v,hv,rv⟩:=r.get (i:=j) (d:=d) h;exact .inr (.inl ⟨p,xs,i,v,rfl,rfl,s.qT hq,by unfold qQ;rw[hl,e];exact hv,k v _ _ (.refl s) rv⟩)
def V3(K:av):R2:=λx y H Q=>∃l b xs zs,x=.ref l/\y=.ref b/\lW K H l xs/\lW K H b zs/\xs.length+zs.length<=sizeLine/\∀p,H p=none->Q (.ref p) (upd H p (.lst (xs++zs)))
theorem O1:rM X (binaryOp .Add) (V3 X.K):=by
 intro pins s σ H x y v u Q I rx ry h;obtain⟨l,b,xs,zs,rfl,rfl,hl,hb,hz,q⟩:=h;cases rx;cases ry;obtain⟨its,r1,⟨⟨cls,dd,data,sl⟩,n,e1,c1,_,d1⟩,z1⟩:=I.list hl;obtain⟨Ox,r2,⟨⟨Z2,Yq,data2,Um⟩,n2,e2,c2,_,d2⟩,z2⟩:=I.list hb;simp only at c1 d1 c2 d2;subst c1 d1 c2 d2;have l1:=r1.length;have l2:=r2.length;refine concat_meets ⟨_,e1,rfl⟩ ⟨_,e2,rfl⟩ noFill_list_add seq_list_add PySem.F.slot_list_add PySem.F.entry_list_add (PySem.F.args_list_add_2 _ _) (list_addW l b its.toArray Ox.toArray n n2 dd Yq sl Um (by rw[bj,bj];omega)) ⟨e1,e2,?_⟩
 rw[show its.toArray++Ox.toArray=(its++Ox).toArray by simp]
 exact⟨.ref _,_,I.Z5 (t':=s.toks) (r1.append r2) (by rw[a8];omega),rfl,q _ I.fresh⟩
section
variable{X:Cx}{a b c e:cw}{es:List cw}{δ:List Slot}{d d1 d2 d3:aq}{ds:List aq}{pos:Pos}{i j:Int}{k:Nat}
theorem eU(h1:VE X a δ (.int i))(h2:VE X b δ (.int j)):VE X (.BinOp a .Add b pos) δ (.int (i+j)):=u_ R3 (V1 i j) h1 h2
theorem SK(h1:VE X a δ (.int i))(h2:VE X b δ (.int j)):VE X (.BinOp a .Sub b pos) δ (.int (i-j)):=u_ R4 (V1 i j) h1 h2
theorem sU(h1:VE X a δ (.int i))(h2:VE X b δ (.int j))(h:Oh i j):VE X (.BinOp a .Mult b pos) δ (.int (i*j)):=u_ R5 (Sz i j h) h1 h2
theorem cQ(h1:VE X a δ (.int i))(h2:VE X b δ (.int j))(h:0<j):VE X (.BinOp a .Mod b pos) δ (.int (i%j)):=u_ R6 (Sz i j h) h1 h2
theorem fV(h1:VE X a δ (.int i))(h2:VE X b δ (.int j))(h:Ve i j):VE X (.BinOp a .FloorDiv b pos) δ (.int (i/j)):=u_ Oi (Sz i j h) h1 h2
theorem V4(h1:VE X a δ (.int i))(h2:VE X b δ (.int j)):VE X (.Compare a [.Gt] [b] pos) δ (.bool (decide (j<i))):=xx QI (rZ i j) h1 h2 (fA _)
theorem rN(h1:VE X a δ (.int i))(h2:VE X b δ (.int j)):VT X (.Compare a [.Lt] [b] pos) δ (decide (i<j)):=fU Vf (rZ i j) h1 h2 (fA _)
theorem IA(h1:VE X a δ (.int i))(h2:VE X b δ (.int j)):VT X (.Compare a [.Gt] [b] pos) δ (decide (j<i)):=fU QI (rZ i j) h1 h2 (fA _)
theorem QN(h1:VE X a δ (.int i))(h2:VE X b δ (.int j)):VT X (.Compare a [.GtE] [b] pos) δ (decide (j<=i)):=fU Vg (rZ i j) h1 h2 (fA _)
theorem A7(hr:fZ k X.A):X.A.units+20+2<cLine:=by have:=hr.un;omega
theorem b_(hr:fZ k X.A)(l1:Lay 20 d1)(l2:Lay 20 d2)(h1:VE X a δ d1)(h2:VE X b δ d2):VT X (.Compare a [.Eq] [b] pos) δ (cU d1 d2):=fU (Ge (A7 hr)) (Ed l1 l2) h1 h2 (fA _)
theorem g7(hr:fZ k X.A)(l1:Lay 20 d1)(l2:Lay 20 d2)(h1:VE X a δ d1)(h2:VE X b δ d2):VT X (.Compare a [.NotEq] [b] pos) δ (!cU d1 d2):=fU (L5 (A7 hr)) (Ed l1 l2) h1 h2 (fA _)
theorem pE(hr:fZ k X.A)(l1:Lay 20 d1)(l2:Lay 20 d2)(h1:VE X a δ d1)(h2:VE X b δ d2):VE X (.Compare a [.Eq] [b] pos) δ (.bool (cU d1 d2)):=xx (Ge (A7 hr)) (Ed l1 l2) h1 h2 (fA _)
theorem V5(hr:fZ k X.A)(hs:Ec d2=true)(l1:Lay 20 d1)(l2:Lay 20 d2)(h1:VE X a δ d1)(h2:VE X b δ d2)(hm:behindInMarks .In b=false:=by with_unfolding_all rfl):VT X (.Compare a [.In] [b] pos) δ (v9 d1 d2):=fU (L6 (A7 hr)) (SJ (neg:=false) hs l1 l2) h1 h2 hm
theorem jF(hr:fZ k X.A)(hs:Ec d2=true)(l1:Lay 20 d1)(l2:Lay 20 d2)(h1:VE X a δ d1)(h2:VE X b δ d2)(hm:behindInMarks .NotIn b=false:=by with_unfolding_all rfl):VT X (.Compare a [.NotIn] [b] pos) δ (!v9 d1 d2):=fU (J2 (A7 hr)) (SJ (neg:=true) hs l1 l2) h1 h2 hm
theorem dJ(h1:VE X a δ (.list ds))(h2:VE X b δ (.int i))(h:qQ ds i=some d)(hs:qR b:=by intro _ _;rfl):VE X (.Subscript a b pos) δ d:=Gd CF (zan h) h1 h2 hs
theorem bZ(h1:VE X a δ (.tuple ds))(h2:VE X b δ (.int i))(h:qQ ds i=some d)(hs:qR b:=by intro _ _;rfl):VE X (.Subscript a b pos) δ d:=Gd CF (V2 h) h1 h2 hs
theorem kf:PT X e (λ_ _ _=>False):=λ_ _ _ _ _ _ h=>h.elim
theorem gQ{k:Bool}(h:VT X a δ k):VT X (.UnaryOp .Not a pos) δ (!k):=.of (xn kY) λB0 B σ H0 H Q f q=>h B0 B σ H0 H _ f q
theorem jw(h1:VT X a δ k1)(h2:k1=true->VT X b δ k2):VT X (.BoolOp .And [a,b] pos) δ (k1&&k2):=by
 cases k1 with
 |true=>
  exact .of (pw_and kY (pw_and1 kY)).pt λB0 B σ H0 H Q f q=>h1 B0 B σ H0 H _ f λH1 dX g=>by
   rw[if_pos rfl];exact h2 rfl B0 B σ H1 dX _ (f.grow g) λH2 iL g2=>q H2 iL (g.trans g2)
 |false=>
  exact .of (pw_and kY (pw_and1 kf)).pt λB0 B σ H0 H Q f q=>h1 B0 B σ H0 H _ f λH1 dX g=>by
   rw[if_neg bP];exact q H1 dX g
theorem iU(h1:VT X a δ k1)(h2:k1=false->VT X b δ k2):VT X (.BoolOp .Or [a,b] pos) δ (k1||k2):=by
 cases k1 with
 |false=>
  exact .of (pw_or kY (pw_or1 kY)).pt λB0 B σ H0 H Q f q=>h1 B0 B σ H0 H _ f λH1 dX g=>by
   rw[if_neg bP];exact h2 rfl B0 B σ H1 dX _ (f.grow g) λH2 iL g2=>q H2 iL (g.trans g2)
 |true=>
  exact .of (pw_or kY (pw_or1 kf)).pt λB0 B σ H0 H Q f q=>h1 B0 B σ H0 H _ f λH1 dX g=>by
   rw[if_pos rfl];exact q H1 dX g
theorem CP{k3: Bool}(h1:VT X a δ k1)(h2:k1=false->VT X b δ k2)(h3:k1=false->k2=false->VT X c δ k3):VT X (.BoolOp .Or [a,b,c] pos) δ (k1||(k2||k3)):=by
 cases k1 with
 |true=>
  exact .of (pw_or kY (pw_or kf (pw_or1 kf))).pt λB0 B σ H0 H Q f q=>h1 B0 B σ H0 H _ f λH1 dX g=>by
   rw[if_pos rfl];exact q H1 dX g
 |false=>
  cases k2 with
  |true=>
   exact .of (pw_or kY (pw_or kY (pw_or1 kf))).pt λB0 B σ H0 H Q f q=>h1 B0 B σ H0 H _ f λH1 dX g=>by
    rw[if_neg bP];refine h2 rfl B0 B σ H1 dX _ (f.grow g) λH2 iL g2=>?_
    rw[if_pos rfl];exact q H2 iL (g.trans g2)
  |false=>
   exact .of (pw_or kY (pw_or kY (pw_or1 kY))).pt λB0 B σ H0 H Q f q=>h1 B0 B σ H0 H _ f λH1 dX g=>by
    rw[if_neg bP];refine h2 rfl B0 B σ H1 dX _ (f.grow g) λH2 iL g2=>?_
    rw[if_neg bP];exact h3 rfl rfl B0 B σ H2 iL _ ((f.grow g).grow g2) λH3 ua g3=>q H3 ua ((g.trans g2).trans g3)
def zao:aq->Option Bool
 | .none=>some false
 | .bool b=>some b
 | .int i=>some (i != 0)
 | .list ds=>some (!ds.isEmpty)
 | .tuple ds=>some (!ds.isEmpty)
 |_=>none
theorem dz.empty{ds:List aq}(r:dz K H xs ds):xs.isEmpty=ds.isEmpty:=by cases r<;>rfl
theorem e9{t:Bool}(h:VE X a δ d)(ht:zao d=some t)(he:∀whole,isTrue a X.env whole=(do let v <-whole;standAt a.pos;holding [v] (truthy v)):=by intro _;rfl):VT X a δ t:=
 .of (Ln dD he) λB0 B σ H0 H Q f q=>h B0 B σ H0 H _ f λv H1 dX g r=>by
  refine⟨t,?_,q H1 dX g⟩
  cases r with
  |non=>cases ht;exact(rfl:false=false)
  |bl b=>cases ht;exact(rfl:t=t)
  |int i=>cases ht;exact(rfl:(i != 0)=(i != 0))
  |str x=>cases ht
  |lst hq r=>cases ht;exact .inl ⟨_,g.sub.seq hq,by rw[r.empty]⟩
  |tup hq r=>cases ht;exact .inr (.inl ⟨_,g.sub.qT hq,by rw[r.empty]⟩)
  |dct _ _ _=>cases ht
  |Us _ _ _=>cases ht
  |obj _ _ _ _ _=>cases ht
theorem xA{k:Bool}(h:VT X c δ k)(h1:k=true->VE X a δ d)(h2:k=false->VE X b δ d):VE X (.IfExp c a b pos) δ d:=
 .of (Lg kY dD dD) λB0 B σ H0 H Q f q=>h B0 B σ H0 H _ f λH1 dX g=>by
  cases k with
  |true=>
   rw[if_pos rfl];exact h1 rfl B0 B σ H1 dX _ (f.grow g) λv H2 iL g2 r=>q v H2 iL (g.trans g2) r
  |false=>
   rw[if_neg bP];exact h2 rfl B0 B σ H1 dX _ (f.grow g) λv H2 iL g2 r=>q v H2 iL (g.trans g2) r
theorem aK:VA X [] δ []:=⟨_,fB,λ_ _ _ _ _ _ f q=>q _ _ _ (.refl f.sub) .nil⟩
theorem ao(h:VE X e δ d)(hr:VA X es δ ds)(hs:starEach (e::es) X.env=(false,eval e X.env)::starEach es X.env:=by rfl):VA X (e::es) δ (d::ds):=by
 obtain⟨t,p,ht⟩:=hr;exact⟨_,cV dD p hs,λB0 B σ H0 H Q f q=>h B0 B σ H0 H _ f λv H1 dX g r=>ht B0 B σ H1 dX _ (f.grow g) λvs H2 iL g2 rs=>q _ _ _ (g.trans g2) (.cons (r.mono g2.gL) rs)⟩
theorem fe{x1}(h:VA X es δ ds)(hz:ds.length<=sizeLine:=by(simp only[i5];rw[du];decide)):VE X (.Tuple es x1 pos) δ (.tuple ds):=by
 obtain⟨t,p,ht⟩:=h;exact .of (zu p) λB0 B σ H0 H Q f q=>ht B0 B σ H0 H _ f λvs H1 dX g r=>⟨by rw[r.length];exact hz,λa ha=>q _ _ _ (g.trans (.laid g.sub ha)) (.tup (qM.of b0) (r.mono (dW.laid g.sub ha).gL))⟩
theorem dR(h:VA X es δ ds)(hz:ds.length<=sizeLine:=by(simp only[i5];rw[du];decide)):VO X (.List es pos) δ ds:=by
 obtain⟨t,p,ht⟩:=h;exact .of (CB p) λB0 B σ H0 H Q f q=>ht B0 B σ H0 H _ f λvs H1 dX g r=>⟨by rw[r.length];exact hz,λa ha=>q a vs H1 _ (g.trans (.loose g.sub ha)) (g.big.free ha) (g.sub.free ha) b0 r⟩
def cutD{α:Type}(xs:List α)(lo hi:Option Int):List α:=(xs.drop (HT.lQ xs.length 0 lo)).take (HT.lQ xs.length xs.length hi-HT.lQ xs.length 0 lo)
theorem dz.cut(r:dz K H xs ds)(lo hi:Option Int):dz K H (D8 xs lo hi) (cutD ds lo hi):=by
 unfold D8 cutD;rw[r.length];exact(r.drop _).take _
inductive uI(X:Cx)(δ:List Slot):Option cw->Option Int->Prop
 |no:uI X δ none none
 |yes {e:cw} {i:Int}:VE X e δ (.int i)->uI X δ (some e) (some i)
theorem uI.ok{o:Option cw}{p:Option Int}(h:uI X δ o p):∃t,PO X o t/\∀B0 B σ H0 H Q,gW X.K B0 B H0 H σ δ->(∀fq H',dW H0 H fq H'->Q p H')->t σ H Q:=by
 cases h with
 |no=>exact⟨_,Ou,λ_ _ _ _ _ _ f q=>q _ _ (.refl f.sub)⟩
 |yes h=>exact⟨_,Ov dD,λB0 B σ H0 H Q f q=>h B0 B σ H0 H _ f λv H1 dX g r=>by cases r;exact⟨_,rfl,q _ _ g⟩⟩
theorem gR{lo hi:Option cw}{l u:Option Int}(h:VE X a δ (.list ds))(hl:uI X δ lo l)(hh:uI X δ hi u):VO X (.Subscript a (.Slice lo hi none p2) pos) δ (cutD ds l u):=by
 obtain⟨tl,pl,ql⟩:=hl.ok;obtain⟨th,ph,qh⟩:=hh.ok;refine .of (zx Oy dD pl ph) λB0 B σ H0 H Q f q=>h B0 B σ H0 H _ f λv H1 dX g r=>ql B0 B σ H1 dX _ (f.grow g) λH2 iL g2=>qh B0 B σ H2 iL _ ((f.grow g).grow g2) λH3 ua g3=>?_
 cases r with
 |lst hq r=>
  refine⟨_,_,rfl,g3.sub.seq ((g2.gL.trans g3.gL).seq hq),λp hp=>?_⟩
  have gg:=(g.trans g2).trans g3;exact q p _ H3 _ (gg.trans (.loose g3.sub hp)) (gg.big.free hp) (g3.sub.free hp) b0 ((r.mono (g2.gL.trans g3.gL)).cut l u)
theorem xB{lo hi:Option cw}{l u:Option Int}(h:VE X a δ (.tuple ds))(hl:uI X δ lo l)(hh:uI X δ hi u)(hw:¬(HT.lQ ds.length 0 l=0/\HT.lQ ds.length ds.length u=ds.length)):
  VE X (.Subscript a (.Slice lo hi none p2) pos) δ (.tuple (cutD ds l u)):=by
 obtain⟨tl,pl,ql⟩:=hl.ok;obtain⟨th,ph,qh⟩:=hh.ok;refine .of (zx Sd dD pl ph) λB0 B σ H0 H Q f q=>h B0 B σ H0 H _ f λv H1 dX g r=>ql B0 B σ H1 dX _ (f.grow g) λH2 iL g2=>qh B0 B σ H2 iL _ ((f.grow g).grow g2) λH3 ua g3=>?_
 cases r with
 |tup hq r=>
  refine⟨_,_,rfl,g3.sub.qT ((g2.gL.trans g3.gL).qT hq),by rw[r.length];exact hw,λp hp=>?_⟩
  have gg:=(g.trans g2).trans g3;exact q _ _ _ (gg.trans (.laid g3.sub hp)) (.tup (qM.of b0) (((r.mono (g2.gL.trans g3.gL)).cut l u).mono (dW.laid g3.sub hp).gL))
def pF(K:av)(r:List V->Hp->VK->Prop)(ds:List aq)(d:aq):Prop:=∀vs H0 H Q,er H0 H->dz K H0 vs ds->(∀v fq H',dW H0 H fq H'->Rep K fq v d->Q v H')->r vs H Q
def IB(K:av)(r:List V->Hp->VK->Prop)(ds es:List aq):Prop:=∀vs H0 H Q,er H0 H->dz K H0 vs ds->
 (∀p xs fq H',dW H0 H fq H'->H p=none->fq p=none->H' p=some (.lst xs)->dz K fq xs es->Q (.ref p) H')->r vs H Q
theorem h7(hc:jT X (.builtin id) r)(hd:pF X.K r ds d)(ha:VA X (e::es) δ ds)(hm:X.mg x=none)(hv:bootBuiltins x=some (.builtin id))(hg:Gl X x:=by rfl)(hn:x≠"__name__":=by decide)(qP:(x==("__debug__":Str))=false:=by decide)
  (he:starEach (e::es) X.env=(false,eval e X.env)::starEach es X.env:=by rfl)(pY:(backTo pos (starEach es X.env)).any (·.1)=false:=by rfl):VE X (.Call (.Name x p) (e::es) [] pos) δ d:=by
 obtain⟨t,pa,ht⟩:=ha;exact .of (lD hc hg hm hv pa hn qP he pY) λB0 B σ H0 H Q f q=>ht B0 B σ H0 H _ f λvs H1 dX g r=>hd vs H1 dX Q g.sub r λv H2 iL g2 r2=>q v H2 iL (g.trans g2) r2
theorem k9(hc:jT X (.type id) r)(hd:pF X.K r ds d)(ha:VA X (e::es) δ ds)(hm:X.mg x=none)(hv:bootBuiltins x=some (.type id))(hg:Gl X x:=by rfl)(hn:x≠"__name__":=by decide)(qP:(x==("__debug__":Str))=false:=by decide)
  (he:starEach (e::es) X.env=(false,eval e X.env)::starEach es X.env:=by rfl)(pY:(backTo pos (starEach es X.env)).any (·.1)=false:=by rfl):VE X (.Call (.Name x p) (e::es) [] pos) δ d:=by
 obtain⟨t,pa,ht⟩:=ha;exact .of (xq hc hg hm hv pa hn qP he pY) λB0 B σ H0 H Q f q=>ht B0 B σ H0 H _ f λvs H1 dX g r=>hd vs H1 dX Q g.sub r λv H2 iL g2 r2=>q v H2 iL (g.trans g2) r2
theorem ub{zs:List aq}(hc:jT X (.type id) r)(hd:IB X.K r ds zs)(ha:VA X (e::es) δ ds)(hm:X.mg x=none)(hv:bootBuiltins x=some (.type id))(hg:Gl X x:=by rfl)(hn:x≠"__name__":=by decide)(qP:(x==("__debug__":Str))=false:=by decide)
  (he:starEach (e::es) X.env=(false,eval e X.env)::starEach es X.env:=by rfl)(pY:(backTo pos (starEach es X.env)).any (·.1)=false:=by rfl):VO X (.Call (.Name x p) (e::es) [] pos) δ zs:=by
 obtain⟨t,pa,ht⟩:=ha;exact .of (xq hc hg hm hv pa hn qP he pY) λB0 B σ H0 H Q f q=>ht B0 B σ H0 H _ f λvs H1 dX g r=>hd vs H1 dX Q g.sub r λv xs H2 iL g2 a1 a2 a3 a4=>q v xs H2 iL (g.trans g2) (g.big.free a1) a2 a3 a4
theorem dz.one(r:dz K H vs [d]):∃v,vs=[v]/\Rep K H v d:=by
 cases r with|cons a t=>cases t;exact⟨_,rfl,a⟩
theorem dz.two(r:dz K H vs [d1,d2]):∃v w,vs=[v,w]/\Rep K H v d1/\Rep K H w d2:=by
 cases r with|cons a t=>cases t with|cons b t=>cases t;exact⟨_,_,rfl,a,b⟩
theorem V6:pF K (λxs H Q=>∃p ys,xs=[.ref p]/\(lW K H p ys\/qM K H p ys)/\Q (.int ys.length) H) [.list ds] (.int ds.length):=λvs H0 H Q s r k=>by
 obtain⟨v,rfl,r1⟩:=r.one;cases r1 with|lst hq r=>exact⟨_,_,rfl,.inl (s.seq hq),k _ _ _ (.refl s) (by rw[r.length];exact .int _)⟩
theorem SM:pF K (λxs H Q=>∃p ys,xs=[.ref p]/\(lW K H p ys\/qM K H p ys)/\Q (.int ys.length) H) [.tuple ds] (.int ds.length):=λvs H0 H Q s r k=>by
 obtain⟨v,rfl,r1⟩:=r.one;cases r1 with|tup hq r=>exact⟨_,_,rfl,.inr (s.qT hq),k _ _ _ (.refl s) (by rw[r.length];exact .int _)⟩
theorem SN:IB K (λxs H Q=>∃p ys,xs=[.ref p]/\(lW K H p ys\/qM K H p ys)/\∀l,H l=none->Q (.ref l) (upd H l (.lst ys))) [.list ds] ds:=λvs H0 H Q s r k=>by
 obtain⟨v,rfl,r1⟩:=r.one;cases r1 with|lst hq r=>exact⟨_,_,rfl,.inl (s.seq hq),λl hl=>k l _ H0 _ (.loose s hl) hl (s.free hl) b0 r⟩
theorem yR:pF K (λxs H Q=>∃p ys,xs=[.ref p]/\((lW K H p ys/\∀l,H l=none->Q (.ref l) (upd H l (.tup ys)))\/(qM K H p ys/\Q (.ref p) H))) [.list ds] (.tuple ds):=λvs H0 H Q s r k=>by
 obtain⟨v,rfl,r1⟩:=r.one;cases r1 with|lst hq r=>exact⟨_,_,rfl,.inl ⟨s.seq hq,λl hl=>k _ _ _ (.laid s hl) (.tup (qM.of b0) (r.mono (dW.laid s hl).gL))⟩⟩
theorem gS(h:VE X a δ (.list ds))(hm:X.mg "len"=none)(hg:Gl X "len":=by rfl)(hs:starEach [a] X.env=(false,eval a X.env)::starEach [] X.env:=by rfl):VE X (.Call (.Name "len" p) [a] [] pos) δ (.int ds.length):=h7 vV V6 (ao h aK hs) hm uz hg (he:=hs)
theorem lE(h:VE X a δ (.tuple ds))(hm:X.mg "len"=none)(hg:Gl X "len":=by rfl)(hs:starEach [a] X.env=(false,eval a X.env)::starEach [] X.env:=by rfl):VE X (.Call (.Name "len" p) [a] [] pos) δ (.int ds.length):=h7 vV SM (ao h aK hs) hm uz hg (he:=hs)
theorem lF{d1 d2:List aq}(h1:VE X a δ (.list d1))(h2:VE X b δ (.list d2))(hz:d1.length+d2.length<=sizeLine):VO X (.BinOp a .Add b pos) δ (d1++d2):=by
 refine .of (Ii O1 dD dD) λB0 B σ H0 H Q f q=>h1 B0 B σ H0 H _ f λv H1 dX g1 r1=>h2 B0 B σ H1 dX _ (f.grow g1) λu H2 iL g2 r2=>?_
 cases r1 with
 |lst hq r1=>
  cases r2 with
  |lst Gf r2=>
   have gg:=g1.trans g2;refine⟨_,_,_,_,rfl,rfl,g2.sub.seq (g2.gL.seq hq),g2.sub.seq Gf,by rw[r1.length,r2.length];exact hz,λp hp=>?_⟩
   exact q p _ H2 _ (gg.trans (.loose g2.sub hp)) (gg.big.free hp) (g2.sub.free hp) b0 ((r1.mono g2.gL).append r2)
end
inductive IC where
 |one (i:Nat)
 |tup (is:List Nat)
variable{tgt:IC}
def Gg:List Nat->QG
 | []=>U8
 |i::r=>QH (Bq i) (Gg r)
def L7(K:av):IC->TG
 | .one i=>Bq i
 | .tup is=>U9 K is.length (Gg is)
def qU:List Nat->List aq->List Slot->List Slot
 |i::r,d::ds,δ=>qU r ds (δ.set i (.val d))
 |_,_,δ=>δ
def zD:IC->aq->List Slot->Option (List Slot)
 | .one i,d,δ=>some (δ.set i (.val d))
 | .tup is,.tuple ds,δ=>if ds.length=is.length then some (qU is ds δ)else none
 |_,_,_=>none
section
variable{K:av}{B0 B H0 H:Hp}
theorem Ee:∀{is:List Nat}{xs:List V}{ds:List aq}{σ:St}{δ:List Slot}{Q:St->Hp->Prop},gW K B0 B H0 H σ δ->dz K H0 xs ds->ds.length=is.length->(∀σ',gW K B0 B H0 H σ' (qU is ds δ)->Q σ' H)->Gg is xs σ H Q
 | [],xs,ds,σ,δ,Q,f,r,hl,q=>by
  have:ds=[]:=nP hl;subst this;cases r;exact⟨rfl,q σ f⟩
 |i::is,xs,ds,σ,δ,Q,f,r,hl,q=>by
  cases r with
  |nil=>cases hl
  |cons a t=>exact⟨_,_,rfl,Ee (is:=is) (f.set a) t (by simpa using hl) q⟩
theorem qV{v:V}{Q:St->Hp->Prop}(f:gW K B0 B H0 H σ δ)(r:Rep K H0 v d)(h:zD tgt d δ=some δ')(q:∀σ',gW K B0 B H0 H σ' δ'->Q σ' H):L7 K tgt v σ H Q:=by
 cases tgt with
 |one i=>cases h;exact q _ (f.set r)
 |tup is=>
  cases r with
  |tup hq r=>
   rename_i ds
   have h':(if ds.length=is.length then some (qU is ds δ)else none)=some δ':=h
   by_cases hl:ds.length=is.length
   ·rw[if_pos hl]at h'
    cases h';exact⟨_,_,rfl,f.sub.qT hq,by rw[r.length,hl],Ee f r hl q⟩
   ·rw[if_neg hl]at h';cases h'
  |_=>cases h
end
def ItD(K:av)(J:It)(H0:Hp)(ds:List aq):Prop:=∀fq H',er H0 fq->er fq H'->∀i,(i<ds.length->J.go i H')/\(ds.length<=i->J.stop i H')/\
 ∀x AJ d,ds[i]?=some d->J.U_ i H' x AJ->∃V7,dW fq H' V7 AJ/\Rep K V7 x d
def VI(X:Cx)(tg iter:cw)(δ:List Slot)(ds:List aq):Prop:=∃wi,PI X tg iter wi/\∀B0 B σ H0 H R,gW X.K B0 B H0 H σ δ->(∀J fq H',dW H0 H fq H'->ItD X.K J fq ds->R J H')->wi σ H R
def yf(ds:List aq):List aq:=ds.zipIdx.map λp=>.tuple [.int p.2,p.1]
theorem cC(ds:List aq):(yf ds).length=ds.length:=by simp[yf]
theorem fQ{ds:List aq}(h:(yf ds)[i]?=some d):∃x,ds[i]?=some x/\d=.tuple [.int i,x]:=by
 unfold yf at h;rw[aP,i6]at h;cases e:ds[i]? with
 |none=>rw[e]at h;simp at h
 |some x=>rw[e]at h;simp at h;exact⟨x,rfl,h.symm⟩
def jx(n:Nat):List aq:=(cp n).map λ(i:Nat)=>.int (i:Int)
section
variable{X:Cx}{tg a b:cw}{δ:List Slot}{ds:List aq}{pos:Pos}
theorem gu(h:VE X a δ (.list ds)):VI X tg a δ ds:=⟨_,Oe dD,λB0 B σ H0 H R f q=>h B0 B σ H0 H _ f λv H1 dX g r=>by
 cases r with
 |lst hq r=>
  refine⟨_,rfl,⟨_,g.sub.seq hq⟩,q _ H1 dX g λHa Hb s1 s2 i=>?_⟩
  have hl:=r.length;have hS:=(s1.trans s2).seq hq;refine⟨λhi=>?_,λhi=>⟨_,hS,by omega⟩,λx AJ d hd ⟨e,y⟩=>?_⟩
  ·obtain⟨x,hx,_⟩:=r.get (i:=i) (d:=ds[i]) (by simp[hi])
   exact⟨_,x,hS,hx⟩
  ·subst e
   exact⟨Ha,.refl s2,(r.mono s1).at hd (y _ hS)⟩⟩
theorem zE(h:VE X a δ (.tuple ds)):VI X tg a δ ds:=⟨_,R0 dD,λB0 B σ H0 H R f q=>h B0 B σ H0 H _ f λv H1 dX g r=>by
 cases r with
 |tup hq r=>
  refine⟨_,rfl,⟨_,g.sub.qT hq⟩,q _ H1 dX g λHa Hb s1 s2 i=>?_⟩
  have hl:=r.length;have hS:=(s1.trans s2).qT hq;refine⟨λhi=>?_,λhi=>⟨_,hS,by omega⟩,λx AJ d hd ⟨e,y⟩=>?_⟩
  ·obtain⟨x,hx,_⟩:=r.get (i:=i) (d:=ds[i]) (by simp[hi])
   exact⟨_,x,hS,hx⟩
  ·subst e
   exact⟨Ha,.refl s2,(r.mono s1).at hd (y _ hS)⟩⟩
theorem qj{n:Int}(h:VE X a δ (.int n))(hm:X.mg "range"=none)(h1:-(2^62)<=n)(h2:n<2^62)(hg:Gl X "range":=by rfl)(hs:starEach [a] X.env=[(false,eval a X.env)]:=by rfl):VI X tg (.Call (.Name "range" p) [a] [] pos) δ (jx n.toNat):=
 ⟨_,JG hg hm (cV dD fB hs) hs,λB0 B σ H0 H R f q=>h B0 B σ H0 H _ f λv H1 dX g r=>by
  cases r;refine⟨n,rfl,h1,h2,q _ H1 dX g λHa Hb s1 s2 i=>⟨λhi=>(show i<n.toNat from by simpa[jx]using hi),λhi=>(show n.toNat<=i from by simpa[jx]using hi),λx AJ d hd ⟨e,y⟩=>?_⟩⟩
  subst e;subst y;unfold jx at hd;rw[aP]at hd;have hi:i<n.toNat:=by
   rcases Nat.lt_or_ge i n.toNat with z|z
   ·exact z
   ·rw[gD (by simpa using z)]at hd;cases hd
  rw[ou hi]at hd;cases hd;exact⟨Ha,.refl s2,by rw[Int.zero_add];exact .int _⟩⟩
theorem jy{k}(h:VE X a δ (.list ds))(hm:X.mg "enumerate"=none)(hg:Gl X "enumerate":=by rfl)(hs:starEach [a] X.env=[(false,eval a X.env)]:=by rfl):VI X (.Tuple elts k tp) (.Call (.Name "enumerate" p) [a] [] pos) δ (yf ds):=
 ⟨_,OZ hg hm (cV dD fB hs) hs,λB0 B σ H0 H R f q=>h B0 B σ H0 H _ f λv H1 dX g r=>by
  cases r with
  |lst hq r=>
   refine⟨_,rfl,⟨_,g.sub.seq hq⟩,q _ H1 dX g λHa Hb s1 s2 i=>?_⟩
   have hl:=r.length;have hS:=(s1.trans s2).seq hq;refine⟨λhi=>?_,λhi=>⟨_,hS,by rw[cC]at hi;omega⟩,λx AJ d hd ⟨t,y,e1,e2,e3,e4⟩=>?_⟩
   ·rw[cC]at hi
    obtain⟨x,hx,_⟩:=r.get (i:=i) (d:=ds[i]) (by simp[hi])
    exact⟨_,x,hS,hx⟩
   ·obtain⟨z,hz,rfl⟩:=fQ hd
    subst e1;subst e3;refine⟨upd Ha t (.tup [.int i,y]),.laid s2 e2,.tup (qM.of b0) (.cons (.int _) (.cons ?_ .nil))⟩
    exact((r.mono s1).at hz (e4 _ hS)).mono (dW.laid s2 e2).gL⟩
end
def cTs(X:Cx)(ifs:List cw):TT:=λσ H Q=>∀pins s,Inv X pins σ H s->wpAny (model X.prog X.w) X.A (testsOf ifs X.env) (TP X pins σ Q) X.xe s
def O2(X:Cx)(ifs:List cw)(δ:List Slot)(b:Bool):Prop:=∀B0 B σ H0 H Q,gW X.K B0 B H0 H σ δ->(∀fq H',dW H0 H fq H'->Q b H')->cTs X ifs σ H Q
theorem fu:O2 X [] δ true:=λ_ _ _ _ _ _ f q pins s I=>OW pins s _ _ _ I (q _ _ (.refl f.sub))
theorem wa{c:cw}(h:VT X c δ b):O2 X [c] δ b:=λB0 B σ H0 H Q f q pins s I=>OX (t:=cT X c) kY pins s σ H Q I (h B0 B σ H0 H Q f q)
def V8:Slot->Slot
 | .val d=>.val d
 |_=>.un
def m8(own:List Str)(cap:List Nat)(δ:List Slot):List Slot:=bu own.length .un++cap.map λi=>V8 (δ.getD i .un)
section
variable{K:av}{B0 B H0 H:Hp}{σ:St}{δ:List Slot}
theorem gW.comp(f:gW K B0 B H0 H σ δ)(own:List Str)(cap:List Nat):gW K B0 B H0 H (nJ own cap σ) (m8 own cap δ):=by
 have noOwn:∀(i:Nat)ds,(m8 own cap δ)[i]?≠some (.own ds):=λi ds e=>by
  unfold m8 at e;by_cases hi:i<own.length
  ·rw[cL (by simpa using hi),eG]at e
   split at e<;>cases e
  ·rw[cD (by simpa using gN hi),aP]at e
   cases q:cap[i-(bu own.length Slot.un).length]? with
   |none=>rw[q]at e;cases e
   |some j=>
    rw[q]at e;simp only[nQ,iF]at e
    revert e
    cases δ.getD j .un<;>(intro e;cases e)
 refine⟨f.ent,by simp[nJ,m8],λi sl e=>?_,λi j ds es p _ a1=>absurd a1 (noOwn i ds)⟩
 unfold m8 at e;unfold nJ;by_cases hi:i<own.length
 ·rw[cL (by simpa using hi),eG]at e
  split at e<;>cases e<;>trivial
 ·rw[cD (by simpa using gN hi),aP,dM]at e
  rw[cD (by simpa using gN hi),aP,dM]
  cases q:cap[i-own.length]? with
  |none=>rw[q]at e;cases e
  |some j=>
   rw[q]at e;simp only[nQ,iF]at e ⊢;cases w:δ[j]? with
   |none=>rw[aG,w]at e;subst e;trivial
   |some RJ=>
    rw[aG,w]at e;cases RJ with
    |un=>subst e;trivial
    |ref a=>subst e;trivial
    |own ds=>subst e;trivial
    |val d=>
     subst e;obtain⟨v,h1,h2⟩:=f.slot j _ w;exact⟨v,by rw[aG,h1];rfl,h2⟩
theorem gW.forget(f:gW K B0 B H0 H σ δ)(hl:δ'.length=δ.length)(h:∀(i:Nat)sl,δ'[i]?=some sl->sl=.un\/δ[i]?=some sl):gW K B0 B H0 H σ δ':=by
 refine⟨f.ent,by rw[hl];exact f.len,λi sl e=>?_,λi j ds es p AI a1 a2 a3=>?_⟩
 ·rcases h i sl e with rfl|z
  ·trivial
  ·exact f.slot i sl z
 ·rcases h i _ a1 with z|z
  ·cases z
  ·rcases h j _ a2 with y|y
   ·cases y
   ·exact f.apart i j ds es p AI z y a3
theorem gW.touch{D:aN}(f:gW K B0 B H0 H σ δ)(h0:H0 D=none)(hB:B D=none)(hn:∀(i:Nat)ds,δ[i]?≠some (.own ds)):gW K B0 B H0 (upd H D o) σ δ:=by
 refine⟨⟨λb u e=>by rw[aT (bE e hB)];exact f.ent.big b u e,f.ent.gL,λb u e=>by rw[aT (bE e h0)];exact f.ent.sub b u e,f.ent.new⟩,f.len,λi sl e=>?_,f.apart⟩
 have q:=f.slot i sl e;cases sl with
 |un=>trivial
 |ref a=>exact q
 |val d=>exact q
 |own ds=>exact absurd e (hn i ds)
end
theorem uJ:∀(is:List Nat)(ds:List aq)(δ:List Slot),(qU is ds δ).length=δ.length
 | [],_,_=>rfl
 |_::_,[],_=>rfl
 |i::is,d::ds,δ=>by
  show(qU is ds (δ.set i (.val d))).length=_
  rw[uJ];simp
theorem zF:∀(is:List Nat)(ds:List aq)(δ:List Slot)(j:Nat),j∉is->(qU is ds δ)[j]?=δ[j]?
 | [],_,_,_,_=>rfl
 |_::_,[],_,_,_=>rfl
 |i::is,d::ds,δ,j,h=>by
  show(qU is ds (δ.set i (.val d)))[j]?=_
  rw[zF is ds _ j λz=>h (aU _ z),a7 (λ(z:i=j)=>h (by rw[z];exact aO))]
def zG(n:Nat):IC->Bool
 | .one i=>decide (i<n)
 | .tup is=>is.all λi=>decide (i<n)
theorem comp_back(ht:zG own.length tgt=true)(h:zD tgt d (m8 own cap δ)=some δ'):
  δ'.length=(m8 own cap δ).length/\∀(i:Nat)sl,(m8 own cap δ)[i]?=some sl->sl=.un\/δ'[i]?=some sl:=by
 have low:∀(i:Nat)sl,i<own.length->(m8 own cap δ)[i]?=some sl->sl=.un:=λi sl hi e=>by
  unfold m8 at e;rw[cL (by simpa using hi),eG]at e
  split at e<;>cases e<;>rfl
 cases tgt with
 |one i=>
  cases h;refine⟨by simp,λj sl e=>?_⟩
  have hi:i<own.length:=by simpa[zG]using ht
  by_cases hj:j<own.length
  ·exact .inl (low j sl hj e)
  ·exact .inr (by rw[a7 (by omega)];exact e)
 |tup is=>
  cases d with
  |tuple ds=>
   have h':(if ds.length=is.length then some (qU is ds (m8 own cap δ))else none)=some δ':=h
   by_cases hl:ds.length=is.length
   ·rw[if_pos hl]at h'
    cases h';refine⟨uJ _ _ _,λj sl e=>?_⟩
    by_cases hj:j<own.length
    ·exact .inl (low j sl hj e)
    ·refine .inr ?_
     rw[zF _ _ _ _ λz=>hj ?_]
     ·exact e
     ·have:=eV.mp ht j z
      simpa using this
   ·rw[if_neg hl]at h';cases h'
  |_=>cases h
theorem pG(i:Nat)(ds:List aq):(m8 own cap δ)[i]?≠some (.own ds):=λe=>by
 unfold m8 at e;by_cases hi:i<own.length
 ·rw[cL (by simpa using hi),eG]at e
  split at e<;>cases e
 ·rw[cD (by simpa using gN hi),aP]at e
  cases q:cap[i-(bu own.length Slot.un).length]? with
  |none=>rw[q]at e;cases e
  |some j=>
   rw[q]at e;simp only[nQ,iF]at e
   revert e
   cases δ.getD j .un<;>(intro e;cases e)
section
variable{X:Cx}{sc:lS}{own N:List Str}{cap:List Nat}{cl:List (Str×aN)}{tg elt iter:cw}{ifs:List cw}{δ:List Slot}{ds:List aq}{pos:Pos}{tgt:IC}
def CQ(X:Cx)(sc:lS)(own:List Str)(cap:List Nat)(N:List Str)(cl:List (Str×aN))(tgt:IC)(elt:cw)(ifs:List cw)(δ:List Slot)(F:aq->Option aq)(d:aq):Prop:=
 ∃δ',zD tgt d (m8 own cap δ)=some δ'/\(∀f s3 H3,O2 (gP X sc N cl f s3 H3) ifs δ' (F d).isSome)/\∀r,F d=some r->∀f s3 H3,VE (gP X sc N cl f s3 H3) elt δ' r
def teC(X:Cx)(sc:lS)(N:List Str)(cl:List (Str×aN))(elt:cw):TE:=λσ H Q=>∀f s3 H3,cE (gP X sc N cl f s3 H3) elt σ H Q
def V9(X:Cx)(sc:lS)(N:List Str)(cl:List (Str×aN))(ifs:List cw):TT:=λσ H Q=>∀f s3 H3,cTs (gP X sc N cl f s3 H3) ifs σ H Q
theorem sV(ht:zG own.length tgt=true)(hz:ds.length<=sizeLine)(step:∀d∈ds,CQ X sc own cap N cl tgt elt ifs δ F d){J:It}{B0 B: Hp}{Q:VK}(f:gW X.K B0 B H0 H σ δ)(it:ItD X.K J H0 ds)
  (q:∀p xs fq H',dW H0 H fq H'->H p=none->fq p=none->H' p=some (.lst xs)->dz X.K fq xs (ds.filterMap F)->Q (.ref p) H'):
  xu J (L7 X.K tgt) (V9 X sc N cl ifs) (teC X sc N cl elt) (nJ own cap σ) H Q:=by
 intro D hD;have hBD:B D=none:=f.ent.big.free hD;refine⟨λi m ys σ' H'=>i<=ds.length/\m=ds.length-i/\ys.length<=i/\∃Ha,dW H0 H Ha H'/\gW X.K B0 B Ha H' σ' (m8 own cap δ)/\Ha D=none/\H' D=some (.lst ys)/\dz X.K Ha ys ((ds.take i).filterMap F),
  ⟨ds.length,bK _,rfl,aA _,H0,.loose f.sub hD,(f.comp own cap).touch (f.sub.free hD) hBD pG,f.sub.free hD,b0,by simpa using dz.nil⟩,?_⟩
 rintro i m ys σ' H' ⟨hi,rfl,hy,Ha,g,fa,hDa,Uq,rs⟩
 obtain⟨i1,i2,i3⟩:=it Ha H' g.gL g.sub i;by_cases qI:i<ds.length
 ·refine .inr ⟨i1 qI,λx H2 y=>?_⟩
  have hd:ds[i]?=some ds[i]:=by simp[qI]
  obtain⟨Hb,g2,rx⟩:=i3 x H2 ds[i] hd y;obtain⟨δ',e1,e2,e3⟩:=step ds[i] (cK qI);obtain⟨k1,k2⟩:=comp_back ht e1;have noD:∀{Hx Hy:Hp},dW Ha H' Hx Hy->Hx D=none:=λ{Hx Hy}gg=>by
   cases e:Hx D with
   |none=>rfl
   |some o=>
    rcases gg.new D (by rw[e];simp)with z|z
    ·exact absurd hDa z
    ·rw[Uq]at z;cases z
  have tk:(ds.take (i+1)).filterMap F=(ds.take i).filterMap F++(F ds[i]).toList:=by
   rw[dv,hd,tX];cases eF:F ds[i]<;>simp[iq,eF]
  refine qV (fa.grow g2) rx e1 λσ3 f3=>?_
  intro fp s3 H3;refine e2 fp s3 H3 B0 B σ3 Hb H2 _ f3 λHc H4 g4=>?_
  have V_:=g2.trans g4;cases eF:F ds[i] with
  |none=>
   rw[show(none:Option aq).isSome=false from rfl,if_neg bP]
   refine⟨ds.length-(i+1),by omega,qI,rfl,by omega,Hc,g.trans V_,(f3.grow g4).forget k1.symm k2,noD V_,V_.big _ _ Uq,?_⟩
   rw[tk,eF];simpa using rs.mono V_.gL
  |some r=>
   rw[show(some r:Option aq).isSome=true from rfl,if_pos rfl]
   intro fp' s3' ua;refine e3 r eF fp' s3' ua B0 B σ3 Hc H4 _ (f3.grow g4) λw Hd H5 g5 r5=>?_
   have N6:=V_.trans g5;have hD5:Hd D=none:=noD N6;refine⟨N6.big _ _ Uq,by omega,ds.length-(i+1),by omega,qI,rfl,by simp;omega,Hd,?_,((f3.grow g4).grow g5 |>.forget k1.symm k2).touch hD5 hBD pG,hD5,b0,?_⟩
   ·have gg:=g.trans N6
    exact⟨λb u e=>by rw[aT (bE e hD)];exact gg.big b u e,gg.gL,λb u e=>by rw[aT (bE e hD5)];exact gg.sub b u e,gg.new⟩
   ·rw[tk,eF]
    exact(rs.mono N6.gL).append (.cons r5 .nil)
 ·have e:i=ds.length:=by omega
  subst e;refine .inl ⟨i2 (aA _),q D ys Ha H' g hD hDa Uq ?_⟩
  simpa using rs
theorem fw(hc:X.calm=true)(CS:k8 X sc own cap N cl)(hi:VI X tg iter δ ds)(hg:∀f s3 H3,PG (gP X sc N cl f s3 H3) tg (L7 X.K tgt))(ht:zG own.length tgt=true)(hz:ds.length<=sizeLine)
  (step:∀d∈ds,CQ X sc own cap N cl tgt elt ifs δ F d)(hs:∀x,foldedSetIterable iter X.env x=pure x:=by intro _;rfl):VO X (.ListComp elt [⟨tg,iter,ifs,0⟩] sc pos) δ (ds.filterMap F):=by
 obtain⟨wi,pi,qi⟩:=hi;refine .of (OY (tc:=V9 X sc N cl ifs) (te:=teC X sc N cl elt) hc CS pi hg (λf s3 H3 pins s σ H Q I h=>h f s3 H3 pins s I) (λf s3 H3 pins s σ H Q I h=>h f s3 H3 pins s I) hs) λB0 B σ H0 H Q f q=>?_
 refine qi B0 B σ H0 H _ f λJ H1 dX g it=>?_
 exact sV ht hz step (f.grow g) it λp xs Ha Hb g2 a1 a2 a3 a4=>q p xs Ha Hb (g.trans g2) (g.big.free a1) a2 a3 a4
end
inductive Out where
 |nx (δ:List Slot)|bk (δ:List Slot)|ct (δ:List Slot)
 |rt (d:aq)|ro (ds:List aq)|r2 (ds:List aq) (d:aq)
def uA(K:av)(B0 B H0:Hp)(D:Ends):Out->Prop
 | .nx δ=>∀σ' fq H',er H0 fq->gW K B0 B fq H' σ' δ->D.nx σ' H'
 | .bk δ=>∀σ' fq H',er H0 fq->gW K B0 B fq H' σ' δ->D.bk σ' H'
 | .ct δ=>∀σ' fq H',er H0 fq->gW K B0 B fq H' σ' δ->D.ct σ' H'
 | .rt d=>∀v fq H',dW B0 B fq H'->Rep K fq v d->D.rt v H'
 | .ro ds=>∀p xs fq H',dW B0 B fq H'->B p=none->fq p=none->H' p=some (.lst xs)->dz K fq xs ds->D.rt (.ref p) H'
 | .r2 ds d=>∀t p xs v fq H',dW B0 B fq H'->B p=none->fq p=none->H' p=some (.lst xs)->dz K fq xs ds->B t=none->fq t=none->H' t=some (.tup [.ref p,v])->Rep K fq v d->D.rt (.ref t) H'
def IE:Out->Bool
 | .rt _=>true | .ro _=>true | .r2 _ _=>true|_=>false
theorem uA.mono{B0 B fq: Hp}{D:Ends}(s:er H0 fq):∀{o:Out},uA K B0 B H0 D o->uA K B0 B fq D o
 | .nx _,h=>λσ a b s' f=>h σ a b (s.trans s') f
 | .bk _,h=>λσ a b s' f=>h σ a b (s.trans s') f
 | .ct _,h=>λσ a b s' f=>h σ a b (s.trans s') f
 | .rt _,h=>h
 | .ro _,h=>h
 | .r2 _ _,h=>h
theorem uA.ret{B0 B fq: Hp}{D D':Ends}(e:D.rt=D'.rt):∀{o:Out},IE o=true->uA K B0 B H0 D o->uA K B0 B fq D' o
 | .rt _,_,h=>by unfold uA at *;rw[<-e];exact h
 | .ro _,_,h=>by unfold uA at *;rw[<-e];exact h
 | .r2 _ _,_,h=>by unfold uA at *;rw[<-e];exact h
 | .nx _,z,_=>by cases z
 | .bk _,z,_=>by cases z
 | .ct _,z,_=>by cases z
def VS(X:Cx)(st:iH)(δ:List Slot)(o:Out):Prop:=∀B0 B σ H0 H D,gW X.K B0 B H0 H σ δ->uA X.K B0 B H0 D o->cS X st D σ H
def rO(X:Cx)(st:List iH)(δ:List Slot)(o:Out):Prop:=∀B0 B σ H0 H D,gW X.K B0 B H0 H σ δ->uA X.K B0 B H0 D o->J1 X st D σ H
section
variable{X:Cx}{st:iH}{rest body orelse:List iH}{δ δ':List Slot}{o:Out}{a b c e:cw}{d:aq}{ds:List aq}{pos px:Pos}{x:Str}
theorem bp:rO X [] δ (.nx δ):=λ_ _ σ H0 H _ f ok pins s I=>vR pins s σ H _ I (ok σ H0 H (er.refl _) f)
theorem ay(h1:VS X st δ (.nx δ'))(h2:rO X rest δ' o):rO X (st::rest) δ o:=λB0 B σ H0 H D f ok pins s I=>
 lB L4 mh pins s σ H D I (h1 B0 B σ H0 H _ f λσ' Ha Hb sm f'=>h2 B0 B σ' Ha Hb D f' (ok.mono sm))
theorem cH(h1:VS X st δ o)(hr:IE o=true):rO X (st::rest) δ o:=λB0 B σ H0 H D f ok pins s I=>
 lB L4 kz pins s σ H D I (h1 B0 B σ H0 H _ f (uA.ret (D:=D) (by rfl) hr ok))
theorem aS(h1:VS X st δ o):rO X [st] δ o:=λB0 B σ H0 H D f ok pins s I=>yM L4 pins s σ H D I (h1 B0 B σ H0 H D f ok)
theorem c6(i:Nat)(h:VE X e δ d)(hN:X.N.Nodup)(hi:X.N[i]?=some x:=by rfl)(hx:Loc X.env.scope x:=by first|exact aV rfl|exact cX rfl)(hs:swapsWith e (some (.Name x px)) pos.line X.env=pure false:=by rfl)(hf:X.fn x=true\/X.env.scope.names.lookup x=some .local:=by first|exact .inl rfl|exact .inr rfl):
  VS X (.Assign [.Name x px] e pos) δ (.nx (δ.set i (.val d))):=λB0 B σ H0 H D f ok pins s I=>
 zo (i:=i) hN hi hx dD hs hf pins s σ H D I (h B0 B σ H0 H _ f λv H1 dX g r=>ok _ H1 dX g.gL ((f.grow g).set r))
theorem iE(i:Nat)(h:VO X e δ ds)(hN:X.N.Nodup)(hi:X.N[i]?=some x:=by rfl)(hx:Loc X.env.scope x:=by first|exact aV rfl|exact cX rfl)(hs:swapsWith e (some (.Name x px)) pos.line X.env=pure false:=by rfl)(hf:X.fn x=true\/X.env.scope.names.lookup x=some .local:=by first|exact .inl rfl|exact .inr rfl):
  VS X (.Assign [.Name x px] e pos) δ (.nx (δ.set i (.own ds))):=λB0 B σ H0 H D f ok pins s I=>
 zo (i:=i) hN hi hx dD hs hf pins s σ H D I (h B0 B σ H0 H _ f λp xs H1 dX g h1 h2 h3 r=>ok _ H1 dX g.gL ((f.grow g).zC h3 h2 (f.ent.big.free h1) r λj es e2 e3=>by
  obtain⟨p',LZ,g1,g2,_⟩:=f.slot j _ e2;rw[e3]at g1;cases g1;rw[h1]at g2;cases g2))
theorem cR(h:VT X c δ true)(h1:rO X body δ o):VS X (.If c body orelse pos) δ o:=λB0 B σ H0 H D f ok pins s I=>
 ya kY mh kz pins s σ H D I (h B0 B σ H0 H _ f λH1 dX g=>Sn (h1 B0 B σ H1 dX D (f.grow g) (ok.mono g.gL)))
theorem bN(h:VT X c δ false)(h1:rO X orelse δ o):VS X (.If c body orelse pos) δ o:=λB0 B σ H0 H D f ok pins s I=>
 ya kY kz mh pins s σ H D I (h B0 B σ H0 H _ f λH1 dX g=>A6 (h1 B0 B σ H1 dX D (f.grow g) (ok.mono g.gL)))
theorem V'{k:Bool}(h:VT X c δ k)(h1:k=true->rO X body δ o)(h2:k=false->rO X orelse δ o):VS X (.If c body orelse pos) δ o:=by
 cases k with
 |true=>exact cR h (h1 rfl)
 |false=>exact bN h (h2 rfl)
theorem bV(h:VE X e δ d):VS X (.Return (some e) pos) δ (.rt d):=λB0 B σ H0 H D f ok pins s I=>zm dD pins s σ H D I (h B0 B σ H0 H _ f λv H1 dX g r=>ok v H1 dX (f.ent.trans g) r)
theorem yS(h:VO X e δ ds):VS X (.Return (some e) pos) δ (.ro ds):=λB0 B σ H0 H D f ok pins s I=>zm dD pins s σ H D I (h B0 B σ H0 H _ f λp xs H1 dX g a1 a2 a3 a4=>ok p xs H1 dX (f.ent.trans g) (f.ent.big.free a1) a2 a3 a4)
theorem wc(i:Nat)(h:δ[i]?=some (.own ds))(hN:X.N[i]?=some x:=by rfl)(hv:D0 X.env.scope x:=by first|exact aV rfl|exact cX (aV rfl)|exact cX (cX rfl))(hd:(x==("__debug__":Str))=false:=by decide)(pT:(x==("__classdict__":Str))=false:=by decide):
  VS X (.Return (some (.Name x px)) pos) δ (.ro ds):=λB0 B σ H0 H D f ok pins s I=>zm (gO hN hv hd pT) pins s σ H D I (by
 obtain⟨p,xs,h1,h2,h3,h4,h5⟩:=f.slot i _ h;exact⟨_,h1,ok p xs H0 H f.ent h4 h3 h2 h5⟩)
theorem g8(i:Nat){ap:Pos}{p0:Pos}(hi:δ[i]?=some (.own ds))(h:VE X e δ d)(hz:ds.length<sizeLine)(hN:X.N[i]?=some x:=by rfl)(hv:D0 X.env.scope x:=by first|exact aV rfl|exact cX (aV rfl)|exact cX (cX rfl))(hd:(x==("__debug__":Str))=false:=by decide)(pT:(x==("__classdict__":Str))=false:=by decide)
  (hs:starEach [e] X.env=(false,eval e X.env)::starEach [] X.env:=by rfl)(mX:attributeBase (.Name x p0) "append" X.env (eval (.Name x p0) X.env)=eval (.Name x p0) X.env:=by rfl)
  (sQ:((backTo px (starEach [e] X.env)).all (λx=>!x.1)&&(backToKw px (keywordEach [] X.env)).all (λx=>x.1.isSome)&&decide (([e]:List cw).length+([]:List iI).length+(if([]:List iI).isEmpty then 0 else 1)<30))=true:=by rfl)
  (hline:(ap.endLine==px.line)=true:=by rfl)(j9:(backTo px (starEach [] X.env)).any (·.1)=false:=by rfl)(CM:swapsWith (.Call (.Attribute (.Name x p0) "append" ap) [e] [] px) none pos.line X.env=pure false:=by rfl):
  VS X (.Expr (.Call (.Attribute (.Name x p0) "append" ap) [e] [] px) pos) δ (.nx (δ.set i (.own (ds ++ [d])))):=λB0 B σ H0 H D f ok pins s I=>by
 refine pw (yd gZ pQ pR t_ (gO hN hv hd pT) (cV dD fB hs) mX sQ hline hs j9) CM pins s σ H D I ?_
 obtain⟨p,xs,h1,h2,h3,h4,h5⟩:=f.slot i _ hi;refine⟨_,h1,.inl ⟨rfl,_,lW.of h2⟩,?_⟩
 refine h B0 B σ H0 H _ f λv H1 dX g r=>?_
 refine⟨p,xs,v,rfl,rfl,g.big _ _ h2,by rw[h5.length];exact hz,ok σ H1 _ g.gL ((f.grow g).push hi h1 (g.big _ _ h2) r)⟩
theorem eK(i:Nat)(hi:δ[i]?=some (.own ds))(h:rO X rest (δ.set i (.val (.list ds))) o):rO X rest δ o:=λB0 B σ H0 H D f ok=>by
 obtain⟨p,xs,h1,h2,h3,h4,h5⟩:=f.slot i _ hi;obtain⟨f',sm⟩:=f.freeze hi h1 h2;exact h B0 B σ _ H D f' (ok.mono sm)
def N7:List Slot->List Slot->Prop
 | [],[]=>True
 |a::l,b::m=>(b=.un\/a=b)/\N7 l m
 |_,_=>False
theorem N7.len:∀{l m:List Slot},N7 l m->m.length=l.length
 | [],[],_=>rfl
 |_::_,_::_,h=>by simp[N7.len h.2]
 | [],_::_,h=>h.elim
 |_::_,[],h=>h.elim
theorem N7.at:∀{l m:List Slot},N7 l m->∀(i:Nat)sl,m[i]?=some sl->sl=.un\/l[i]?=some sl
 | [],[],_,_,_,e=>by simp at e
 |a::l,b::m,h,0,sl,e=>by
  simp at e;subst e;rcases h.1 with z|z
  ·exact .inl z
  ·exact .inr (by simp[z])
 |a::l,b::m,h,i+1,sl,e=>by simpa using N7.at h.2 i sl (by simpa using e)
 | [],_::_,h,_,_,_=>h.elim
 |_::_,[],h,_,_,_=>h.elim
theorem fF{δ2:List Slot}(h:rO X rest δ (.nx δ'))(hf:N7 δ' δ2):rO X rest δ (.nx δ2):=λB0 B σ H0 H D f ok=>h B0 B σ H0 H D f λσ' Ha Hb sm f'=>ok σ' Ha Hb sm (f'.forget hf.len hf.at)
theorem jz{tg iter:cw}(hp:B' (model X.prog X.w) X.A X.env X.xe)(hc:X.calm=true)(hi:VI X tg iter δ ds)(hg:PG X tg (L7 X.K tgt))(δs:Nat->List Slot)(m:Nat)(h0:δs 0=δ)(hm:m<=ds.length)
  (step:∀k d,k<m->ds[k]?=some d->∃δ',zD tgt d (δs k)=some δ'/\rO X body δ' (.nx (δs (k+1))))
  (fin:(m=ds.length/\o=.nx (δs m))\/∃d δ',ds[m]?=some d/\zD tgt d (δs m)=some δ'/\IE o=true/\rO X body δ' o)
  (hs:∀x,foldedSetIterable iter X.env x=pure x:=by intro _;rfl):VS X (.For tg iter body [] pos) δ o:=λB0 B σ H0 H D f ok pins s I=>by
 obtain⟨wi,pi,qi⟩:=hi;refine Cy hp hc pi hg mh hs pins s σ H D I ?_
 refine qi B0 B σ H0 H _ f λJ H1 dX g it=>?_
 refine⟨λi mm σ' H'=>i<=m/\mm=m+1-i/\∃Ha,er H1 Ha/\gW X.K B0 B Ha H' σ' (δs i),⟨m+1,bK _,rfl,H1,er.refl _,by rw[h0];exact f.grow g⟩,?_⟩
 rintro i mm σ' H' ⟨hi,rfl,Ha,sm,fa⟩
 obtain⟨i1,i2,i3⟩:=it Ha H' sm fa.sub i;by_cases qI:i<m
 ·refine .inr ⟨i1 (by omega),λσ'' AJ=>∃Hb,er H1 Hb/\gW X.K B0 B Hb AJ σ'' (δs (i+1)),λσ'' AJ ⟨Hb,z1,z2⟩=>⟨m+1-(i+1),by omega,qI,rfl,Hb,z1,z2⟩,λv H2 y=>?_⟩
  have hd:ds[i]?=some (ds[i]'(by omega)):=by simp
  obtain⟨Hb,g2,rx⟩:=i3 v H2 _ hd y;obtain⟨δ',e1,e2⟩:=step i _ qI hd;refine qV (fa.grow g2) rx e1 λσ3 f3=>?_
  exact e2 B0 B σ3 Hb H2 _ f3 λσ4 Hc H4 s4 f4=>⟨Hc,(sm.trans g2.gL).trans s4,f4⟩
 ·have e:i=m:=by omega
  subst e;rcases fin with⟨e1,e2⟩|⟨d,δ',hd,e1,hr,e2⟩
  ·subst e2
   exact .inl ⟨i2 (by omega),ok σ' Ha H' (g.gL.trans sm) fa⟩
  ·have zar:i<ds.length:=(aL.mp hd).1
   refine .inr ⟨i1 zar,λ_ _=>False,λ_ _ z=>z.elim,λv H2 y=>?_⟩
   obtain⟨Hb,g2,rx⟩:=i3 v H2 _ hd y;refine qV (fa.grow g2) rx e1 λσ3 f3=>?_
   exact e2 B0 B σ3 Hb H2 _ f3 (uA.ret (D:=D) (by rfl) hr ok)
end
def gX(K:av)(R:List aq->aq->Prop):Sp:=λvs H Q _=>∃H0 ds d,er H0 H/\dz K H0 vs ds/\R ds d/\∀v fq H',dW H0 H fq H'->Rep K fq v d->Q v H'
def AO(K:av)(R:List aq->List aq->Prop):Sp:=λvs H Q _=>∃H0 ds es,er H0 H/\dz K H0 vs ds/\R ds es/\
 ∀p xs fq H',dW H0 H fq H'->H p=none->fq p=none->H' p=some (.lst xs)->dz K fq xs es->Q (.ref p) H'
def bG(P:bM)(w:cy)(K:av)(mg:Str->Option aD)(base:dq)(k:Nat)(x:Str)(ps:List Str)(sp:Sp):Prop:=
 ∃f fd,eQ P w K mg base jE k f fd ps sp/\mg x=some (.ref f)/\eA K (.ref f)=true/\Binds K fd ps []
section
variable{X:Cx}{x:Str}{e:cw}{es:List cw}{δ:List Slot}{ds zs:List aq}{d:aq}{p pos:Pos}{k:Nat}{ps:List Str}
theorem bw{R:List aq->aq->Prop}(C:bG X.prog X.w X.K X.mg X.base k x ps (gX X.K R))(hr:fZ k X.A)(ha:VA X (e::es) δ ds)(hp:R ds d)(hg:Gl X x:=by rfl)(qP:(x==("__debug__":Str))=false:=by decide)
  (he:starEach (e::es) X.env=(false,eval e X.env)::starEach es X.env:=by rfl)(pY:(backTo pos (starEach es X.env)).any (·.1)=false:=by rfl):VE X (.Call (.Name x p) (e::es) [] pos) δ d:=by
 obtain⟨f,fd,F,hm,hk,hb⟩:=C;obtain⟨t,pa,qa⟩:=ha;exact .of (vT F hr hg hm hk hb .nil Bx pa qP he pY) λB0 B σ H0 H Q fr q=>qa B0 B σ H0 H _ fr λvs H1 dX g1 rs=>by
  rw[dA];exact⟨H1,ds,d,g1.sub,rs,hp,λv H2 iL g2 r=>q v H2 iL (g1.trans g2) r⟩
theorem i_(C:bG X.prog X.w X.K X.mg X.base k x ps (AO X.K R))(hr:fZ k X.A)(ha:VA X (e::es) δ ds)(hp:R ds zs)(hg:Gl X x:=by rfl)(qP:(x==("__debug__":Str))=false:=by decide)
  (he:starEach (e::es) X.env=(false,eval e X.env)::starEach es X.env:=by rfl)(pY:(backTo pos (starEach es X.env)).any (·.1)=false:=by rfl):VO X (.Call (.Name x p) (e::es) [] pos) δ zs:=by
 obtain⟨f,fd,F,hm,hk,hb⟩:=C;obtain⟨t,pa,qa⟩:=ha;exact .of (vT F hr hg hm hk hb .nil Bx pa qP he pY) λB0 B σ H0 H Q fr q=>qa B0 B σ H0 H _ fr λvs H1 dX g1 rs=>by
  rw[dA];exact⟨H1,ds,zs,g1.sub,rs,hp,λv xs H2 iL g2 a1 a2 a3 a4=>q v xs H2 iL (g1.trans g2) (g1.big.free a1) a2 a3 a4⟩
end
def sW(N:List Str)(ds:List aq):List Slot:=ds.map .val++bu (N.length-ds.length) .un
theorem gW.start{N:List Str}{ds:List aq}(s:er H0 H)(r:dz K H0 vs ds):gW K H0 H H0 H (start N vs) (sW N ds):=by
 have hl:=r.length;refine⟨.refl s,by simp[L2.start,sW,hl],λi sl e=>?_,λi j a b p _ e=>?_⟩
 ·unfold sW at e
  unfold L2.start;by_cases hi:i<ds.length
  ·rw[cL (by simpa using hi),aP]at e
   have hd:ds[i]?=some ds[i]:=by simp[hi]
   rw[hd]at e;cases e;obtain⟨v,h1,h2⟩:=r.get hd;exact⟨v,by rw[cL (by simp;omega),aP,h1];rfl,h2⟩
  ·rw[cD (by simpa using gN hi),eG]at e
   split at e<;>cases e
   trivial
 ·unfold sW at e
  by_cases hi:i<ds.length
  ·rw[cL (by simpa using hi),aP]at e
   have hd:ds[i]?=some ds[i]:=by simp[hi]
   rw[hd]at e;cases e
  ·rw[cD (by simpa using gN hi),eG]at e
   split at e<;>cases e
section
variable{P:bM}{w:cy}{K:av}{mg:Str->Option aD}{base:dq}{x qual:Str}{st:iH}{f:aN}{fd:fN}{N ps:List Str}{k:Nat}
abbrev yg(P:bM)(w:cy)(K:av)(mg:Str->Option aD)(base:dq)(N:List Str)(qual:Str)(st:iH)(f:aN)(k:Nat)(ds:List aq)(o:Out):Prop:=
 ∀gy A outer s H E,fZ k (A.deeper (envOfC qual (bJ st) s.heap.objs.size f gy))->rO (sP jE P w K mg base N qual (bJ st) f gy A outer s H E).Ig (ik st) (sW N ds) o
theorem jA{R:List aq->aq->Prop}(F:kM K x qual st f fd)(S:cG N ps (bJ st))(hl:∀ds d,R ds d->ds.length=ps.length)(hb:∀ds d,R ds d->yg P w K mg base N qual st f k ds (.rt d)):eQ P w K mg base jE (k+1) f fd ps (gX K R):=by
 refine F.ok S (λvs H Q E h=>?_) (λgy A outer s H vs Q E hr h=>?_)
 ·obtain⟨H0,ds,d,_,r,hp,_⟩:=h
  rw[r.length,hl ds d hp]
 ·obtain⟨H0,ds,d,sm,r,hp,q⟩:=h
  exact⟨_,mh,hb ds d hp gy A outer s H E hr H0 H _ H0 H _ (.start sm r) q⟩
theorem Ef(F:kM K x qual st f fd)(S:cG N ps (bJ st))(hl:∀ds d,R ds d->ds.length=ps.length)(hb:∀ds d,R ds d->yg P w K mg base N qual st f k ds (.ro d)):eQ P w K mg base jE (k+1) f fd ps (AO K R):=by
 refine F.ok S (λvs H Q E h=>?_) (λgy A outer s H vs Q E hr h=>?_)
 ·obtain⟨H0,ds,d,_,r,hp,_⟩:=h
  rw[r.length,hl ds d hp]
 ·obtain⟨H0,ds,d,sm,r,hp,q⟩:=h
  exact⟨_,mh,hb ds d hp gy A outer s H E hr H0 H _ H0 H _ (.start sm r) q⟩
end
end L2
namespace L2.Srt
open PySem PySem.W PyProof.Rows
section
variable{N:Nat}{lt:Nat->Nat->Bool}
end
end L2.Srt
namespace L2
open PySem PySem.Spec PyProof.Rows PySem.W
section
variable{P:bM}{w:cy}{A:ej}{E:aD->aQ->Prop}{s:aQ}
end
theorem dz.ints{K:av}{H:Hp}:∀{ns:List Int}{xs:List V},dz K H xs (ns.map .int)->xs=ns.map V.int
 | [],_,r=>by cases r;rfl
 |n::ns,_,r=>by cases r with|cons a t=>cases a;rw[aR,dz.ints t]
theorem dZ.getD:∀{xs:List V}{us:List aD}(i:Nat),dZ xs us->RelV (xs.getD i .non) (us.getD i ef)
 |_,_,_,.nil=>by simp;rfl
 |_,_,0,.cons r _=>by simpa using r
 |_,_,i+1,.cons _ t=>by simpa using dZ.getD i t
end L2
namespace L2
open PySem PySem.Spec PyProof.Rows
variable{l:aN}{k1 kb:Bool}{X:Cx}{c:cw}{h:dq}{H:Hp}{rest:List cw}{ns:List Int}{ds:List aq}{δ:List Slot}{n:Nat}{P:bM}{K:av}{w:cy}
section
variable{X:Cx}{a b c e:cw}{es:List cw}{δ:List Slot}{d d1 d2 d3:aq}{ds:List aq}{pos:Pos}{k:Nat}
def Eg:aq->Bool
 | .none=>true
 | .bool _=>true
 | .int _=>true
 | .str _=>true
 |_=>false
theorem Rep.J3{H': Hp}{v:V}(r:Rep K H v d)(h:Eg d=true):Rep K H' v d:=by
 cases r with
 |non=>exact .non
 |bl b=>exact .bl b
 |int i=>exact .int i
 |str x=>exact .str x
 |_=>cases h
theorem uc(i:Nat)(hi:δ[i]?=some (.own ds))(h:VE X e (δ.set i (.val (.list ds))) d)(hs:Eg d=true):VE X e δ d:=λB0 B σ H0 H Q f q=>by
 obtain⟨p,xs,h1,h2,h3,h4,h5⟩:=f.slot i _ hi;obtain⟨f',sm⟩:=f.freeze hi h1 h2;exact h B0 B σ _ H Q f' λv Ha H' g r=>q v H0 H' ⟨g.big,er.refl _,f.sub.trans g.big,λ_ z=>.inl z⟩ (r.J3 hs)
def SQ(K:av)(n:Nat):V->List V->Hp->VK->Prop:=λx vs H Q=>∃p ds y d j,x=.ref p/\vs=[y]/\Rep K H (.ref p) (.list ds)/\Rep K H y d/\Lay n (.list ds)/\Lay n d/\(∃h:j<ds.length,cU ds[j] d=true)/\
 (∀m (h:m<ds.length),m<j->cU ds[m] d=false)/\Q (.int j) H
theorem L8(hu:X.A.units+n+2<cLine):Up X "list.index" (SQ X.K n):=by
 intro pins s σ H x vs v us Q I rx rv h;obtain⟨p,ds,y,d,j,rfl,rfl,r1,r2,l1,l2,⟨hj,hit⟩,yC,q⟩:=h;cases rx;obtain⟨u,rfl,ru⟩:=rv.one;obtain⟨bs,rb⟩:=j' I d l2.1 r2 ru;cases r1 with
 |lst hq rs=>
  obtain⟨its,Wb,⟨⟨cls,dd,data,sl⟩,m,eo,ec,_,ed⟩,hz⟩:=I.list hq;simp only at ec ed;subst ec ed;obtain⟨as,ra⟩:=mZ I ds l1.1 rs Wb;have hl:=Wb.length;have QO:=rs.length;have hm:=SeqAt.readsAll_map ds its as l1.1 ra;have rd:∀i (h1:i<its.length) (h2:i<ds.length),kE s.heap its[i]=ds[i]:=λi h1 h2=>by
   have e1:(its.map (kE s.heap))[i]?=some (kE s.heap its[i]):=by simp[h1]
   rw[hm]at e1;rw[aw h2]at e1;exact(c9 e1).symm
  have h1:=l2.2;have hn:=qO;have zas:sizeLine=16777216:=du;refine kU F.slot_list_index ⟨_,eo,rfl⟩ F.entry_list_index (F.args_list_index_2 _ _) (SeqAt.list_indexAt p its.toArray m dd sl u (λy=>cU (kE s.heap y) d) j (by simp;omega) (by omega) ?_ ?_) ⟨eo,?_,?_⟩
  ·have:=rd j (by omega) hj
   simp only[nR];rw[this];exact hit
  ·intro i hi AI
   simp only[bj]at hi;have:=rd i hi (by omega)
   simp only[nR];rw[this];exact yC i (by omega) AI
  ·exact SeqAt.items_eqAt (by simpa using ra) rb l1.1 l2.1 (by omega)
  ·exact⟨.int j,H,I.tok _,⟨_,rfl⟩,q⟩
theorem L9{j:Nat}{ap:Pos}(hr:fZ k X.A)(h1:VE X a δ (.list ds))(h2:VE X b δ d)(l1:Lay 20 (.list ds))(l2:Lay 20 d)(hj:∃h:j<ds.length,cU ds[j] d=true)(yC:∀m (h:m<ds.length),m<j->cU ds[m] d=false)
  (hs:starEach [b] X.env=(false,eval b X.env)::starEach [] X.env:=by rfl)(mX:attributeBase a "index" X.env (eval a X.env)=eval a X.env:=by rfl)
  (sQ:((backTo pos (starEach [b] X.env)).all (λx=>!x.1)&&(backToKw pos (keywordEach [] X.env)).all (λx=>x.1.isSome)&&decide (([b]:List cw).length+([]:List iI).length+(if([]:List iI).isEmpty then 0 else 1)<30))=true:=by rfl)
  (hline:(ap.endLine==pos.line)=true:=by rfl)(j9:(backTo pos (starEach [] X.env)).any (·.1)=false:=by rfl):VE X (.Call (.Attribute a "index" ap) [b] [] pos) δ (.int j):=
 .of (yd gZ Bk Bl (L8 (A7 hr)) dD (cV dD fB hs) mX sQ hline hs j9) λB0 B σ H0 H Q f q=>h1 B0 B σ H0 H _ f λv H1 dX g r1=>by
  cases r1 with
  |lst hq rs=>
   refine⟨.inl ⟨rfl,_,g.sub.seq hq⟩,h2 B0 B σ H1 dX _ (f.grow g) λu H2 iL g2 r2=>?_⟩
   exact⟨_,ds,u,d,j,rfl,rfl,.lst (g2.sub.seq (g2.gL.seq hq)) (rs.mono (g2.gL.trans g2.sub)),r2.mono g2.sub,l1,l2,hj,yC,q _ H2 iL (g.trans g2) (.int _)⟩
def tyD:aq->Option String
 | .none=>some "NoneType"
 | .bool _=>some "bool"
 | .int _=>some "int"
 | .str _=>some "str"
 | .list _=>some "list"
 | .tuple _=>some "tuple"
 |_=>none
theorem IG{t tn:String}(ht:tyD d=some t)(hk:dm X.K (.type t) (.type tn)=some kb):jT X (.builtin "isinstance") (λxs H Q=>∃x,xs=[x,.ty tn]/\Rep X.K H x d/\Q (.bl kb) H):=by
 intro pins s σ H xs us Q I r h;obtain⟨x,rfl,rx,q⟩:=h;obtain⟨u,w',rfl,r1,r2⟩:=vals2 r;cases r2;have fin:∀tk,EP X pins σ Q (.bool kb) { s with toks:=tk }:=λtk=>⟨.bl kb,H,I.tok tk,rfl,q⟩
 cases rx with
 |non=>cases ht;cases r1;exact iQ PySem.W.kitx_none I.sv eX hk (λz=>nomatch z) fin
 |bl b=>cases ht;cases r1;exact iQ PySem.W.kitx_bool I.sv eX hk (λz=>nomatch z) fin
 |int i=>cases ht;obtain⟨t,rfl⟩:=r1;exact iQ PySem.W.kitx_int I.sv eX hk (λz=>nomatch z) fin
 |str y=>cases ht;obtain⟨t,rfl⟩:=r1;exact iQ PySem.W.kitx_str I.sv eX hk (λz=>nomatch z) fin
 |lst hq rs=>
  cases ht;cases r1;obtain⟨its,_,⟨o,n,e,c,_⟩,_⟩:=I.list hq;exact iQ PySem.W.kitx_list I.sv ⟨o,e,c⟩ hk (λz=>nomatch z) fin
 |tup hq rs=>
  cases ht;cases r1;obtain⟨its,_,⟨o,e,c,_⟩,_⟩:=I.tuple hq;exact iQ PySem.W.kitx_tuple I.sv ⟨o,e,c⟩ hk (λz=>nomatch z) fin
 |dct _ _ _=>cases ht
 |Us _ _ _=>cases ht
 |obj _ _ _ _ _=>cases ht
theorem iM{x:Str}{t tn:String}{p p2:Pos}(h:VE X a δ d)(ht:tyD d=some t)(hk:dm X.K (.type t) (.type tn)=some kb)(hb:bootBuiltins x=some (.type tn))(m1:X.mg "isinstance"=none)(m2:X.mg x=none)(hv:bootBuiltins "isinstance"=some (.builtin "isinstance"))
  (hg:Gl X "isinstance":=by rfl)(hg2:Gl X x:=by rfl)(hn:x≠"__name__":=by decide)(qP:(x==("__debug__":Str))=false:=by decide)(hs:starEach [a,.Name x p2] X.env=(false,eval a X.env)::starEach [.Name x p2] X.env:=by rfl)(qH:starEach [.Name x p2] X.env=(false,eval (.Name x p2) X.env)::starEach [] X.env:=by rfl)
  (pY:(backTo pos (starEach [.Name x p2] X.env)).any (·.1)=false:=by rfl):VE X (.Call (.Name "isinstance" p) [a,.Name x p2] [] pos) δ (.bool kb):=
 .of (lD (IG ht hk) hg m1 hv (cV dD (cV (vQ hg2 m2 hb (v:=.ty tn) rfl hn qP) fB qH) hs) (by decide) (by decide) hs pY) λB0 B σ H0 H Q f q=>h B0 B σ H0 H _ f λv H1 dX g r=>⟨v,rfl,r.mono g.sub,q _ H1 dX g (.bl _)⟩
theorem zau{A:ej}{E:aD->aQ->Prop}{s:aQ}{vs:List aD}{Q:aD->aQ->Prop}(hh:A.handled=none)(hl:s.heap.IsList l vs.toArray)(hi:AY vs ns)(lR:ns≠[])
  (h:∀h' M (t:Tok) tk,(∀b o,s.heap.get? b=some o->h'.get? b=some o)->M∈ns->(∀z,z∈ns->z<=M)->Q (.int M t) { s with heap:=h',toks:=tk }):wpAny (model P w) A (call (.builtin "max") [.ref l]) Q E s:=by
 obtain⟨xs,ex⟩:=hi.allInts.items;have F8:ns=xs.toList.map (·.1):=by rw[<-hi.numsOf,<-nums_intItems,<-ex]
 have hz:0<xs.size:=by
  rcases xh xs.size with z|z
  ·exfalso
   apply lR;rw[F8,Array.eq_empty_of_size_eq_zero z];rfl
  ·exact z
 rw[ex]at hl;refine max_intList hh hl hz λv h' tk hv hk=>?_
 obtain⟨t,rfl⟩:=intItems_at hv;obtain⟨g1,g2⟩:=argBest_gt (numAt xs) (xs.size-1);refine h h' _ t tk hk ?_ λz hzm=>?_
 ·rw[F8,numAt_eq]
  exact getD_mem (by rw[aj,cq];omega)
 ·rw[F8]at hzm
  obtain⟨j,hj,rfl⟩:=mem_getD hzm;rw[aj,cq]at hj;rw[<-numAt_eq];exact g2 j (by omega)
theorem J4(hc:X.calm=true):jT X (.builtin "max") (λxs H Q=>∃p ns,xs=[.ref p]/\lW X.K H p (ns.map V.int)/\ns≠[]/\∀M,M∈ns->(∀z,z∈ns->z<=M)->Q (.int M) H):=by
 intro pins s σ H xs us Q I r h;obtain⟨p,ns,rfl,hq,lR,q⟩:=h;obtain⟨u,rfl,rx⟩:=vals1 r;cases rx;obtain⟨its,rv,pl,hz⟩:=I.list hq;exact zau (I.ok.hd hc) pl.isList (intsAre_of rv) lR λh' M t tk hk h1 h2=>⟨.int M,H,I.kept hk,⟨_,rfl⟩,q M h1 h2⟩
theorem Wc{M:Int}(h1:M∈ns)(h2:∀z,z∈ns->z<=M):pF K (λxs H Q=>∃p ns,xs=[.ref p]/\lW K H p (ns.map V.int)/\ns≠[]/\∀M,M∈ns->(∀z,z∈ns->z<=M)->Q (.int M) H) [.list (ns.map .int)] (.int M):=λvs H0 H Q s r q=>by
 obtain⟨v,rfl,r1⟩:=r.one;cases r1 with
 |lst hq rs=>
  have e:=rs.ints;subst e;refine⟨_,ns,rfl,s.seq hq,(λz=>by rw[z]at h1;cases h1),λM' g1 g2=>q _ _ _ (.refl s) ?_⟩
  have:M'=M:=Int.le_antisymm (h2 M' g1) (g2 M h1);rw[this];exact .int _
end
section
variable{X:Cx}{sc:lS}{own N:List Str}{cap:List Nat}{cl:List (Str×aN)}{tg elt iter:cw}{ifs:List cw}{δ:List Slot}{ds:List aq}{pos px v8:Pos}{tgt:IC}{x:Str}
theorem CT(i:Nat){F:aq->Option aq}(hc:X.calm=true)(CS:k8 X sc own cap N cl)(hi:VI X tg iter δ ds)(hg:∀f s3 H3,PG (gP X sc N cl f s3 H3) tg (L7 X.K tgt))(ht:zG own.length tgt=true)(hz:ds.length<=sizeLine)
  (step:∀d∈ds,CQ X sc own cap N cl tgt elt ifs δ F d)(hN:X.N.Nodup)(Sx:X.N[i]?=some x:=by rfl)(hx:Loc X.env.scope x:=by first|exact aV rfl|exact cX rfl)
  (CM:swapsWith (.ListComp elt [⟨tg,iter,ifs,0⟩] sc pos) (some (.Name x px)) v8.line X.env=pure true:=by rfl)(hs:∀x,foldedSetIterable iter X.env x=pure x:=by intro _;rfl)(hf:X.fn x=true\/X.env.scope.names.lookup x=some .local:=by first|exact .inl rfl|exact .inr rfl):
  VS X (.Assign [.Name x px] (.ListComp elt [⟨tg,iter,ifs,0⟩] sc pos) v8) δ (.nx (δ.set i (.own (ds.filterMap F)))):=λB0 B σ H0 H D f ok pins s I=>by
 obtain⟨wi,pi,qi⟩:=hi;refine u9 (i:=i) (tc:=V9 X sc N cl ifs) (te:=teC X sc N cl elt) hN Sx hx hc CS pi hg (λf s3 H3 pins s σ H Q I h=>h f s3 H3 pins s I) (λf s3 H3 pins s σ H Q I h=>h f s3 H3 pins s I) CM hs hf pins s σ H D I ?_
 refine qi B0 B σ H0 H _ f λJ H1 dX g it=>?_
 refine sV ht hz step (f.grow g) it λp xs Ha Hb g2 a1 a2 a3 a4=>?_
 have gg:=g.trans g2;have hp:H p=none:=g.big.free a1;refine ok _ Ha Hb gg.gL ((f.grow gg).zC a3 a2 (f.ent.big.free hp) a4 λj es e2 e3=>?_)
 obtain⟨p',LZ,g1,Wf,_⟩:=f.slot j _ e2;rw[e3]at g1;cases g1;rw[hp]at Wf;cases Wf
end
theorem VT.to{k k':Bool}(h:VT X c δ k')(e:k'=k):VT X c δ k:=e▸h
theorem VE.to{k k':aq}(h:VE X c δ k')(e:k'=k):VE X c δ k:=e▸h
theorem VO.to{k k':List aq}(h:VO X c δ k')(e:k'=k):VO X c δ k:=e▸h
def suite(b:List iH)(i:Nat):List iH:=match b.getD i (.Pass ⟨0,0,0,0⟩) with
 | .For _ _ b _ _=>b
 | .While _ b _ _=>b
 | .If _ b _ _=>b
 |_=>[]
theorem cx(n:Nat)(i:Int):Lay n (.int i):=⟨rfl,bK _⟩
theorem bq{x:Str}(h:cn (.str x)=true):Lay n (.str x):=⟨h,bK _⟩
theorem Gh:∀{ds:List aq},(∀d∈ds,Lay n d)->pP ds=true/\aq.depthAll ds<=n
 | [],_=>⟨rfl,bK _⟩
 |d::ds,h=>by
  obtain⟨h1,h2⟩:=Gh λe he=>h e (aU _ he)
  obtain⟨h3,h4⟩:=h d aO;refine⟨by simp[pP,h1,h3],?_⟩
  show max d.depth (aq.depthAll ds)<=n;omega
theorem yT(h:∀d∈ds,Lay n d):Lay (n+1) (.list ds):=by
 obtain⟨h1,h2⟩:=Gh h;exact⟨h1,y' h2⟩
theorem IH(h:∀d∈ds,Lay n d):Lay (n+1) (.tuple ds):=by
 obtain⟨h1,h2⟩:=Gh h;exact⟨h1,y' h2⟩
theorem filterMap_some{α β:Type}{F:α->Option β}{g:α->β}:∀{l:List α},(∀a∈l,F a=some (g a))->l.filterMap F=l.map g
 | [],_=>rfl
 |a::l,h=>by
  rw[c7 (h a aO),aR,filterMap_some λb hb=>h b (aU _ hb)]
def QP:Slot->Bool
 | .own _=>true
 |_=>false
def noOwn(δ:List Slot):Bool:=δ.all λs=>!QP s
theorem qk(h:noOwn δ=true)(i:Nat)(ds:List aq):δ[i]?≠some (.own ds):=λe=>by
 have:=eV.mp h _ (bF e);cases this
section
variable{K:av}{B0 B H0 H fq H' C0 C Ha Hb:Hp}{σ σ':St}{δ δ':List Slot}
theorem gW.Gi(f:gW K B0 B H0 H σ δ){i:Nat}{v:V}{sl:Slot}(hs:LY K B H0 H sl (some (some v)))(hn:QP sl=false):gW K B0 B H0 H (σ.set i (some v)) (δ.set i sl):=by
 refine⟨f.ent,by simp[f.len],λj RJ e=>?_,λj k ds es p DW e1 e2 e3=>?_⟩
 ·by_cases hj:j=i
  ·subst hj
   have hl:j < δ.length:=by simpa using(aL.mp e).1
   rw[bf hl]at e;cases e;rw[bf (by rw[f.len];exact hl)]
   exact hs
  ·rw[a7 (bU hj)]at e
   rw[a7 (bU hj)];exact f.slot j RJ e
 ·have nj:j≠i:=λz=>by
   subst z;have hl:j < δ.length:=by simpa using(aL.mp e1).1
   rw[bf hl]at e1;cases e1;cases hn
  have nk:k≠i:=λz=>by
   subst z;have hl:k < δ.length:=by simpa using(aL.mp e2).1
   rw[bf hl]at e2;cases e2;cases hn
  rw[a7 (bU nj)]at e1 e3;rw[a7 (bU nk)]at e2 ⊢;exact f.apart j k ds es p DW e1 e2 e3
theorem gW.re(f:gW K B0 B H0 H σ δ)(hn:noOwn δ=true)(g:dW C0 C H0 H):gW K C0 C H0 H σ δ:=by
 refine⟨g,f.len,λi sl e=>?_,f.apart⟩
 have q:=f.slot i sl e;cases sl with
 |own ds=>exact absurd e (qk hn i ds)
 |_=>exact q
theorem dW.still(g:dW H0 H Ha Hb){p:aN}{o:HO}(h0:H0 p=none)(h:H p=some o):Ha p=none:=by
 cases e:Ha p with
 |none=>rfl
 |some u=>
  rcases g.new p (by rw[e];simp)with z|z
  ·exact absurd h0 z
  ·rw[h]at z;cases z
theorem dW.far(s:er H0 H)(b:er H Hb):dW H0 H H0 Hb:=⟨b,er.refl _,s.trans b,λ_ z=>.inl z⟩
end
section
variable{X:Cx}{st:iH}{rest body orelse:List iH}{δ δ':List Slot}{o:Out}{a b c e arg:cw}{d d1 d2 da:aq}{ds zs:List aq}{pos px py:Pos}{x y:Str}
theorem jM(n:Nat):(jx n).length=n:=by simp[jx]
theorem CV(tgt:IC){tg:cw}(h:VE X e δ d)(hg:PG X tg (L7 X.K tgt))(ha:zD tgt d δ=some δ')(hs:swapsWithSole [tg] e pos.line X.env=pure false:=by rfl)(hw:swappedStores [tg] e X.env=pure none:=by rfl)
  (h1:(assignEach [tg] X.env).map (·.2)=[assign tg X.env]:=by rfl):VS X (.Assign [tg] e pos) δ (.nx δ'):=λB0 B σ H0 H D f ok pins s I=>
 Lh dD hg hs hw h1 pins s σ H D I (h B0 B σ H0 H _ f λv H1 dX g r=>qV (f.grow g) r ha λσ' f'=>ok σ' H1 dX g.gL f')
theorem L_(i j:Nat){pt FP:Pos}{kt k2}(h1:VE X a δ d1)(h2:VE X b δ d2)(hc:X.calm=true)(hN:X.N.Nodup)(AI:i≠j)(hi:X.N[i]?=some x:=by rfl)(hj:X.N[j]?=some y:=by rfl)(hx:X.env.scope.names.lookup x=some .local:=by rfl)(hy:X.env.scope.names.lookup y=some .local:=by rfl)
  (hw:swappedStores [.Tuple [.Name x px,.Name y py] kt pt] (.Tuple [a,b] k2 FP) X.env=pure (some [x,y]):=by rfl)(hs:swapsWithSole [.Tuple [.Name x px,.Name y py] kt pt] (.Tuple [a,b] k2 FP) pos.line X.env=pure false:=by rfl)
  (Eh:starEach [a,b] X.env=(false,eval a X.env)::starEach [b] X.env:=by rfl)(qH:starEach [b] X.env=(false,eval b X.env)::starEach [] X.env:=by rfl):
  VS X (.Assign [.Tuple [.Name x px,.Name y py] kt pt] (.Tuple [a,b] k2 FP) pos) δ (.nx ((δ.set i (.val d1)).set j (.val d2))):=λB0 B σ H0 H D f ok pins s I=>by
 obtain⟨t,pa,qa⟩:=ao h1 (ao h2 aK qH) Eh;refine Li hc hN hi hj AI hx hy pa hw hs pins s σ H D I (qa B0 B σ H0 H _ f λvs H1 dX g rs=>?_)
 obtain⟨v,w,rfl,r1,r2⟩:=rs.two;exact⟨v,w,rfl,ok _ H1 dX g.gL (((f.grow g).set r1).set r2)⟩
end
structure wX(K:av)(B0 B:Hp)(a:aN)(ps:List aN)(gs:List (List aq))(H0 H:Hp)(σ:St)(δ:List Slot):Prop where
 fr:gW K B0 B H0 H σ δ
 no:noOwn δ=true
 arr:H a=some (.lst (ps.map V.ref))
 a0:H0 a=none
 aB:B a=none
 na:a∉ps
 nd:ps.Nodup
 len:ps.length=gs.length
 cell:∀(i:Nat)p ds,ps[i]?=some p->gs[i]?=some ds->H0 p=none/\B p=none/\∃xs,H p=some (.lst xs)/\dz K H0 xs ds
section
variable{K:av}{B0 B H0 H fq H' C0 C Ha Hb:Hp}{σ σ':St}{δ δ':List Slot}{a:aN}{ps:List aN}{gs:List (List aq)}
theorem wX.go(G:wX K B0 B a ps gs H0 H σ δ)(f':gW K H0 H Ha Hb σ' δ')(hn:noOwn δ'=true):wX K B0 B a ps gs Ha Hb σ' δ' where
 fr:=f'.re hn (G.fr.ent.trans f'.ent)
 no:=hn
 arr:=f'.ent.big _ _ G.arr
 a0:=f'.ent.still G.a0 G.arr
 aB:=G.aB
 na:=G.na
 nd:=G.nd
 len:=G.len
 cell:=λi p ds e1 e2=>by
  obtain⟨h1,h2,xs,h3,h4⟩:=G.cell i p ds e1 e2;exact⟨f'.ent.still h1 h3,h2,xs,f'.ent.big _ _ h3,h4.mono f'.ent.gL⟩
theorem wX.from(G:wX K B0 B a ps gs H0 H σ δ)(g:dW C0 B H0 H):wX K C0 B a ps gs H0 H σ δ where
 fr:=G.fr.re G.no g
 no:=G.no
 arr:=G.arr
 a0:=G.a0
 aB:=G.aB
 na:=G.na
 nd:=G.nd
 len:=G.len
 cell:=G.cell
theorem wX.own(G:wX K B0 B a ps gs H0 H σ δ):gW K H0 H H0 H σ δ:=G.fr.re G.no (.refl G.fr.sub)
theorem wX.forget(G:wX K B0 B a ps gs H0 H σ δ)(hf:N7 δ δ')(hn:noOwn δ'=true):wX K B0 B a ps gs H0 H σ δ':=G.go (G.own.forget hf.len hf.at) hn
end
section
variable{X:Cx}{B0 B H0 H fq H' Ha Hb:Hp}{σ σ':St}{D:Ends}{st:iH}{rest body orelse:List iH}{δ δ':List Slot}{a:aN}{ps:List aN}{gs:List (List aq)}{e c tg iter:cw}{d:aq}{ds:List aq}{pos px v8:Pos}{x y:Str}
def Ends.tail(D:Ends)(u:St->Hp->Prop):Ends:={ D with nx:=u }
theorem dS(h:cS X st (D.tail λσ H=>J1 X rest D σ H) σ H):J1 X (st::rest) D σ H:=λpins s I=>lB L4 mh pins s σ H D I h
theorem d_(h:cS X st D σ H):J1 X [st] D σ H:=λpins s I=>yM L4 pins s σ H D I h
theorem Ma(G:wX X.K B0 B a ps gs H0 H σ δ)(h:VS X st δ (.nx δ'))(hn:noOwn δ'=true)(q:∀σ' fq H',wX X.K B0 B a ps gs fq H' σ' δ'->D.nx σ' H'):cS X st D σ H:=
 h H0 H σ H0 H D G.own λσ' Ha Hb sm f'=>q σ' Ha Hb (G.go f' hn)
theorem Wh{tgt:IC}(G:wX X.K B0 B a ps gs H0 H σ δ)(hp:B' (model X.prog X.w) X.A X.env X.xe)(hc:X.calm=true)(hi:VI X tg iter δ ds)(hg:PG X tg (L7 X.K tgt))(Ut:Nat->List (List aq))(h0:Ut 0=gs)
  (step:∀k d,ds[k]?=some d->∃δ',zD tgt d δ=some δ'/\noOwn δ'=true/\∀(D:Ends)C0 σ' fq H',wX X.K C0 B a ps (Ut k) fq H' σ' δ'->(∀σ2 Ha Hb,wX X.K C0 B a ps (Ut (k+1)) Ha Hb σ2 δ->D.nx σ2 Hb)->J1 X body D σ' H')
  (q:∀σ2 Ha Hb,wX X.K B0 B a ps (Ut ds.length) Ha Hb σ2 δ->D.nx σ2 Hb)
  (hs:∀x,foldedSetIterable iter X.env x=pure x:=by intro _;rfl):cS X (.For tg iter body [] pos) D σ H:=λpins s I=>by
 obtain⟨wi,pi,qi⟩:=hi;refine Cy hp hc pi hg mh hs pins s σ H D I ?_
 refine qi H0 H σ H0 H _ G.own λJ H1 dX g it=>?_
 have G1:=G.go (G.own.grow g) G.no;refine⟨λi mm σ' H'=>i<=ds.length/\mm=ds.length-i/\∃Ha,wX X.K H1 B a ps (Ut i) Ha H' σ' δ,⟨ds.length,bK _,rfl,H1,by rw[h0];exact G1.from ⟨G1.fr.ent.big,er.refl _,G1.fr.sub,λ_ z=>.inl z⟩⟩,?_⟩
 rintro i mm σ' H' ⟨hi,rfl,Ha,Ga⟩
 obtain⟨i1,i2,i3⟩:=it Ha H' Ga.fr.ent.gL Ga.fr.sub i;by_cases qI:i<ds.length
 ·have hd:ds[i]?=some ds[i]:=by simp[qI]
  obtain⟨δ',e1,e2,e3⟩:=step i _ hd;refine .inr ⟨i1 qI,λσ'' AJ=>∃Hb,wX X.K H1 B a ps (Ut (i+1)) Hb AJ σ'' δ,λσ'' AJ ⟨Hb,z⟩=>⟨ds.length-(i+1),by omega,qI,rfl,Hb,z⟩,λv H2 y=>?_⟩
  obtain⟨Hb,g2,rx⟩:=i3 v H2 _ hd y;refine qV (Ga.own.grow g2) rx e1 λσ3 f3=>?_
  exact e3 _ H1 σ3 Hb H2 (Ga.go f3 e2) λσ2 Hc Hd z=>⟨Hc,z⟩
 ·have e:i=ds.length:=by omega
  subst e;refine .inl ⟨i2 (aA _),q σ' Ha H' (Ga.from ⟨Ga.fr.ent.big,G1.fr.ent.gL.trans Ga.fr.ent.gL,Ga.fr.sub,λb z=>?_⟩)⟩
  rcases Ga.fr.ent.new b z with z|z
  ·exact G1.fr.ent.new b z
  ·exact .inr z
end
section
variable{X:Cx}{sc:lS}{own N:List Str}{cap:List Nat}{cl:List (Str×aN)}{tg iter:cw}{δ:List Slot}{ds:List aq}{pos px v8 lp:Pos}{tgt:IC}{x:Str}{B0 B H0 H:Hp}{σ:St}{D:Ends}
theorem O4(i:Nat)(f:gW X.K B0 B H0 H σ δ)(yC:noOwn δ=true)(hc:X.calm=true)(CS:k8 X sc own cap N cl)(hi:VI X tg iter δ ds)(hg:∀f s3 H3,PG (gP X sc N cl f s3 H3) tg (L7 X.K tgt))(ht:zG own.length tgt=true)(hz:ds.length<=sizeLine)
  (step:∀d∈ds,∃δ',zD tgt d (m8 own cap δ)=some δ')(hN:X.N.Nodup)(q:∀σ' a ps fq H',wX X.K B0 B a ps (bu ds.length []) fq H' σ' (δ.set i (.ref a))->D.nx σ' H')(hn:∀a,noOwn (δ.set i (.ref a))=true)(Sx:X.N[i]?=some x:=by rfl)(hx:Loc X.env.scope x:=by first|exact aV rfl|exact cX rfl)
  (CM:swapsWith (.ListComp (.List [] lp) [⟨tg,iter,[],0⟩] sc pos) (some (.Name x px)) v8.line X.env=pure true:=by rfl)(hs:∀x,foldedSetIterable iter X.env x=pure x:=by intro _;rfl)(hf:X.fn x=true\/X.env.scope.names.lookup x=some .local:=by first|exact .inl rfl|exact .inr rfl):
  cS X (.Assign [.Name x px] (.ListComp (.List [] lp) [⟨tg,iter,[],0⟩] sc pos) v8) D σ H:=λpins s I=>by
 obtain⟨wi,pi,qi⟩:=hi;refine u9 (i:=i) (tc:=V9 X sc N cl []) (te:=teC X sc N cl (.List [] lp)) hN Sx hx hc CS pi hg (λf s3 H3 pins s σ H Q I h=>h f s3 H3 pins s I) (λf s3 H3 pins s σ H Q I h=>h f s3 H3 pins s I) CM hs hf pins s σ H D I ?_
 refine qi B0 B σ H0 H _ f λJ H1 dX g it=>?_
 have f1:=f.grow g;intro L hL;have hBL:B L=none:=f1.ent.big.free hL;refine⟨λi m ys σ' H'=>i<=ds.length/\m=ds.length-i/\∃Ha ps,dW H1 dX Ha H'/\gW X.K B0 B Ha H' σ' (m8 own cap δ)/\Ha L=none/\ys=ps.map V.ref/\H' L=some (.lst ys)/\L∉ps/\ps.Nodup/\ps.length=i/\∀p∈ps,B p=none/\Ha p=none/\H' p=some (.lst []),
  ⟨ds.length,bK _,rfl,H1,[],.loose f1.sub hL,(f1.comp own cap).touch (f1.sub.free hL) hBL pG,f1.sub.free hL,rfl,b0,by simp,by simp,rfl,λp hp=>by cases hp⟩,?_⟩
 rintro n m ys σ' H' ⟨hn1,rfl,Ha,ps,g1,fa,hLa,rfl,Yz,hLp,YB,pY,QQ⟩
 obtain⟨i1,i2,i3⟩:=it Ha H' g1.gL g1.sub n;by_cases qI:n<ds.length
 ·refine .inr ⟨i1 qI,λv H2 y=>?_⟩
  have hd:ds[n]?=some ds[n]:=by simp[qI]
  obtain⟨Hb,g2,rx⟩:=i3 v H2 ds[n] hd y;obtain⟨δ',e1⟩:=step ds[n] (cK qI);obtain⟨k1,k2⟩:=comp_back ht e1;refine qV (fa.grow g2) rx e1 λσ3 f3=>?_
  intro fp s3 H3;refine fu B0 B σ3 Hb H2 _ f3 λHc H4 g4=>?_
  rw[if_pos rfl];intro fp' s3' ua;have vo:VO (gP X sc N cl fp' s3' ua) (.List [] lp) δ' []:=dR (ds:=[]) aK;refine vo B0 B σ3 Hc H4 _ (f3.grow g4) λp xs Hd H5 g5 a1 a2 a3 a4=>?_
  cases a4;have N6:=(g2.trans g4).trans g5;have hL5:Hd L=none:=N6.still hLa Yz;have nLp:L≠p:=λz=>by
   have:=(g2.trans g4).big _ _ Yz;rw[z,a1]at this;cases this
  have pB:B p=none:=(f3.grow g4).ent.big.free a1;refine⟨N6.big _ _ Yz,by rw[aj,pY];omega,ds.length-(n+1),by omega,qI,rfl,Hd,ps ++ [p],?_,((f3.grow g4).grow g5 |>.forget k1.symm k2).touch hL5 hBL pG,hL5,by simp,b0,by simp[hLp,nLp],?_,by simp[pY],λp' hp'=>?_⟩
  ·have gg:=g1.trans N6
   exact⟨λb u e=>by rw[aT (bE e hL)];exact gg.big b u e,gg.gL,λb u e=>by rw[aT (bE e hL5)];exact gg.sub b u e,gg.new⟩
  ·rw[e8]
   refine⟨YB,by simp,λb hb c hc=>?_⟩
   simp only[a_]at hc;subst hc;intro z;subst z;have:=(g2.trans g4).big _ _ (QQ b hb).2.2;rw[a1]at this;cases this
  ·rcases bX.mp hp' with h|h
   ·obtain⟨h1,h2,h3⟩:=QQ p' h
    have np:p'≠L:=λz=>hLp (by rw[<-z];exact h)
    exact⟨h1,N6.still h2 h3,by rw[aT np];exact N6.big _ _ h3⟩
   ·simp only[a_]at h
    subst h;exact⟨pB,a2,by rw[aT (bU nLp)];exact a3⟩
 ·have e:n=ds.length:=by omega
  subst e;refine .inl ⟨i2 (aA _),q _ L ps Ha H' ?_⟩
  have gg:=g.trans g1;refine⟨(f.grow gg).Gi (v:=.ref L) (sl:=.ref L) rfl rfl,hn L,Yz,hLa,hBL,hLp,YB,by simp[pY],λj p es e1 e2=>?_⟩
  obtain⟨h1,h2,h3⟩:=QQ p (bF e1);rw[eG]at e2
  split at e2<;>cases e2
  exact⟨h2,h1,[],h3,.nil⟩
end
section
variable{X:Cx}{B0 B H0 H:Hp}{σ:St}{D:Ends}{δ:List Slot}{a:aN}{ps:List aN}{gs:List (List aq)}{pos px:Pos}{x:Str}
end
theorem Ei{i:Nat}{x:aq}(h:ds[i]?=some x):(yf ds)[i]?=some (.tuple [.int i,x]):=by
 unfold yf;rw[aP,i6,h];simp
theorem m9{α:Type}(l:List α)(n:Nat):cutD l none (some (n:Int))=l.take n:=by
 unfold cutD;rw[HT.D7,HT.nW,lX,Nat.sub_zero];by_cases h:n<=l.length
 ·rw[oy h]
 ·rw[Nat.min_eq_right (by omega),dF (aA _),dF (by omega)]
theorem nX:Lay 20 (.list []):=yT (n:=19) λd hd=>by cases hd
structure Nm(mg:Str->Option aD):Prop where
 len:mg "len"=none
 Fy:mg "enumerate"=none
 srt:mg "sorted"=none
 max:mg "max"=none
 min:mg "min"=none
 rng:mg "range"=none
 sum:mg "sum"=none
 wY:mg "isinstance"=none
 tup:mg "tuple"=none
 lst:mg "list"=none
 int:mg "int"=none
 bool:mg "bool"=none
section
variable{P:bM}{w:cy}{A:ej}{R:uV->aQ->Prop}{it S:aN}{fp wr:List aN}{n:Nat}{V:Nat->aD->Prop}{St:Nat->dq->Prop}{Kp:dq->Prop}{bt:Nat->Nat->Bool}
end
section
variable{P:bM}{w:cy}{A:ej}{E:aD->aQ->Prop}{s:aQ}
end
section
variable{X:Cx}
end
def J5(l:aN)(n:Nat):dq->Prop:=λh=>∃o es ep t,h.get? l=some o/\o.ExactSet/\o.data=.set es ep t/\t.fits es.size=true/\es.size=n
theorem J5.ok(x:J5 l n h):hZ P w H h l (.ext (J5 l n)):=by
 refine⟨x,?_,λh1 h2 y k=>?_⟩
 ·obtain⟨o,_,_,_,e,_⟩:=x
  exact⟨o,e⟩
 ·obtain⟨o,es,ep,t,e,r⟩:=y
  exact⟨o,es,ep,t,k o e,r⟩
section
variable{X:Cx}
def dd:List Str->List Str->List Str
 |acc,[]=>acc
 |acc,x::l=>dd (if decide (x∈acc)=true then acc else acc ++ [x]) l
theorem BE:∀(l:List Str)(acc m:List Str),dd acc (l++m)=dd (dd acc l) m
 | [],_,_=>rfl
 |x::l,acc,m=>BE l _ m
theorem xC:∀(l acc:List Str),(dd acc l).length<=acc.length+l.length
 | [],_=>aA _
 |x::l,acc=>by
  have:=xC l (if decide (x∈acc)=true then acc else acc ++ [x])
  unfold dd
  split at this
  ·rename_i h;rw[if_pos h];simp;omega
  ·rename_i h;rw[if_neg h];simp at this ⊢;omega
theorem Ej:∀{l acc:List Str},(acc++l).Nodup->dd acc l=acc++l
 | [],acc,_=>by rw[dA];rfl
 |x::l,acc,h=>by
  unfold dd;have hx:x∉acc:=λz=>by
   rw[e8]at h;exact h.2.2 x z x aO rfl
  rw[if_neg (by simpa using hx),Ej (by simpa using h)]
  simp
theorem BF:∀{ss:List Str}{its:List aD},dZ (ss.map V.str) its->∀(i:Nat)v,its[i]?=some v->∃x t,ss[i]?=some x/\v=.str x t
 | [],_,r,i,v,e=>by cases r;simp at e
 |x::ss,_,r,i,v,e=>by
  cases r with
  |cons a t=>
   cases i with
   |zero=>obtain⟨t,rfl⟩:=a;simp at e;exact⟨x,t,rfl,e.symm⟩
   |succ i=>simpa using BF t i v (by simpa using e)
theorem SetOf.zay{S:Str->Bool}(x:h.SetOf (strKind P w) l S n):J5 l n h:=by
 obtain⟨o,es,ep,t,ho,hex,hd,_,_,_,hf,hn⟩:=x;exact⟨o,es,ep,t,ho,hex,hd,hf,hn⟩
theorem A8:jT X (.builtin "len") (λxs H Q=>∃p n,xs=[.ref p]/\H p=some (.ext (J5 p n))/\n<10000/\Q (.int n) H):=by
 intro pins s σ H xs us Q I r h;obtain⟨p,n,rfl,hp,hn,q⟩:=h;obtain⟨u,rfl,rx⟩:=vals1 r;cases rx;obtain⟨⟨o,es,ep,t,ho,hex,hd,hf,hz⟩,_⟩:=I.hok p _ hp;exact call_len_set ho hex hd hf (by omega) ⟨.int n,H,I.tok _,⟨_,by rw[hz]⟩,q⟩
end
section
variable{X:Cx}{a b c e:cw}{δ:List Slot}{d d1 d2 d3:aq}{ds:List aq}{pos p p2 J6:Pos}{k:Nat}
theorem dz.strs:∀{ss:List Str}{xs:List V},dz K H xs (ss.map .str)->xs=ss.map V.str
 | [],_,r=>by cases r;rfl
 |x::ss,_,r=>by cases r with|cons a t=>cases a;rw[dz.strs t];rfl
theorem wg:PE X e (λ_ _ _=>False):=λ_ _ _ _ _ _ h=>h.elim
theorem jg{op}(h:VE X a δ d):VE X (.BoolOp op [a] pos) δ d:=.of (RQ dD) λB0 B σ H0 H Q f q=>h B0 B σ H0 H Q f q
theorem kZ{k2: Bool}(h1:VE X a δ (.bool k1))(h2:k1=true->VE X (.BoolOp .And (b::rest) pos) δ (.bool k2)):VE X (.BoolOp .And (a::b::rest) pos) δ (.bool (k1&&k2)):=by
 cases k1 with
 |true=>
  refine .of (Lf dD dD) λB0 B σ H0 H Q f q=>h1 B0 B σ H0 H _ f λv H1 dX g r=>?_
  cases r;refine⟨true,rfl,?_⟩
  rw[if_pos rfl];exact h2 rfl B0 B σ H1 dX _ (f.grow g) λu H2 iL g2 r2=>q u H2 iL (g.trans g2) r2
 |false=>
  refine .of (Lf dD wg) λB0 B σ H0 H Q f q=>h1 B0 B σ H0 H _ f λv H1 dX g r=>?_
  cases r;refine⟨false,rfl,?_⟩
  rw[if_neg bP];exact q _ H1 dX g (.bl false)
theorem uK{k2: Bool}(h1:VE X a δ (.bool k1))(h2:k1=false->VE X (.BoolOp .Or (b::rest) pos) δ (.bool k2)):VE X (.BoolOp .Or (a::b::rest) pos) δ (.bool (k1||k2)):=by
 cases k1 with
 |false=>
  refine .of (QF dD dD) λB0 B σ H0 H Q f q=>h1 B0 B σ H0 H _ f λv H1 dX g r=>?_
  cases r;refine⟨false,rfl,?_⟩
  rw[if_neg bP];exact h2 rfl B0 B σ H1 dX _ (f.grow g) λu H2 iL g2 r2=>q u H2 iL (g.trans g2) r2
 |true=>
  refine .of (QF dD wg) λB0 B σ H0 H Q f q=>h1 B0 B σ H0 H _ f λv H1 dX g r=>?_
  cases r;refine⟨true,rfl,?_⟩
  rw[if_pos rfl];exact q _ H1 dX g (.bl true)
theorem sX{op op':AV}{r r':R2}{k2: Bool}(ho:rM X (compareOp op) r)(Cv:rM X (compareOp op') r')(Wi:AK X.K r d1 d2 (.bool k1))(od2:AK X.K r' d2 d3 (.bool k2))(h1:VE X a δ d1)(h2:VE X b δ d2)(h3:k1=true->VE X c δ d3)
  (hm:lastMarks [op,op'] [b,c]=false:=by with_unfolding_all rfl):VT X (.Compare a [op,op'] [b,c] pos) δ (k1&&k2):=by
 cases k1 with
 |true=>
  refine .of (D2 ho Cv dD dD dD hm) λB0 B σ H0 H Q f q=>h1 B0 B σ H0 H _ f λv H1 dX g1 r1=>h2 B0 B σ H1 dX _ (f.grow g1) λu H2 iL g2 r2=>Wi v u H2 iL _ g2.sub (r1.mono g2.gL) r2 λz H3 ua g3 r3=>?_
  cases r3;refine⟨true,rfl,?_⟩
  rw[if_pos rfl];exact h3 rfl B0 B σ H3 ua _ (((f.grow g1).grow g2).grow g3) λx H4 O5 g4 r4=>od2 u x H4 O5 _ g4.sub ((r2.mono g3.gL).mono g4.gL) r4 λy H5 H5' g5 r5=>by
   cases r5;exact⟨k2,rfl,q H5 H5' ((((g1.trans g2).trans g3).trans g4).trans g5)⟩
 |false=>
  refine .of (D2 ho Cv dD dD wg hm) λB0 B σ H0 H Q f q=>h1 B0 B σ H0 H _ f λv H1 dX g1 r1=>h2 B0 B σ H1 dX _ (f.grow g1) λu H2 iL g2 r2=>Wi v u H2 iL _ g2.sub (r1.mono g2.gL) r2 λz H3 ua g3 r3=>?_
  cases r3;refine⟨false,rfl,?_⟩
  rw[if_neg bP];exact⟨false,rfl,q H3 ua ((g1.trans g2).trans g3)⟩
def m_:List Bool->Bool:=λl=>l.all id
theorem kN(hc:X.calm=true):jT X (.builtin "all") (λxs H Q=>∃p bs,xs=[.ref p]/\lW X.K H p (bs.map V.bl)/\Q (.bl (m_ bs)) H):=by
 intro pins s σ H xs us Q I r h;obtain⟨p,bs,rfl,hq,q⟩:=h;obtain⟨u,rfl,rx⟩:=vals1 r;cases rx;obtain⟨its,rv,pl,hz⟩:=I.list hq;have hl:=rv.length;simp only[aj]at hl;refine call_all_walkS (sj pl.isList ?_)
 have lR:p≠s.heap.objs.size:=bB (aW pl.isList.choose_spec.1);have hbl:∀(i:Nat)v,its.toArray[i]?=some v->v=.bool (bs.getD i false):=λi v hv=>by
  have Ol:its[i]?=some v:=by simpa using hv
  have e:=rv.getD i;have e2:its.getD i ef=v:=by rw[aG,Ol];rfl
  have hi:i<bs.length:=by have:=(aL.mp Ol).1;omega
  have e3:(bs.map V.bl).getD i .non=.bl (bs.getD i false):=by
   rw[aG,aP,aG,aw hi];rfl
  rw[e2,e3]at e;exact e
 refine⟨_,_,_,_,_,_,_,λi=>bs.getD i false,rfl,(Walks.list (by simp[I.ok.hd hc]) _ p lR its.toArray).toS,⟨⟨_,bQ _ rfl,rfl,rfl⟩,pl.isList.push _⟩,?_,λs' hm=>?_⟩
 ·intro i v Q' E' s' hv q'
  rw[hbl i v hv];exact eO q'
 ·have ea:(cp its.toArray.size).all (λi=>bs.getD i false)=m_ bs:=by
   rw[bj,<-hl];unfold m_;rw[ic,eV,eV]
   constructor
   ·intro h x hx
    obtain⟨i,hi⟩:=tY.mp hx;have:=h i (cY.mpr (aL.mp hi).1);rw[aG,hi]at this;exact this
   ·intro h i hi
    have hi:=cY.mp hi;rw[aG,aw hi];exact h _ (cK hi)
  rw[ea];obtain⟨h',g',d',Wj,Lr⟩:=s';have eg:g'=s.gens:=hm.gens;have ed:d'=s.drawn:=hm.drawn;have eo:Lr=s.os:=hm.os;subst eg;subst ed;subst eo;refine⟨.bl _,H,I.kept (t':=Wj) λb o e=>hm.heap b o ?_ (aE _ e),rfl,q⟩
  have:=aW e;simp only[a_];exact bB this
theorem dz.bls:∀{bs:List Bool}{xs:List V},dz K H xs (bs.map .bool)->xs=bs.map V.bl
 | [],_,r=>by cases r;rfl
 |x::ss,_,r=>by cases r with|cons a t=>cases a;rw[dz.bls t];rfl
theorem uL{bs:List Bool}:pF K (λxs H Q=>∃p bs,xs=[.ref p]/\lW K H p (bs.map V.bl)/\Q (.bl (m_ bs)) H) [.list (bs.map .bool)] (.bool (m_ bs)):=λvs H0 H Q s r q=>by
 obtain⟨v,rfl,r1⟩:=r.one;cases r1 with
 |lst hq rs=>
  have e:=rs.bls;subst e;exact⟨_,bs,rfl,s.seq hq,q _ _ _ (.refl s) (.bl _)⟩
theorem QR(hr:fZ k X.A)(hs:Ec d2=true)(l1:Lay 20 d1)(l2:Lay 20 d2)(h1:VE X a δ d1)(h2:VE X b δ d2)(hm:behindInMarks .In b=false:=by with_unfolding_all rfl):VE X (.Compare a [.In] [b] pos) δ (.bool (v9 d1 d2)):=xx (L6 (A7 hr)) (SJ (neg:=false) hs l1 l2) h1 h2 hm
theorem II(hr:fZ k X.A)(l1:Lay 20 d1)(l2:Lay 20 d2)(h1:VE X a δ d1)(h2:VE X b δ d2):VE X (.Compare a [.NotEq] [b] pos) δ (.bool (!cU d1 d2)):=xx (L5 (A7 hr)) (Ed l1 l2) h1 h2 (fA _)
end
end L2
namespace L2
open PySem PySem.Spec PyProof.Rows PySem.Builtin PySem.Builtin.Str
variable{i n:Int}{ap:Pos}{K:av}
section
variable{X:Cx}
def SR:V->List V->Hp->VK->Prop:=λx vs H Q=>∃z y,x=.str z/\vs=[.str y]/\(y.length==0)=false/\z.length+2<=sizeLine/\∀l,H l=none->Q (.ref l) (upd H l (.lst ((bR z y).map V.str)))
theorem wj:∀(l:List (Str×Tok)),dZ ((l.map (·.1)).map V.str) (strValues l)
 | []=>.nil
 |(x,t)::l=>.cons ⟨t,rfl⟩ (wj l)
theorem split_len{z y:Str}(hz:z.length+2<=sizeLine):(bR z y).length<=sizeLine/\(partsBetween z (occurrences z y 0 z.length (z.length+1)) y.length).length<=sizeLine:=by
 have e1:=DR z y 0 z.length (z.length+1);have e2:(partsBetween z (occurrences z y 0 z.length (z.length+1)) y.length).length<=sizeLine:=by rw[yv];omega
 refine⟨?_,e2⟩
 unfold bR
 split
 ·show 1<=sizeLine;omega
 ·split
  ·show 1<=sizeLine;omega
  ·exact e2
theorem Mb:Up X "str.split" SR:=by
 intro pins s σ H x vs v us Q I rx rv h;obtain⟨z,y,rfl,rfl,hy,hz,q⟩:=h;obtain⟨t,rfl⟩:=rx;obtain⟨u,rfl,ru⟩:=rv.one;obtain⟨tu,rfl⟩:=ru;obtain⟨sl,sp⟩:=split_len (y:=y) hz;have fin:∀(l:List (Str×Tok))(k:Nat),l.map (·.1)=bR z y->EP X pins σ Q (.ref s.heap.objs.size) { s with heap:=s.heap.push { cls:=.type "list",data:=.seq (strValues l).toArray },toks:=k }:=λl k e=>by
  refine⟨.ref s.heap.objs.size,_,I.laid (λb o e=>aE _ e) (aA _) (show hZ X.prog X.w _ _ _ (.lst ((bR z y).map V.str)) from⟨by rw[aj];exact sl,strValues l,0,by rw[<-e];exact wj l,bQ _ rfl⟩),rfl,q _ (I.hok.fresh (aA _))⟩
 cases h1:(decide (z.length<y.length)||decide (strKind z<strKind y)) with
 |true=>exact kU AZ (uX _ _ _) za (yw _ _) (meets_str_split_cannot_occur z y t tu h1) (fin [(z,t)] s.toks (by unfold bR;rw[if_pos h1];rfl))
 |false=>
  cases hf:(occurrences z y 0 z.length (z.length+1)).isEmpty with
  |true=>exact kU AZ (uX _ _ _) za (yw _ _) (meets_str_split_not_found z y t tu h1 hy hf) (fin [(z,t)] s.toks (by unfold bR;rw[if_neg (by rw[h1];decide),if_pos hf];rfl))
  |false=>
   refine kU AZ (uX _ _ _) za (yw _ _) (meets_str_split_sep z y t tu h1 hy hf (by omega) sp) ?_
   rw[strsFrom_eq];exact fin (numbered s.toks _) _ ((numbered_texts _ _).trans (by unfold bR;rw[if_neg (by rw[h1];decide),if_neg (by rw[hf];decide)]))
def rJoin(K:av):V->List V->Hp->VK->Prop:=λx vs H Q=>∃y p zs,x=.str y/\vs=[.ref p]/\(lW K H p (zs.map V.str)\/qM K H p (zs.map V.str))/\(zs.map (·.length)).sum+zs.length*y.length<=16777216/\Q (.str (cj y zs)) H
theorem zH:∀{zs:List Str}{us:List aD},dZ (zs.map V.str) us->StrsAre us zs
 | [],_,r=>by cases r;exact .nil
 |z::zs,_,r=>by cases r with|cons a t=>obtain⟨tk,rfl⟩:=a;exact .cons z tk (zH t)
theorem O6:Up X "str.join" (rJoin X.K):=by
 intro pins s σ H x vs v us Q I rx rv h;obtain⟨y,p,zs,rfl,rfl,hq,hz,q⟩:=h;obtain⟨t,rfl⟩:=rx;obtain⟨u,rfl,ru⟩:=rv.one;cases ru;have e:Txt.join y zs=cj y zs:=StrLaws.glued_eq_join y zs;rcases hq with hq|hq
 ·obtain⟨its,r,pl,_⟩:=I.list hq
  exact join_list pl.isList (by simpa using zH r) hz λt' k=>⟨.str _,H,I.tok k,⟨t',by rw[e]⟩,q⟩
 ·obtain⟨its,r,pl,_⟩:=I.tuple hq
  exact join_tuple pl (by simpa using zH r) hz λt' k=>⟨.str _,H,I.tok k,⟨t',by rw[e]⟩,q⟩
theorem A9:jT X (.type "int") (λxs H Q=>∃x n,xs=[.str x]/\intText? x=some n/\x.length<=640/\Q (.int n) H):=by
 intro pins s σ H xs us Q I r h;obtain⟨x,n,rfl,hn,hl,q⟩:=h;obtain⟨u,rfl,t,rfl⟩:=vals1 r;exact PySem.W.KIN.call_text hn hl ⟨.int n,H,I.tok _,⟨_,rfl⟩,q⟩
def jY(x:Str):Nat->Str
 |0=>eP
 |n+1=>x++jY x n
theorem IJ(x:Str):∀(n:Nat)(acc:Array Nat),(bu n x.cps).foldl (· ++ ·) acc=acc++(jY x n).cps
 |0,acc=>by show acc=acc ++ #[];simp
 |n+1,acc=>by
  rw[eC,oj,IJ x n];show acc++x.cps++(jY x n).cps=acc++(x.cps++(jY x n).cps);rw[Array.append_assoc]
theorem IK(x:Str):∀n,(jY x n).length=n*x.length
 |0=>by show(eP).length=_;simp[eP,Str.length]
 |n+1=>by
  show(x++jY x n).length=_
  rw[cF,IK x n,FG,Nat.add_comm]
theorem O7:rM X (binaryOp .Mult) (λx y H Q=>∃z n,x=.str z/\y=.int n/\0<=n/\n<=1000/\z.length<=1000/\Q (.str (jY z n.toNat)) H):=by
 intro pins s σ H x y v u Q I rx ry h;obtain⟨z,n,rfl,rfl,h0,h1,hz,q⟩:=h;obtain⟨t,rfl⟩:=rx;obtain⟨t',rfl⟩:=ry;have h63:(1000:Int)<2^63:=by decide
 have e63:(2:Int)^63=9223372036854775808:=by decide
 refine PySem.P.mul_str (by rw[decide_eq_false (by omega),decide_eq_false (by omega)];rfl) (λha _=>?_) (λ_ _=>?_) ?_
 ·have:((2:Int)^63-1)/n>=1000:=by
   rw[ge_iff_le,Int.le_ediv_iff_mul_le (by omega)]
   omega
  omega
 ·unfold tooLong
  rw[decide_eq_false];rw[du];have:z.length*n.toNat<=1000*1000:=ju hz (by omega)
  omega
 ·by_cases hn:n<1
  ·rw[if_pos hn]
   have:n.toNat=0:=by omega
   rw[this]at q;exact⟨by decide,.str _,H,I.tok _,⟨_,rfl⟩,q⟩
  ·rw[if_neg hn]
   by_cases hc:(n==1||z.length==0)=true
   ·rw[if_pos hc]
    have e:jY z n.toNat=z:=by
     rw[AF]at hc;rcases hc with hc|hc
     ·have:n=1:=by simpa using hc
      subst this;show z++eP=z;cases z with|mk c=>show(⟨c ++ #[]⟩:Str)=⟨c⟩;simp
     ·have hz0:z.length=0:=by simpa using hc
      have:z=eP:=by cases z with|mk c=>simp[Str.length]at hz0;simp[eP,hz0]
      subst this;have:∀m,jY eP m=eP:=by
       intro m
       induction m with
       |zero=>rfl
       |succ m ih=>show eP++jY eP m=_;rw[ih];rfl
      exact this _
    rw[e]at q;exact⟨.str _,H,I.tok _,⟨_,rfl⟩,q⟩
   ·rw[if_neg hc]
    have e:(⟨(bu n.toNat z.cps).foldl (· ++ ·) #[]⟩:Str)=jY z n.toNat:=by rw[IJ];simp
    rw[e];refine⟨?_,.str _,H,I.tok _,⟨_,rfl⟩,q⟩
    rw[IK,du];have:n.toNat*z.length<=1000*1000:=ju (by omega) hz
    omega
def Its(x:Str):It:=⟨λi _=>i<x.cps.size,λi H v H'=>H'=H/\∃c,x.cps[i]?=some c/\v=.str ⟨#[c]⟩,λi _=>x.cps.size<=i⟩
theorem Md{P:bM}{w:cy}{tg:cw}(it:aN)(x:Str)(t:Tok){ty:String}(QK:ty="str_ascii_iterator"\/ty="str_iterator"):Turn P w K tg (Its x) [it] it (λi h=>h.IsStrIter it ty x t i) where
 mem:=by simp
 obj:=λi h st b hb=>by
  have e:b=it:=by simpa using hb
  subst e;obtain⟨o,e,c,d⟩:=st;exact⟨o,e,λv z=>by rw[d]at z;cases z⟩
 keep:=λi h h' st k=>let⟨o,e,r⟩:=st;⟨o,k it (by simp) o e,r⟩
 item:=by
  intro X hP hw hK hc i pins s σ H E I hf st hg;subst hP hw hK;obtain⟨f0,f1,f2,f3,f4,f5⟩:=hf it (by simp)
  have hn:["enumerate","zip","dict_itemiterator","dict_reverseitemiterator","odict_iterator","itertools.zip_longest","itertools.pairwise"].contains ty=false:=by rcases QK with rfl|rfl<;>decide
  have fin:∀v h' tk,SignAt x i v->h'.IsStrIter it ty x t (i+1)->(∀b o,b∉[it]->s.heap.get? b=some o->h'.get? b=some o)->∃u,some v=some u/\wpAny (model X.prog X.w) X.A (letOwnedTupleGo tg (.ref it) u) (λ_ s2=>∃y H',Inv X pins σ H' s2/\RelV y u/\(Its x).U_ i H y H'/\s2.heap.IsStrIter it ty x t (i+1)/\∀b∈[it],H' b=none) E { s with heap:=h',toks:=tk }:=by
   intro v h' tk hv A4 kk;obtain⟨c,u,hcu,rfl⟩:=hv;have I1:Inv X pins σ H { s with heap:=h',toks:=tk }:=I.turned (λb o hb e=>kk b o (by simpa using hb) e) f0 f1 f3 f4 f5
   obtain⟨o,e,cc,d⟩:=id A4;exact⟨_,rfl,Ih (s:={ s with heap:=h',toks:=tk }) e cc d hn ⟨.str ⟨#[c]⟩,H,I1,⟨u,rfl⟩,⟨rfl,c,hcu,rfl⟩,A4,λb hb=>(hf b hb).1⟩⟩
  rcases QK with rfl|rfl
  ·exact(Walks.strAscii (prog:=X.prog) (w:=X.w) (I.ok.hd hc) it x t).item i s _ _ hg st λv h' tk hv A4 kk=>fin v h' tk hv A4 kk
  ·exact(Walks.strWide (prog:=X.prog) (w:=X.w) (I.ok.hd hc) it x t).item i s _ _ hg st λv h' tk hv A4 kk=>fin v h' tk hv A4 kk
 done:=by
  intro X hP hw hK hc i pins s σ H E I hf st hg;subst hP hw hK;obtain⟨f0,f1,f2,f3,f4,f5⟩:=hf it (by simp)
  have hge:x.cps.size<=i:=hg;rcases QK with rfl|rfl
  ·exact wpAny_pyNext_ascii_end (I.ok.hd hc) st (by simp;exact hge) λh' eb=>⟨rfl,I.turned (t':=s.toks) (λb o hb e=>eb b o hb e) f0 f1 f3 f4 f5⟩
  ·exact wpAny_pyNext_wide_end (I.ok.hd hc) st (by simp;exact hge) λh' eb=>⟨rfl,I.turned (t':=s.toks) (λb o hb e=>eb b o hb e) f0 f1 f3 f4 f5⟩
 self:=λ_ _ _ _ _ st h=>by
  rcases QK with rfl|rfl
  ·exact wpAny_pyIter_striter_ascii st h
  ·exact wpAny_pyIter_striter_wide st h
def zaE(tl:TE):TI:=λσ H R=>tl σ H λv H1=>∃x,v=.str x/\R (Its x) H1
theorem SV{tg l:cw}{tl:TE}(hl:PE X l tl):PI X tg l (zaE tl):=by
 intro pins s σ H R I h;refine gj (hl pins s σ H _ I h) λv s1 ⟨y,H1,I1,r1,q1⟩=>?_
 obtain⟨x,e,q⟩:=q1;subst e;obtain⟨t,rfl⟩:=r1;have go:∀ty,(ty="str_ascii_iterator"\/ty="str_iterator")->∀o:Obj,o.cls=.type ty->o.data=.fields #[.str x t,.int (0:Nat) 0]->o.isFreed=false->ZO X pins σ tg R (.ref s1.heap.objs.size) { s1 with heap:=s1.heap.push o }:=λty QK o c d fr=>
  ⟨s1.heap.objs.size,[s1.heap.objs.size],_,_,H1,rfl,I1.kept (t':=s1.toks) λb o e=>aE _ e,Md _ x t QK,⟨o,bQ _ fr,c,d⟩,λb hb=>by
   have e:b=s1.heap.objs.size:=by simpa using hb
   subst e;exact I1.A3 (aA _) (I1.hok.fresh (aA _)),q⟩
 cases ha:x.cps.all (·<128)
 ·exact wpAny_pyIter_wide ha (go "str_iterator" (.inr rfl) _ rfl rfl rfl)
 ·exact wpAny_pyIter_ascii ha (go "str_ascii_iterator" (.inl rfl) _ rfl rfl rfl)
end
section
variable{X:Cx}{tg a b c e:cw}{es:List cw}{δ:List Slot}{d d1 d2 d3:aq}{ds:List aq}{pos p p2 J6:Pos}{k:Nat}{x y z:Str}
def kG(x:Str):List aq:=x.cps.toList.map λc=>.str ⟨#[c]⟩
theorem CW(h:VE X a δ (.str x)):VI X tg a δ (kG x):=⟨_,SV dD,λB0 B σ H0 H R f q=>h B0 B σ H0 H _ f λv H1 dX g r=>by
 cases r;have hl:(kG x).length=x.cps.size:=by unfold kG;rw[aj,cq]
 refine⟨x,rfl,q _ H1 dX g λHa Hb s1 s2 i=>⟨λhi=>(show i<x.cps.size by omega),λhi=>(show x.cps.size<=i by omega),λv AJ d hd ⟨e,c,hc,ev⟩=>?_⟩⟩
 subst e;subst ev;unfold kG at hd;rw[aP,Fv,hc]at hd;cases hd;exact⟨Ha,.refl s2,.str _⟩⟩
theorem odS(h:x.length+y.length<=sizeLine):AK K (λx y H Q=>∃i j,x=.str i/\y=.str j/\i.length+j.length<=sizeLine/\Q (.str (i++j)) H) (.str x) (.str y) (.str (x++y)):=λv u H0 H Q s r1 r2 k=>by cases r1;cases r2;exact⟨_,_,rfl,rfl,h,k _ _ _ (.refl s) (.str _)⟩
theorem ja(h1:VE X a δ (.str x))(h2:VE X b δ (.str y))(h:x.length+y.length<=sizeLine):VE X (.BinOp a .Add b pos) δ (.str (x++y)):=u_ FW (odS h) h1 h2
theorem SW(h0:0<=n)(h1:n<=1000)(hz:x.length<=1000):AK K (λx y H Q=>∃z n,x=.str z/\y=.int n/\0<=n/\n<=1000/\z.length<=1000/\Q (.str (jY z n.toNat)) H) (.str x) (.int n) (.str (jY x n.toNat)):=λv u H0 H Q s r1 r2 k=>by cases r1;cases r2;exact⟨_,_,rfl,rfl,h0,h1,hz,k _ _ _ (.refl s) (.str _)⟩
theorem IL(h1:VE X a δ (.str x))(h2:VE X b δ (.int n))(h0:0<=n)(hn:n<=1000)(hz:x.length<=1000):VE X (.BinOp a .Mult b pos) δ (.str (jY x n.toNat)):=u_ O7 (SW h0 hn hz) h1 h2
theorem Wk{c:Nat}(hz:x.length<=sizeLine)(h:qQ x.cps.toList i=some c):AK K (Yt K) (.str x) (.int i) (.str ⟨#[c]⟩):=λv u H0 H Q s r1 r2 k=>by
 cases r1;cases r2;exact .inr (.inr ⟨x,i,c,rfl,rfl,hz,h,k _ _ _ (.refl s) (.str _)⟩)
theorem xD{c:Nat}(h1:VE X a δ (.str x))(h2:VE X b δ (.int i))(hz:x.length<=sizeLine)(h:qQ x.cps.toList i=some c)(hs:qR b:=by intro _ _;rfl):VE X (.Subscript a b pos) δ (.str ⟨#[c]⟩):=Gd CF (Wk hz h) h1 h2 hs
def zI(x y:Str):Bool:=!(occurrences y x 0 y.length 1).isEmpty
theorem Wm:AK K (λx y H Q=>∃i j,x=.str i/\y=.str j/\Q (.bl (!(occurrences j i 0 j.length 1).isEmpty)) H) (.str x) (.str y) (.bool (zI x y)):=λv u H0 H Q s r1 r2 k=>by cases r1;cases r2;exact⟨_,_,rfl,rfl,k _ _ _ (.refl s) (.bl _)⟩
theorem CY(h1:VE X a δ (.str x))(h2:VE X b δ (.str y))(hm:behindInMarks .In b=false:=by with_unfolding_all rfl):VE X (.Compare a [.In] [b] pos) δ (.bool (zI x y)):=xx JK Wm h1 h2 hm
theorem SX(hz:x.length<=sizeLine):pF K (λxs H Q=>∃z,xs=[.str z]/\z.length<=sizeLine/\Q (.int z.length) H) [.str x] (.int x.length):=λvs H0 H Q s r k=>by
 obtain⟨v,rfl,r1⟩:=r.one;cases r1;exact⟨x,rfl,hz,k _ _ _ (.refl s) (.int _)⟩
theorem qW(h:VE X a δ (.str x))(hz:x.length<=sizeLine)(hm:X.mg "len"=none)(hg:Gl X "len":=by rfl)(hs:starEach [a] X.env=(false,eval a X.env)::starEach [] X.env:=by rfl):VE X (.Call (.Name "len" p) [a] [] pos) δ (.int x.length):=h7 CH (SX hz) (ao h aK hs) hm uz hg (he:=hs)
theorem SY(h:i.natAbs.log2<1920):pF K (λxs H Q=>∃i,xs=[.int i]/\i.natAbs.log2<1920/\Q (.str (toString i)) H) [.int i] (.str (toString i)):=λvs H0 H Q s r k=>by
 obtain⟨v,rfl,r1⟩:=r.one;cases r1;exact⟨i,rfl,h,k _ _ _ (.refl s) (.str _)⟩
theorem S0(h:intText? x=some n)(hl:x.length<=640):pF K (λxs H Q=>∃x n,xs=[.str x]/\intText? x=some n/\x.length<=640/\Q (.int n) H) [.str x] (.int n):=λvs H0 H Q s r k=>by
 obtain⟨v,rfl,r1⟩:=r.one;cases r1;exact⟨x,n,rfl,h,hl,k _ _ _ (.refl s) (.int _)⟩
theorem qX(h:VE X a δ (.int i))(hl:i.natAbs.log2<1920)(hm:X.mg "str"=none)(hg:Gl X "str":=by rfl)(hs:starEach [a] X.env=(false,eval a X.env)::starEach [] X.env:=by rfl):VE X (.Call (.Name "str" p) [a] [] pos) δ (.str (toString i)):=k9 Cz (SY hl) (ao h aK hs) hm rfl hg (he:=hs)
theorem yU(h:VE X a δ (.str x))(hn:intText? x=some n)(hl:x.length<=640)(hm:X.mg "int"=none)(hg:Gl X "int":=by rfl)(hs:starEach [a] X.env=(false,eval a X.env)::starEach [] X.env:=by rfl):VE X (.Call (.Name "int" p) [a] [] pos) δ (.int n):=k9 A9 (S0 hn hl) (ao h aK hs) hm rfl hg (he:=hs)
theorem ng(h1:VE X a δ (.str x))(h2:VE X b δ (.str y))(hy:(y.length==0)=false)(hz:x.length+2<=sizeLine)
  (hs:starEach [b] X.env=(false,eval b X.env)::starEach [] X.env:=by rfl)(mX:attributeBase a "split" X.env (eval a X.env)=eval a X.env:=by rfl)
  (sQ:((backTo pos (starEach [b] X.env)).all (λx=>!x.1)&&(backToKw pos (keywordEach [] X.env)).all (λx=>x.1.isSome)&&decide (([b]:List cw).length+([]:List iI).length+(if([]:List iI).isEmpty then 0 else 1)<30))=true:=by rfl)
  (hline:(ap.endLine==pos.line)=true:=by rfl)(j9:(backTo pos (starEach [] X.env)).any (·.1)=false:=by rfl):VO X (.Call (.Attribute a "split" ap) [b] [] pos) δ ((bR x y).map .str):=
 .of (yd Cm PySem.F.slot_str_split PySem.F.type_str_split Mb dD (cV dD fB hs) mX sQ hline hs j9) λB0 B σ H0 H Q f q=>h1 B0 B σ H0 H _ f λv H1 dX g r1=>by
  cases r1;refine⟨rfl,h2 B0 B σ H1 dX _ (f.grow g) λu H2 iL g2 r2=>?_⟩
  cases r2;refine⟨x,y,rfl,rfl,hy,hz,λl hl=>?_⟩
  have gg:=g.trans g2;refine q l _ H2 _ (gg.trans (.loose g2.sub hl)) (gg.big.free hl) (g2.sub.free hl) b0 ?_
  have go:∀l:List Str,dz X.K H2 (l.map V.str) (l.map aH):=by
   intro l
   induction l with
   |nil=>exact .nil
   |cons z l ih=>exact .cons (.str z) ih
  exact go _
theorem iV{zs:List Str}(h1:VE X a δ (.str y))(h2:VE X b δ (.list (zs.map .str)))(hz:(zs.map (·.length)).sum+zs.length*y.length<=16777216)
  (hs:starEach [b] X.env=(false,eval b X.env)::starEach [] X.env:=by rfl)(mX:attributeBase a "join" X.env (eval a X.env)=eval a X.env:=by rfl)
  (sQ:((backTo pos (starEach [b] X.env)).all (λx=>!x.1)&&(backToKw pos (keywordEach [] X.env)).all (λx=>x.1.isSome)&&decide (([b]:List cw).length+([]:List iI).length+(if([]:List iI).isEmpty then 0 else 1)<30))=true:=by rfl)
  (hline:(ap.endLine==pos.line)=true:=by rfl)(j9:(backTo pos (starEach [] X.env)).any (·.1)=false:=by rfl):VE X (.Call (.Attribute a "join" ap) [b] [] pos) δ (.str (cj y zs)):=
 .of (yd Cm PySem.F.slot_str_join PySem.F.type_str_join O6 dD (cV dD fB hs) mX sQ hline hs j9) λB0 B σ H0 H Q f q=>h1 B0 B σ H0 H _ f λv H1 dX g r1=>by
  cases r1;refine⟨rfl,h2 B0 B σ H1 dX _ (f.grow g) λu H2 iL g2 r2=>?_⟩
  cases r2 with
  |lst hq rs=>
   have e:=rs.strs;subst e;exact⟨y,_,zs,rfl,rfl,.inl (g2.sub.seq hq),hz,q _ H2 iL (g.trans g2) (.str _)⟩
end
end L2
namespace L2
open PySem PySem.Spec PyProof.Rows
variable{a it l l1 l2:aN}{items xs ys:Array aD}{X:Cx}{h:dq}{H:Hp}{pins:List (aN×Obj)}{elts:List cw}{ds:List aq}{i:Nat}{d:Option aq}{o:Option V}{tp:Pos}{K:av}{s:aQ}{x:aD}{Q:aD->aQ->Prop}
def va(kvs:List (Str×aq)):aq:=.dict (kvs.map λp=>(.str p.1,p.2))
def Mf(kvs:List ((Str×Str)×aq)):aq:=.dict ((.none,.bool true)::kvs.map λp=>(.tuple [.str p.1.1,.str p.1.2],p.2))
def O8(fs:List (Str×aq)):aq:=.dict ((.none,.none)::fs.map λp=>(.str p.1,p.2))
def kO{κ:Type}[DecidableEq κ](kvs:List (κ×aq))(k:κ):Option aq:=(kvs.find? λp=>decide (p.1=k)).map (·.2)
theorem gU{κ:Type}[DecidableEq κ]{p:κ×aq}{r:List (κ×aq)}{k:κ}(e:p.1=k):kO (p::r) k=some p.2:=by simp[kO,ft,e]
theorem dw{κ:Type}[DecidableEq κ]{p:κ×aq}{r:List (κ×aq)}{k:κ}(e:¬p.1=k):kO (p::r) k=kO r k:=by simp[kO,ft,e]
def Ek(K:av)(H:Hp):Option V->Option aq->Prop
 |none,none=>True
 |some v,some d=>Rep K H v d
 |_,_=>False
theorem Ek.some_of{d:aq}(h:Ek K H o (some d)):∃v,o=some v/\Rep K H v d:=by
 cases o with
 |none=>exact h.elim
 |some v=>exact⟨v,rfl,h⟩
theorem Ek.isSome(h:Ek K H o d):o.isSome=d.isSome:=by
 cases o<;>cases d<;>first|rfl|exact h.elim
theorem Ek.getD{v:V}{e:aq}(h:Ek K H o d)(r:Rep K H v e):Rep K H (o.getD v) (d.getD e):=by
 cases o<;>cases d<;>first|exact r|exact h|exact h.elim
section
variable{K:av}{H:Hp}{v:V}
theorem Rep.sY{kvs:List (Str×aq)}(r:Rep K H v (va kvs)):∃a ws,v=.ref a/\H a=some (.dK ws)/\ws.map (·.1)=kvs.map (λp=>(cz p.1:Key))/\dz K H (ws.map (·.2)) (kvs.map (·.2)):=by
 unfold va at r
 generalize e:kvs.map (λp=>(aH p.1,p.2))=ds at r
 cases r with
 |dct h k t=>
  rename_i a ws
  refine⟨a,ws,rfl,h,?_,?_⟩
  ·have k2:ws.map (λp=>CN p.1)=kvs.map λp=>aH p.1:=by rw[<-k,<-e,bC];rfl
   clear k t h e
   induction ws generalizing kvs with
   |nil=>cases kvs with|nil=>rfl|cons p l=>simp at k2
   |cons q ws ih=>
    cases kvs with
    |nil=>simp at k2
    |cons p l=>
     rw[aR,aR]at k2 ⊢
     injection k2 with h1 h2
     rw[ih h2]
     congr 1
     cases eq:q.1 with
     |inl i=>rw[eq]at h1;cases h1
     |inr x=>rw[eq]at h1;injection h1 with h1;rw[h1]
  ·rw[<-e,bC]at t
   exact t
 |Us _ _ _=>cases kvs with|nil=>simp at e|cons p l=>simp at e
 |obj _ _ _ _ _=>cases kvs with|nil=>simp at e|cons p l=>simp at e
theorem zJ:∀{kvs:List (Str×aq)}{ws:List (Key×V)},ws.map (·.1)=kvs.map (λp=>(cz p.1:Key))->dz K H (ws.map (·.2)) (kvs.map (·.2))->∀k,Ek K H (jQ ws (cz k)) (kO kvs k)
 | [],ws,e,_,k=>by
  have:ws=[]:=by simpa using e
  subst this;exact eX
 |p::kvs,ws,e,r,k=>by
  cases ws with
  |nil=>simp at e
  |cons q ws=>
   rw[aR,aR]at e r
   injection e with e1 e2
   cases r with
   |cons r1 r2=>
    by_cases h:p.1=k
    ·rw[gU h,qe (by rw[e1,h])];exact r1
    ·rw[dw h,mY (λz=>h (by rw[e1]at z;injection z))];exact zJ e2 r2 k
def xE(p:Str×Str):List Key:=[.inr p.1,.inr p.2]
theorem El{p q:Str×Str}(e:xE p=xE q):p=q:=by
 unfold xE at e
 injection e with e1 e2
 injection e2 with e2 _
 injection e1 with e1
 injection e2 with e2
 exact Prod.ext e1 e2
theorem Rep.Mh{kvs:List ((Str×Str)×aq)}(r:Rep K H v (Mf kvs)):∃a ws,v=.ref a/\H a=some (.dT ws)/\ws.map (·.1)=kvs.map (λp=>xE p.1)/\dz K H (ws.map (·.2)) (kvs.map (·.2)):=by
 unfold Mf at r
 generalize e:kvs.map (λp=>(gK [.str p.1.1,.str p.1.2],p.2))=ds at r
 cases r with
 |dct h k t=>
  rename_i a ws
  exfalso
  cases ws with
  |nil=>simp at k
  |cons q ws=>
   rw[aR,aR]at k
   injection k with k1 _
   cases eq:q.1 with
   |inl i=>rw[eq]at k1;cases k1
   |inr x=>rw[eq]at k1;cases k1
 |Us h k t=>
  rename_i a ws
  refine⟨a,ws,rfl,h,?_,?_⟩
  ·have k2:ws.map (λp=>gK (p.1.map CN))=kvs.map λp=>gK [.str p.1.1,.str p.1.2]:=by rw[<-k,<-e,bC];rfl
   clear k t h e
   induction ws generalizing kvs with
   |nil=>cases kvs with|nil=>rfl|cons p l=>simp at k2
   |cons q ws ih=>
    cases kvs with
    |nil=>simp at k2
    |cons p l=>
     rw[aR,aR]at k2 ⊢
     injection k2 with h1 h2
     rw[ih h2]
     congr 1
     injection h1 with h1
     have one:∀(k:Key)(x:Str),CN k=.str x->k=.inr x:=λk x h=>by
      cases k with
      |inl i=>cases h
      |inr y=>injection h with h;rw[h]
     cases e0:q.1 with
     |nil=>rw[e0]at h1;cases h1
     |cons k1 l1=>
      rw[e0]at h1;rw[aR]at h1
      injection h1 with g1 g2
      cases l1 with
      |nil=>cases g2
      |cons k2 l2=>
       rw[aR]at g2
       injection g2 with g2 g3
       have:l2=[]:=by simpa using g3
       subst this;rw[one k1 _ g1,one k2 _ g2];rfl
  ·rw[<-e,bC]at t
   exact t
theorem Mi:∀{kvs:List ((Str×Str)×aq)}{ws:List (List Key×V)},ws.map (·.1)=kvs.map (λp=>xE p.1)->dz K H (ws.map (·.2)) (kvs.map (·.2))->∀k,Ek K H (jQ ws (xE k)) (kO kvs k)
 | [],ws,e,_,k=>by
  have:ws=[]:=by simpa using e
  subst this;exact eX
 |p::kvs,ws,e,r,k=>by
  cases ws with
  |nil=>simp at e
  |cons q ws=>
   rw[aR,aR]at e r
   injection e with e1 e2
   cases r with
   |cons r1 r2=>
    by_cases h:p.1=k
    ·rw[gU h,qe (by rw[e1,h])];exact r1
    ·rw[dw h,mY (λz=>h (El (by rw[<-e1];exact z)))];exact Mi e2 r2 k
theorem Rep.Mj{fs:List (Str×aq)}(r:Rep K H v (O8 fs)):∃a C dx ws,v=.ref a/\H a=some (.ins C dx ws)/\D3 K C/\(∀f∈ws.map (·.1),fY K C f)/\ws.map (·.1)=fs.map (·.1)/\dz K H (ws.map (·.2)) (fs.map (·.2)):=by
 unfold O8 at r
 generalize e:fs.map (λp=>(aH p.1,p.2))=ds at r
 cases r with
 |dct h k t=>
  rename_i a ws
  exfalso
  cases ws with
  |nil=>simp at k
  |cons q ws=>
   rw[aR,aR]at k
   injection k with k1 _
   cases eq:q.1 with
   |inl i=>rw[eq]at k1;cases k1
   |inr x=>rw[eq]at k1;cases k1
 |obj h c nn k t=>
  rename_i a C dx ws
  refine⟨a,C,dx,ws,rfl,h,c,nn,?_,?_⟩
  ·have k2:ws.map (λp=>aH p.1)=fs.map λp=>aH p.1:=by rw[<-k,<-e,bC];rfl
   clear k t h e nn
   induction ws generalizing fs with
   |nil=>cases fs with|nil=>rfl|cons p l=>simp at k2
   |cons q ws ih=>
    cases fs with
    |nil=>simp at k2
    |cons p l=>
     rw[aR,aR]at k2 ⊢
     injection k2 with h1 h2
     injection h1 with h1
     rw[ih h2,h1]
  ·rw[<-e,bC]at t
   exact t
theorem Ml:∀{fs:List (Str×aq)}{ws:List (Str×V)},ws.map (·.1)=fs.map (·.1)->dz K H (ws.map (·.2)) (fs.map (·.2))->∀k d,kO fs k=some d->∃u,ws.lookup k=some u/\k∈ws.map (·.1)/\Rep K H u d
 | [],ws,e,_,k,d,h=>by cases h
 |p::fs,ws,e,r,k,d,h=>by
  cases ws with
  |nil=>simp at e
  |cons q ws=>
   obtain⟨q1,q2⟩:=q;rw[aR,aR]at e r
   injection e with e1 e2
   have e1:q1=p.1:=e1;cases r with
   |cons r1 r2=>
    by_cases hk:p.1=k
    ·rw[gU hk]at h
     cases h;refine⟨q2,?_,?_,r1⟩
     ·rw[dU,e1,hk];simp
     ·rw[aR,e1,hk];exact aO
    ·rw[dw hk]at h
     obtain⟨u,h1,h2,h3⟩:=Ml e2 r2 k d h;refine⟨u,?_,aU _ h2,h3⟩
     rw[dU];have:(k==q1)=false:=by rw[beq_eq_false_iff_ne,e1];exact λz=>hk z.symm
     rw[this];exact h1
end
section
variable{X:Cx}{a b c e:cw}{δ:List Slot}{d d1 d2 d3:aq}{ds:List aq}{pos ap:Pos}{k:Nat}{kvs fs:List (Str×aq)}{tvs:List ((Str×Str)×aq)}{x y z:Str}
theorem S1(hr:fZ k X.A):X.A.units+1<cLine:=by have:=hr.un;omega
theorem my{f:Str}(h:VE X a δ (O8 fs))(hf:kO fs f=some d)(hb:attributeBase a f X.env (eval a X.env)=eval a X.env:=by rfl):VE X (.Attribute a f pos) δ d:=
 .of (zr dD hb) λB0 B σ H0 H Q fr q=>h B0 B σ H0 H _ fr λv H1 dX g r=>by
  obtain⟨p,C,dx,ws,rfl,hp,cl,nn,ke,rs⟩:=r.Mj;obtain⟨u,h1,h2,h3⟩:=Ml ke rs f d hf;exact⟨p,C,dx,ws,u,rfl,g.sub _ _ hp,cl,nn f h2,h1,q u H1 dX g h3⟩
theorem il(hr:fZ k X.A)(h1:VE X a δ (va kvs))(h2:VE X b δ (.str x))(hx:kO kvs x=some d)(hs:OG b:=by intro _ _;rfl):VE X (.Subscript a b pos) δ d:=
 .of (OJ (S1 hr) dD dD hs) λB0 B σ H0 H Q fr q=>h1 B0 B σ H0 H _ fr λv H1 dX g r=>h2 B0 B σ H1 dX _ (fr.grow g) λu H2 iL g2 r2=>by
  obtain⟨p,ws,rfl,hp,ke,rs⟩:=r.sY;cases r2;have o:=zJ ke rs x;rw[hx]at o;obtain⟨w,hw,rY⟩:=o.some_of;refine⟨p,w,rfl,?_,q w H2 iL (g.trans g2) (rY.mono g2.gL)⟩
  rw[<-hw];exact sR.k (k:=.inr x) (g2.sub _ _ (g2.gL _ _ hp))
theorem Gj(hr:fZ k X.A)(h2:VE X b δ (.str x))(h1:VE X a δ (va kvs))(hm:behindInMarks .In a=false:=by with_unfolding_all rfl):VE X (.Compare b [.In] [a] pos) δ (.bool (kO kvs x).isSome):=
 .of (FN (LD (S1 hr) dD dD) hm) λB0 B σ H0 H Q fr q=>h2 B0 B σ H0 H _ fr λu H1 dX g r2=>h1 B0 B σ H1 dX _ (fr.grow g) λv H2 iL g2 r=>by
  obtain⟨p,ws,rfl,hp,ke,rs⟩:=r.sY;cases r2;refine⟨p,jQ ws (.inr x),rfl,sR.k (k:=.inr x) (g2.sub _ _ hp),q _ H2 iL (g.trans g2) ?_⟩
  rw[(zJ ke rs x).isSome];exact .bl _
theorem J7(hr:fZ k X.A)(h2:VE X b δ (.str x))(h1:VE X a δ (va kvs))(hm:behindInMarks .NotIn a=false:=by with_unfolding_all rfl):VE X (.Compare b [.NotIn] [a] pos) δ (.bool (!(kO kvs x).isSome)):=
 .of (FN (JY (S1 hr) dD dD) hm) λB0 B σ H0 H Q fr q=>h2 B0 B σ H0 H _ fr λu H1 dX g r2=>h1 B0 B σ H1 dX _ (fr.grow g) λv H2 iL g2 r=>by
  obtain⟨p,ws,rfl,hp,ke,rs⟩:=r.sY;cases r2;refine⟨p,jQ ws (.inr x),rfl,sR.k (k:=.inr x) (g2.sub _ _ hp),q _ H2 iL (g.trans g2) ?_⟩
  rw[(zJ ke rs x).isSome];exact .bl _
theorem O9{x1}(hr:fZ k X.A)(h1:VE X a δ (.str x))(h2:VE X b δ (.str y))(h3:VE X c δ (Mf tvs))(hm:behindInMarks .In c=false:=by with_unfolding_all rfl)
  (hs:starEach [a,b] X.env=(false,eval a X.env)::starEach [b] X.env:=by rfl)(qH:starEach [b] X.env=(false,eval b X.env)::starEach [] X.env:=by rfl):VE X (.Compare (.Tuple [a,b] x1 tp) [.In] [c] pos) δ (.bool (kO tvs (x,y)).isSome):=
 .of (FN (LD (S1 hr) (zu (cV dD (cV dD fB qH) hs)) dD) hm) λB0 B σ H0 H Q fr q=>h1 B0 B σ H0 H _ fr λv H1 dX g r1=>h2 B0 B σ H1 dX _ (fr.grow g) λu H2 iL g2 r2=>by
  cases r1;cases r2;refine⟨by show 2<=sizeLine;rw[du];decide,λt ht=>?_⟩
  have g3:=(g.trans g2).trans (dW.loose (o:=HO.tup [.str x,.str y]) g2.sub ht);refine h3 B0 B σ H2 _ _ (fr.grow g3) λv H4 O5 g4 r=>?_
  obtain⟨p,ws,rfl,hp,ke,rs⟩:=r.Mh;refine⟨p,jQ ws (xE (x,y)),rfl,sR.t (k:=xE (x,y)) (g4.sub _ _ hp) (g4.big _ _ b0),q _ H4 O5 (g3.trans g4) ?_⟩
  rw[(Mi ke rs (x,y)).isSome];exact .bl _
end
section
variable{prog:bM}{w:cy}{A:ej}{E:aD->aQ->Prop}{s:aQ}
theorem Wn:(bA l==ef)=false:=rfl
theorem Gk(hit:s.heap.IsTupleIter it l i)(hl:s.heap.IsTuple l items)(hx:items[i]?=some x)
  (hQ:∀h',h'.IsTupleIter it l (i+1)->kI it s.heap h'->Q x { s with heap:=h' }):wpAny (model prog w) A (dB (.ref it)) Q E s:=by
 obtain⟨o,ho,hc,hd⟩:=id hit;obtain⟨ol,N8,J8,nl,Mm⟩:=hl;unfold dB;refine au (jO (name:=o4 "__next__") hit.typeIs kL (oq kL hit.typeIs DS ?_ (Cp _)))
 show wpAny _ _ (field (.ref it) 0 >>= _) _ _ s;refine au (dQ ho hd (x:=.ref l) rfl ?_)
 show wpAny _ _ (if(bA l==ef)=true then _ else _) _ _ s
 rw[if_neg (by rw[Wn];decide)]
 show wpAny _ _ (field (.ref it) 1 >>= _) _ _ s;refine au (dQ ho hd (x:=.int i 0) rfl ?_)
 show wpAny _ _ (seqItems? (.ref l) >>= _) _ _ s;refine au (jP N8 Mm ?_)
 simp only[eJ,hx];refine au (kW ho hd (by simp) (aZ ⟨x,rfl,aZ (hQ _ ?_ (A1 ..))⟩))
 refine⟨_,eY _ ho (iR (fS hd _)),(Obj.cls_mapFields ..).trans hc,?_⟩
 rw[fS hd];simp[rawInt]
theorem J9(hh:A.handled=none)(hit:s.heap.IsTupleIter it l i)(hl:s.heap.IsTuple l items)(hx:items[i]?=none)
  (hE:∀h' e,dq.ExtBut it s.heap h'->(∃o,h'.get? e=some o/\o.cls=.type "StopIteration")->E (.ref e) { s with heap:=h' }):wpAny (model prog w) A (dB (.ref it)) Q E s:=by
 obtain⟨o,ho,hc,hd⟩:=id hit;obtain⟨ol,N8,J8,nl,Mm⟩:=hl;unfold dB;refine au (jO (name:=o4 "__next__") hit.typeIs kL (oq kL hit.typeIs DS ?_ (Cp _)))
 show wpAny _ _ (field (.ref it) 0 >>= _) _ _ s;refine au (dQ ho hd (x:=.ref l) rfl ?_)
 show wpAny _ _ (if(bA l==ef)=true then _ else _) _ _ s
 rw[if_neg (by rw[Wn];decide)]
 show wpAny _ _ (field (.ref it) 1 >>= _) _ _ s;refine au (dQ ho hd (x:=.int i 0) rfl ?_)
 show wpAny _ _ (seqItems? (.ref l) >>= _) _ _ s;refine au (jP N8 Mm ?_)
 simp only[eJ,hx];refine au (y8 (au (kW ho hd (by simp) ?_)))
 show wpAny _ _ (newExc (.type "StopIteration") [] >>= _) _ _ _;refine au ?_
 simp only[newExc,newTuple];refine au (fj ?_ (by size_fits))
 refine au (m:=firstArgMember _ _) (wpAny_of_eq (a:=ef) (by first|rfl|(simp only[firstArgMember];rfl)) ?_)
 refine fj ?_ (by size_fits)
 simp only[raiseNew];refine au (wpAny_handled ?_)
 first|rw[show A.in1.handled=none from hh]|rw[hh]
 refine au (aZ (wpAny_throw ?_))
 exact hE _ _ (((A1 ..).extBut.push _).push _) ⟨_,bQ _ rfl,rfl⟩
end
inductive Gm where|lst|tup
variable{k k1 k2:Gm}
def qm(k:Gm)(h:dq)(l:aN)(xs:Array aD):Prop:=match k with | .lst=>h.IsList l xs | .tup=>h.IsTuple l xs
def vb(k:Gm)(h:dq)(i l:aN)(n:Nat):Prop:=match k with | .lst=>h.IsListIter i l n | .tup=>h.IsTupleIter i l n
theorem vb.at{h': dq}{i: aN}{n:Nat}(x:vb k h i l n)(e:∀o,h.get? i=some o->h'.get? i=some o):vb k h' i l n:=by
 cases k with
 |lst=>obtain⟨o,a,r⟩:=(show h.IsListIter i l n from x);exact(⟨o,e o a,r⟩:h'.IsListIter i l n)
 |tup=>obtain⟨o,a,r⟩:=(show h.IsTupleIter i l n from x);exact(⟨o,e o a,r⟩:h'.IsTupleIter i l n)
theorem qm.at{h': dq}(x:qm k h l xs)(e:∀o,h.get? l=some o->h'.get? l=some o):qm k h' l xs:=by
 cases k with
 |lst=>obtain⟨o,a,r⟩:=(show h.IsList l xs from x);exact(⟨o,e o a,r⟩:h'.IsList l xs)
 |tup=>obtain⟨o,a,r⟩:=(show h.IsTuple l xs from x);exact(⟨o,e o a,r⟩:h'.IsTuple l xs)
theorem vb.get{i: aN}{n:Nat}(x:vb k h i l n):∃o,h.get? i=some o/\∀v,o.data≠.cell v:=by
 cases k with
 |lst=>obtain⟨o,a,_,d⟩:=(show h.IsListIter i l n from x);exact⟨o,a,λv z=>by rw[d]at z;cases z⟩
 |tup=>obtain⟨o,a,_,d⟩:=(show h.IsTupleIter i l n from x);exact⟨o,a,λv z=>by rw[d]at z;cases z⟩
theorem qm.get(x:qm k h l xs):∃o,h.get? l=some o:=by
 cases k with
 |lst=>obtain⟨o,a,_⟩:=(show h.IsList l xs from x);exact⟨o,a⟩
 |tup=>obtain⟨o,a,_⟩:=(show h.IsTuple l xs from x);exact⟨o,a⟩
section
variable{prog:bM}{w:cy}{A:ej}{E:aD->aQ->Prop}{s:aQ}
theorem next_item(hit:vb k s.heap it l i)(hl:qm k s.heap l items)(hx:items[i]?=some x)
  (hQ:∀h',vb k h' it l (i+1)->kI it s.heap h'->Q x { s with heap:=h' }):wpAny (model prog w) A (dB (.ref it)) Q E s:=by
 cases k with
 |lst=>exact wpAny_nextOf_list_item hit hl hx hQ
 |tup=>exact Gk hit hl hx hQ
theorem next_end(hh:A.handled=none)(hit:vb k s.heap it l i)(hl:qm k s.heap l items)(hx:items[i]?=none)
  (hE:∀h' e,dq.ExtBut it s.heap h'->(∃o,h'.get? e=some o/\o.cls=.type "StopIteration")->E (.ref e) { s with heap:=h' }):wpAny (model prog w) A (dB (.ref it)) Q E s:=by
 cases k with
 |lst=>exact wpAny_nextOf_list_end hh hit hl hx hE
 |tup=>exact J9 hh hit hl hx hE
structure Zp(k1 k2:Gm)(h:dq)(z TI TO i1 i2 l1 l2:aN)(f0:aD)(a b:aD)(n1 n2:Nat)(xs ys:Array aD):Prop where
 hz:DT h z TI TO f0
 hTI:sD h TI (.ref i1) (.ref i2)
 hTO:sD h TO a b
 h1:vb k1 h i1 l1 n1
 h2:vb k2 h i2 l2 n2
 s1:qm k1 h l1 xs
 s2:qm k2 h l2 ys
theorem J_{z TI TO i1 i2: aN}{n1 n2:Nat}{y a b: aD}{Q:Option aD->aQ->Prop}(D:ZipApart z TI TO i1 i2 l1 l2)(Z:Zp k1 k2 s.heap z TI TO i1 i2 l1 l2 .none a b n1 n2 xs ys)(hx:xs[n1]?=some x)(hy:ys[n2]?=some y)
  (hQ:∀h',Zp k1 k2 h' z TI TO i1 i2 l1 l2 (rawInt s.heap.objs.size) x y (n1+1) (n2+1) xs ys->sD h' s.heap.objs.size x y->(∀c o,c≠z->c≠TO->c≠i1->c≠i2->s.heap.get? c=some o->h'.get? c=some o)->Q (some (.ref s.heap.objs.size)) { s with heap:=h' }):
  wpAny (model prog w) A (pyNext (.ref z)) Q E s:=by
 obtain⟨hz,hTI,hTO,h1,h2,s1,s2⟩:=Z;have hT:s.TypeIs (.ref z) "zip":=⟨_,hz,rfl⟩;unfold pyNext;refine au (yJ (jO (name:=o4 "__next__") hT uF (oq uF hT F.entry_zip_next ?_ (F.args_zip_next_1 _))))
 show wpAny _ _ (field (.ref z) 2 >>= _) _ _ _;refine au (dQ hz rfl (x:=.bool false) rfl ?_)
 show wpAny _ _ (field (.ref z) 3 >>= _) _ _ _;refine au (dQ hz rfl (x:=.ref TI) rfl (au (jP hTI rfl ?_)))
 show wpAny _ _ (gF (.ref z) >>= _) _ _ _;refine au ?_
 unfold gF;refine au (dQ hz rfl (x:=.none) rfl (aZ ?_))
 simp only[if_true];refine au (y8 (au (dQ hz rfl (x:=.ref TO) rfl (au (j8 hz (by simp) λha QS sa=>?_)))))
 replace QS:DT ha z TI TO .ellipsis:=QS
 refine au ?_
 simp only[nE,List.zipIdx_nil,AB,List.forIn_nil];refine au (au (sE ?_))
 show wpAny _ _ (dB (.ref i1) >>= _) _ _ _;refine au (next_item (h1.at λo e=>sa.extBut _ o D.i1z e) (s1.at λo e=>sa.extBut _ o D.l1z e) hx λhb h1b sb=>aZ ?_)
 have tb:sD hb TO a b:=sb.extBut _ _ D.TOi1 (sa.extBut _ _ D.TOz hTO);refine au (jP tb rfl (au (xi tb λhc tc sc=>?_)))
 replace tc:sD hc TO x b:=tc
 refine au (DU (aZ (au (au (sE ?_)))))
 show wpAny _ _ (dB (.ref i2) >>= _) _ _ _;refine au (next_item (h2.at λo e=>sc.extBut _ o D.TOi2.symm (sb.extBut _ o D.i12.symm (sa.extBut _ o D.i2z e))) (s2.at λo e=>sc.extBut _ o D.l2TO (sb.extBut _ o D.l2i1 (sa.extBut _ o D.l2z e))) hy λhd h2d sd=>aZ ?_)
 have td:sD hd TO x b:=sd.extBut _ _ D.TOi2 tc;refine au (jP td rfl (au (xi td λhe te se=>?_)))
 replace te:sD he TO x y:=te
 refine au (DU (aZ (aZ (au (jP te rfl (au (wpAny_newTuple ?_)))))))
 have hsz:he.objs.size=s.heap.objs.size:=by rw[se.1,sd.1,sc.1,sb.1,sa.1]
 have kp:∀c o,c≠z->c≠TO->c≠i1->c≠i2->s.heap.get? c=some o->he.get? c=some o:=λc o c1 c2 c3 c4 e=>se.extBut _ _ c2 (sd.extBut _ _ c4 (sc.extBut _ _ c2 (sb.extBut _ _ c3 (sa.extBut _ _ c1 e))))
 have ze:DT he z TI TO .ellipsis:=se.extBut _ _ D.TOz.symm (sd.extBut _ _ D.i2z.symm (sc.extBut _ _ D.TOz.symm (sb.extBut _ _ D.i1z.symm QS)));have h1e:vb k1 he i1 l1 (n1+1):=h1b.at λo e=>se.extBut _ o D.TOi1.symm (sd.extBut _ o D.i12 (sc.extBut _ o D.TOi1.symm e))
 have h2e:vb k2 he i2 l2 (n2+1):=h2d.at λo e=>se.extBut _ o D.TOi2.symm e
 show wpAny _ _ (o9 (.ref z) (.ref he.objs.size) >>= _) _ _ _;refine au ?_
 unfold o9;have zf:DT (he.push { cls:=.type "tuple",data:=.seq #[x,y] }) z TI TO .ellipsis:=aE _ ze;refine au (j8 zf (by simp) λhg zg sg=>?_)
 replace zg:DT hg z TI TO (rawInt he.objs.size):=zg
 refine j8 zg (by simp) λhi zi si=>?_
 replace zi:DT hi z TI TO (rawInt he.objs.size):=zi
 have up:∀c o,c≠z->he.get? c=some o->hi.get? c=some o:=λc o c1 e=>si.extBut _ _ c1 (sg.extBut _ _ c1 (aE _ e))
 have ti:sD hi he.objs.size x y:=si.extBut _ _ (fy (aW ze)) (sg.extBut _ _ (fy (aW ze)) (bQ _ rfl));rw[hsz]at zi ti;refine aZ ⟨_,rfl,?_⟩
 show wpAny _ _ (pure (some (bA he.objs.size))) _ _ _;rw[hsz];refine aZ (hQ hi ⟨zi,up _ _ D.TIz (kp _ _ D.TIz D.TITO D.TIi1 D.TIi2 hTI),up _ _ D.TOz te,h1e.at λo e=>up _ o D.i1z e,h2e.at λo e=>up _ o D.i2z e,s1.at λo e=>up _ o D.l1z (kp _ o D.l1z D.l1TO D.l1i1 D.l1i2 e),s2.at λo e=>up _ o D.l2z (kp _ o D.l2z D.l2TO D.l2i1 D.l2i2 e)⟩ ti λc o c1 c2 c3 c4 e=>up c o c1 (kp c o c1 c2 c3 c4 e))
theorem Mp{z TI TO i1 i2: aN}{n1 n2:Nat}{a b:aD}{Q:Option aD->aQ->Prop}(hh:A.handled=none)(D:ZipApart z TI TO i1 i2 l1 l2)(Z:Zp k1 k2 s.heap z TI TO i1 i2 l1 l2 .none a b n1 n2 xs ys)(O_:xs[n1]?=none\/ys[n2]?=none)
  (hQ:∀h',(∀c o,c≠z->c≠TO->c≠i1->c≠i2->s.heap.get? c=some o->h'.get? c=some o)->Q none { s with heap:=h' }):wpAny (model prog w) A (pyNext (.ref z)) Q E s:=by
 obtain⟨hz,hTI,hTO,h1,h2,s1,s2⟩:=Z;have hT:s.TypeIs (.ref z) "zip":=⟨_,hz,rfl⟩;have fin:∀h' e,(∀c o,c≠z->c≠TO->c≠i1->c≠i2->s.heap.get? c=some o->h'.get? c=some o)->(∃o,h'.get? e=some o/\o.cls=.type "StopIteration")->wpAny (model prog w) A (do if <-isInstance (.ref e) (.type "StopIteration")then pure none else throw (.ref e)) Q E { s with heap:=h' }:=by
  intro h' e hk ⟨o,ho,hc⟩;exact au (wpAny_isInstance (T:="StopIteration") (b:=true) (s:={ s with heap:=h' }) ⟨o,ho,hc⟩ isSubtype_stop (aZ (hQ _ hk)))
 unfold pyNext;refine au (yJ (jO (name:=o4 "__next__") hT uF (oq uF hT F.entry_zip_next ?_ (F.args_zip_next_1 _))))
 show wpAny _ _ (field (.ref z) 2 >>= _) _ _ _;refine au (dQ hz rfl (x:=.bool false) rfl ?_)
 show wpAny _ _ (field (.ref z) 3 >>= _) _ _ _;refine au (dQ hz rfl (x:=.ref TI) rfl (au (jP hTI rfl ?_)))
 show wpAny _ _ (gF (.ref z) >>= _) _ _ _;refine au ?_
 unfold gF;refine au (dQ hz rfl (x:=.none) rfl (aZ ?_))
 simp only[if_true];refine au (y8 (au (dQ hz rfl (x:=.ref TO) rfl (au (j8 hz (by simp) λha QS sa=>?_)))))
 replace QS:DT ha z TI TO .ellipsis:=QS
 refine au ?_
 simp only[nE,List.zipIdx_nil,AB,List.forIn_nil];refine au (au (sE ?_))
 show wpAny _ _ (dB (.ref i1) >>= _) _ _ _;cases hx:xs[n1]? with
 |none=>
  refine au (next_end hh (h1.at λo e=>sa.extBut _ o D.i1z e) (s1.at λo e=>sa.extBut _ o D.l1z e) hx λhb e sb he=>?_)
  obtain⟨oe,S2,Wo⟩:=he;have zb:DT hb z TI TO .ellipsis:=sb _ _ D.i1z.symm QS;have ne:e≠z:=λx=>by subst x;rw[zb]at S2;cases S2;simp at Wo
  exact j8 zb (by simp) λhc _ sc=>fin hc e (λc o c1 _ c3 _ x=>sc.extBut _ _ c1 (sb _ _ c3 (sa.extBut _ _ c1 x))) ⟨oe,sc.extBut _ _ ne S2,Wo⟩
 |some x=>
  have hy:ys[n2]?=none:=by
   rcases O_ with h|h
   ·rw[hx]at h;cases h
   ·exact h
  refine au (next_item (h1.at λo e=>sa.extBut _ o D.i1z e) (s1.at λo e=>sa.extBut _ o D.l1z e) hx λhb h1b sb=>aZ ?_)
  have tb:sD hb TO a b:=sb.extBut _ _ D.TOi1 (sa.extBut _ _ D.TOz hTO);refine au (jP tb rfl (au (xi tb λhc tc sc=>?_)))
  refine au (DU (aZ (au (au (sE ?_)))))
  show wpAny _ _ (dB (.ref i2) >>= _) _ _ _;refine au (next_end hh (h2.at λo e=>sc.extBut _ o D.TOi2.symm (sb.extBut _ o D.i12.symm (sa.extBut _ o D.i2z e))) (s2.at λo e=>sc.extBut _ o D.l2TO (sb.extBut _ o D.l2i1 (sa.extBut _ o D.l2z e))) hy λhd e sd he=>?_)
  obtain⟨oe,S2,Wo⟩:=he;have zd:DT hd z TI TO .ellipsis:=sd _ _ D.i2z.symm (sc.extBut _ _ D.TOz.symm (sb.extBut _ _ D.i1z.symm QS));have ne:e≠z:=λx=>by subst x;rw[zd]at S2;cases S2;simp at Wo
  exact j8 zd (by simp) λhg _ sg=>fin hg e (λc o c1 c2 c3 c4 x=>sg.extBut _ _ c1 (sd _ _ c4 (sc.extBut _ _ c2 (sb.extBut _ _ c3 (sa.extBut _ _ c1 x))))) ⟨oe,sg.extBut _ _ ne S2,Wo⟩
def rP(k:Gm)(l:aN):Obj:=match k with | .lst=>{ cls:=.type "list_iterator",data:=.fields #[.ref l,.int 0 0] } | .tup=>{ cls:=.type "tuple_iterator",data:=.fields #[.ref l,.int 0 0] }
theorem IQ(hl:qm k s.heap l xs)(h:Q (.ref s.heap.objs.size) { s with heap:=s.heap.push (rP k l) }):wpAny (model prog w) A (pyIter (.ref l)) Q E s:=by
 cases k with
 |lst=>exact sj hl h
 |tup=>exact y9 hl h
def Fz(k1 k2:Gm)(h:dq)(l1 l2:aN):dq:=(h.push (rP k1 l1)).push (rP k2 l2)
def zH5(k1 k2:Gm)(h:dq)(l1 l2:aN):dq:=(((Fz k1 k2 h l1 l2).push { cls:=.type "tuple",data:=.seq #[.ref h.objs.size,.ref (h.push (rP k1 l1)).objs.size] }).push { cls:=.type "tuple",data:=.seq #[.none,.none] }).push
 { cls:=.type "zip",data:=.fields #[.none,.bool false,.bool false,.ref (Fz k1 k2 h l1 l2).objs.size,.ref ((Fz k1 k2 h l1 l2).push { cls:=.type "tuple",data:=.seq #[.ref h.objs.size,.ref (h.push (rP k1 l1)).objs.size] }).objs.size] }
theorem qm.push(x:qm k h l xs)(o:Obj):qm k (h.push o) l xs:=x.at λ_ e=>aE _ e
theorem Gn(k1 k2:Gm)(l1 l2:aN)(xs ys:Array aD):Meets (p_.«zip.__new__» ⟨[.type "zip",.ref l1,.ref l2],[]⟩) (λ_ R s=>qm k1 s.heap l1 xs/\qm k2 s.heap l2 ys/\
  R (.ok (.ret (.ref (((Fz k1 k2 s.heap l1 l2).push { cls:=.type "tuple",data:=.seq #[.ref s.heap.objs.size,.ref (s.heap.push (rP k1 l1)).objs.size] }).push { cls:=.type "tuple",data:=.seq #[.none,.none] }).objs.size))) { s with heap:=zH5 k1 k2 s.heap l1 l2 }):=
 .of_wp λprog w A R s h=>by
  obtain⟨hp,g,d,tk,os⟩:=s;obtain⟨S3,QO,h⟩:=h;have OQ:=sub_zip;have a1:qm k1 (aQ.heap ⟨hp,g,d,tk,os⟩) l1 xs:=S3;have a2:qm k2 (aQ.heap ⟨hp.push (rP k1 l1),g,d,tk,os⟩) l2 ys:=QO.push _
  wp_walk using IQ a1,IQ a2
  exact⟨_,rfl,h⟩
theorem Em{i: aN}(e:h.get? i=some (rP k l)):vb k h i l 0:=by
 cases k with
 |lst=>exact(⟨_,e,rfl,rfl⟩:h.IsListIter i l 0)
 |tup=>exact(⟨_,e,rfl,rfl⟩:h.IsTupleIter i l 0)
theorem zK(k:Gm)(l:aN):(rP k l).isFreed=false:=by cases k<;>rfl
theorem J'(S3:qm k1 s.heap l1 xs)(QO:qm k2 s.heap l2 ys)
  (h:∀h',Zp k1 k2 h' (s.heap.objs.size+4) (s.heap.objs.size+2) (s.heap.objs.size+3) s.heap.objs.size (s.heap.objs.size+1) l1 l2 .none .none .none 0 0 xs ys->(∀c o,s.heap.get? c=some o->h'.get? c=some o)->Q (.ref (s.heap.objs.size+4)) { s with heap:=h' }):
  wpAny (model prog w) A (call (.type "zip") [.ref l1,.ref l2]) Q E s:=by
 refine callType_new F.called_zip (by decide) (F.typeCall_zip_2 _ _) (F.newCall_zip_2 _ _) (λobj=>F.args_object_init_3 obj _ _) F.entry_zip_new (Gn k1 k2 l1 l2 xs ys) ⟨S3,QO,?_⟩
 have z1:(s.heap.push (rP k1 l1)).objs.size=s.heap.objs.size+1:=gf ..;have z2:(Fz k1 k2 s.heap l1 l2).objs.size=s.heap.objs.size+2:=by unfold Fz;rw[gf,z1]
 generalize hT:({ cls:=.type "tuple",data:=.seq #[.ref s.heap.objs.size,.ref (s.heap.push (rP k1 l1)).objs.size] }:Obj)=tI
 generalize hT2:({ cls:=.type "tuple",data:=.seq #[.none,.none] }:Obj)=tO
 have z3:((Fz k1 k2 s.heap l1 l2).push tI).objs.size=s.heap.objs.size+3:=by rw[gf,z2]
 have z4:(((Fz k1 k2 s.heap l1 l2).push tI).push tO).objs.size=s.heap.objs.size+4:=by rw[gf,z3]
 have fI:tI.isFreed=false:=by rw[<-hT];rfl
 have fO:tO.isFreed=false:=by rw[<-hT2];rfl
 have eq:zH5 k1 k2 s.heap l1 l2=(((Fz k1 k2 s.heap l1 l2).push tI).push tO).push { cls:=.type "zip",data:=.fields #[.none,.bool false,.bool false,.ref (s.heap.objs.size+2),.ref (s.heap.objs.size+3)] }:=by
  unfold zH5;rw[hT,hT2,z2,z3]
 rw[eq,z4];have g5:((((Fz k1 k2 s.heap l1 l2).push tI).push tO).push { cls:=.type "zip",data:=.fields #[.none,.bool false,.bool false,.ref (s.heap.objs.size+2),.ref (s.heap.objs.size+3)] }).get? (s.heap.objs.size+4)=some { cls:=.type "zip",data:=.fields #[.none,.bool false,.bool false,.ref (s.heap.objs.size+2),.ref (s.heap.objs.size+3)] }:=by
  rw[<-z4];exact bQ _ rfl
 have up3:∀c o,((Fz k1 k2 s.heap l1 l2).push tI).get? c=some o->((((Fz k1 k2 s.heap l1 l2).push tI).push tO).push { cls:=.type "zip",data:=.fields #[.none,.bool false,.bool false,.ref (s.heap.objs.size+2),.ref (s.heap.objs.size+3)] }).get? c=some o:=λc o e=>aE _ (aE _ e)
 have Wp:∀c o,(Fz k1 k2 s.heap l1 l2).get? c=some o->_:=λc o e=>up3 c o (aE _ e)
 have up0:∀c o,s.heap.get? c=some o->(Fz k1 k2 s.heap l1 l2).get? c=some o:=λc o e=>aE _ (aE _ e)
 refine⟨⟨_,g5,rfl⟩,h _ ⟨g5,?_,?_,?_,?_,?_,?_⟩ λc o e=>Wp c o (up0 c o e)⟩
 ·refine up3 _ _ ?_
  rw[<-z2];have:=bQ (Fz k1 k2 s.heap l1 l2) fI;rw[this,<-hT,z1]
 ·refine aE _ ?_
  rw[<-z3];have:=bQ ((Fz k1 k2 s.heap l1 l2).push tI) fO;rw[this,<-hT2]
 ·exact Em (Wp _ _ (aE _ (bQ _ (zK k1 l1))))
 ·refine Em (Wp _ _ ?_)
  have:=bQ (s.heap.push (rP k1 l1)) (zK k2 l2);rw[z1]at this;exact this
 ·exact S3.at λo e=>Wp _ o (up0 _ o e)
 ·exact QO.at λo e=>Wp _ o (up0 _ o e)
end
def IU(k:Gm)(K:av)(H:Hp)(a:aN)(xs:List V):Prop:=match k with | .lst=>lW K H a xs | .tup=>qM K H a xs
theorem Inv.sq{σ:St}{xs:List V}(I:Inv X pins σ H s)(h:IU k X.K H a xs):∃its,dZ xs its/\qm k s.heap a its.toArray/\xs.length<=sizeLine:=by
 cases k with
 |lst=>obtain⟨its,r,p,z⟩:=I.list h;exact⟨its,r,p.isList,z⟩
 |tup=>obtain⟨its,r,p,z⟩:=I.tuple h;exact⟨its,r,(show s.heap.IsTuple a its.toArray from p),z⟩
theorem Inv.Mq{σ:St}{xs ys:List V}(I:Inv X pins σ H s)(h:IU k X.K H a xs)(h':IU k X.K H a ys):xs=ys:=by
 cases k with
 |lst=>exact I.zl h h'
 |tup=>exact I.Bp h h'
theorem er.QT{H': Hp}{xs:List V}(e:er H H')(h:IU k K H a xs):IU k K H' a xs:=by
 cases k with
 |lst=>exact e.seq h
 |tup=>exact e.qT h
def Itz(k1 k2:Gm)(K:av)(a b:aN):It:=
 ⟨λi H=>∃xs x ys y,IU k1 K H a xs/\xs[i]?=some x/\IU k2 K H b ys/\ys[i]?=some y,
  λi H v H'=>∃t x y,v=.ref t/\H t=none/\H'=upd H t (.tup [x,y])/\(∀xs,IU k1 K H a xs->xs[i]?=some x)/\∀ys,IU k2 K H b ys->ys[i]?=some y,
  λi H=>∃xs ys,IU k1 K H a xs/\IU k2 K H b ys/\(xs.length<=i\/ys.length<=i)⟩
theorem Mr{P:bM}{w:cy}{kk}{z TI TO i1 i2: aN}(D:ZipApart z TI TO i1 i2 l1 l2):
  Turn P w K (.Tuple elts kk tp) (Itz k1 k2 K l1 l2) [z,TI,TO,i1,i2] z (λi h=>DT h z TI TO .none/\sD h TI (.ref i1) (.ref i2)/\(∃a b,sD h TO a b)/\vb k1 h i1 l1 i/\vb k2 h i2 l2 i) where
 mem:=by simp
 obj:=λi h st b hb=>by
  obtain⟨hz,hTI,⟨a,c,hTO⟩,h1,h2⟩:=st;simp only[aJ,b7,or_false]at hb;rcases hb with rfl|rfl|rfl|rfl|rfl
  ·exact⟨_,hz,λv z=>by cases z⟩
  ·exact⟨_,hTI,λv z=>by cases z⟩
  ·exact⟨_,hTO,λv z=>by cases z⟩
  ·exact h1.get
  ·exact h2.get
 keep:=λi h h' st kp=>by
  obtain⟨hz,hTI,⟨a,c,hTO⟩,h1,h2⟩:=st;exact⟨kp z (by simp) _ hz,kp TI (by simp) _ hTI,⟨a,c,kp TO (by simp) _ hTO⟩,h1.at λo e=>kp i1 (by simp) o e,h2.at λo e=>kp i2 (by simp) o e⟩
 item:=by
  intro X hP hw hK hc i pins s σ H E I hf st hg;subst hP hw hK;obtain⟨hz,hTI,⟨a,c,hTO⟩,h1,h2⟩:=st;obtain⟨xs,x,ys,y,Ms,hx,Gf,hy⟩:=hg;obtain⟨its,rv,p1,_⟩:=I.sq Ms;obtain⟨jts,YC,p2,_⟩:=I.sq Gf;obtain⟨u,hu,ru⟩:=rv.get hx;obtain⟨u2,hu2,Uu⟩:=YC.get hy;refine J_ D ⟨hz,hTI,hTO,h1,h2,p1,p2⟩ (x:=u) (y:=u2) (by simpa using hu) (by simpa using hu2) λha Z ht hk=>?_
  obtain⟨az,aTI,aTO,a1,a2,_,_⟩:=Z;refine⟨.ref s.heap.objs.size,rfl,wpAny_letOwnedTupleGo_zip az λhb bz sb=>?_⟩
  have zlt:z<s.heap.objs.size:=aW hz;have k2:∀b o,b∉[z,TI,TO,i1,i2]->s.heap.get? b=some o->hb.get? b=some o:=λb o nb q=>by
   have n1:b≠z:=λe=>nb (by simp[e])
   have n2:b≠TO:=λe=>nb (by simp[e])
   have n3:b≠i1:=λe=>nb (by simp[e])
   have n4:b≠i2:=λe=>nb (by simp[e])
   exact(sb.2 b n1).trans (hk b o n1 n2 n3 n4 q)
  have I2:Inv X pins σ H { s with heap:=hb,toks:=s.toks }:=I.yQ k2 hf
  have VY:sD hb s.heap.objs.size u u2:=(sb.2 _ (fy zlt)).trans ht;have fT:vS X pins H s.heap.objs.size:=I.A3 (aA _) I.fresh;have I3:Inv X pins σ (upd H s.heap.objs.size (.tup [x,y])) { s with heap:=hb,toks:=s.toks }:=
   I2.track fT ⟨by show 2<=sizeLine;rw[du];decide,[u,u2],.cons ru (.cons Uu .nil),⟨_,VY,rfl,_,rfl⟩⟩
  have up:∀b o,b≠z->ha.get? b=some o->hb.get? b=some o:=λb o nb q=>(sb.2 b nb).trans q
  refine⟨.ref s.heap.objs.size,_,I3,rfl,⟨_,x,y,rfl,I.fresh,rfl,λzs hy'=>by rw[I.Mq hy' Ms];exact hx,λzs hy'=>by rw[I.Mq hy' Gf];exact hy⟩,⟨bz,up _ _ D.TIz aTI,⟨_,_,up _ _ D.TOz aTO⟩,a1.at λo q=>up _ o D.i1z q,a2.at λo q=>up _ o D.i2z q⟩,λb Wq=>?_⟩
  have qI:b<s.heap.objs.size:=by
   simp only[aJ,b7,or_false]at Wq;rcases Wq with rfl|rfl|rfl|rfl|rfl
   ·exact zlt
   ·exact aW hTI
   ·exact aW hTO
   ·obtain⟨o,q,_⟩:=h1.get;exact aW q
   ·obtain⟨o,q,_⟩:=h2.get;exact aW q
  rw[aT (bB qI)];exact(hf b Wq).1
 done:=by
  intro X hP hw hK hc i pins s σ H E I hf st hg;subst hP hw hK;obtain⟨hz,hTI,⟨a,c,hTO⟩,h1,h2⟩:=st;obtain⟨xs,ys,Ms,Gf,hx⟩:=hg;obtain⟨its,rv,p1,_⟩:=I.sq Ms;obtain⟨jts,YC,p2,_⟩:=I.sq Gf;have e1:=rv.length;have e2:=YC.length;refine Mp (I.ok.hd hc) D ⟨hz,hTI,hTO,h1,h2,p1,p2⟩ ?_ λh' hk=>⟨rfl,I.yQ (ch:=[z,TI,TO,i1,i2]) (t':=s.toks) (λb o hb q=>hk b o (λe=>hb (by simp[e])) (λe=>hb (by simp[e])) (λe=>hb (by simp[e])) (λe=>hb (by simp[e])) q) hf⟩
  rcases hx with hx|hx
  ·left;simp;omega
  ·right;simp;omega
 self:=λ_ _ _ _ _ st h=>wpAny_pyIter_zip st.1 h
def zaJ(k1 k2:Gm)(K:av)(ta:TA):TI:=λσ H R=>ta σ H λvs H1=>∃a b,vs=[.ref a,.ref b]/\(∃xs,IU k1 K H1 a xs)/\(∃ys,IU k2 K H1 b ys)/\R (Itz k1 k2 K a b) H1
theorem boot_zip:bootBuiltins "zip"=some (.type "zip"):=rfl
theorem S4{a b:cw}{ta:TA}{p pos: Pos}{kk}(k1 k2:Gm)(hg:Gl X "zip")(hm:X.mg "zip"=none)(ha:PA X [a,b] ta)(hs:starEach [a,b] X.env=[(false,eval a X.env),(false,eval b X.env)]:=by rfl)(qH:starEach [b] X.env=[(false,eval b X.env)]:=by rfl):
  PI X (.Tuple elts kk tp) (.Call (.Name "zip" p) [a,b] [] pos) (zaJ k1 k2 X.K ta):=by
 intro pins s σ H R I h;refine Call_ (xm I hg hm boot_zip (jt (gj (ha pos pins s σ H _ I h) λus s1 ⟨vs,H1,I1,r1,q1⟩=>?_) (by rw[hs,qH]) (by rw[qH];rfl)))
 obtain⟨l1,l2,e,⟨xs,Ms⟩,⟨ys,Gf⟩,q⟩:=q1;subst e;obtain⟨u,u2,rfl,rx,rx2⟩:=vals2 r1;cases rx;cases rx2;obtain⟨its,rv,p1,_⟩:=I1.sq Ms;obtain⟨jts,YC,p2,_⟩:=I1.sq Gf;obtain⟨o1,e1⟩:=p1.get;obtain⟨o2,e2⟩:=p2.get;have YD:=aW e1;have YF:=aW e2;refine J' p1 p2 λh' Z hk=>wpAny_pyIter_zip Z.hz ?_
 have I2:Inv X pins σ H1 { s1 with heap:=h' }:=I1.kept (t':=s1.toks) hk
 have D:ZipApart (s1.heap.objs.size+4) (s1.heap.objs.size+2) (s1.heap.objs.size+3) s1.heap.objs.size (s1.heap.objs.size+1) l1 l2:=by
  constructor
  ·exact bB (jo (by decide) _)
  ·exact bB (jo (by decide) _)
  ·exact bB (rV (by decide))
  ·exact bB (jo (by decide) _)
  ·exact bB (jo (by decide) _)
  ·exact fy (rV (by decide))
  ·exact fy (jo (by decide) _)
  ·exact fy (rV (by decide))
  ·exact fy (jo (by decide) _)
  ·exact bB (kK _)
  ·exact bB (bY YD (fW _ _))
  ·exact bB (bY YD (fW _ _))
  ·exact bB YD
  ·exact bB (bY YD (fW _ _))
  ·exact bB (bY YF (fW _ _))
  ·exact bB (bY YF (fW _ _))
  ·exact bB YF
  ·exact bB (bY YF (fW _ _))
 refine⟨_,[s1.heap.objs.size+4,s1.heap.objs.size+2,s1.heap.objs.size+3,s1.heap.objs.size,s1.heap.objs.size+1],_,_,H1,rfl,I2,Mr D,⟨Z.hz,Z.hTI,⟨_,_,Z.hTO⟩,Z.h1,Z.h2⟩,λb hb=>?_,q⟩
 have hle:s1.heap.objs.size<=b:=by
  simp only[aJ,b7,or_false]at hb;rcases hb with rfl|rfl|rfl|rfl|rfl
  ·exact fW _ _
  ·exact fW _ _
  ·exact fW _ _
  ·exact aA _
  ·exact fW _ _
 exact I1.A3 hle (I1.hok.fresh hle)
def zL(ds es:List aq):List aq:=(ds.zip es).map λp=>.tuple [p.1,p.2]
theorem yh(ds es:List aq):(zL ds es).length=min ds.length es.length:=by simp[zL]
theorem Mt{es: List aq}{d:aq}(h:(zL ds es)[i]?=some d):∃x y,ds[i]?=some x/\es[i]?=some y/\d=.tuple [x,y]:=by
 unfold zL at h;rw[aP]at h;cases e:(ds.zip es)[i]? with
 |none=>rw[e]at h;cases h
 |some p=>
  rw[e]at h;cases h;rw[List.getElem?_zip_eq_some]at e
  exact⟨_,_,e.1,e.2,rfl⟩
def S5(k:Gm)(ds:List aq):aq:=match k with | .lst=>.list ds | .tup=>.tuple ds
theorem Rep.QT{v:V}(r:Rep K H v (S5 k ds)):∃a xs,v=.ref a/\IU k K H a xs/\dz K H xs ds:=by
 cases k with
 |lst=>cases(show Rep K H v (.list ds)from r)with|lst h t=>exact⟨_,_,rfl,h,t⟩
 |tup=>cases(show Rep K H v (.tuple ds)from r)with|tup h t=>exact⟨_,_,rfl,h,t⟩
theorem Gp{a b:cw}{δ:List Slot}{es: List aq}{p pos: Pos}{kk}(k1 k2:Gm)(h1:VE X a δ (S5 k1 ds))(h2:VE X b δ (S5 k2 es))(hm:X.mg "zip"=none)(hg:Gl X "zip":=by rfl)(hs:starEach [a,b] X.env=(false,eval a X.env)::starEach [b] X.env:=by rfl)(qH:starEach [b] X.env=(false,eval b X.env)::starEach [] X.env:=by rfl)(hn:starEach [] X.env=[]:=by rfl):
  VI X (.Tuple elts kk tp) (.Call (.Name "zip" p) [a,b] [] pos) δ (zL ds es):=
 ⟨_,S4 k1 k2 hg hm (cV dD (cV dD fB qH) hs) (by rw[hs,qH,hn]) (by rw[qH,hn]),λB0 B σ H0 H R f q=>h1 B0 B σ H0 H _ f λv H1 dX g r1=>h2 B0 B σ H1 dX _ (f.grow g) λu H2 iL g2 r2=>by
  obtain⟨a1,xs,rfl,Ms,Wr⟩:=r1.QT;obtain⟨a2,ys,rfl,Gf,Uv⟩:=r2.QT;have Wr:=Wr.mono g2.gL;have Ms:=g2.gL.QT Ms;refine⟨a1,a2,rfl,⟨_,g2.sub.QT Ms⟩,⟨_,g2.sub.QT Gf⟩,q _ H2 iL (g.trans g2) λHa Hb s1 s2 i=>?_⟩
  have l1:=Wr.length;have l2:=Uv.length;have hS1:=(s1.trans s2).QT Ms;have hS2:=(s1.trans s2).QT Gf;refine⟨λhi=>?_,λhi=>⟨_,_,hS1,hS2,by rw[yh]at hi;omega⟩,λx AJ d hd ⟨t,x1,y1,e1,e2,e3,e4,e5⟩=>?_⟩
  ·rw[yh]at hi
   obtain⟨x,hx,_⟩:=Wr.get (i:=i) (d:=ds[i]'(by omega)) (by simp)
   obtain⟨y,hy,_⟩:=Uv.get (i:=i) (d:=es[i]'(by omega)) (by simp)
   exact⟨_,x,_,y,hS1,hx,hS2,hy⟩
  ·obtain⟨dx,dy,hx,hy,rfl⟩:=Mt hd
   subst e1;subst e3;refine⟨upd Ha t (.tup [x1,y1]),.laid s2 e2,.tup (qM.of b0) (.cons ?_ (.cons ?_ .nil))⟩
   ·exact((Wr.mono s1).at hx (e4 _ hS1)).mono (dW.laid s2 e2).gL
   ·exact((Uv.mono s1).at hy (e5 _ hS2)).mono (dW.laid s2 e2).gL⟩
end L2
namespace L2
open PySem PySem.Spec PyProof.Rows
open AutoSeq1 (wpAny_loadPart')
theorem Kb(l:aN)(items:Array aD)(n:Nat)(dd:Option aN)(sl:Array (Option aD))(x:aD)(e:aD->Bool)(i j:Nat)(t:Tok)(AI:i<=j)(hj:j<items.size)(S6:(j:Int)<2^63-1)
  (hit:e items[j]=true)(yC:∀m (hm:m<items.size),i<=m->m<j->e items[m]=false):
  Meets (p_.«list.index» ⟨[.ref l,x,.int i t],[]⟩)
   (λA R s=>s.heap.get? l=some { cls:=.type "list",dict:=dd,data:=.seq items n,slots:=sl }/\(∀y,y∈items->SeqAt.EqAt A.in1 s y x (e y))/\R (.ok (.ret (.int j s.toks))) { s with toks:=s.toks+1 }):=by
 intro prog w A R s h;obtain⟨hp,g,d,tk,os⟩:=s;obtain⟨hl,he,h⟩:=h
 wp_walk using gJ hl
 have a1:((λi:Int=>if i<0 then max 0 (i+(items.size:Int))else i) ((some (i:Int)).getD 0))=((i:Nat):Int):=by
  show(if(i:Int)<0 then max 0 ((i:Int)+(items.size:Int)) else(i:Int))=_
  rw[if_neg (by omega)]
 have a2:((λi:Int=>if i<0 then max 0 (i+(items.size:Int))else i) ((none:Option Int).getD (2^63-1)))=2^63-1:=by simp
 rw[a1,a2];exact⟨plainId_quiet sF _,vD PySem.MeetsSeq.entry_index_loop (by
  rw[tW sF _];exact SeqAt.index_loopAt l items n dd sl x e (2^63-1) j hj S6 hit _ i rfl AI yC prog w A R _ ⟨hl,he,h⟩)⟩
section
variable{X:Cx}{a b c e:cw}{es:List cw}{δ:List Slot}{d d1 d2 d3:aq}{ds:List aq}{pos:Pos}{k:Nat}
def Pa(K:av)(n:Nat):V->List V->Hp->VK->Prop:=λx vs H Q=>∃p ds y d i j,x=.ref p/\vs=[y,.int ((i:Nat):Int)]/\Rep K H (.ref p) (.list ds)/\Rep K H y d/\Lay n (.list ds)/\Lay n d/\i<=j/\(∃h:j<ds.length,cU ds[j] d=true)/\
 (∀m (h:m<ds.length),i<=m->m<j->cU ds[m] d=false)/\Q (.int j) H
theorem Kc{n:Nat}(hu:X.A.units+n+2<cLine):Up X "list.index" (Pa X.K n):=by
 intro pins s σ H x vs v us Q I rx rv h;obtain⟨p,ds,y,d,i,j,rfl,rfl,r1,r2,l1,l2,AI,⟨hj,hit⟩,yC,q⟩:=h;cases rx;obtain⟨u,u2,rfl,ru,Uu⟩:=vals2 rv;obtain⟨t2,rfl⟩:=Uu;obtain⟨bs,rb⟩:=j' I d l2.1 r2 ru;cases r1 with
 |lst hq rs=>
  obtain⟨its,Wb,⟨⟨cls,dd,data,sl⟩,m,eo,ec,_,ed⟩,hz⟩:=I.list hq;simp only at ec ed;subst ec ed;obtain⟨as,ra⟩:=mZ I ds l1.1 rs Wb;have hl:=Wb.length;have QO:=rs.length;have hm:=SeqAt.readsAll_map ds its as l1.1 ra;have rd:∀i (h1:i<its.length) (h2:i<ds.length),kE s.heap its[i]=ds[i]:=λi h1 h2=>by
   have e1:(its.map (kE s.heap))[i]?=some (kE s.heap its[i]):=by simp[h1]
   rw[hm]at e1;rw[aw h2]at e1;exact(c9 e1).symm
  have h1:=l2.2;have hn:=qO;have zas:sizeLine=16777216:=du;refine kU F.slot_list_index ⟨_,eo,rfl⟩ F.entry_list_index (F.args_list_index_3 _ _ _) (Kb p its.toArray m dd sl u (λy=>cU (kE s.heap y) d) i j t2 AI (by simp;omega) (by omega) ?_ ?_) ⟨eo,?_,?_⟩
  ·have:=rd j (by omega) hj
   simp only[nR];rw[this];exact hit
  ·intro i' hi zaM zaN
   simp only[bj]at hi;have:=rd i' hi (by omega)
   simp only[nR];rw[this];exact yC i' (by omega) zaM zaN
  ·exact SeqAt.items_eqAt (by simpa using ra) rb l1.1 l2.1 (by omega)
  ·exact⟨.int j,H,I.tok _,⟨_,rfl⟩,q⟩
theorem Kd{i j:Nat}{ap:Pos}(hr:fZ k X.A)(h1:VE X a δ (.list ds))(h2:VE X b δ d)(h3:VE X c δ (.int (i:Nat)))(l1:Lay 20 (.list ds))(l2:Lay 20 d)(AI:i<=j)(hj:∃h:j<ds.length,cU ds[j] d=true)(yC:∀m (h:m<ds.length),i<=m->m<j->cU ds[m] d=false)
  (hs:starEach [b,c] X.env=(false,eval b X.env)::starEach [c] X.env:=by rfl)(qH:starEach [c] X.env=(false,eval c X.env)::starEach [] X.env:=by rfl)(mX:attributeBase a "index" X.env (eval a X.env)=eval a X.env:=by rfl)
  (sQ:((backTo pos (starEach [b,c] X.env)).all (λx=>!x.1)&&(backToKw pos (keywordEach [] X.env)).all (λx=>x.1.isSome)&&decide (([b,c]:List cw).length+([]:List iI).length+(if([]:List iI).isEmpty then 0 else 1)<30))=true:=by rfl)
  (hline:(ap.endLine==pos.line)=true:=by rfl)(j9:(backTo pos (starEach [c] X.env)).any (·.1)=false:=by rfl):VE X (.Call (.Attribute a "index" ap) [b,c] [] pos) δ (.int j):=
 .of (yd gZ Bk Bl (Kc (A7 hr)) dD (cV dD (cV dD fB qH) hs) mX sQ hline hs j9) λB0 B σ H0 H Q f q=>h1 B0 B σ H0 H _ f λv H1 dX g r1=>by
  cases r1 with
  |lst hq rs=>
   refine⟨.inl ⟨rfl,_,g.sub.seq hq⟩,h2 B0 B σ H1 dX _ (f.grow g) λu H2 iL g2 r2=>h3 B0 B σ H2 iL _ ((f.grow g).grow g2) λu3 H3 ua g3 r3=>?_⟩
   cases r3;have gg:=g2.trans g3;exact⟨_,ds,u,d,i,j,rfl,rfl,.lst (gg.sub.seq (gg.gL.seq hq)) (rs.mono (gg.gL.trans gg.sub)),(r2.mono g3.gL).mono g3.sub,l1,l2,AI,hj,yC,q _ H3 ua (g.trans gg) (.int _)⟩
theorem yV{d1 d2:List aq}(h1:VE X a δ (.tuple d1))(h2:VE X b δ (.tuple d2))(hn:d1≠[])(hz:d1.length+d2.length<=sizeLine):VE X (.BinOp a .Add b pos) δ (.tuple (d1++d2)):=by
 refine .of (Ii Ow dD dD) λB0 B σ H0 H Q f q=>h1 B0 B σ H0 H _ f λv H1 dX g1 r1=>h2 B0 B σ H1 dX _ (f.grow g1) λu H2 iL g2 r2=>?_
 cases r1 with
 |tup hq r1=>
  cases r2 with
  |tup Gf r2=>
   have gg:=g1.trans g2;have e1:=r1.length;have hx:∀xs:List V,xs.length=d1.length->xs≠[]:=λxs h z=>by rw[z]at h;exact hn (nP h.symm)
   refine⟨_,_,_,_,rfl,rfl,g2.sub.qT (g2.gL.qT hq),g2.sub.qT Gf,hx _ e1,by rw[e1,r2.length];exact hz,λhy=>?_,λ_ p hp=>q _ _ _ (gg.trans (.laid g2.sub hp)) (.tup (qM.of b0) (((r1.mono g2.gL).append r2).mono (dW.laid g2.sub hp).gL))⟩
   subst hy;cases r2;rw[dA]at q;exact q _ H2 iL gg (.tup (g2.gL.qT hq) (r1.mono g2.gL))
end
end L2
namespace L2
open PySem PySem.Spec PyProof.Rows
variable{a p q:aN}{H:Hp}{kvs:List (Key×V)}{as:List aN}{xs:List V}{ig:Nat}{pt:Pos}{P:bM}{d:aq}{K:av}{Q:aD->aQ->Prop}{w:cy}
def Mu(K:av)(b:aN)(ws:List Str):Prop:=∃(o:Obj)(its:Array aD)(n:Nat),K.lookup b=some o/\o.cls=.type "tuple"/\o.data=.seq its n/\its.size<=sizeLine/\dZ (ws.map V.str) its.toList
inductive GE(pr:Ci)(K:av):List Cj->List (Str×List Str)->Prop
 |nil:GE pr K [] []
 |cons {h:Int} {k:Str} {t:Tok} {b:aN} {ws:List Str} {es:List Cj} {kvs:List (Str×List Str)}:h=aq.keyHash pr k->Mu K b ws->GE pr K es kvs->GE pr K (⟨h,.str k t,.ref b⟩::es) ((k,ws)::kvs)
structure GD(pr:Ci)(K:av)(a:aN)(kvs:List (Str×List Str)):Prop where
 nm:(a==sysModules)=false
 nd:(kvs.map (·.1)).Nodup
 ob:∃o es ep,K.lookup a=some o/\o.ExactDict/\o.data=.dict es ep/\GE pr K es.toList kvs
def kB(kvs:List (Str×List Str))(k:Str):Option (List Str):=(kvs.find? λp=>decide (p.1=k)).map (·.2)
theorem GE.pairs{P:bM}{w:cy}{K:av}:∀{es:List Cj}{kvs:List (Str×List Str)},GE w.params K es kvs->∃vs:List (Key×aD),Pairs (fE P w) es vs/\vs.map (·.1)=kvs.map (λp=>(cz p.1:Key))/\
  (∀e∈es,∃k,(fE P w).is k e.key=true/\e.hash=(fE P w).hash k)/\∀k,match kB kvs k with|none=>valueAt vs (cz k)=none|some ws=>∃b,valueAt vs (cz k)=some (.ref b)/\Mu K b ws
 |_,_,.nil=>⟨[],.nil,rfl,λe h=>by(cases h),λk=>rfl⟩
 |_,_,@GE.cons _ _ hh k t b ws es kvs e kt r=>by
  obtain⟨vs,h1,h2,h3,h4⟩:=GE.pairs (P:=P) r;refine⟨(.inr k,.ref b)::vs,.cons (sL P w k t) rfl h1,by rw[aR,aR,h2],λx hx=>?_,λj=>?_⟩
  ·rcases aJ.mp hx with rfl|hx
   ·exact⟨.inr k,sL P w k t,by rw[e];rfl⟩
   ·exact h3 x hx
  ·by_cases hj:k=j
   ·subst hj
    have:kB ((k,ws)::kvs) k=some ws:=by simp[kB,ft]
    rw[this];exact⟨b,by simp[valueAt,ft],kt⟩
   ·have:kB ((k,ws)::kvs) j=kB kvs j:=by simp[kB,ft,hj]
    rw[this];have e2:valueAt ((cz k,bA b)::vs) (cz j:Key)=valueAt vs (cz j):=by
     have:¬(cz k:Key)=cz j:=λz=>hj (by injection z)
     simp[valueAt,ft,this]
    rw[e2];exact h4 j
theorem GD.dict{h:dq}{kvs:List (Str×List Str)}(g:GD w.params K a kvs)(RH:K.In h):∃vs:List (Key×aD),h.DictOf (fE P w) a vs/\∀k,match kB kvs k with|none=>valueAt vs (cz k)=none|some ws=>∃b,valueAt vs (cz k)=some (.ref b)/\Mu K b ws:=by
 obtain⟨o,es,ep,h1,h2,h3,h4⟩:=g.ob;obtain⟨vs,p1,p2,p3,p4⟩:=h4.pairs (P:=P);refine⟨vs,⟨o,es,ep,RH a o h1,h2,h3,λe he=>p3 e (by simpa using he),p1,?_⟩,p4⟩
 rw[p2];have nd:=g.nd
 clear p2 p4 h4
 induction kvs with
 |nil=>exact Bh
 |cons p l ih=>
  rw[aR,ia]at nd ⊢;refine⟨λz=>nd.1 ?_,?_⟩
  ·obtain⟨q,hq,e⟩:=aI.mp z
   injection e with e
   exact aI.mpr ⟨q,hq,e⟩
  ·have go:∀l:List (Str×List Str),(l.map (·.1)).Nodup->(l.map λp=>(cz p.1:Key)).Nodup:=by
    intro l
    induction l with
    |nil=>intro _;exact Bh
    |cons p l ih=>
     intro nd;rw[aR,ia]at nd ⊢;refine⟨λz=>nd.1 ?_,ih nd.2⟩
     obtain⟨q,hq,e⟩:=aI.mp z
     injection e with e
     exact aI.mpr ⟨q,hq,e⟩
   exact go l nd.2
section
variable{X:Cx}{a b c e:cw}{δ:List Slot}{pos p:Pos}{k:Nat}{x y:Str}{kvs:List (Str×List Str)}{ws:List Str}{g:aN}
theorem xF:∀l:List Str,dz K H (l.map V.str) (l.map aH)
 | []=>.nil
 |z::l=>.cons (.str z) (xF l)
theorem IV(hm:X.mg x=some (.ref g))(G:GD X.w.params X.K g kvs)(h:VE X b δ (.str y))(hk:kB kvs y=some ws)(hg:Gl X x:=by rfl)(hs:OG b:=by intro _ _;rfl)(hd:(x==("__debug__":Str))=false:=by decide):VE X (.Subscript (.Name x p) b pos) δ (.tuple (ws.map .str)):=by
 have pe:PE X (.Subscript (.Name x p) b pos) (λσ H Q=>cE X b σ H λv H1=>v=.str y/\∀q,Mu X.K q ws->Q (.ref q) H1):=by
  intro pins s σ H Q I hw;refine Iw AA.lookup hs (gj (pq (pos:=p) hg hm (v:=.ref g) rfl hd pins s σ H (λv H'=>v=.ref g/\H'=H) I ⟨rfl,rfl⟩) λu s1 ⟨vx,H1,I1,rx,ex,eH⟩=>?_)
  subst ex eH;obtain rfl:u=bA g:=rx;refine gj (hw pins s1 I1) λiv s2 ⟨v,H2,I2,rv,ev,q⟩=>?_
  subst ev;obtain⟨vs,dd,hv⟩:=G.dict (P:=X.prog) I2.sv;have hv:=hv y;rw[hk]at hv;obtain⟨bb,hb,kt⟩:=hv;refine⟨dd.typeIs,wpAny_getItem_of (uG (k:=.inr y) rv) dd.mapOf hb ?_⟩
  exact⟨.ref bb,H2,I2.tok _,rfl,q bb kt⟩
 exact .of pe λB0 B σ H0 H Q f q=>h B0 B σ H0 H _ f λv H1 dX g1 r=>by
  cases r;exact⟨rfl,λb' hb=>q _ H1 dX g1 (.tup (.inr hb) (xF ws))⟩
theorem BG(hm:X.mg x=some (.ref g))(G:GD X.w.params X.K g kvs)(h:VE X b δ (.str y))(hg:Gl X x:=by rfl)(hd:(x==("__debug__":Str))=false:=by decide)(hmk:behindInMarks .NotIn (.Name x p)=false:=by with_unfolding_all rfl):VT X (.Compare b [.NotIn] [.Name x p] pos) δ (!(kB kvs y).isSome):=by
 have pc:PC X .NotIn b (.Name x p) (λσ H Q=>cE X b σ H λv H1=>v=.str y/\Q (.bl (!(kB kvs y).isSome)) H1):=by
  intro pins s σ H Q I hw;refine gj (hw pins s I) λiv s1 ⟨v,H1,I1,rv,ev,q⟩=>?_
  subst ev;refine gj (pq (pos:=p) hg hm (v:=.ref g) rfl hd pins s1 σ H1 (λv H'=>v=.ref g/\H'=H1) I1 ⟨rfl,rfl⟩) λu s2 ⟨vx,H2,I2,rx,ex,eH⟩=>?_
  subst ex eH;obtain rfl:u=bA g:=rx;obtain⟨vs,dd,hv⟩:=G.dict (P:=X.prog) I2.sv;have hv:=hv y;refine wpAny_notIn_of (uG (k:=.inr y) rv) G.nm dd.mapOf ?_
  have e:(valueAt vs (cz y)).isSome=(kB kvs y).isSome:=by
   cases el:kB kvs y with
   |none=>rw[el]at hv;rw[hv];rfl
   |some ws=>rw[el]at hv;obtain⟨bb,hb,_⟩:=hv;rw[hb];rfl
  rw[e];exact⟨.bl _,H2,I2.tok _,rfl,q⟩
 exact .of (RP pc hmk) λB0 B σ H0 H Q f q=>h B0 B σ H0 H _ f λv H1 dX g1 r=>by
  cases r;exact⟨rfl,_,rfl,q H1 dX g1⟩
end
section
variable{X:Cx}{a b c e:cw}{δ:List Slot}{d d1 d2:aq}{ds:List aq}{pos px py p:Pos}{x y:Str}{k:Nat}{kvs:List (Str×aq)}
theorem S7:Ys X (λx lo hi H Q=>∃z,x=.str z/\z.length<=sizeLine/\Q (.str (nH z lo hi)) H):=by
 intro pins s σ H x v vl vu lo hi sl Q I rx hs pl pu h;obtain⟨z,rfl,hz,q⟩:=h;obtain⟨t,rfl⟩:=rx;refine⟨"str",_,PySem.F.slot_str_getitem.lookup,uX _ _ _,?_⟩
 have fin:∀(l u:Option (Int×Tok)),l.map (·.1)=lo->u.map (·.1)=hi->s.heap.IsSlice sl l u none->wpAny (model X.prog X.w) X.A (getItem (.str z t) (.ref sl)) (EP X pins σ Q) X.xe s:=by
  intro l u e1 e2 hl;subst e1 e2;refine wpAny_getItem_str_slice (l:=l) (u:=u) (st:=none) hl rfl (post_val_or_str ⟨b9 (FH z _ _) hz,λt' k=>?_⟩)
  exact⟨.str (nH z _ _),H,I.tok _,⟨t',rfl⟩,q⟩
 obtain⟨os,h1,h2,h3⟩:=hs;cases pl with
 |none=>cases pu with
  |none=>exact fin none none rfl rfl ⟨os,h1,h2,h3⟩
  |int j t2=>exact fin none (some (j,t2)) rfl rfl ⟨os,h1,h2,h3⟩
 |int i t1=>cases pu with
  |none=>exact fin (some (i,t1)) none rfl rfl ⟨os,h1,h2,h3⟩
  |int j t2=>exact fin (some (i,t1)) (some (j,t2)) rfl rfl ⟨os,h1,h2,h3⟩
theorem BH{lo hi:Option cw}{l u:Option Int}{p2:Pos}(h:VE X a δ (.str x))(hz:x.length<=sizeLine)(hl:uI X δ lo l)(hh:uI X δ hi u):VE X (.Subscript a (.Slice lo hi none p2) pos) δ (.str (nH x l u)):=by
 obtain⟨tl,pl,ql⟩:=hl.ok;obtain⟨th,ph,qh⟩:=hh.ok;refine .of (zx S7 dD pl ph) λB0 B σ H0 H Q f q=>h B0 B σ H0 H _ f λv H1 dX g r=>ql B0 B σ H1 dX _ (f.grow g) λH2 iL g2=>qh B0 B σ H2 iL _ ((f.grow g).grow g2) λH3 ua g3=>?_
 cases r;exact⟨x,rfl,hz,q _ _ _ ((g.trans g2).trans g3) (.str _)⟩
inductive VP(X:Cx)(δ:List Slot):List (Option cw)->List cw->List (Str×aq)->Prop
 |nil:VP X δ [] [] []
 |cons {k v:cw} {ks vs} {x:Str} {d:aq} {r}:VE X k δ (.str x)->VE X v δ d->VP X δ ks vs r->VP X δ (some k::ks) (v::vs) ((x,d)::r)
theorem VP.ok{keys vals}(h:VP X δ keys vals kvs):keys.all (·.isSome)=true/\keys.length=vals.length/\keys.length=kvs.length/\∃JV,VG X pos keys vals JV/\∀B0 B σ H0 H Q,gW X.K B0 B H0 H σ δ->
  (∀fq H' (ws:List (Key×V)),dW H0 H fq H'->ws.map (·.1)=kvs.map (λp=>(cz p.1:Key))->dz X.K fq (ws.map (·.2)) (kvs.map (·.2))->Q (ws.map λkv=>(kV kv.1,kv.2)) H')->CK JV σ H Q:=by
 induction h with
 |nil=>exact⟨rfl,rfl,rfl,[],OL,λB0 B σ H0 H Q f q=>q _ _ [] (.refl f.sub) rfl .nil⟩
 | @cons k v ks vs x d r hk hv _ ih=>
  obtain⟨a1,a2,a3,JV,pp,ht⟩:=ih;refine⟨by simpa using a1,by simp[a2],by simp[a3],_,LN dD dD pp,λB0 B σ H0 H Q f q=>?_⟩
  refine hk B0 B σ H0 H _ f λu H1 dX g1 r1=>hv B0 B σ H1 dX _ (f.grow g1) λw H2 iL g2 r2=>?_
  cases r1;refine ht B0 B σ H2 iL _ ((f.grow g1).grow g2) λH3 ua ws g3 e1 rs=>?_
  exact q H3 ua ((cz x,w)::ws) ((g1.trans g2).trans g3) (by simp[e1]) (.cons (r2.mono g3.gL) rs)
theorem Pb:∀{kvs:List (Key×V)}{k:Key}{v:V},k∉kvs.map (·.1)->putK kvs k v=kvs ++ [(k,v)]:=by
 intro kvs k v h;unfold putK
 first
  |(rw[if_neg];simpa using h)
  |(simp at h;simp[h])
theorem BI:∀{more kvs:List (Key×V)},((kvs++more).map (·.1)).Nodup->sS kvs more=kvs++more
 | [],kvs,_=>by simp[sS]
 |p::more,kvs,h=>by
  show sS (putK kvs p.1 p.2) more=_;have hp:p.1∉kvs.map (·.1):=λz=>by
   rw[aX,aR]at h;exact(e8.mp h).2.2 _ z _ (aO) rfl
  rw[Pb hp,BI (by simpa using h)]
  simp
theorem IW{keys vals}(h:VP X δ keys vals kvs)(hn:(kvs.map (·.1)).Nodup)(h0:kvs≠[])(h15:kvs.length<=15):VE X (.Dict keys vals pos) δ (va kvs):=by
 obtain⟨a1,a2,a3,JV,pp,ht⟩:=h.ok (pos:=pos);refine .of (OO pp a1 a2 (λz=>h0 (List.length_eq_zero_iff.mp (by rw[<-a3,z];rfl))) (by omega)) λB0 B σ H0 H Q f q=>λp hp=>?_
 refine ht B0 B σ H0 _ _ (f.grow (.loose f.sub hp)) λH1 dX ws g e1 rs=>?_
 have gp:=g.big _ _ (b0 (H:=H) (a:=p) (o:=HO.dK []));have hp0:H1 p=none:=g.still (f.sub.free hp) b0;have wl:ws.length=kvs.length:=by have:=congrArg i5 e1;simpa using this
 refine⟨gp,ws,rfl,by omega,?_⟩
 rw[BI (by
  rw[AG,e1];have:(kvs.map λp=>(cz p.1:Key))=(kvs.map (·.1)).map (cz:Str->Key):=by rw[bC];rfl
  rw[this];exact List.Pairwise.map _ (λa b hab z=>hab (cz.inj z)) hn),AG]
 refine q (.ref p) (upd H1 p (.dK ws)) _ ⟨λb u eb=>?_,λb u eb=>?_,λb u eb=>?_,λb eb=>?_⟩ ?_
 ·have hb:b≠p:=bE eb hp
  rw[aT hb];exact g.big _ _ (by rw[aT hb];exact eb)
 ·have hb:b≠p:=bE eb (f.sub.free hp)
  rw[aT hb];exact g.gL _ _ eb
 ·by_cases hb:b=p
  ·subst hb;rw[b0]at eb ⊢;exact eb
  ·rw[aT hb]at eb ⊢;exact g.sub _ _ eb
 ·by_cases hb:b=p
  ·subst hb;exact .inr hp
  ·rw[aT hb]at eb
   rcases g.new b eb with z|z
   ·exact .inl z
   ·rw[aT hb]at z;exact .inr z
 ·refine .dct (kvs:=ws) b0 ?_ ?_
  ·rw[bC]
   have:ws.map (λp=>CN p.1)=(ws.map (·.1)).map CN:=by rw[bC];rfl
   rw[this,e1,bC];rfl
  ·rw[bC]
   refine(rs.mono λb u eb=>?_)
   rw[aT (bE eb hp0)];exact eb
theorem Mv{ap:Pos}(hr:fZ k X.A)(h3:VE X c δ (va kvs))(h1:VE X a δ (.str x))(h4:VE X e δ d)(m:M2 X c "get" ap a e pos:=by exact⟨rfl,rfl,rfl,rfl⟩):VE X (.Call (.Attribute c "get" ap) [a,e] [] pos) δ ((kO kvs x).getD d):=
 .of (LR (S1 hr) dD dD dD m) λB0 B σ H0 H Q fr q=>h3 B0 B σ H0 H _ fr λv H1 dX g r=>by
  obtain⟨p,ws,rfl,hp,ke,rs⟩:=r.sY;refine⟨p,rfl,.inl ⟨ws,.inl (g.sub _ _ hp)⟩,?_⟩
  refine h1 B0 B σ H1 dX _ (fr.grow g) λv H2 iL g2 r1=>h4 B0 B σ H2 iL _ ((fr.grow g).grow g2) λu H3 ua g3 r2=>?_
  cases r1;have gg:=g2.trans g3;refine⟨jQ ws (cz x),.inl ⟨ws,cz x,.inl (gg.big _ _ (g.sub _ _ hp)),rfl,rfl⟩,q _ H3 ua (g.trans gg) ?_⟩
  exact(zJ ke (rs.mono gg.gL) x).getD r2
theorem S8(i j:Int):pF K (λxs H Q=>∃i j,xs=[.int i,.int j]/\Q (.int (if j<i then j else i)) H) [.int i,.int j] (.int (if j<i then j else i)):=λvs H0 H Q s r q=>by
 obtain⟨v,u,rfl,r1,r2⟩:=r.two;cases r1;cases r2;exact⟨i,j,rfl,q _ _ _ (.refl s) (.int _)⟩
end
section
variable{X:Cx}{a b c e e1 e2:cw}{δ:List Slot}{d d1 d2:aq}{ds N5 ds2:List aq}{pos px py p:Pos}{x y:Str}{k:Nat}
theorem Pg(i j:Nat){FP: Pos}{kt k2}(h1:VO X a δ N5)(h2:VO X b δ ds2)(hc:X.calm=true)(hN:X.N.Nodup)(AI:i≠j)(hi:X.N[i]?=some x:=by rfl)(hj:X.N[j]?=some y:=by rfl)(hx:X.env.scope.names.lookup x=some .local:=by rfl)(hy:X.env.scope.names.lookup y=some .local:=by rfl)
  (hw:swappedStores [.Tuple [.Name x px,.Name y py] kt pt] (.Tuple [a,b] k2 FP) X.env=pure (some [x,y]):=by rfl)(hs:swapsWithSole [.Tuple [.Name x px,.Name y py] kt pt] (.Tuple [a,b] k2 FP) pos.line X.env=pure false:=by rfl)
  (Eh:starEach [a,b] X.env=(false,eval a X.env)::starEach [b] X.env:=by rfl)(qH:starEach [b] X.env=(false,eval b X.env)::starEach [] X.env:=by rfl):
  VS X (.Assign [.Tuple [.Name x px,.Name y py] kt pt] (.Tuple [a,b] k2 FP) pos) δ (.nx ((δ.set i (.own N5)).set j (.own ds2))):=λB0 B σ H0 H D f ok pins s I=>by
 refine Li hc hN hi hj AI hx hy (cV dD (cV dD fB qH) Eh) hw hs pins s σ H D I ?_
 refine h1 B0 B σ H0 H _ f λp xs H1 dX g a1 a2 a3 a4=>h2 B0 B σ H1 dX _ (f.grow g) λq ys H2 iL g2 b1 b2 b3 b4=>?_
 have gg:=g.trans g2;have fs:=f.grow gg;have npq:p≠q:=λz=>by rw[z,b1]at a3;cases a3
 have f1:=fs.zC (i:=i) (g2.big _ _ a3) (g2.still a2 a3) (f.ent.big.free a1) (a4.mono g2.gL) λj es e2 e3=>by
  obtain⟨p',LZ,g1,g2,_⟩:=f.slot j _ e2;rw[e3]at g1;cases g1;rw[a1]at g2;cases g2
 refine⟨_,_,rfl,ok _ H2 iL gg.gL (f1.zC b3 b2 ((f.grow g).ent.big.free b1) b4 λj es e2 e3=>?_)⟩
 by_cases hji:j=i
 ·subst hji
  have hl:j < σ.length:=by
   have:=(aL.mp e3).1;simpa using this
  rw[bf hl]at e3;cases e3;exact npq rfl
 ·rw[a7 (bU hji)]at e2 e3
  obtain⟨p',LZ,z1,z2,_⟩:=(f.grow g).slot j _ e2;rw[e3]at z1;cases z1;rw[b1]at z2;cases z2
end
section
variable{X:Cx}{K:av}{B0 B H0 H fq H' C0 C Ha Hb:Hp}{σ σ':St}{δ δ':List Slot}{a:aN}{ps:List aN}{gs:List (List aq)}
theorem wX.rep2(G:wX K B0 B a ps gs H0 H σ δ):∃Ha,er H0 Ha/\dW B0 B Ha H/\Rep K Ha (.ref a) (.list (gs.map .list)):=by
 have s0:er H0 (λq=>if q=a\/q∈ps then H q else H0 q):=λb u e=>by
  show(if b=a\/b∈ps then H b else H0 b)=some u
  split
  ·exact G.fr.sub b u e
  ·exact e
 refine⟨λq=>if q=a\/q∈ps then H q else H0 q,s0,⟨G.fr.ent.big,G.fr.ent.gL.trans s0,λb u e=>?_,λb e=>?_⟩,?_⟩
 ·have e:(if b=a\/b∈ps then H b else H0 b)=some u:=e
  split at e
  ·exact e
  ·exact G.fr.sub b u e
 ·have e:(if b=a\/b∈ps then H b else H0 b)≠none:=e
  split at e
  ·rename_i z
   rcases z with rfl|z
   ·exact .inr G.aB
   ·obtain⟨i,hi⟩:=tY.mp z
    have hl:i<gs.length:=by rw[<-G.len];exact(aL.mp hi).1
    exact .inr (G.cell i b gs[i] hi (by simp[hl])).2.1
  ·exact G.fr.ent.new b e
 ·refine .lst (lW.of (by show(if a=a\/a∈ps then H a else H0 a)=_;rw[if_pos (.inl rfl)];exact G.arr)) ?_
  have go:∀(l:List aN)(m:List (List aq)),l.length=m.length->(∀(i:Nat)p ds,l[i]?=some p->m[i]?=some ds->p∈ps/\∃xs,H p=some (.lst xs)/\dz K H0 xs ds)->dz K (λq=>if q=a\/q∈ps then H q else H0 q) (l.map V.ref) (m.map .list):=by
   intro l
   induction l with
   |nil=>
    intro m hm _;cases m with
    |nil=>exact .nil
    |cons _ _=>cases hm
   |cons p l ih=>
    intro m hm hc;cases m with
    |nil=>cases hm
    |cons ds m=>
     obtain⟨hp,xs,h1,h2⟩:=hc 0 p ds rfl rfl;refine .cons (.lst (lW.of (by show(if p=a\/p∈ps then H p else H0 p)=_;rw[if_pos (.inr hp)];exact h1)) (h2.mono s0)) (ih m (by simpa using hm) λi p' Fx e1 e2=>hc (i+1) p' Fx (by simpa using e1) (by simpa using e2))
  exact go ps gs G.len λi p ds e1 e2=>by
   obtain⟨_,_,xs,h1,h2⟩:=G.cell i p ds e1 e2;exact⟨bF e1,xs,h1,h2⟩
theorem wX.freeze(G:wX K B0 B a ps gs H0 H σ δ)(Uw:δ[ig]?=some (.ref a)):∃Ha,er H0 Ha/\gW K B0 B Ha H σ (δ.set ig (.val (.list (gs.map .list)))):=by
 obtain⟨Ha,sm,g,r⟩:=G.rep2;have hs:σ[ig]?=some (some (.ref a)):=G.fr.slot ig _ Uw;have f0:gW K B0 B Ha H σ δ:=by
  refine⟨g,G.fr.len,λi sl e=>?_,G.fr.apart⟩
  have q:=G.fr.slot i sl e;cases sl with
  |un=>trivial
  |ref _=>exact q
  |val d=>obtain⟨v,g1,g2⟩:=q;exact⟨v,g1,g2.mono sm⟩
  |own ds=>exact absurd e (qk G.no i ds)
 have f1:=f0.Gi (i:=ig) (v:=.ref a) (sl:=.val (.list (gs.map .list))) ⟨_,rfl,r⟩ rfl;have e:σ.set ig (some (.ref a))=σ:=by
  apply lY;intro i;by_cases h:i=ig
  ·subst h;rw[bf (aL.mp hs).1,hs]
  ·rw[a7 (bU h)]
 rw[e]at f1;exact⟨Ha,sm,f1⟩
end
section
variable{X:Cx}{B0 B H0 H fq H' Ha Hb:Hp}{σ σ':St}{D:Ends}{st:iH}{rest body orelse:List iH}{δ δ':List Slot}{a:aN}{ps:List aN}{gs:List (List aq)}{e c tg iter e1 e2 ea:cw}{d:aq}{ds:List aq}{pos px v8:Pos}{x y:Str}
def o6{α:Type}(l:List α)(i:Nat)(y:α):List α:=l.take i++y::l.drop i
def Ph:V->List V->Hp->VK->Prop:=λx vs H Q=>∃(l:aN)(xs:List V)(j:Int)(y:V),x=.ref l/\vs=[.int j,y]/\H l=some (.lst xs)/\0<=j/\j<=xs.length/\xs.length<sizeLine/\Q .non (upd H l (.lst (o6 xs j.toNat y)))
theorem dZ.ins{us:List aD}{y:V}{u:aD}(r:dZ xs us)(ru:RelV y u)(i:Nat):dZ (o6 xs i y) (o6 us i u):=(r.take i).append (.cons ru (r.drop i))
theorem Ke:Up X "list.insert" Ph:=by
 intro pins s σ H x vs v us Q I rx rv h;obtain⟨l,xs,j,y,rfl,rfl,hH,h0,hi,hz,q⟩:=h;cases rx;obtain⟨u1,u2,rfl,ru1,Uu⟩:=rv.two;obtain⟨t,rfl⟩:=ru1;obtain⟨z,its,n,r,hl,e⟩:=I.Vy hH;have oE:wU j=true:=by
  have:=du;unfold wU;simp;omega
 refine kU F.slot_list_insert ⟨_,e,rfl⟩ F.entry_list_insert (F.args_list_insert_3 _ _ _) (PySem.AutoSeq1.list_insert_list_int_val_1 l its.toArray n j t u2 (by rw[oE];decide) (by rw[bj];omega)) ⟨e,?_⟩
 refine⟨.non,_,I.Vx (its':=o6 its j.toNat u2) hH e ?_ (r.ins Uu j.toNat) ?_,rfl,q⟩
 ·show(its.toArray.extract 0 (if j<0 then(j+((its.toArray.size:Nat):Int)).toNat else min j.toNat its.toArray.size)).push u2++its.toArray.extract (if j<0 then(j+((its.toArray.size:Nat):Int)).toNat else min j.toNat its.toArray.size)=_
  rw[if_neg (by omega),bj,oy (by omega)]
  unfold o6;apply Array.toList_inj.mp;simp;rw[dF (by simp)]
 ·unfold o6
  rw[a8,bh,bW,cP];omega
theorem dz.ins{v:V}(r:dz K H xs ds)(rv:Rep K H v d)(i:Nat):dz K H (o6 xs i v) (o6 ds i d):=(r.take i).append (.cons rv (r.drop i))
theorem Mw(G:wX X.K B0 B a ps gs H0 H σ δ)(ig:Nat){j m:Nat}{p0 p4 ap:Pos}(Uw:δ[ig]?=some (.ref a))(ha:VE X ea δ (.int j))(hp:ps[j]?=some p)(hg:gs[j]?=some ds)(h1:VE X e1 (δ.set ig (.val (.list (gs.map .list)))) (.int m))(hn1:noOwn (δ.set ig (.val (.list (gs.map .list))))=true)(hm:m<=ds.length)(h2:VE X e2 δ d)(hz:ds.length<sizeLine)
  (q:∀σ' fq H',wX X.K B0 B a ps (gs.set j (o6 ds m d)) fq H' σ' δ->D.nx σ' H')(hig:X.N[ig]?=some x:=by rfl)
  (hv:D0 X.env.scope x:=by first|exact aV rfl|exact cX (aV rfl)|exact cX (cX rfl))(hd:(x==("__debug__":Str))=false:=by decide)(pT:(x==("__classdict__":Str))=false:=by decide)(pY:qR ea:=by intro _ _;rfl)
  (hs:starEach [e1,e2] X.env=(false,eval e1 X.env)::starEach [e2] X.env:=by rfl)(qH:starEach [e2] X.env=(false,eval e2 X.env)::starEach [] X.env:=by rfl)(mX:attributeBase (.Subscript (.Name x p0) ea p4) "insert" X.env (eval (.Subscript (.Name x p0) ea p4) X.env)=eval (.Subscript (.Name x p0) ea p4) X.env:=by rfl)
  (sQ:((backTo px (starEach [e1,e2] X.env)).all (λx=>!x.1)&&(backToKw px (keywordEach [] X.env)).all (λx=>x.1.isSome)&&decide (([e1,e2]:List cw).length+([]:List iI).length+(if([]:List iI).isEmpty then 0 else 1)<30))=true:=by rfl)
  (hline:(ap.endLine==px.line)=true:=by rfl)(j9:(backTo px (starEach [e2] X.env)).any (·.1)=false:=by rfl)(CM:swapsWith (.Call (.Attribute (.Subscript (.Name x p0) ea p4) "insert" ap) [e1,e2] [] px) none pos.line X.env=pure false:=by rfl):
  cS X (.Expr (.Call (.Attribute (.Subscript (.Name x p0) ea p4) "insert" ap) [e1,e2] [] px) pos) D σ H:=λpins s I=>by
 refine pw (yd gZ PySem.F.slot_list_insert PySem.F.type_list_insert Ke (Lz CF (gO hig hv hd pT) dD pY) (cV dD (cV dD fB qH) hs) mX sQ hline hs j9) CM pins s σ H D I ?_
 refine⟨.ref a,G.fr.slot ig _ Uw,?_⟩
 refine ha H0 H σ H0 H _ G.own λv H1 dX g r=>?_
 cases r;have G1:=G.go (G.own.grow g) G.no;obtain⟨c1,c2,xs,c3,c4⟩:=G1.cell j p ds hp hg;refine .inl ⟨a,_,_,.ref p,rfl,rfl,lW.of G1.arr,a9 (by rw[aP,hp];rfl),.inl ⟨rfl,_,lW.of c3⟩,?_⟩
 obtain⟨Ha,sm,ff⟩:=G1.freeze Uw;refine h1 Ha dX σ Ha dX _ (ff.re hn1 (.refl ff.sub)) λv Hb H2 g2 r2=>?_
 cases r2;have G2:wX X.K B0 B a ps gs H1 H2 σ δ:=G1.go (G1.own.grow (.far G1.fr.sub g2.big)) G1.no;refine h2 H1 H2 σ H1 H2 _ G2.own λw H3 ua g3 r3=>?_
 have G3:=G2.go (G2.own.grow g3) G2.no;obtain⟨k1,k2,ys,k3,k4⟩:=G3.cell j p ds hp hg;refine⟨p,ys,m,w,rfl,rfl,k3,by omega,by rw[k4.length];omega,by rw[k4.length];exact hz,q σ H3 _ ?_⟩
 have hjl:j<gs.length:=(aL.mp hg).1;have hpa:a≠p:=λz=>G.na (by rw[z];exact bF hp)
 refine⟨G3.fr.touch k1 k2 (qk G.no),G.no,by rw[aT hpa];exact G3.arr,G3.a0,G.aB,G.na,G.nd,by rw[oi];exact G.len,λi p' Fx e1 e2=>?_⟩
 by_cases hi:i=j
 ·subst hi
  rw[hp]at e1;cases e1;rw[bf hjl]at e2;cases e2;exact⟨k1,k2,_,b0,by rw[eJ];exact k4.ins r3 m⟩
 ·rw[a7 (bU hi)]at e2
  obtain⟨k1,k2,ys,k3,k4⟩:=G3.cell i p' Fx e1 e2;have np:p'≠p:=λz=>by
   subst z;have l1:=(aL.mp e1);have l2:=(aL.mp hp);exact hi ((List.getElem_inj G.nd (h₀:=l1.1) (h₁:=l2.1)).mp (by rw[l1.2,l2.2]))
  exact⟨k1,k2,ys,by rw[aT np];exact k3,k4⟩
theorem S9(G:wX X.K B0 B a ps gs H0 H σ δ){o:Out}(Uw:δ[ig]?=some (.ref a))(h:rO X rest (δ.set ig (.val (.list (gs.map .list)))) o)(q:∀Ha,er H0 Ha->uA X.K B0 B Ha D o):J1 X rest D σ H:=by
 obtain⟨Ha,sm,ff⟩:=G.freeze Uw;exact h B0 B σ Ha H D ff (q Ha sm)
end
section
variable{X:Cx}{a b c:cw}{δ:List Slot}{d1 d2 d3:aq}{pos px py pz:Pos}{x y z:Str}
theorem dz.three{vs:List V}(r:dz K H vs [d1,d2,d3]):∃v w u,vs=[v,w,u]/\Rep K H v d1/\Rep K H w d2/\Rep K H u d3:=by
 cases r with|cons a t=>cases t with|cons b t=>cases t with|cons c t=>cases t;exact⟨_,_,_,rfl,a,b,c⟩
theorem Pj(i j k:Nat){FP: Pos}{kt k2}(h1:VE X a δ d1)(h2:VE X b δ d2)(h3:VE X c δ d3)(hc:X.calm=true)(hN:X.N.Nodup)(AI:i≠j)(hik:i≠k)(DW:j≠k)(hi:X.N[i]?=some x:=by rfl)(hj:X.N[j]?=some y:=by rfl)(hk:X.N[k]?=some z:=by rfl)(hx:X.env.scope.names.lookup x=some .local:=by rfl)(hy:X.env.scope.names.lookup y=some .local:=by rfl)(hz:X.env.scope.names.lookup z=some .local:=by rfl)
  (hw:swappedStores [.Tuple [.Name x px,.Name y py,.Name z pz] kt pt] (.Tuple [a,b,c] k2 FP) X.env=pure (some [x,y,z]):=by rfl)(hs:swapsWithSole [.Tuple [.Name x px,.Name y py,.Name z pz] kt pt] (.Tuple [a,b,c] k2 FP) pos.line X.env=pure false:=by rfl)
  (Eh:starEach [a,b,c] X.env=(false,eval a X.env)::starEach [b,c] X.env:=by rfl)(qH:starEach [b,c] X.env=(false,eval b X.env)::starEach [c] X.env:=by rfl)(hs3:starEach [c] X.env=(false,eval c X.env)::starEach [] X.env:=by rfl):
  VS X (.Assign [.Tuple [.Name x px,.Name y py,.Name z pz] kt pt] (.Tuple [a,b,c] k2 FP) pos) δ (.nx (((δ.set i (.val d1)).set j (.val d2)).set k (.val d3))):=λB0 B σ H0 H D f ok pins s I=>by
 obtain⟨t,ha,qa⟩:=ao h1 (ao h2 (ao h3 aK hs3) qH) Eh;have h:=qa B0 B σ H0 H (λvs H1=>∃v w u,vs=[v,w,u]/\D.nx (((σ.set i (some v)).set j (some w)).set k (some u)) H1) f λvs H1 dX g rs=>by
  obtain⟨v,w,u,rfl,r1,r2,r3⟩:=rs.three;exact⟨v,w,u,rfl,ok _ H1 dX g.gL ((((f.grow g).set r1).set r2).set r3)⟩
 rw[exec_Assign_arm];refine au (lV ?_)
 rw[hs];refine au (aZ ?_)
 rw[if_neg (by decide)]
 refine au (Tuple_ (gj (ha _ pins s σ H _ I h) λus s1 ⟨vs,H1,I1,r1,q1⟩=>?_))
 obtain⟨v,w,u,e1,q1⟩:=q1;subst e1;obtain⟨u1,u2,u3,rfl,rv,rY,ru⟩:∃u1 u2 u3,us=[u1,u2,u3]/\RelV v u1/\RelV w u2/\RelV u u3:=by
  cases r1 with
  |cons p q=>
   cases q with
   |cons p' q'=>
    cases q' with
    |cons p2 q2=>
     cases q2;exact⟨_,_,_,rfl,p,p',p2⟩
 refine fj ?_ (by show 3<=sizeLine;decide)
 have I2:Inv X pins σ H1 { s1 with heap:=s1.heap.push { cls:=.type "tuple",data:=.seq [u1,u2,u3].toArray } }:=I1.kept (t':=s1.toks) λb o e=>aE _ e
 rw[hw];refine au (aZ ?_)
 show wpAny (model X.prog X.w) X.A (do rule "assign.swapped-stores";let items <-unpackItems (.ref s1.heap.objs.size) 3 none;assignInOrder [λv=>bindName X.env z v,λv=>bindName X.env y v,λv=>bindName X.env x v] items.reverse;pure DX) _ _ _
 refine au (y8 (au (unpackItems_tuple (items:=#[u1,u2,u3]) (I.ok.hd hc) (uD s1.heap _) λh' ZN=>?_)))
 have I3:=I2.kept (h':=h') (t':=s1.toks) λb o e=>ZN b o (bB (aW e)) e
 show wpAny _ _ (assignInOrder [λv=>bindName X.env z v,λv=>bindName X.env y v,λv=>bindName X.env x v] [u3,u2,u1] >>= λ_=>pure DX) _ _ _
 refine au (j3 (qK (mW I3 hN hk (.inl hz) ru (λs2 I4=>?_) (.inr hz))))
 refine j3 (qK (mW I4 hN hj (.inl hy) rY (λs3 I5=>?_) (.inr hy)))
 refine j3 (qK (mW I5 hN hi (.inl hx) rv (λs4 I6=>AW (aZ ?_)) (.inr hx)))
 have e:((σ.set k (some u)).set j (some w)).set i (some v)=((σ.set i (some v)).set j (some w)).set k (some u):=by
  rw[vH _ _ (bU DW),vH _ _ (bU hik),vH _ _ (bU AI)]
 rw[e]at I6;exact⟨_,H1,I6,q1⟩
theorem ud{k:Bool}(h:VE X a δ (.bool k)):VE X (.UnaryOp .Not a pos) δ (.bool (!k)):=.of (RT dD) λB0 B σ H0 H Q f q=>h B0 B σ H0 H _ f λv H1 dX g r=>by
 cases r;exact⟨k,rfl,q _ H1 dX g (.bl _)⟩
theorem wm{st:List iH}{o:Out}(h:∀B0 B σ H0 H D,gW X.K B0 B H0 H σ δ->uA X.K B0 B H0 D o->J1 X st D σ H):rO X st δ o:=h
end
section
variable{X:Cx}{a:cw}{δ:List Slot}{pos p:Pos}{x:Str}{ds:List aq}
theorem A_:jT X (.type "str") (λxs H Q=>∃x,xs=[.str x]/\Q (.str x) H):=by
 intro pins s σ H xs us Q I r h;obtain⟨x,rfl,q⟩:=h;obtain⟨u,rfl,t,rfl⟩:=vals1 r;exact PySem.P.str_of_str ⟨.str x,H,I,⟨t,rfl⟩,q⟩
theorem S_:pF K (λxs H Q=>∃x,xs=[.str x]/\Q (.str x) H) [.str x] (.str x):=λvs H0 H Q s r k=>by
 obtain⟨v,rfl,r1⟩:=r.one;cases r1;exact⟨x,rfl,k _ _ _ (.refl s) (.str _)⟩
theorem Pk(h:VE X a δ (.str x))(hm:X.mg "str"=none)(hg:Gl X "str":=by rfl)(hs:starEach [a] X.env=(false,eval a X.env)::starEach [] X.env:=by rfl):VE X (.Call (.Name "str" p) [a] [] pos) δ (.str x):=k9 A_ S_ (ao h aK hs) hm rfl hg (he:=hs)
theorem Pm:IB K (λxs H Q=>∃p ys,xs=[.ref p]/\(lW K H p ys\/qM K H p ys)/\∀l,H l=none->Q (.ref l) (upd H l (.lst ys))) [.tuple ds] ds:=λvs H0 H Q s r q=>by
 obtain⟨v,rfl,r1⟩:=r.one;cases r1 with
 |tup hq rs=>
  refine⟨_,_,rfl,.inr (s.qT hq),λl hl=>?_⟩
  exact q l _ H0 _ (.loose s hl) hl (s.free hl) b0 rs
end
section
variable{prog:bM}{w:cy}{A:ej}{E:aD->aQ->Prop}{s:aQ}
theorem Ba{l:aN}{items:Array aD}(hh:A.handled=none)(hl:s.heap.IsTuple l items)(T:Nat->dq->Prop)
  (t0:∀led h',h'.get? s.heap.objs.size=some (j_ led)->(∀b o,s.heap.get? b=some o->h'.get? b=some o)->T 0 h')
  (keep:∀i h h',T i h->(∀b o,b≠s.heap.objs.size+1->h.get? b=some o->h'.get? b=some o)->T i h')
  (add:∀i v (s':aQ) (Q:Bool->aQ->Prop) (E:aD->aQ->Prop),i<items.size->items[i]?=some v->T i s'.heap->(∀h' tk b,s'.toks<=tk->kI s.heap.objs.size s'.heap h'->T (i+1) h'->Q b { s' with heap:=h',toks:=tk })->wpAny (model prog w) A.in1.in1.in1 (setAdd s.heap.objs.size v) Q E s')
  (h:∀(h':dq)(tk:Nat),T items.size h'->(∀b o,b<s.heap.objs.size->s.heap.get? b=some o->h'.get? b=some o)->Q (.ref s.heap.objs.size) { s with heap:=h',toks:=tk }):
  wpAny (model prog w) A (call (.type "set") [.ref l]) Q E s:=by
 obtain⟨c,tl,zfX⟩:=kX.mro;have zdz:=kX.made;have OQ:=kX.sub;refine mq (codeAny_of_tree ?_)
 show wpAny _ _ (callAny (.type "set") _) _ _ _;refine aZ ⟨wV _ (by decide +kernel),vD F.entry_type_call ?_⟩
 rw[ej.under_plain (weight_type_call_type "set" [.ref l] []) rfl];have h1:=kX.notType;have h2:=kX.canCreate;have hct:=F.typeCall_set_1 (.ref l)
 repeat (any_goals (first|assumption|wp_step))
 refine lj (code_set_new_1 (.ref l) (E:=E) (Q₁:=λobj s₁=>∃led:Bool,obj=.ref s.heap.objs.size/\s₁={ s with heap:=s.heap.push (j_ led) }) λled=>⟨led,rfl,rfl⟩) λr s₁ hr=>?_
 cases r with
 |error e=>exact hr
 |ok fl=>
  cases fl with
  |ret obj=>
   obtain⟨led,rfl,rfl⟩:=hr;have hS:(s.heap.push (j_ led)).get? s.heap.objs.size=some (j_ led):=bQ _ rfl;have hT:aQ.TypeIs { s with heap:=s.heap.push (j_ led) } (.ref s.heap.objs.size) "set":=⟨_,hS,rfl⟩
   have hli:=kX.init.lookup;have hbi:=kX.init.bind (.ref s.heap.objs.size)
   repeat (any_goals (first|assumption|wp_step))
   refine lj (o5 (R:=wants (λr s₂=>r=.none/\∃h' tk,s₂={ s with heap:=h',toks:=tk }/\T items.size h'/\(∀b o,b<s.heap.objs.size->s.heap.get? b=some o->h'.get? b=some o)) E) kX.init.plain F.entry_set_init (check_set_init_1 hT ?_)) λr₂ s₂ hr₂=>?_
   ·obtain⟨ol,N8,J8,nl,Mm⟩:=hl
    obtain⟨zfY,Ws,zdB,S'⟩:=ol;simp only at J8 Mm;subst J8;subst Mm;have zaR:(s.heap.push (j_ led)).get? l=some { cls:=.type "tuple",dict:=Ws,data:=.seq items nl,slots:=S' }:=aE _ N8;have zfZ:=F.sub_tuple_set;have zf0:=F.sub_tuple_frozenset;have lR:(mU "tuple"==mU "dict")=false:=by decide
    have S3:(s.heap.push (j_ led)).IsTuple l items:=⟨_,zaR,rfl,nl,rfl⟩;unfold p_.«set.__init__» noKeywords p_.Frozenset.updateFrom
    generalize hPI:pyIter=PI
    wp_walk
    subst hPI;refine y9 S3 ?_
    refine au (wpAny_runValue ?_)
    have hlS:l<s.heap.objs.size:=aW N8;have hh3:A.in1.in1.in1.handled=none:=by simp[hh]
    have yN:(s.heap.push (j_ led)).objs.size=s.heap.objs.size+1:=gf _ _;have zaS:l≠(s.heap.push (j_ led)).objs.size:=by rw[yN];exact bB (mw hlS)
    have Yw:s.heap.objs.size∉[(s.heap.push (j_ led)).objs.size,l]:=by
     rw[yN];simp only[aJ,a_,b7,or_false,not_or];exact⟨bB (kK _),fy hlS⟩
    refine LV ((Walks.tuple hh3 _ l zaS items).toS) s.heap.objs.size Yw T (λi h h' t k=>keep i h h' t λb o hb e=>k b o ?_ e) (λi v s' Q E hi hv t q=>add i v s' Q E hi hv t q) (items.size-0) 0 _ (by omega) (bK _)
     ⟨⟨_,bQ _ rfl,rfl,rfl⟩,(S3.push _)⟩ ?hS0 ?hR
    ·rw[yN]
     intro z;rw[a_]at z;exact hb z
    case hS0=>
     exact t0 led _ (aE _ hS) λb o e=>aE _ (aE _ e)
    case hR=>
     intro s' hm VL;obtain⟨h',g',d',Wj,Lr⟩:=s';have eg:g'=s.gens:=hm.gens;have ed:d'=s.drawn:=hm.drawn;have eo:Lr=s.os:=hm.os;subst eg;subst ed;subst eo;show wpAny _ _ _ _ _ _;refine aZ ?_
     show wpAny _ _ (ret ef) _ _ _;refine aZ ⟨rfl,h',Wj,rfl,VL,λb o hb e=>?_⟩
     have Mx:b≠s.heap.objs.size:=bB hb;have hb2:b≠(s.heap.push (j_ led)).objs.size:=by rw[yN];exact bB (mw hb)
     exact hm.heap b o (by simp only[aJ,a_,b7,or_false,not_or];exact⟨Mx,hb2⟩) (aE _ (aE _ e))
   ·cases r₂ with
    |error e=>exact hr₂
    |ok fl₂=>
     cases fl₂ with
     |ret r=>
      obtain⟨rfl,h',tk,rfl,VL,YG⟩:=hr₂
      repeat (any_goals (first|assumption|wp_step))
      exact h _ _ VL YG
     |_=>exact hr₂.elim
  |_=>exact hr.elim
end
section
variable{X:Cx}{a b c e:cw}{δ:List Slot}{d d1 d2:aq}{ds:List aq}{pos p p2 J6:Pos}{k:Nat}
def Ta(K:av):List V->Hp->VK->Prop:=λxs H Q=>∃(a:aN)(ss:List Str),xs=[.ref a]/\qM K H a (ss.map V.str)/\ss.length<4000/\∀l,H l=none->Q (.ref l) (upd H l (.ext (J5 l (dd [] ss).length)))
theorem zM(hc:X.calm=true):jT X (.type "set") (Ta X.K):=by
 intro pins s σ H xs us Q I r h;obtain⟨a,ss,rfl,hq,h4,q⟩:=h;obtain⟨u,rfl,rx⟩:=vals1 r;cases rx;obtain⟨its,rv,pl,hz⟩:=I.tuple hq;have hlv:=rv.length;simp only[aj]at hlv;have hsz:its.toArray.size=ss.length:=by simp only[bj];omega
 refine Ba (I.ok.hd hc) (show s.heap.IsTuple _ _ from pl) (λi h=>(∀b o,s.heap.get? b=some o->h.get? b=some o)/\h.SetOf (strKind X.prog X.w) s.heap.objs.size (λk=>decide (k∈dd [] (ss.take i))) (dd [] (ss.take i)).length) (λled h' e k=>?_) (λi h h' ⟨k1,T⟩ k=>?_) (λi v s' Q' E' hi hv ⟨k1,T⟩ q'=>?_) (λh' tk ⟨k1,T⟩ _=>?_)
 ·have n0:dd [] (ss.take 0)=[]:=by rw[List.take_zero];rfl
  refine⟨k,?_⟩
  rw[n0];refine⟨_,#[],0,.fresh 0 0 led,e,⟨rfl,rfl,rfl⟩,rfl,(λe he=>by cases he),(λk=>⟨λz=>by simp at z,λ⟨e,he,_⟩=>by cases he⟩),(by show 0<scanBound;unfold scanBound;omega),rfl,rfl⟩
 ·refine⟨λb o e=>k b o ?_ (k1 b o e),?_⟩
  ·have:=aW e
   exact bB (mw this)
  ·obtain⟨o,es,ep,t,ho,rest⟩:=T
   exact⟨o,es,ep,t,k _ _ (bB (kK _)) ho,rest⟩
 ·rw[hsz]at hi
  have Ol:its[i]?=some v:=by simpa using hv
  obtain⟨x,t,hx,rfl⟩:=BF rv i v Ol;have his:(strKind X.prog X.w).is x (.str x t)=true:=by show vC x (.str x t)=true;simp[vC]
  have hle:=xC (ss.take i) [];simp only[cv,sG,bW]at hle;have etk:ss.take (i+1)=ss.take i ++ [x]:=by rw[dv,hx];rfl
  unfold setAdd;refine iP (au ((strKind X.prog X.w).pyHash his ?_))
  refine wpAny_setAddHashed_of (knd:=strKind X.prog X.w) (s:={ s' with toks:=s'.toks+1 }) his rfl T (by unfold scanBound;omega) λh' sb T'=>q' h' _ _ (jK _) sb ⟨λb o e=>?_,?_⟩
  ·have hb:=aW e
   rw[sb.2 b (bB hb)];exact k1 b o e
  ·have ed:dd [] (ss.take (i+1))=if decide (x∈dd [] (ss.take i))=true then dd [] (ss.take i)else dd [] (ss.take i) ++ [x]:=by rw[etk,BE];rfl
   rw[ed];by_cases hm:decide (x∈dd [] (ss.take i))=true
   ·rw[if_pos hm]at T' ⊢
    refine SetOf_congr T' (λk=>?_) rfl
    by_cases hk:k=x
    ·subst hk;rw[hm];rfl
    ·simp[hk]
   ·rw[if_neg hm]at T' ⊢
    refine SetOf_congr T' (λk=>?_) (by simp)
    rw[ic];simp
 ·rw[hsz,eW]at T
  exact⟨.ref s.heap.objs.size,_,I.laid k1 (aA _) (SetOf.zay T).ok,rfl,q _ (I.hok.fresh (aA _))⟩
theorem En{ss:List Str}(h:VE X a δ (.tuple (ss.map .str)))(hl:ss.length<4000)(hc:X.calm=true)(m1:X.mg "len"=none)(m2:X.mg "set"=none)(hg:Gl X "len":=by rfl)(hg2:Gl X "set":=by rfl)
  (hs:starEach [a] X.env=(false,eval a X.env)::starEach [] X.env:=by rfl)(qH:starEach [.Call (.Name "set" p2) [a] [] J6] X.env=(false,eval (.Call (.Name "set" p2) [a] [] J6) X.env)::starEach [] X.env:=by rfl)(pY:(backTo J6 (starEach [] X.env)).any (·.1)=false:=by rfl)(zaU:(backTo pos (starEach [] X.env)).any (·.1)=false:=by rfl):
  VE X (.Call (.Name "len" p) [.Call (.Name "set" p2) [a] [] J6] [] pos) δ (.int (dd [] ss).length):=
 .of (lD A8 hg m1 uz (cV (xq (zM hc) hg2 m2 (by rfl) (cV dD fB hs) (by decide) (by decide) hs pY) fB qH) (by decide) (by decide) qH zaU) λB0 B σ H0 H Q f q=>h B0 B σ H0 H _ f λv H1 dX g r=>by
  cases r with
  |tup hq rs=>
   have e:=rs.strs;subst e;have:=xC ss [];exact⟨_,ss,rfl,g.sub.qT hq,hl,λl hl'=>⟨l,_,rfl,b0,by simp at this;omega,q _ H1 _ (g.trans (.loose g.sub hl')) (.int _)⟩⟩
def zN:List Bool->Bool:=λl=>l.any id
theorem My(hc:X.calm=true):jT X (.builtin "any") (λxs H Q=>∃p bs,xs=[.ref p]/\lW X.K H p (bs.map V.bl)/\Q (.bl (zN bs)) H):=by
 intro pins s σ H xs us Q I r h;obtain⟨p,bs,rfl,hq,q⟩:=h;obtain⟨u,rfl,rx⟩:=vals1 r;cases rx;obtain⟨its,rv,pl,hz⟩:=I.list hq;have hl:=rv.length;simp only[aj]at hl;refine call_any_walkS (sj pl.isList ?_)
 have lR:p≠s.heap.objs.size:=bB (aW pl.isList.choose_spec.1);have hbl:∀(i:Nat)v,its.toArray[i]?=some v->v=.bool (bs.getD i false):=λi v hv=>by
  have Ol:its[i]?=some v:=by simpa using hv
  have e:=rv.getD i;have e2:its.getD i ef=v:=by rw[aG,Ol];rfl
  have hi:i<bs.length:=by have:=(aL.mp Ol).1;omega
  have e3:(bs.map V.bl).getD i .non=.bl (bs.getD i false):=by
   rw[aG,aP,aG,aw hi];rfl
  rw[e2,e3]at e;exact e
 refine⟨_,_,_,_,_,_,_,λi=>bs.getD i false,rfl,(Walks.list (by simp[I.ok.hd hc]) _ p lR its.toArray).toS,⟨⟨_,bQ _ rfl,rfl,rfl⟩,pl.isList.push _⟩,?_,λs' hm=>?_⟩
 ·intro i v Q' E' s' hv q'
  rw[hbl i v hv];exact eO q'
 ·have ea:(cp its.toArray.size).any (λi=>bs.getD i false)=zN bs:=by
   rw[bj,<-hl];unfold zN;rw[ic,yK,yK]
   constructor
   ·rintro⟨i,hi,h⟩
    have hi:=cY.mp hi;rw[aG,aw hi]at h;exact⟨_,cK hi,h⟩
   ·rintro⟨x,hx,h⟩
    obtain⟨i,hi⟩:=tY.mp hx;refine⟨i,cY.mpr (aL.mp hi).1,?_⟩
    rw[aG,hi];exact h
  rw[ea];obtain⟨h',g',d',Wj,Lr⟩:=s';have eg:g'=s.gens:=hm.gens;have ed:d'=s.drawn:=hm.drawn;have eo:Lr=s.os:=hm.os;subst eg;subst ed;subst eo;refine⟨.bl _,H,I.kept (t':=Wj) λb o e=>hm.heap b o ?_ (aE _ e),rfl,q⟩
  have:=aW e;simp only[a_];exact bB this
theorem Wt{bs:List Bool}:pF K (λxs H Q=>∃p bs,xs=[.ref p]/\lW K H p (bs.map V.bl)/\Q (.bl (zN bs)) H) [.list (bs.map .bool)] (.bool (zN bs)):=λvs H0 H Q s r q=>by
 obtain⟨v,rfl,r1⟩:=r.one;cases r1 with
 |lst hq rs=>
  have e:=rs.bls;subst e;exact⟨_,bs,rfl,s.seq hq,q _ _ _ (.refl s) (.bl _)⟩
theorem xG:fillsNumberSlot (.type "tuple") "mul"=pure false:=
 PySem.fillsNumberSlot_seq (id:="tuple.__mul__") (r:=some (.builtin "tuple.__rmul__")) sH.lookup (by decide +kernel) F.slot_tuple_rmul.lookup (by decide +kernel)
theorem CZ:seqRepeat? (.type "tuple")=pure (some (.builtin "tuple.__mul__")):=by
 unfold seqRepeat?;rw[PySem.seqSlot_of (T:="tuple") (name:="__mul__") (id:="tuple.__mul__") sH.lookup (by decide +kernel),PySem.seqSlot_of (T:="tuple") (name:="__rmul__") (id:="tuple.__rmul__") F.slot_tuple_rmul.lookup (by decide +kernel)]
 rfl
theorem zO(i:Int)(t:Tok)(l:aN)(items:Array aD)(n:Nat)(dd:Option aN)(sl:Array (Option aD)):
  Meets (p_.«int.__rmul__» ⟨[.int i t,.ref l],[]⟩) (λ_ R s=>s.heap.get? l=some { cls:=.type "tuple",dict:=dd,data:=.seq items n,slots:=sl }/\R (.ok (.ret aD.notImplemented)) s):=
 .of_wp λprog w A R s h=>by obtain⟨hp,g,d,tk,os⟩:=s;obtain⟨hl,h⟩:=h;wp_walk;exact⟨_,rfl,h⟩
theorem Bb(l:aN)(items:Array aD)(n:Nat)(dd:Option aN)(sl:Array (Option aD))(t:Tok):
  Meets (p_.«tuple.__mul__» ⟨[.ref l,.int 1 t],[]⟩) (λ_ R s=>s.heap.get? l=some { cls:=.type "tuple",dict:=dd,data:=.seq items n,slots:=sl }/\R (.ok (.ret (.ref l))) s):=
 .of_wp λprog w A R s h=>by
  obtain⟨hp,g,d,tk,os⟩:=s;obtain⟨hl,h⟩:=h;have f1:=HW;have f2:=AH;have c1:(items.isEmpty||(1:Int)==1)=true:=by simp
  wp_walk using gJ hl
  exact⟨_,rfl,h⟩
theorem zP(l:aN)(its:List aD)(n:Nat)(dd:Option aN)(sl:Array (Option aD))(k:Int)(t:Tok)(hk:2<=k)(IX:k<2^63)(lR:its≠[])(hsz:its.length*k.toNat<=sizeLine):
  Meets (p_.«tuple.__mul__» ⟨[.ref l,.int k t],[]⟩) (λ_ R s=>s.heap.get? l=some { cls:=.type "tuple",dict:=dd,data:=.seq its.toArray n,slots:=sl }/\R (.ok (.ret (.ref s.heap.objs.size))) { s with heap:=s.heap.push { cls:=mU "tuple",data:=Data.seq (bu k.toNat its).flatten.toArray } }):=
 .of_wp λprog w A R s h=>by
  obtain⟨hp,g,d,tk,os⟩:=s;obtain⟨hl,h⟩:=h;have f1:=HW;have f2:=AH;have Wu:its.toArray.isEmpty=false:=by cases its with|nil=>exact absurd rfl lR|cons _ _=>rfl
  have zf7:its.toArray.size*k.toNat<=sizeLine:=by rw[bj];exact hsz
  have Wv:List.foldl (λx1 x2=>x1++x2) #[] (bu k.toNat its.toArray)=(bu k.toNat its).flatten.toArray:=by
   have:=foldl_rep its k.toNat [];rw[AG]at this;exact this
  generalize hI:its.toArray=items at *
  have YH:¬(decide (k < -2^63)||decide (k>=2^63))=true:=by simp;omega
  have hc1:¬(items.isEmpty||k==1)=true:=by rw[Wu];simp;omega
  have Uo:¬(decide (k<=0)||items.isEmpty)=true:=by rw[Wu];simp;omega
  have hmul:(items.size:Int)*k=((items.size*k.toNat:Nat):Int):=by rw[Int.natCast_mul,Int.toNat_of_nonneg (by omega)]
  have Tb:(sizeLine:Int)<=(2^63-1)/8:=by decide
  have hc3:¬((items.size:Int)*k>(2^63-1)/8):=by rw[hmul];omega
  have hc4:¬vN ((items.size:Int)*k)=true:=by unfold vN;rw[hmul];simp only[gt_iff_lt,decide_eq_true_eq];omega
  wp_walk using gJ hl
  refine lZ (decide_eq_false YH) ?_
  wp_walk using gJ hl
  refine lZ (decide_eq_false hc1) ?_
  wp_walk using gJ hl
  refine lZ (decide_eq_false Uo) ?_
  wp_walk using gJ hl
  refine lZ (decide_eq_false hc3) ?_
  wp_walk using gJ hl
  refine lZ (decide_eq_false hc4) ?_
  wp_walk using gJ hl
  rw[Wv];refine lZ (decide_eq_false ?_) ?_
  ·rw[bj,len_rep]
   have:items.size=its.length:=by rw[<-hI,bj]
   rw[Nat.mul_comm];omega
  wp_walk
  exact⟨_,rfl,h⟩
def Ww(K:av):R2:=λx y H Q=>∃a k xs,x=.ref a/\y=.int k/\qM K H a xs/\1<=k/\k<2^63/\xs≠[]/\xs.length*k.toNat<=sizeLine/\(k=1->Q (.ref a) H)/\(k≠1->∀p,H p=none->Q (.ref p) (upd H p (.tup (bu k.toNat xs).flatten)))
theorem Pn:rM X (binaryOp .Mult) (Ww X.K):=by
 intro pins s σ H x y v u Q I rx ry h;obtain⟨a,k,xs,rfl,rfl,ha,h1,h2,hx,hz,q1,q2⟩:=h;cases rx;obtain⟨t,rfl⟩:=ry;obtain⟨its,r1,p1,_⟩:=I.tuple ha;obtain⟨⟨cls,dd,data,sl⟩,ho,hc,n,hd⟩:=id p1;simp only at hc hd;subst hc hd;refine wpAny_binaryOp_repeat_ref (T:="tuple") (U:="int") (by decide) ⟨_,ho,rfl⟩ (λs'=>typeIs_int s' k t) xG F.fills_int_mul F.slot_int_rmul CZ F.slot_int_index.lookup
  (kU F.slot_int_rmul (typeIs_int s k t) F.entry_int_rmul (F.args_int_rmul_2 _ _) (zO k t a its.toArray n dd sl) ⟨ho,rfl,⟨_,ho,rfl⟩,?_⟩)
 by_cases hk:k=1
 ·subst hk
  exact kU sH ⟨_,ho,rfl⟩ F.entry_tuple_mul (F.args_tuple_mul_2 _ _) (Bb a its.toArray n dd sl t) ⟨ho,.ref a,H,I,rfl,q1 rfl⟩
 ·refine kU sH ⟨_,ho,rfl⟩ F.entry_tuple_mul (F.args_tuple_mul_2 _ _) (zP a its n dd sl k t (by omega) h2 (λz=>hx (r1.yO.mp z)) (by rw[<-r1.length];exact hz)) ⟨ho,?_⟩
  refine⟨.ref s.heap.objs.size,_,I.laid (t':=s.toks) (o:=.tup (bu k.toNat xs).flatten) (λb ob q=>aE _ q) (aA _) ?_,rfl,q2 hk _ (I.hok.fresh (aA _))⟩
  exact⟨by rw[len_rep,Nat.mul_comm];exact hz,_,r1.rep k.toNat,uD _ _⟩
theorem Pp{n:Int}(h1:VE X a δ (.tuple ds))(h2:VE X b δ (.int n))(hn:1<=n)(Lp:n<=1000)(hz:ds.length<=100)(lR:ds≠[]):VE X (.BinOp a .Mult b pos) δ (.tuple (bu n.toNat ds).flatten):=by
 refine .of (Ii Pn dD dD) λB0 B σ H0 H Q f q=>h1 B0 B σ H0 H _ f λv H1 dX g1 r1=>h2 B0 B σ H1 dX _ (f.grow g1) λu H2 iL g2 r2=>?_
 cases r2;cases r1 with
 |tup hq rs=>
  rename_i ad xs
  have gg:=g1.trans g2;have hl:=rs.length;have h63:(1000:Int)<2^63:=by decide
  have Uv:=rs.mono g2.gL;have go:∀m,dz X.K H2 (bu m xs).flatten (bu m ds).flatten:=by
   intro m
   induction m with
   |zero=>exact .nil
   |succ m ih=>rw[eC,gi,eC,gi];exact Uv.append ih
  refine⟨_,n,_,rfl,rfl,g2.sub.qT (g2.gL.qT hq),hn,by omega,λz=>?_,?_,λe=>?_,λ_ p hp=>?_⟩
  ·rw[z]at hl
   exact lR (nP hl.symm)
  ·rw[du,hl]
   have:n.toNat<=1000:=by omega
   have:=ju hz this;omega
  ·refine q _ H2 iL gg ?_
   have e2:(bu n.toNat ds).flatten=ds:=by rw[e];simp
   rw[e2];exact .tup (g2.gL.qT hq) Uv
  ·exact q _ _ _ (gg.trans (.laid g2.sub hp)) (.tup (qM.of b0) ((go _).mono (dW.laid g2.sub hp).gL))
end
def xH(as:List aN)(H H0:Hp):Hp:=λq=>if q∈as then H q else H0 q
theorem C5{H0: Hp}(h:q∈as):xH as H H0 q=H q:=if_pos h
theorem zQ{H0: Hp}(h:q∉as):xH as H H0 q=H0 q:=if_neg h
abbrev OR:=Hp->Hp->List aN->Prop
def zR(R:OR):Prop:=∀H0 H Ha Hb as,R H0 H as->er H0 Ha->(∀a∈as,Hb a=H a)->R Ha Hb as
structure OF(K:av)(B0 B:Hp)(R:OR)(H0 H:Hp)(σ:St)(δ:List Slot):Prop where
 fr:gW K B0 B H0 H σ δ
 no:noOwn δ=true
 ex:∃as:List aN,(∀a∈as,H0 a=none/\B a=none/\H a≠none)/\R H0 H as
section
variable{K:av}{B0 B H0 H fq H' C0 C Ha Hb:Hp}{σ σ':St}{δ δ':List Slot}{R R':OR}
theorem er.eq{H': Hp}(s:er H H')(h:H a≠none):H' a=H a:=by
 cases e:H a with
 |none=>exact absurd e h
 |some o=>exact s a o e
theorem OF.go(m:zR R)(G:OF K B0 B R H0 H σ δ)(f':gW K H0 H Ha Hb σ' δ')(hn:noOwn δ'=true):OF K B0 B R Ha Hb σ' δ':=by
 obtain⟨as,h1,h2⟩:=G.ex;refine⟨f'.re hn (G.fr.ent.trans f'.ent),hn,as,λa ha=>?_,m _ _ _ _ _ h2 f'.ent.gL λa ha=>f'.ent.big.eq (h1 a ha).2.2⟩
 obtain⟨z1,z2,z3⟩:=h1 a ha;cases e:H a with
 |none=>exact absurd e z3
 |some o=>exact⟨f'.ent.still z1 e,z2,f'.ent.big.ne z3⟩
theorem OF.from(G:OF K B0 B R H0 H σ δ)(g:dW C0 B H0 H):OF K C0 B R H0 H σ δ:=⟨G.fr.re G.no g,G.no,G.ex⟩
theorem OF.own(G:OF K B0 B R H0 H σ δ):gW K H0 H H0 H σ δ:=G.fr.re G.no (.refl G.fr.sub)
theorem OF.forget(m:zR R)(G:OF K B0 B R H0 H σ δ)(hf:N7 δ δ')(hn:noOwn δ'=true):OF K B0 B R H0 H σ δ':=G.go m (G.own.forget hf.len hf.at) hn
theorem zS(sb:er H0 H):er H0 (xH as H H0):=λb u e=>by
 by_cases hb:b∈as
 ·rw[C5 hb];exact sb b u e
 ·rw[zQ hb];exact e
theorem IY(sb:er H0 H):er (xH as H H0) H:=λb u e=>by
 by_cases hb:b∈as
 ·rw[C5 hb]at e;exact e
 ·rw[zQ hb]at e;exact sb b u e
theorem OF.look(G:OF K B0 B R H0 H σ δ){i:Nat}(hi:δ[i]?=some (.ref p))(hR:∀Ha Hb as,er Ha Hb->R Ha Hb as->Rep K (xH as Hb Ha) (.ref p) d):∃C0,gW K C0 H C0 H σ (δ.set i (.val d)):=by
 obtain⟨as,h1,h2⟩:=G.ex;have sm:=zS (as:=as) G.fr.sub;have hs:σ[i]?=some (some (.ref p)):=G.fr.slot i _ hi;have f0:gW K (xH as H H0) H (xH as H H0) H σ δ:=by
  refine⟨.refl (IY G.fr.sub),G.fr.len,λi sl e=>?_,G.fr.apart⟩
  have q:=G.fr.slot i sl e;cases sl with
  |un=>trivial
  |ref _=>exact q
  |val d=>obtain⟨v,g1,g2⟩:=q;exact⟨v,g1,g2.mono sm⟩
  |own ds=>exact absurd e (qk G.no i ds)
 have f1:=f0.Gi (i:=i) (v:=.ref p) (sl:=.val d) ⟨_,rfl,hR H0 H as G.fr.sub h2⟩ rfl;have e:σ.set i (some (.ref p))=σ:=by
  apply lY;intro j;by_cases h:j=i
  ·subst h;rw[bf (aL.mp hs).1,hs]
  ·rw[a7 (bU h)]
 rw[e]at f1;exact⟨_,f1⟩
theorem OF.rep(G:OF K B0 B R H0 H σ δ)(hR:∀Ha Hb as,er Ha Hb->R Ha Hb as->Rep K (xH as Hb Ha) (.ref p) d):∃Ha,dW B0 B Ha H/\Rep K Ha (.ref p) d:=by
 obtain⟨as,h1,h2⟩:=G.ex;refine⟨xH as H H0,⟨G.fr.ent.big,G.fr.ent.gL.trans (zS G.fr.sub),IY G.fr.sub,λb e=>?_⟩,hR H0 H as G.fr.sub h2⟩
 by_cases hb:b∈as
 ·exact .inr (h1 b hb).2.1
 ·rw[zQ hb]at e;exact G.fr.ent.new b e
end
section
variable{X:Cx}{B0 B H0 H fq H' Ha Hb:Hp}{σ σ':St}{D:Ends}{st:iH}{rest body orelse:List iH}{δ δ':List Slot}{a p:aN}{e c tg iter:cw}{d dp:aq}{ds:List aq}{pos px v8:Pos}{x y:Str}{R:OR}
theorem Mz(m:zR R)(G:OF X.K B0 B R H0 H σ δ)(h:VS X st δ (.nx δ'))(hn:noOwn δ'=true)(q:∀σ' fq H',OF X.K B0 B R fq H' σ' δ'->D.nx σ' H'):cS X st D σ H:=
 h H0 H σ H0 H D G.own λσ' Ha Hb sm f'=>q σ' Ha Hb (G.go m f' hn)
theorem Tc(m:zR R)(G:OF X.K B0 B R H0 H σ δ)(i j:Nat)(hi:δ[i]?=some (.ref p))(hR:∀Ha Hb as,er Ha Hb->R Ha Hb as->Rep X.K (xH as Hb Ha) (.ref p) dp)(h:VE X e (δ.set i (.val dp)) d)(hs:Eg d=true)(hn:noOwn (δ.set j (.val d))=true)(q:∀σ' fq H',OF X.K B0 B R fq H' σ' (δ.set j (.val d))->D.nx σ' H')(hN:X.N.Nodup)
  (hj:X.N[j]?=some y:=by rfl)(hx:Loc X.env.scope y:=by first|exact aV rfl|exact cX rfl)(CM:swapsWith e (some (.Name y px)) pos.line X.env=pure false:=by rfl)(hf:X.fn y=true\/X.env.scope.names.lookup y=some .local:=by first|exact .inl rfl|exact .inr rfl):
  cS X (.Assign [.Name y px] e pos) D σ H:=λpins s I=>by
 refine zo (i:=j) hN hj hx dD CM hf pins s σ H D I ?_
 obtain⟨C0,f1⟩:=G.look hi hR;refine h C0 H σ C0 H _ f1 λv C1 H1 g1 r=>?_
 have G1:OF X.K B0 B R H0 H1 σ δ:=G.go m (G.own.grow (.far G.fr.sub g1.big)) G.no;exact q _ H0 H1 (G1.go m (G1.own.Gi (v:=v) (sl:=.val d) ⟨_,rfl,r.J3 hs⟩ rfl) hn)
theorem Wx{tgt:IC}(Rs:Nat->OR)(m:∀k,zR (Rs k))(G:OF X.K B0 B (Rs 0) H0 H σ δ)(hp:B' (model X.prog X.w) X.A X.env X.xe)(hc:X.calm=true)(hi:VI X tg iter δ ds)(hg:PG X tg (L7 X.K tgt))
  (step:∀k d,ds[k]?=some d->∃δ',zD tgt d δ=some δ'/\noOwn δ'=true/\∀(D:Ends)C0 σ' fq H',OF X.K C0 B (Rs k) fq H' σ' δ'->(∀σ2 Ha Hb,OF X.K C0 B (Rs (k+1)) Ha Hb σ2 δ->D.nx σ2 Hb)->J1 X body D σ' H')
  (q:∀σ2 Ha Hb,OF X.K B0 B (Rs ds.length) Ha Hb σ2 δ->D.nx σ2 Hb)
  (hs:∀x,foldedSetIterable iter X.env x=pure x:=by intro _;rfl):cS X (.For tg iter body [] pos) D σ H:=λpins s I=>by
 obtain⟨wi,pi,qi⟩:=hi;refine Cy hp hc pi hg mh hs pins s σ H D I ?_
 refine qi H0 H σ H0 H _ G.own λJ H1 dX g it=>?_
 have G1:=G.go (m 0) (G.own.grow g) G.no;refine⟨λi mm σ' H'=>i<=ds.length/\mm=ds.length-i/\∃Ha,OF X.K H1 B (Rs i) Ha H' σ' δ,⟨ds.length,bK _,rfl,H1,G1.from ⟨G1.fr.ent.big,er.refl _,G1.fr.sub,λ_ z=>.inl z⟩⟩,?_⟩
 rintro i mm σ' H' ⟨hi,rfl,Ha,Ga⟩
 obtain⟨i1,i2,i3⟩:=it Ha H' Ga.fr.ent.gL Ga.fr.sub i;by_cases qI:i<ds.length
 ·have hd:ds[i]?=some ds[i]:=by simp[qI]
  obtain⟨δ',e1,e2,e3⟩:=step i _ hd;refine .inr ⟨i1 qI,λσ'' AJ=>∃Hb,OF X.K H1 B (Rs (i+1)) Hb AJ σ'' δ,λσ'' AJ ⟨Hb,z⟩=>⟨ds.length-(i+1),by omega,qI,rfl,Hb,z⟩,λv H2 y=>?_⟩
  obtain⟨Hb,g2,rx⟩:=i3 v H2 _ hd y;refine qV (Ga.own.grow g2) rx e1 λσ3 f3=>?_
  exact e3 _ H1 σ3 Hb H2 (Ga.go (m i) f3 e2) λσ2 Hc Hd z=>⟨Hc,z⟩
 ·have e:i=ds.length:=by omega
  subst e;refine .inl ⟨i2 (aA _),q σ' Ha H' (Ga.from ⟨Ga.fr.ent.big,G1.fr.ent.gL.trans Ga.fr.ent.gL,Ga.fr.sub,λb z=>?_⟩)⟩
  rcases Ga.fr.ent.new b z with z|z
  ·exact G1.fr.ent.new b z
  ·exact .inr z
theorem Wy(G:OF X.K B0 B R H0 H σ δ)(i:Nat)(hi:δ[i]?=some (.ref p))(hR:∀Ha Hb as,er Ha Hb->R Ha Hb as->Rep X.K (xH as Hb Ha) (.ref p) d)(q:∀v fq H',dW B0 B fq H'->Rep X.K fq v d->D.rt v H')
  (hN:X.N[i]?=some x:=by rfl)(hv:D0 X.env.scope x:=by first|exact aV rfl|exact cX (aV rfl)|exact cX (cX rfl))(hd:(x==("__debug__":Str))=false:=by decide)(pT:(x==("__classdict__":Str))=false:=by decide):
  cS X (.Return (some (.Name x px)) pos) D σ H:=λpins s I=>zm (gO hN hv hd pT) pins s σ H D I (by
 obtain⟨Ha,g,r⟩:=G.rep hR;exact⟨_,G.fr.slot i _ hi,q _ Ha H g r⟩)
def MA(K:av)(S:Type)(PR:aN->S->OR)(ok:S->aq->S->Prop):Sp:=λvs H Q _=>∃(H0:Hp)(p:aN)(v:V)(as:List aN)(s s':S)(d:aq),vs=[.ref p,v]/\er H0 H/\Rep K H0 v d/\(∀a∈as,H0 a=none/\H a≠none)/\PR p s H0 H as/\ok s d s'/\
 ∀(fq H':Hp)(YJ:List aN),er H0 fq->er fq H'->(∀a,fq a≠none->H0 a≠none\/H a=none)->(∀a∈YJ,fq a=none/\H' a≠none/\(a∈as\/H a=none))->(∀b o,H b=some o->b∉as->H' b=some o)->PR p s' fq H' YJ->Q .non H'
theorem Wz{S:Type}{PR:aN->S->OR}{ok:S->aq->S->Prop}{k:Nat}{f:Str}{ps:List Str}{p0 p1 pc:Pos}{s s':S}(C:bG X.prog X.w X.K X.mg X.base k f ps (MA X.K S PR ok))(hr:fZ k X.A)(G:OF X.K B0 B (PR p s) H0 H σ δ)(m:zR (PR p s))(i:Nat)(hi:δ[i]?=some (.ref p))(h:VE X e δ d)(hok:ok s d s')
  (q:∀fq H',OF X.K B0 B (PR p s') fq H' σ δ->D.nx σ H')
  (hN:X.N[i]?=some x:=by rfl)(hv:D0 X.env.scope x:=by first|exact aV rfl|exact cX (aV rfl)|exact cX (cX rfl))(hd:(x==("__debug__":Str))=false:=by decide)(pT:(x==("__classdict__":Str))=false:=by decide)
  (hg:Gl X f:=by rfl)(qP:(f==("__debug__":Str))=false:=by decide)(he:starEach [.Name x p0,e] X.env=(false,eval (.Name x p0) X.env)::starEach [e] X.env:=by rfl)(Sy:starEach [e] X.env=(false,eval e X.env)::starEach [] X.env:=by rfl)(pY:(backTo pc (starEach [e] X.env)).any (·.1)=false:=by rfl)
  (CM:swapsWith (.Call (.Name f p1) [.Name x p0,e] [] pc) none pos.line X.env=pure false:=by rfl):
  cS X (.Expr (.Call (.Name f p1) [.Name x p0,e] [] pc) pos) D σ H:=λpins s0 I=>by
 obtain⟨fa,fd,F,hm,hk,hb⟩:=C;refine pw (vT F hr hg hm hk hb .nil Bx (cV (gO hN hv hd pT) (cV dD fB Sy) he) qP he pY) CM pins s0 σ H D I ?_
 refine⟨.ref p,G.fr.slot i _ hi,?_⟩
 refine h H0 H σ H0 H _ G.own λv H1 dX g r=>?_
 have G1:=G.go m (G.own.grow g) G.no;obtain⟨as,h1,h2⟩:=G1.ex;refine⟨H1,p,v,as,s,s',d,rfl,G1.fr.sub,r,λa ha=>⟨(h1 a ha).1,(h1 a ha).2.2⟩,h2,hok,λfq H' YJ a1 a2 a3 a4 a5 a6=>?_⟩
 have hB:∀b,B b≠none->b∉as:=λb hb z=>hb (h1 b z).2.1
 refine q fq H' ⟨⟨⟨λb u e=>a5 b u (G1.fr.ent.big b u e) (hB b (by rw[e];simp)),G1.fr.ent.gL.trans a1,a2,λb z=>?_⟩,G1.fr.len,λj sl e=>?_,G1.fr.apart⟩,G.no,YJ,λa ha=>?_,a6⟩
 ·rcases a3 b z with z|z
  ·exact G1.fr.ent.new b z
  ·exact .inr (G1.fr.ent.big.free z)
 ·have qq:=G1.fr.slot j sl e
  cases sl with
  |un=>trivial
  |ref _=>exact qq
  |val d=>obtain⟨v,g1,g2⟩:=qq;exact⟨v,g1,g2.mono a1⟩
  |own ds=>exact absurd e (qk G.no j ds)
 ·obtain⟨z1,z2,z3⟩:=a4 a ha
  refine⟨z1,?_,z2⟩
  rcases z3 with z3|z3
  ·exact(h1 a z3).2.1
  ·exact G1.fr.ent.big.free z3
end
section
variable{X:Cx}{pins:List (aN×Obj)}{σ:St}{H:Hp}{s:aQ}{a:aN}{kvs:List (Key×V)}{k:Key}{d:V}{u r:aD}{A:ej}{E:aD->aQ->Prop}
theorem MB(I:Inv X pins σ H s)(e:H a=some (.dK kvs))(ry:RelV (kV k) u)(rd:RelV d r)(hl:kvs.length<sizeLine)(h1:∀v w' s',jQ kvs k=some v->Inv X pins σ H s'->RelV v w'->Q w' s')
  (h2:∀s',jQ kvs k=none->Inv X pins σ (upd H a (.dK (putK kvs k d))) s'->Q r s'):wpAny (model X.prog X.w) A (call (.builtin "dict.setdefault") [.ref a,u,r]) Q E s:=by
 obtain⟨z,hd,vs,rel,dd⟩:=Iv I.hok e;have rv:=rel.val k;refine call_meetsIn yx dd.typeIs PySem.F.entry_dict_setdefault (PySem.F.args_dict_setdefault_3 _ _ _) (kt_meets_setdefault (fE X.prog X.w) a (uG ry) hd r) ⟨vs,dd,by rw[<-rel.length];exact z,λv hv=>?_,λhn h' Gc hs=>?_⟩
 ·rw[hv]at rv
  cases ev:jQ kvs k with
  |none=>rw[ev]at rv;exact rv.elim
  |some w=>rw[ev]at rv;exact h1 w v _ ev (I.tok _) rv
 ·have QO:(putK kvs k d).length<=sizeLine:=by have:=pD kvs k d;omega
  have he:∃q,h'.get? a=some q:=let⟨q,_,_,hq,_⟩:=Gc;⟨q,hq⟩;rw[hn]at rv;refine h2 _ ?_ (yP I (by rw[e];exact eX) hs he (Gb QO hd (rel.put k rd) Gc))
  cases ev:jQ kvs k with
  |none=>rfl
  |some w=>rw[ev]at rv;exact rv.elim
end
def WB(td ty tx:TE):TE:=λσ H Q=>td σ H λx H1=>∃a,x=.ref a/\IsD H1 a/\ty σ H1 λy H2=>tx σ H2 λz H3=>∃kvs k,H3 a=some (.dK kvs)/\y=kV k/\kvs.length<sizeLine/\
 (∀v,jQ kvs k=some v->Q v H3)/\(jQ kvs k=none->Q z (upd H3 a (.dK (putK kvs k z))))
section
variable{X:Cx}{o e f:cw}{apos oC:Pos}{td ty tx:TE}
theorem Pq(ho:PE X o td)(he:PE X e ty)(hf:PE X f tx)(m:M2 X o "setdefault" apos e f oC):PE X (.Call (.Attribute o "setdefault" apos) [e,f] [] oC) (WB td ty tx):=by
 intro pins s σ H Q I h;refine wpAny_Call_method m.base m.few m.line Bj yx PySem.F.type_dict_setdefault (gj (ho pins s σ H _ I h) λu s1 ⟨x,H1,I1,rx,a,ex,d,q1⟩=>?_)
 subst ex;obtain rfl:u=bA a:=rx;obtain⟨t1,t2,_⟩:=LQ I1 d;refine⟨t1,t2,?_⟩
 rw[m.trees];refine rT rfl (uy (lg (gj (he pins s1 σ H1 _ I1 q1) λiv s2 ⟨y,H2,I2,ry,q2⟩=>
  lg (gj (hf pins s2 σ H2 _ I2 q2) λfv s3 ⟨z,H3,I3,rz,kvs,k,ea,ey,hl,q3,q4⟩=>w_ ?_))))
 subst ey;exact MB I3 ea ry rz hl (λv w' s' ev I4 rY=>⟨v,H3,I4,rY,q3 v ev⟩) λs' ev I4=>⟨z,_,I4,rz,q4 ev⟩
end
section
variable{X:Cx}{B0 B H0 H:Hp}{σ:St}{D:Ends}{st:iH}{rest body orelse:List iH}{δ δ':List Slot}{a p C dx:aN}{e c ek ev:cw}{d:aq}{pos px po ps pa pc:Pos}{x y fl:Str}{fs:List (Str×V)}{k:Nat}
theorem Eo(f:gW X.K B0 B H0 H σ δ)(h:VS X st δ (.nx δ'))(q:∀σ' Ha Hb,er H0 Ha->gW X.K B0 B Ha Hb σ' δ'->D.nx σ' Hb):cS X st D σ H:=h B0 B σ H0 H D f q
theorem yi(f:gW X.K B0 B H0 H σ δ)(h:VT X c δ true)(q:∀Ha Hb,dW H0 H Ha Hb->J1 X body D σ Hb):cS X (.If c body orelse pos) D σ H:=λpins s I=>
 ya kY mh kz pins s σ H D I (h B0 B σ H0 H _ f λH1 dX g=>Sn (q H1 dX g))
theorem oF(f:gW X.K B0 B H0 H σ δ)(h:VT X c δ false)(q:∀Ha Hb,dW H0 H Ha Hb->J1 X orelse D σ Hb):cS X (.If c body orelse pos) D σ H:=λpins s I=>
 ya kY kz mh pins s σ H D I (h B0 B σ H0 H _ f λH1 dX g=>A6 (q H1 dX g))
theorem Td(i:Nat){fi:aN}{fd:fN}{ps':List Str}{sp:Sp}{j:Nat}{p0 pk:Pos}(M:Mk X.K C fi)(F:eQ X.prog X.w X.K X.mg X.base jE j fi fd ps' sp)(hr:fZ (j+1) X.A)(hm:X.mg x=some (.ref C))(hb:Binds X.K fd ps' [])
  (q:∀p dx E,H p=none->H dx=none->dx≠p->sp [.ref p] (upd (upd H dx (.own p)) p (.ins C dx [])) (λv H2=>v=.non/\D.nx (σ.set i (some (.ref p))) H2) E)
  (hN:X.N.Nodup)(hi:X.N[i]?=some y:=by rfl)(hx:Loc X.env.scope y:=by first|exact aV rfl|exact cX rfl)(hs:swapsWith (.Call (.Name x p0) [] [] pk) (some (.Name y px)) pos.line X.env=pure false:=by rfl)(hf:X.fn y=true\/X.env.scope.names.lookup y=some .local:=by first|exact .inl rfl|exact .inr rfl)
  (hg:Gl X x:=by rfl)(qP:(x==("__debug__":Str))=false:=by decide):cS X (.Assign [.Name y px] (.Call (.Name x p0) [] [] pk) pos) D σ H:=λpins s I=>by
 refine zo (i:=i) hN hi hx (Lv M F hr hg hm hb .nil Bx qP) hs hf pins s σ H D I ?_
 exact λp dx h1 h2 h3=>q p dx _ h1 h2 h3
theorem QV(f:gW X.K B0 B H0 H σ δ)(hr:fZ k X.A)(i:Nat)(hi:δ[i]?=some (.ref p))(ins:H p=some (.ins C dx fs))(cl:D3 X.K C)(na:fY X.K C fl)(lk:fs.lookup fl=some (.ref a))(hd:H a=some (.dK kvs))(hk:VE X ek δ (.str y))(hv:VE X ev δ d)(hl:kvs.length<sizeLine)
  (q:∀v Ha Hb,dW H0 H Ha Hb->Rep X.K Ha v d->D.nx σ (upd Hb a (.dK (putK kvs (cz y) v))))
  (hN:X.N[i]?=some x:=by rfl)(Gq:D0 X.env.scope x:=by first|exact aV rfl|exact cX (aV rfl)|exact cX (cX rfl))(qP:(x==("__debug__":Str))=false:=by decide)(pT:(x==("__classdict__":Str))=false:=by decide)
  (hb:attributeBase (.Name x px) fl X.env (eval (.Name x px) X.env)=eval (.Name x px) X.env:=by rfl)(hs:swapsWith ev (some (.Subscript (.Attribute (.Name x px) fl po) ek ps)) pos.line X.env=pure false:=by rfl):
  cS X (.Assign [.Subscript (.Attribute (.Name x px) fl po) ek ps] ev pos) D σ H:=λpins s I=>by
 refine Iy (S1 hr) (zr (gO hN Gq qP pT) hb) dD dD hs pins s σ H D I ?_
 refine hv B0 B σ H0 H _ f λv H1 dX g1 r1=>?_
 refine⟨.ref p,f.slot i _ hi,p,C,dx,fs,.ref a,rfl,g1.big _ _ ins,cl,na,lk,?_⟩
 refine hk B0 B σ H1 dX _ (f.grow g1) λu H2 iL g2 r2=>?_
 cases r2;exact⟨a,_,rfl,D_.k (k:=cz y) (g2.big _ _ (g1.big _ _ hd)) hl,q v H2 iL (g1.trans g2) (r1.mono g2.gL)⟩
theorem Te(f:gW X.K B0 B H0 H σ δ)(hr:fZ k X.A)(i:Nat){kvs:List (List Key×V)}{e1 e2:cw}{z1 z2:Str}{x1}(hi:δ[i]?=some (.ref p))(ins:H p=some (.ins C dx fs))(cl:D3 X.K C)(na:fY X.K C fl)(lk:fs.lookup fl=some (.ref a))(hd:H a=some (.dT kvs))(VX:VE X e1 δ (.str z1))(IX:VE X e2 δ (.str z2))(hv:VE X ev δ d)(hl:kvs.length<sizeLine)
  (q:∀v t Ha Hb,dW H0 H Ha Hb->Hb t=none->Rep X.K Ha v d->D.nx σ (upd (upd Hb t (.tup [.str z1,.str z2])) a (.dT (putK kvs (xE (z1,z2)) v))))
  (hN:X.N[i]?=some x:=by rfl)(Gq:D0 X.env.scope x:=by first|exact aV rfl|exact cX (aV rfl)|exact cX (cX rfl))(qP:(x==("__debug__":Str))=false:=by decide)(pT:(x==("__classdict__":Str))=false:=by decide)
  (hb:attributeBase (.Name x px) fl X.env (eval (.Name x px) X.env)=eval (.Name x px) X.env:=by rfl)(hs:swapsWith ev (some (.Subscript (.Attribute (.Name x px) fl po) (.Tuple [e1,e2] x1 pt) ps)) pos.line X.env=pure false:=by rfl)
  (Eh:starEach [e1,e2] X.env=(false,eval e1 X.env)::starEach [e2] X.env:=by rfl)(qH:starEach [e2] X.env=(false,eval e2 X.env)::starEach [] X.env:=by rfl):
  cS X (.Assign [.Subscript (.Attribute (.Name x px) fl po) (.Tuple [e1,e2] x1 pt) ps] ev pos) D σ H:=λpins s I=>by
 refine Iy (S1 hr) (zr (gO hN Gq qP pT) hb) (zu (cV dD (cV dD fB qH) Eh)) dD hs pins s σ H D I ?_
 refine hv B0 B σ H0 H _ f λv H1 dX g1 r1=>?_
 refine⟨.ref p,f.slot i _ hi,p,C,dx,fs,.ref a,rfl,g1.big _ _ ins,cl,na,lk,?_⟩
 refine VX B0 B σ H1 dX _ (f.grow g1) λu H2 iL g2 r2=>?_
 cases r2;refine IX B0 B σ H2 iL _ ((f.grow g1).grow g2) λu H3 ua g3 r3=>?_
 cases r3;have gg:=(g1.trans g2).trans g3;refine⟨by show 2<=sizeLine;rw[du];decide,λt ht=>?_⟩
 have Ux:(upd ua t (.tup [.str z1,.str z2])) a=some (.dT kvs):=by rw[aT (bE (gg.big _ _ hd) ht)];exact gg.big _ _ hd
 exact⟨a,_,rfl,D_.t (k:=xE (z1,z2)) Ux b0 hl,q v t H3 ua gg ht ((r1.mono g2.gL).mono g3.gL)⟩
theorem Ep(f:gW X.K B0 B H0 H σ δ)(i:Nat)(hi:δ[i]?=some (.ref p))(ins:H p=some (.ins C dx fs))(cl:D3 X.K C)(na:fY X.K C fl)(lk:fs.lookup fl=some (.ref a))(hd:H a=some (.lst xs))(hv:VE X e δ d)(hl:xs.length<sizeLine)
  (q:∀v Ha Hb,dW H0 H Ha Hb->Rep X.K Ha v d->D.nx σ (upd Hb a (.lst (xs ++ [v]))))
  (hN:X.N[i]?=some x:=by rfl)(Gq:D0 X.env.scope x:=by first|exact aV rfl|exact cX (aV rfl)|exact cX (cX rfl))(qP:(x==("__debug__":Str))=false:=by decide)(pT:(x==("__classdict__":Str))=false:=by decide)
  (hb:attributeBase (.Name x px) fl X.env (eval (.Name x px) X.env)=eval (.Name x px) X.env:=by rfl)(mX:attributeBase (.Attribute (.Name x px) fl po) "append" X.env (eval (.Attribute (.Name x px) fl po) X.env)=eval (.Attribute (.Name x px) fl po) X.env:=by rfl)
  (hs:starEach [e] X.env=(false,eval e X.env)::starEach [] X.env:=by rfl)
  (sQ:((backTo pc (starEach [e] X.env)).all (λx=>!x.1)&&(backToKw pc (keywordEach [] X.env)).all (λx=>x.1.isSome)&&decide (([e]:List cw).length+([]:List iI).length+(if([]:List iI).isEmpty then 0 else 1)<30))=true:=by rfl)
  (hline:(pa.endLine==pc.line)=true:=by rfl)(j9:(backTo pc (starEach [] X.env)).any (·.1)=false:=by rfl)(CM:swapsWith (.Call (.Attribute (.Attribute (.Name x px) fl po) "append" pa) [e] [] pc) none pos.line X.env=pure false:=by rfl):
  cS X (.Expr (.Call (.Attribute (.Attribute (.Name x px) fl po) "append" pa) [e] [] pc) pos) D σ H:=λpins s I=>by
 refine pw (yd gZ pQ pR t_ (zr (gO hN Gq qP pT) hb) (cV dD fB hs) mX sQ hline hs j9) CM pins s σ H D I ?_
 refine⟨.ref p,f.slot i _ hi,p,C,dx,fs,.ref a,rfl,ins,cl,na,lk,.inl ⟨rfl,_,lW.of hd⟩,?_⟩
 refine hv B0 B σ H0 H _ f λv H1 dX g1 r1=>?_
 exact⟨a,xs,v,rfl,rfl,g1.big _ _ hd,hl,q v H1 dX g1 r1⟩
theorem MC(f:gW X.K B0 B H0 H σ δ)(i:Nat){pl Uy Uz:Pos}(hi:δ[i]?=some (.ref p))(ins:H p=some (.ins C dx fs))(cl:D3 X.K C)(na:fY X.K C fl)(lk:fs.lookup fl=some (.ref a))(hd:H a=some (.dK kvs))(hk:VE X ek δ (.str y))(hv:VE X e δ d)(hl:kvs.length<sizeLine)(yC:noOwn δ=true)(ha0:H0 a=none)
  (hc:∀v,jQ kvs (cz y)=some v->∃c xs,v=.ref c/\H c=some (.lst xs)/\xs.length<sizeLine)
  (q1:∀c xs v t Ha Hb,jQ kvs (cz y)=some (.ref c)->H c=some (.lst xs)->H t=none->dW H0 H Ha Hb->Ha t=none->Rep X.K Ha v d->D.nx σ (upd Hb c (.lst (xs ++ [v]))))
  (q2:∀v c Ha Hb,jQ kvs (cz y)=none->H c=none->er H0 Ha->er Ha Hb->(∀b,Ha b≠none->H0 b≠none\/H b=none)->(∀b o,H b=some o->b≠a->Hb b=some o)->Hb a=some (.dK (putK kvs (cz y) (.ref c)))->Hb c=some (.lst [])->Ha c=none->Ha a=none->Rep X.K Ha v d->D.nx σ (upd Hb c (.lst [v])))
  (hN:X.N[i]?=some x:=by rfl)(Gq:D0 X.env.scope x:=by first|exact aV rfl|exact cX (aV rfl)|exact cX (cX rfl))(qP:(x==("__debug__":Str))=false:=by decide)(pT:(x==("__classdict__":Str))=false:=by decide)
  (hb:attributeBase (.Name x px) fl X.env (eval (.Name x px) X.env)=eval (.Name x px) X.env:=by rfl)(m:M2 X (.Attribute (.Name x px) fl po) "setdefault" Uy ek (.List [] pl) Uz:=by exact⟨rfl,rfl,rfl,rfl⟩)
  (mX:attributeBase (.Call (.Attribute (.Attribute (.Name x px) fl po) "setdefault" Uy) [ek,.List [] pl] [] Uz) "append" X.env (eval (.Call (.Attribute (.Attribute (.Name x px) fl po) "setdefault" Uy) [ek,.List [] pl] [] Uz) X.env)=eval (.Call (.Attribute (.Attribute (.Name x px) fl po) "setdefault" Uy) [ek,.List [] pl] [] Uz) X.env:=by rfl)
  (hs:starEach [e] X.env=(false,eval e X.env)::starEach [] X.env:=by rfl)
  (sQ:((backTo pc (starEach [e] X.env)).all (λx=>!x.1)&&(backToKw pc (keywordEach [] X.env)).all (λx=>x.1.isSome)&&decide (([e]:List cw).length+([]:List iI).length+(if([]:List iI).isEmpty then 0 else 1)<30))=true:=by rfl)
  (hline:(pa.endLine==pc.line)=true:=by rfl)(j9:(backTo pc (starEach [] X.env)).any (·.1)=false:=by rfl)(CM:swapsWith (.Call (.Attribute (.Call (.Attribute (.Attribute (.Name x px) fl po) "setdefault" Uy) [ek,.List [] pl] [] Uz) "append" pa) [e] [] pc) none pos.line X.env=pure false:=by rfl):
  cS X (.Expr (.Call (.Attribute (.Call (.Attribute (.Attribute (.Name x px) fl po) "setdefault" Uy) [ek,.List [] pl] [] Uz) "append" pa) [e] [] pc) pos) D σ H:=λpins s I=>by
 refine pw (yd gZ pQ pR t_ (Pq (zr (gO hN Gq qP pT) hb) dD (CB fB) m) (cV dD fB hs) mX sQ hline hs j9) CM pins s σ H D I ?_
 refine⟨.ref p,f.slot i _ hi,p,C,dx,fs,.ref a,rfl,ins,cl,na,lk,a,rfl,.inl ⟨kvs,.inl hd⟩,?_⟩
 refine hk B0 B σ H0 H _ f λu H1 dX g1 r1=>?_
 cases r1;refine⟨by show 0<=sizeLine;exact bK _,λt ht=>?_⟩
 have hta:a≠t:=bE (g1.big _ _ hd) ht;have gl:dW H0 H H1 (upd dX t (.lst [])):=g1.trans (.loose g1.sub ht);refine⟨kvs,cz y,by rw[aT hta];exact g1.big _ _ hd,rfl,hl,λv Gr=>?_,λhn=>?_⟩
 ·obtain⟨c,xs,rfl,J8,hxl⟩:=hc v Gr
  have hct:c≠t:=bE (g1.big _ _ J8) ht;refine⟨.inl ⟨rfl,_,lW.of (by rw[aT hct];exact g1.big _ _ J8)⟩,?_⟩
  refine hv B0 B σ H1 _ _ (f.grow gl) λv H2 iL g2 r2=>?_
  have gg:=gl.trans g2;refine⟨c,xs,v,rfl,rfl,gg.big _ _ J8,hxl,q1 c xs v t H2 iL Gr J8 (g1.big.free ht) gg ?_ r2⟩
  exact g2.still (g1.sub.free ht) b0
 ·have hca:t≠a:=bU hta
  have ga:(upd dX t (.lst [])) a=some (.dK kvs):=by rw[aT hta];exact g1.big _ _ hd
  refine⟨.inl ⟨rfl,_,lW.of (by rw[aT hca];exact b0)⟩,?_⟩
  have h1a:H1 a=none:=g1.still ha0 hd;have h1t:H1 t=none:=g1.sub.free ht
  generalize hM:upd (upd dX t (.lst [])) a (.dK (putK kvs (cz y) (.ref t)))=Hm
  have m0:∀b o,H b=some o->b≠a->Hm b=some o:=λb o e hb=>by
   rw[<-hM,aT hb,aT (bE (g1.big _ _ e) ht)];exact g1.big _ _ e
  have m1:Hm a=some (.dK (putK kvs (cz y) (.ref t))):=by rw[<-hM];exact b0
  have m2:Hm t=some (.lst []):=by rw[<-hM,aT hca];exact b0
  have sm:er H1 Hm:=λb u e=>by
   rw[<-hM,aT (bE e h1a),aT (bE e h1t)];exact g1.sub b u e
  have fm:gW X.K H1 Hm H1 Hm σ δ:=by
   have f1:=f.grow g1;refine⟨.refl sm,f1.len,λj sl e=>?_,f1.apart⟩
   have qq:=f1.slot j sl e;cases sl with
   |un=>trivial
   |ref _=>exact qq
   |val d=>exact qq
   |own ds=>exact absurd e (qk yC j ds)
  refine hv H1 Hm σ H1 Hm _ fm λv H2 iL g2 r2=>?_
  refine⟨t,[],v,rfl,rfl,g2.big _ _ m2,by show 0<sizeLine;rw[du];decide,?_⟩
  refine q2 v t H2 iL hn (g1.big.free ht) (g1.gL.trans g2.gL) g2.sub (λb z=>?_) (λb o e hb=>g2.big _ _ (m0 b o e hb)) (g2.big _ _ m1) (g2.big _ _ m2) (g2.still h1t m2) (g2.still h1a m1) r2
  rcases g2.new b z with z|z
  ·exact g1.new b z
  ·refine .inr ?_
   cases e:H b with
   |none=>rfl
   |some o=>
    exfalso
    by_cases hb:b=a
    ·subst hb;rw[m1]at z;cases z
    ·rw[m0 b o e hb]at z;cases z
end
section
variable{X:Cx}{a b e:cw}{δ:List Slot}{d:aq}{ds:List aq}{pos:Pos}{k:Nat}
theorem Pr{k:Key}{v:aD}(h:(fE P w).is k v=true):RelV (kV k) v:=by
 rcases iw h with⟨i,t,rfl,rfl⟩|⟨x,t,rfl,rfl⟩
 ·exact⟨t,rfl⟩
 ·exact⟨t,rfl⟩
theorem sZ(hc:X.calm=true):jT X (.type "list") (λxs H Q=>∃p kvs,xs=[.ref p]/\H p=some (.dK kvs)/\∀l,H l=none->Q (.ref l) (upd H l (.lst (kvs.map λq=>kV q.1)))):=by
 intro pins s σ H xs us Q I r h;obtain⟨p,kvs,rfl,hp,q⟩:=h;obtain⟨u,rfl,rx⟩:=vals1 r;cases rx;obtain⟨z,hd,vs,rel,dd⟩:=Iv I.hok hp;obtain⟨ep,FC⟩:=dd.dictAt;have hlen:=rel.length;refine PySem.W.kdl_call (PySem.W.kdl_dict (knd:=fE X.prog X.w) (kvs:=vs) (ep:=ep) hd) (I.ok.hd hc) FC (by rw[<-hlen];exact z) λh' tk WC c' hk hD WD=>?_
 have go:∀(kvs:List (Key×V))(vs:List (Key×aD))(l:List aD),KV kvs vs->l.length=vs.length->(∀(j:Nat)v,l[j]?=some v->∃k x,vs[j]?=some (k,x)/\(fE X.prog X.w).is k v=true)->dZ (kvs.map λq=>kV q.1) l:=by
  intro kvs
  induction kvs with
  |nil=>
   intro vs l r hl _;cases r;cases l with
   |nil=>exact .nil
   |cons _ _=>cases hl
  |cons q kvs ih=>
   intro vs l r hl hx;cases r with
   |cons h1 h2=>
    cases l with
    |nil=>cases hl
    |cons v l=>
     obtain⟨k,x,e1,e2⟩:=hx 0 v rfl;cases e1;refine .cons ?_ (ih _ l h2 (by simpa using hl) λj v hj=>by simpa using hx (j+1) v (by simpa using hj))
     have:q.1=k:=h1.1;show RelV (kV q.1) v;rw[this];exact Pr e2
 have rv:=go kvs vs WC.toList rel (by rw[cq];exact WD.1) λj v hj=>WD.2 j v (by rw[<-Fv];exact hj)
 exact⟨.ref _,_,I.laid hk (aA _) (show hZ X.prog X.w _ h' _ (.lst _) from⟨by rw[aj];exact z,WC.toList,c',rv,by simpa using hD⟩),rfl,q _ (I.hok.fresh (aA _))⟩
theorem IZ{kvs:List (Str×aq)}:IB K (λxs H Q=>∃p kvs,xs=[.ref p]/\H p=some (.dK kvs)/\∀l,H l=none->Q (.ref l) (upd H l (.lst (kvs.map λq=>kV q.1)))) [va kvs] (kvs.map λq=>.str q.1):=λvs H0 H Q s r q=>by
 obtain⟨v,rfl,r1⟩:=r.one;obtain⟨a,ws,rfl,ha,hk,_⟩:=r1.sY;refine⟨a,ws,rfl,s _ _ ha,λl hl=>q l _ H0 _ (.loose s hl) hl (s.free hl) b0 ?_⟩
 have e:(ws.map λq=>kV q.1)=(ws.map (·.1)).map kV:=by rw[bC];rfl
 rw[e,hk,bC];have go:∀l:List (Str×aq),dz K H0 (l.map (kV∘λp=>(cz p.1:Key))) (l.map λq=>.str q.1):=by
  intro l
  induction l with
  |nil=>exact .nil
  |cons p l ih=>exact .cons (.str p.1) ih
 exact go kvs
theorem Pt(h:VE X e δ d)(hs:swapsWith e none pos.line X.env=pure false:=by rfl):VS X (.Expr e pos) δ (.nx δ):=λB0 B σ H0 H D f ok pins s I=>
 pw dD hs pins s σ H D I (h B0 B σ H0 H _ f λv H1 dX g r=>ok σ H1 dX g.gL (f.grow g))
end
end L2
namespace PySem
section
variable{prog:bM}{w:cy}{A:ej}{E:aD->aQ->Prop}{h:dq}{g:Array uw}{d:Drawn}{t:Nat}{os:OsState}{a:aN}{items:Array aD}{n:Nat}{sl}
end
end PySem
namespace PySem.F
end PySem.F
namespace L2
open PySem PySem.Spec PyProof.Rows
section
variable{prog:bM}{w:cy}{A:ej}{R:uV->aQ->Prop}{I:aN}{fp wr:List aN}{G:Array uw->Array uw->Prop}{n:Nat}{P:Nat->aD->Prop}{St:Nat->aQ->Prop}
end
section
variable{prog:bM}{w:cy}{A:ej}{E:aD->aQ->Prop}{s:aQ}
end
section
variable{X:Cx}
end
section
variable{ε:Type}{X:Cx}{sc:lS}{own N:List Str}{cap:List Nat}{cl:List (Str×aN)}{tg elt iter:cw}{ifs:List cw}{δ:List Slot}{ds:List aq}{pos:Pos}{tgt:IC}{Er:Hp->V->ε->Prop}
end
section
variable{X:Cx}{a b c:cw}{δ:List Slot}{d:aq}{pos p:Pos}{k:Nat}{z1 z2:Str}
end
inductive QW:aq->Prop
 |non:QW .none
 |bl (b:Bool):QW (.bool b)
 |int (i:Int):QW (.int i)
 |str (x:Str):QW (.str x)
 |lst {ds:List aq}:(∀d∈ds,QW d)->QW (.list ds)
 |tup {ds:List aq}:(∀d∈ds,QW d)->QW (.tuple ds)
section
variable{K:av}{H:Hp}{p:aN}{kvs:List (Key×V)}
end
section
variable{X:Cx}{B0 B H0 H:Hp}{σ:St}{D:Ends}{δ:List Slot}{ev:cw}{d:aq}{pos px ps pk:Pos}{x y:Str}{k:Nat}{jk}
theorem Gs{st:List iH}(h:rO X st δ (.rt d))(f:gW X.K B0 B H0 H σ δ)(ok:∀v fq H',dW B0 B fq H'->Rep X.K fq v d->D.rt v H'):J1 X st D σ H:=h B0 B σ H0 H D f ok
end
end L2
namespace L2
open PySem
variable{fI:aN}{us:Array aD}{env:Env}{base:dq}{out:List Env}{rest:List aD}{M:Model}{oe:Obj}{K:av}{Q:Unit->aQ->Prop}
structure zT(fr ex:List aN)(e:aN)(oe:Obj)(h h':dq):Prop where
 size:h.objs.size<=h'.objs.size
 keep:∀b o,h.get? b=some o->b∉fr->b∉ex->b≠e->h'.get? b=some o
 slot:∀b o,h.get? b=some o->b∈fr->b∉ex->b≠e->∃sl,h'.get? b=some { o with slots:=sl }
 there:∀b o,h.get? b=some o->∃o',h'.get? b=some o'
 exc:∃T oT ts,h.objs.size<=T/\h'.get? e=some (oe.mapFields (·.setIfInBounds 1 (bA T)))/\T≠e/\h'.get? T=some oT/\oT.data=.fields ts/\ts[3]?=some .none
section
variable{M:Model}{A:ej}{E:aD->aQ->Prop}{s:aQ}
theorem vd{L e:aN}{hd0:aD}{more:Bool}
  (fr:A.frames=some (env::out))(ff:s.heap.FunFrames base (env::out))(fL:env.frame=some L)
  (ge:s.heap.get? e=some oe)(de:oe.data=.fields us)(sz:1<us.size)
  (q:∀h',zT ((env::out).filterMap (·.frame)) [] e oe s.heap h'->Q () { s with heap:=h' }):
  wpAny M A (do let a <-frameOf env;let pl <-entryPlaceOf L more;let b <-Cq hd0 a .none (rawInt L) .none pl;setField (.ref e) 1 b) (λ_ s'=>wpAny M A (setFlight (.ref e) none) Q E s') E s:=by
 have nf:e∉(env::out).filterMap (·.frame):=λhm=>by
  obtain⟨_,o,ho,hnf⟩:=ff.mem hm;rw[ge]at ho;injection ho with ho;subst ho;exact hnf us de
 refine au (wpAny_frameOf_fun fr ff fL λh1 Eh=>?_)
 refine au (wpAny_entryPlaceOf λpl pY=>?_)
 unfold Cq newFields
 generalize hts:([hd0,.ref L,.none,rawInt L,.none]++(if pl.isEmpty then bu 6 ef else pl)).toArray=tb
 have tsz:3<tb.size:=by rw[<-hts];simp only[bj,a8,bh,cv];omega
 refine au (fj ?_ (by rw[<-hts];exact pY.sizeOk5 _ _ _ _ _))
 have g1:h1.get? e=some oe:=(Eh.2.1 e nf).trans ge;have g2:=aE (h:=h1) { cls:=.type "traceback",dict:=none,data:=.fields tb } g1;refine kW g2 de sz ?_
 have YK:h1.objs.size≠e:=fy (aW g1);have d3:=fS de (·.setIfInBounds 1 (bA h1.objs.size))
 have g3:=eY (j0 (·.setIfInBounds 1 (bA h1.objs.size))) g2 (iR d3)
 have t3:=(df (h1.push { cls:=.type "traceback",dict:=none,data:=.fields tb }) (j0 (·.setIfInBounds 1 (bA h1.objs.size))) (bU YK)).trans (bQ h1 rfl)
 unfold setFlight;refine au (dQ g3 d3 (x:=.ref h1.objs.size) (by simp[sz]) ?_)
 rw[if_pos (show(bA h1.objs.size != ef)=true from by simp)]
 refine kW t3 rfl tsz (q _ ?_)
 have kp:∀b o,b≠e->h1.get? b=some o->(((h1.push { cls:=.type "traceback",dict:=none,data:=.fields tb }).update e (j0 (·.setIfInBounds 1 (bA h1.objs.size)))).update h1.objs.size
    (j0 (·.setIfInBounds 3 ((none:Option aN).elim ef λf=>rawInt f)))).get? b=some o:=λb o be hb=>by
  rw[df _ _ (fy (aW hb)),df _ _ (bU be)];exact aE _ hb
 refine⟨?_,λb o hb hf _ be=>kp b o be ((Eh.2.1 b hf).trans hb),λb o hb _ _ be=>?_,λb o hb=>?_,h1.objs.size,_,_,?_,?_,YK,eY _ t3 (iR (fS rfl _)),fS rfl _,by simp[tsz]⟩
 ·rw[iB,iB,gf,Eh.1]
  exact jK _
 ·obtain⟨sl,Tb⟩:=Eh.2.2 b o hb
  exact⟨sl,kp b _ be Tb⟩
 ·by_cases be:b=e
  ·subst be
   exact⟨_,(df _ _ YK).trans g3⟩
  ·obtain⟨sl,Tb⟩:=Eh.2.2 b o hb
   exact⟨_,kp b _ be Tb⟩
 ·rw[Eh.1];exact aA _
 ·rw[df _ _ YK];exact g3
theorem Es{L e:aN}
  (fr:A.frames=some (env::out))(ff:s.heap.FunFrames base (env::out))(fL:env.frame=some L)
  (ge:s.heap.get? e=some oe)(de:oe.data=.fields us)(u1:us[1]?=some .none)
  (q:∀h',zT ((env::out).filterMap (·.frame)) [] e oe s.heap h'->Q () { s with heap:=h' }):wpAny M A (leaving env (.ref e)) Q E s:=by
 unfold leaving noteFrame;simp only[fL];refine au (au (dQ ge de u1 ?_))
 rw[if_neg (by decide)]
 exact vd fr ff fL ge de (eE.mp u1).1 q
theorem Gu{L e T:aN}{oT: Obj}{ts: Array aD}
  (fr:A.frames=some (env::out))(ff:s.heap.FunFrames base (env::out))(fL:env.frame=some L)
  (ge:s.heap.get? e=some oe)(de:oe.data=.fields us)(u1:us[1]?=some (.ref T))(ne:T≠e)(gT:s.heap.get? T=some oT)(dT:oT.data=.fields ts)(t3:ts[3]?=some .none)
  (q:∀h',zT ((env::out).filterMap (·.frame)) [T] e oe s.heap h'->Q () { s with heap:=h' }):wpAny M A (leaving env (.ref e)) Q E s:=by
 unfold leaving noteFrame;simp only[fL];refine au (au (dQ ge de u1 ?_))
 rw[if_pos (show(bA T != ef)=true from by simp)]
 refine au (dQ gT dT t3 ?_)
 rw[if_neg (show ¬((ef==rawInt L)=true)from by simp[rawInt])]
 refine au (kW gT dT (eE.mp t3).1 ?_)
 have ot:∀b,b≠T->(s.heap.update T (j0 (·.setIfInBounds 3 ef))).get? b=s.heap.get? b:=λb hb=>df _ _ (bU hb)
 have noT:∀b o,s.heap.get? b=some o->(∀vs,o.data≠.fields vs)->b≠T:=λb o hb hn z=>by
  rw[z,gT]at hb;injection hb with hb;subst hb;exact hn ts dT
 refine vd fr (ff.of_keeps λb o hb hn=>⟨o,(ot b (noT b o hb hn)).trans hb,rfl⟩) fL ((ot e (bU ne)).trans ge) de (eE.mp u1).1 λh' l=>q h' ⟨?_,λb o hb hf hx be=>?_,λb o hb hf hx be=>?_,λb o hb=>?_,?_⟩
 ·have:=l.size
  rw[iB]at this;exact this
 ·exact l.keep b o ((ot b (by simpa using hx)).trans hb) hf (by simp) be
 ·exact l.slot b o ((ot b (by simpa using hx)).trans hb) hf (by simp) be
 ·by_cases Pu:b=T
  ·subst Pu
   exact l.there b _ (eY _ gT (iR (fS dT _)))
  ·exact l.there b o ((ot b Pu).trans hb)
 ·obtain⟨T',oT',ts',h1,h2⟩:=l.exc
  rw[iB]at h1;exact⟨T',oT',ts',h1,h2⟩
end
abbrev vf(C:aN)(dx:Option aN)(t:aN)(sl:Array (Option aD)):Obj:={ cls:=.ref C,dict:=dx,data:=.fields #[.ref t,.none,.none,.none,.bool false,.none],slots:=sl }
abbrev Gv(C t:aN):Obj:={ cls:=.ref C,data:=.fields #[.ref t,.none,.none,.none,.bool false,.none] }
abbrev wo(h:dq)(C:aN)(rest:List aD):dq:=(h.push { cls:=.type "tuple",data:=.seq rest.toArray }).push (Gv C h.objs.size)
section
variable{prog:bM}{w:cy}{A:ej}{E:aD->aQ->Prop}{R:uV->aQ->Prop}{h:dq}{g:Array uw}{d:Drawn}{t:Nat}{os:OsState}
variable{nm q:Str}{C N:aN}{bs bm Tf:List aD}{hdct:Bool}{sn:List Str}{sub:List aD}{ab:Bool}{col:Option Bool}{dd:Option aN}{k0 k1 k2 k3 k5:Option aD}{B newId qY:String}
theorem Gw(F:qc B newId qY Tf)(cB:(bA C::bm).contains (.type B)=true)
  (gC:h.get? C=some (excClassObj nm q C N bs bm hdct sn sub ab col dd k0 k1 k2 k3 k5 newId))(hq:Q () ⟨h,g,d,t,os⟩):wpAny M A (checkBuiltinCall newId ⟨.ref C::rest,[]⟩) Q E ⟨h,g,d,t,os⟩:=by
 have star:=F.noStar;simp only[F.newRow,F.newSplit,F.newKind,checkBuiltinCall]
 repeat (first|(refine iG gC ?_;rw[cB])|refine fk gC ?_|refine wpAny_madeBy_exc gC ?_|refine wpAny_staticBase_exc gC ?_|simp only[Bool.false_eq_true,bne_self_eq_false,if_false]|wp_step)
 exact hq
theorem WG(F:qc B newId qY Tf)(cB:(bA C::bm).contains (.type B)=true)(cA:(bA C::bm).contains (.type "AttributeError")=false)(cN:(bA C::bm).contains (.type "NameError")=false)
  (gC:h.get? C=some (excClassObj nm q C N bs bm hdct sn sub ab col dd k0 k1 k2 k3 k5 newId))(few:rest.length<=sizeLine)
  (hq:R (.ok (.ret (.ref (h.objs.size+1)))) ⟨(h.push { cls:=.type "tuple",data:=.seq rest.toArray }).push (Gv C h.objs.size),g,d,t,os⟩):
  codeAny (model prog w) A (.builtin newId ⟨.ref C::rest,[]⟩) R ⟨h,g,d,t,os⟩:=by
 have ends:=F.ends;refine codeAny_builtinAt F.entry ?_
 unfold p_.«BaseException.__new__»;refine wpAt_bind ?_
 show wpAt _ _ _ (stack >>= _) _ _ _;refine wpAt_bind (wpAt_stack λp below=>wpAt_of_wpAny ?_)
 wp_walk
 refine wpAt_of_wpAny ?_
 rw[F.owner]
 repeat (first|(with_reducible refine iG gC ?_;first|rw[cB]|rw[cN]|rw[cA])|with_reducible refine fk gC ?_|with_reducible refine wpAny_madeHere_exc F.canon gC ?_|wp_step)
 show R _ _;rw[gf];exact hq
theorem Gx(F:qc B newId qY Tf)(cB:(bA C::bm).contains (.type B)=true)(cA:(bA C::bm).contains (.type "AttributeError")=false)(cN:(bA C::bm).contains (.type "NameError")=false)
  {Q:Fin->aQ->Prop}(KX:K.In h)(gC:h.get? C=some (excClassObj nm q C N bs bm hdct sn sub ab col dd k0 k1 k2 k3 k5 newId))(hi:ck K (.ref C) "__init__"=some (some (.ref fI)))(cI:y_ K (.ref fI)=some (.type "function"))
  (hq:wpAny (model prog w) A (call (.ref fI) (.ref (h.objs.size+1)::rest)) (λr s'=>r=.none/\Q (.done (.ret (.ref (h.objs.size+1)))) s') E ⟨wo h C rest,g,d,t,os⟩)(few:rest.length<=sizeLine):
  wpAny (model prog w) A (p_.«type.__call__» ⟨.ref C::rest,[]⟩) Q E ⟨h,g,d,t,os⟩:=by
 repeat (first|with_reducible refine wpAny_madeBy_exc gC ?_|with_reducible refine fk gC ?_|wp_step)
 refine codeAny_call_builtin_code (wV _ F.quiet) (Gw F cB gC ?_)
 refine WG F cB cA cN gC few ?_
 show wpAny _ _ _ _ _ _;have up:∀b o,h.get? b=some o->((h.push { cls:=.type "tuple",data:=.seq rest.toArray }).push (Gv C h.objs.size)).get? b=some o:=λb o e=>aE _ (aE _ e)
 have gC1:=up _ _ gC;have KX1:K.In ((h.push { cls:=.type "tuple",data:=.seq rest.toArray }).push (Gv C h.objs.size)):=λa o e=>up _ _ (KX a o e)
 have ge:((h.push { cls:=.type "tuple",data:=.seq rest.toArray }).push (Gv C h.objs.size)).get? (h.objs.size+1)=some (Gv C h.objs.size):=by heap_get
 have hcC:(bA C::bm).contains (.ref C)=true:=by simp
 unfold isInstance
 repeat (first|(with_reducible refine iG gC1 ?_;rw[hcC])|with_reducible refine fk ge ?_|wp_step)
 show wpAny _ _ (typeLookup (.ref C) _) _ _ _;refine(sy KX1 hi).at ?_
 refine iP (au ?_)
 unfold bindSpecial;refine au ((PySem.W.looks_typeIn KX1 cI).at ?_)
 rw[if_pos (by decide)]
 refine aZ (au (eT hq (λr s' hr=>?_) λ_ _ x=>x))
 obtain⟨rfl,hQ⟩:=hr
 wp_walk
 exact hQ
theorem Tg(F:qc B newId qY Tf)(cB:(bA C::bm).contains (.type B)=true)(cA:(bA C::bm).contains (.type "AttributeError")=false)(cN:(bA C::bm).contains (.type "NameError")=false)
  {Q:aD->aQ->Prop}(KX:K.In h)(gC:h.get? C=some (excClassObj nm q C N bs bm hdct sn sub ab col dd k0 k1 k2 k3 k5 newId))(hi:ck K (.ref C) "__init__"=some (some (.ref fI)))(cI:y_ K (.ref fI)=some (.type "function"))
  (hq:wpAny (model prog w) (A.under (.builtin "type.__call__" ⟨.ref C::rest,[]⟩)) (call (.ref fI) (.ref (h.objs.size+1)::rest)) (λr s'=>r=.none/\Q (.ref (h.objs.size+1)) s') E ⟨wo h C rest,g,d,t,os⟩)(few:rest.length<=sizeLine):
  wpAny (model prog w) A (call (.ref C) rest) Q E ⟨h,g,d,t,os⟩:=by
 have f1:=tc_lookup;have f2:=tc_bind (.ref C);have hT:(⟨h,g,d,t,os⟩:aQ).TypeIs (.ref C) "type":=⟨_,gC,rfl⟩;refine mq (codeAny_of_tree ?_)
 show wpAny _ _ (callAny (.ref C) _) _ _ _
 repeat (any_goals (first|assumption|with_reducible refine fk gC ?_|wp_step))
 refine⟨rfl,?_⟩
 exact codeAny_call_builtin_at (wV _ (by decide +kernel)) entry_typeCall (wpAny_check_type_call_sub gC (Gx F cB cA cN KX gC hi cI hq few))
theorem Gy{s:aQ}{x:Sem aD}{Q:Flow->aQ->Prop}(hb:(bA C::bm).contains (.type "BaseException")=true)(hh:A.handled=none)
  (k:wpAny M A x (λv s1=>∃e dx t sl,v=.ref e/\s1.heap.get? C=some (excClassObj nm q C N bs bm hdct sn sub ab col dd k0 k1 k2 k3 k5 newId)/\s1.heap.get? e=some (vf C dx t sl)/\E (.ref e) s1) E s):
  wpAny M A (raiseStmt env (some x) none) Q E s:=by
 unfold raiseStmt;refine au (eT k (λv s1 k1=>?_) λ_ _ x=>x)
 obtain⟨e,dx,t,sl,rfl,gC,ge,hE⟩:=k1;obtain⟨hp,g,d,tk,os⟩:=s1
 repeat (first|with_reducible refine fk ge ?_|with_reducible refine fk gC ?_|(with_reducible refine iG gC ?_;rw[hb])|wp_step)
 exact wpAny_raiseNew_none hh hE
end
end L2
namespace L2
open PySem PySem.Spec PyProof.Rows
variable{C T dx e:aN}{A:ej}{sl:Array (Option aD)}{ts us:Array aD}{o1 o2:HO}{base h:dq}{H:Hp}{pins:List (aN×Obj)}{fs:List (Str×V)}{vs:List V}{rest:List aD}{M:Model}{pos:Pos}{P:bM}{s:aQ}{wd:Str}{Q:Unit->aQ->Prop}{w:cy}
section
variable{prog:bM}{w:cy}{A:ej}{E:aD->aQ->Prop}{R:uV->aQ->Prop}{h:dq}{g:Array uw}{d:Drawn}{t:Nat}{os:OsState}
variable{nm q:Str}{C N e t0:aN}{bs bm Tf:List aD}{hdct:Bool}{sn:List Str}{sub:List aD}{ab:Bool}{col:Option Bool}{dd dx:Option aN}{k0 k1 k2 k3 k5:Option aD}{B newId qY:String}{sl:Array (Option aD)}
theorem Et(F:qc B newId qY Tf)(cB:(bA C::bm).contains (.type B)=true)
  (gC:h.get? C=some (excClassObj nm q C N bs bm hdct sn sub ab col dd k0 k1 k2 k3 k5 newId))(ge:h.get? e=some (vf C dx t0 sl))(hq:Q () ⟨h,g,d,t,os⟩):
  wpAny M A (checkBuiltinCall qY ⟨.ref e::rest,[]⟩) Q E ⟨h,g,d,t,os⟩:=by
 have short:=F.noStar;simp only[F.initRow,F.initSplit,F.initKind,checkBuiltinCall]
 repeat (first|with_reducible refine fk ge ?_|(with_reducible refine iG gC ?_;rw[cB])|with_reducible refine fk gC ?_|wp_step)
 refine sE ?_
 rw[show ∀(a b:String)(n:Nat),Bind.check ⟨.positional,"*",B,.self,[⟨"args",.varPos,false⟩]⟩ a b n (HX (λx=>x.fst) ({ pos:=bA e::rest }:Args).kw)=pure () from
  λa b n=>PySem.check_star_args _ _ _ _ _ _]
 exact aZ hq
theorem Ti(F:qc B newId qY Tf)(cB:(bA C::bm).contains (.type B)=true){Q:aD->aQ->Prop}
  (gC:h.get? C=some (excClassObj nm q C N bs bm hdct sn sub ab col dd k0 k1 k2 k3 k5 newId))(ge:h.get? e=some (vf C dx t0 sl))(few:rest.length<=sizeLine)
  (hq:∀h' t1,h'.get? e=some (vf C dx t1 sl)->(∀b o,b≠e->h.get? b=some o->h'.get? b=some o)->Q .none ⟨h',g,d,t,os⟩):
  wpAny (model prog w) A (call (.builtin qY) (.ref e::rest)) Q E ⟨h,g,d,t,os⟩:=by
 refine mq (o5 F.init.plain F.initEntry (Et F cB gC ge ?_))
 unfold p_.«BaseException.__init__»
 dsimp only
 rw[if_neg (by simp)]
 unfold newTuple p_.BaseException.bexcPut;have ge1:=aE (h:=h) { cls:=.type "tuple",data:=.seq rest.toArray } ge;refine au (fj (au (au (dQ ge1 rfl (x:=.ref t0) rfl (au (kW ge1 rfl (show 0<6 by decide) ?_))))) (by show rest.toArray.size<=sizeLine;rw[bj];exact few))
 refine DU (aZ (hq _ h.objs.size ?_ λb o be hb=>?_))
 ·rw[eY _ ge1 rfl]
  rfl
 ·rw[df _ _ (bU be)]
  exact aE _ hb
end
section
variable{prog:bM}{w:cy}{A:ej}{E:aD->aQ->Prop}{s:aQ}{K:av}{C e t0 dx:aN}{sl:Array (Option aD)}{name:Str}{v:aD}{mA:Str->Option aD}
def tf:List aD->List aD
 | .ref _::r=>tf r
 |l=>l
def BJ:List aD:=[.type "ValueError",.type "Exception",.type "BaseException",.type "object"]
theorem BK(self:aD):∀{l:List aD},tf l=BJ->refuseLoop self "__setattr__" l=pure ()
 | [],h=>by cases h
 | .ref c::r,h=>by rw[refuseLoop_ref];exact BK self h
 | .type n::r,h=>by rw[show mU n::r=BJ from h];exact PySem.F.store_ValueError.passes self
 | .none::r,h=>by cases h
 | .bool _::r,h=>by cases h
 | .int _ _::r,h=>by cases h
 | .str _ _::r,h=>by cases h
 | .builtin _::r,h=>by cases h
def C6(K:av)(C:aN):Prop:=∃cd,PySem.W.clsIn K C=some cd/\tf cd.mro=BJ
theorem Eu:∀{l:List aD},tf l=BJ->l.contains (.type "object")=true
 | [],h=>by cases h
 | .ref c::r,h=>by
  rw[List.contains_cons,Eu (l:=r) h,sk]
 | .type n::r,h=>by rw[show mU n::r=BJ from h];rfl
 | .none::r,h=>by cases h
 | .bool _::r,h=>by cases h
 | .int _ _::r,h=>by cases h
 | .str _ _::r,h=>by cases h
 | .builtin _::r,h=>by cases h
theorem BL{R:uV->aQ->Prop}{x:aN}{ox:Obj}{od:Option Obj}{tk:Tok}{r:Option aD}(X:K.In s.heap)(I:oo s.heap x ox C od)(hp:C6 K C)(ht:kR K C name=some r)
  (h:∀b:Bool,wpAny (model prog w) A.in1 (match r with
   |some a=>p_.ObjectAttr.setByDescriptor a (.ref x) v
   |none=>p_.ObjectAttr.storeInOwnDict (.ref x) (.ref C) (.str name tk) name v b) (λfin s'=>match fin with
    | .done f=>R (.ok f) s'
    | .again c'=>c'.quiet=true/\codeAny (model prog w) A c' R s') (λe s'=>R (.error e) s') s) :
  codeAny (model prog w) A (.call (.builtin "object.__setattr__") ⟨[.ref x,.str name tk,v],[]⟩) R s:=by
 have SF:=PySem.F.store_object;obtain⟨cd,hc,ho⟩:=hp;have ne:cd.mro.isEmpty=false:=by
  cases q:cd.mro with
  |nil=>rw[q]at ho;cases ho
  |cons _ _=>rfl
 have sub:A2 (model prog w) s.heap (isInstance (.ref x) (.type "object")) true:=pS (qF I) (PySem.W.looks_mroIn X (by
  unfold uE;rw[hc]
  show(if cd.mro.isEmpty=true then none else some (cd.mro.contains (mU "object")))=some true
  rw[ne,Eu ho];rfl))
 have pl:=SF.slot.plain;have en:=SF.entry;refine o5 pl en ?_
 have ar:=SF.args (.ref x) (.str name tk) v;have kd:=SF.kind;have spl:=SF.split;apply PySem.W.check_slot (i:="object.__setattr__") (owner:="object") (n:="__setattr__") (self:=.ref x) (rest:=[.str name tk,v]) (kw:=[]) kd spl sub ar;obtain⟨attr,ha,hr⟩:=Option.bind_eq_some_iff.mp ht;have hm:A2 (model prog w) s.heap (mroOf (.ref C)) cd.mro:=pS (nO X hc) sI;have L3:A2 (model prog w) s.heap (p_.ObjectAttr.storeTaker? attr) r:=by
  cases attr with
  |none=>cases hr;exact sI
  |some a=>
   obtain⟨b,hb,rfl⟩:=DQ.mp hr;refine pS (PySem.W.looks_takesIn X hb) ?_
   cases b<;>exact sI
 rw[PySem.W.osa_eq,refuse_eq];refine au (au (f6 (qF I) (au (f6 hm ?_))))
 rw[BK _ ho];exact aZ (au (f6 (qF I) (au (f6 (sy X ha) (au (f6 L3 (h attr.isSome)))))))
theorem Gz(X:K.In s.heap)(ge:s.heap.get? e=some (vf C none t0 sl))(hs:ck K (.ref C) "__setattr__"=some (some (.builtin "object.__setattr__")))(hp:C6 K C)(ht:kR K C name=some none)(hh:gY K C=true)
  (h:∀h',h'.get? e=some (vf C (some s.heap.objs.size) t0 sl)->h'.Ns1 s.heap.objs.size (λy=>if y=name then some v else none)->(∀b o,b≠e->s.heap.get? b=some o->h'.get? b=some o)->Q () { s with heap:=h',toks:=s.toks+2 }):
  wpAny (model prog w) A (setAttr (.ref e) name v) Q E s:=by
 have J:oo s.heap e (vf C none t0 sl) C none:=⟨ge,rfl,rfl,trivial⟩;refine vJ X J hs (BL (s:={ s with toks:=s.toks+1 }) (r:=none) X J hp ht λb=>?_)
 obtain⟨cd,hc,rX⟩:=wZ hh;refine au (aZ (au (au (w8 ge (au (f6 (s:={ s with toks:=s.toks+1 }) (nO X hc) ?_))))))
 rw[rX];have lR:s.heap.objs.size≠e:=fy (aW ge);have ge1:(s.heap.push { cls:=.type "dict",data:=.dict #[] }).get? e=some (vf C none t0 sl):=aE _ ge;have gd1:(s.heap.push { cls:=.type "dict",data:=.dict #[] }).get? s.heap.objs.size=some { cls:=.type "dict",data:=.dict #[] }:=bQ _ rfl;refine au (wpAny_alloc (au (wpAny_update ge1 ?_)))
 have ge2:((s.heap.push { cls:=.type "dict",data:=.dict #[] }).update e λo=>{ o with dict:=some s.heap.objs.size }).get? e=some (vf C (some s.heap.objs.size) t0 sl):=eY _ ge1 rfl
 have gd2:((s.heap.push { cls:=.type "dict",data:=.dict #[] }).update e λo=>{ o with dict:=some s.heap.objs.size }).get? s.heap.objs.size=some { cls:=.type "dict",data:=.dict #[] }:=(df _ _ (bU lR)).trans gd1
 refine aZ ?_
 refine au (aZ (au ?_))
 refine wpAny_nsSet1 (FE ⟨_,#[],_,gd2,rfl,(λz hz=>absurd hz (by simp)),λ_=>rfl⟩) λh' Lp qH=>?_
 obtain⟨oD,esD,epD,Vi,Vj,JP⟩:=Lp.count (nU name v (ns:=[]) λy hy=>absurd rfl hy)
 refine au (Ca Vi (by rw[Vj];exact Cb (b9 JP (y' (bK _)))) ?_)
 refine aZ (h _ ((qH.2 _ (bU lR)).trans ge2) Lp λb o be hb=>?_)
 rw[qH.2 b (bB (aW hb)),df _ _ (bU be)];exact aE _ hb
theorem Kf{ns:List Str}(X:K.In s.heap)(ge:s.heap.get? e=some (vf C (some dx) t0 sl))(gd:s.heap.Ns1 dx mA)(lR:dx≠e)(hs:ck K (.ref C) "__setattr__"=some (some (.builtin "object.__setattr__")))(hp:C6 K C)(ht:kR K C name=some none)(hh:gY K C=true)
  (hw:lU mA ns)(hsz:ns.length<=100)
  (h:∀h',h'.get? e=some (vf C (some dx) t0 sl)->h'.Ns1 dx (λy=>if y=name then some v else mA y)->(∀b o,b≠dx->s.heap.get? b=some o->h'.get? b=some o)->Q () { s with heap:=h',toks:=s.toks+2 }):
  wpAny (model prog w) A (setAttr (.ref e) name v) Q E s:=by
 obtain⟨od,god,_⟩:=xo gd;have J:oo s.heap e (vf C (some dx) t0 sl) C (some od):=⟨ge,rfl,rfl,god⟩;refine vJ X J hs (BL (s:={ s with toks:=s.toks+1 }) (r:=none) X J hp ht λb=>?_)
 obtain⟨cd,hc,rX⟩:=wZ hh;refine au (aZ (au (au (w8 ge (au (f6 (s:={ s with toks:=s.toks+1 }) (nO X hc) ?_))))))
 rw[rX];refine aZ (a:=some dx) (au (aZ (au ?_)))
 refine wpAny_nsSet1 (s:={ s with toks:=s.toks+1 }) gd λh' Lp qH=>?_
 obtain⟨oD,esD,epD,Vi,Vj,JP⟩:=Lp.count (nU name v hw);refine au (Ca Vi (by rw[Vj];exact Cb (b9 JP (by rw[bh,du];omega))) ?_)
 exact aZ (h _ ((qH.2 _ (bU lR)).trans ge) Lp λb o be hb=>(qH.2 b be).trans hb)
end
def mB(C e:aN)(dx:Option aN):HO:=.ext λh=>∃t sl,h.get? e=some (vf C dx t sl)
def AQ(dx:aN)(fs:List (Str×V)):HO:=.ext λh=>∃mA,h.Ns1 dx mA/\(∀f,oB (fs.lookup f) (mA f))/\lU mA (fs.map (·.1))
theorem mB.ok{t: aN}{dx:Option aN}(g:h.get? e=some (vf C dx t sl)):hZ P w H h e (mB C e dx):=
 ⟨⟨t,sl,g⟩,⟨_,g⟩,λh1 h2 ⟨t,sl,q⟩ k=>⟨t,sl,k _ q⟩⟩
theorem AQ.ok{mA:Str->Option aD}(n:h.Ns1 dx mA)(r:∀f,oB (fs.lookup f) (mA f))(wi:lU mA (fs.map (·.1))):hZ P w H h dx (AQ dx fs):=by
 refine⟨⟨mA,n,r,wi⟩,?_,λh1 h2 ⟨mA,n,r,wi⟩ k=>⟨mA,n.at λo q=>k o q,r,wi⟩⟩
 obtain⟨o,_,_,e,_⟩:=n;exact⟨o,e⟩
theorem mB.at{dx:Option aN}(k:su P w H h)(g:H e=some (mB C e dx)):∃t sl,h.get? e=some (vf C dx t sl):=(k e _ g).1
theorem AQ.at(k:su P w H h)(g:H dx=some (AQ dx fs)):∃mA,h.Ns1 dx mA/\(∀f,oB (fs.lookup f) (mA f))/\lU mA (fs.map (·.1)):=(k dx _ g).1
structure GA(K:av)(C:aN):Prop where
 ob:∃nm q N bs bm hdct sn sub ab col dd k0 k1 k2 k3 k5,K.lookup C=some (excClassObj nm q C N bs bm hdct sn sub ab col dd k0 k1 k2 k3 k5 "ValueError.__new__")/\(bA C::bm).contains (.type "ValueError")=true/\(bA C::bm).contains (.type "AttributeError")=false/\(bA C::bm).contains (.type "NameError")=false/\(bA C::bm).contains (.type "BaseException")=true
 sa:ck K (.ref C) "__setattr__"=some (some (.builtin "object.__setattr__"))
 po:C6 K C
 hd:gY K C=true
 kp:eA K (.ref C)=true
section
variable{X:Cx}{pins:List (aN×Obj)}{σ:St}{H:Hp}{s:aQ}{C e dx:aN}{f:Str}{y:V}{u:aD}{fs:List (Str×V)}{A:ej}{E:aD->aQ->Prop}
theorem GB(I:Inv X pins σ H s)(ge:H e=some (mB C e none))(c:GA X.K C)(n:fY X.K C f)(ry:RelV y u)
  (q:∀dx s',H dx=none->dx≠e->Inv X pins σ (upd (upd H dx (AQ dx [(f,y)])) e (mB C e (some dx))) s'->Q () s'):wpAny (model X.prog X.w) A (setAttr (.ref e) f u) Q E s:=by
 obtain⟨t,sl,g⟩:=mB.at I.hok ge;refine Gz I.sv g c.sa c.po n.taker c.hd λh' g1 n1 k1=>?_
 obtain⟨od,es,ep,e1,rest⟩:=id n1;have lR:s.heap.objs.size≠e:=fy (aW g);have hnf:od.isFreed=false:=(dq.get?_some_iff.mp e1).2
 have gm:(s.heap.push od).get? s.heap.objs.size=some od:=bQ _ hnf;have I1:=I.laid (a:=s.heap.objs.size) (o:=AQ s.heap.objs.size [(f,y)]) (h':=s.heap.push od) (t':=s.toks) (λb u q=>aE _ q) (aA _)
  (AQ.ok (mA:=λz=>if z=f then some u else none) ⟨od,es,ep,gm,rest⟩ (λz=>by
   by_cases hz:z=f
   ·subst hz
    show oB (([(z,y)]:List (Str×V)).lookup z) (if z=z then some u else none)
    rw[if_pos rfl,dU,beq_self_eq_true];exact ry
   ·show oB (([(f,y)]:List (Str×V)).lookup z) (if z=f then some u else none)
    rw[if_neg hz,dU,beq_false_of_ne hz];exact eX) (nU f u (ns:=[]) λz hz=>absurd rfl hz))
 refine q s.heap.objs.size _ (I.hok.fresh (aA _)) lR ?_
 refine I1.write (x:=e) (e:=e) (h':=h') (t':=s.toks+2) (by rw[aT (bU lR),ge];exact eX) (.inl rfl) (λb o hb gb=>?_) ⟨_,g1⟩ (mB.ok g1)
 by_cases hbd:b=s.heap.objs.size
 ·subst hbd
  have YL:(s.heap.push od).get? s.heap.objs.size=some o:=gb;rw[gm]at YL;cases YL;exact e1
 ·have YL:(s.heap.push od).get? b=some o:=gb
  rcases dq.get?_push_cases YL with⟨z,_⟩|z
  ·exact absurd z hbd
  ·exact k1 b o hb z
theorem Kg(I:Inv X pins σ H s)(ge:H e=some (mB C e (some dx)))(gd:H dx=some (AQ dx fs))(lR:dx≠e)(c:GA X.K C)(n:fY X.K C f)(hl:fs.length<50)(ry:RelV y u)
  (q:∀s',Inv X pins σ (upd H dx (AQ dx (lr f y fs))) s'->Q () s'):wpAny (model X.prog X.w) A (setAttr (.ref e) f u) Q E s:=by
 obtain⟨t,sl,g⟩:=mB.at I.hok ge;obtain⟨mA,n1,r,wi⟩:=AQ.at I.hok gd;refine Kf I.sv g n1 lR c.sa c.po n.taker c.hd wi (by rw[aj];omega) λh' g1 n2 k1=>q _ ?_
 refine I.write (x:=dx) (e:=dx) (by rw[gd];exact eX) (.inl rfl) (λb o hb gb=>k1 b o hb gb) ?_ (AQ.ok n2 (λz=>?_) λz hz=>?_)
 ·obtain⟨o,_,_,e',_⟩:=n2;exact⟨o,e'⟩
 ·show oB ((lr f y fs).lookup z) (if z=f then some u else mA z)
  rw[sO];by_cases hz:z=f
  ·rw[if_pos hz,if_pos hz];exact ry
  ·rw[if_neg hz,if_neg hz];exact r z
 ·by_cases hzf:z=f
  ·rw[hzf];exact(qd f y fs).1
  ·refine(qd f y fs).2 z (wi z λw=>hz ?_)
   show(if z=f then some u else mA z)=none
   rw[if_neg hzf];exact w
end
section
variable{X:Cx}{o value a1 a2:cw}{f x y:Str}{pos pos' p p2 ap p3 p4:Pos}{j4:Nat}{ta tv:TE}{C M dx:aN}{i:Nat}
def Tj(K:av)(ta tv:TE)(f:Str):TS:=λD σ H=>tv σ H λv H1=>ta σ H1 λx H2=>∃e C,x=.ref e/\H2 e=some (mB C e none)/\GA K C/\fY K C f/\
 ∀dx,H2 dx=none->dx≠e->D.nx σ (upd (upd H2 dx (AQ dx [(f,v)])) e (mB C e (some dx)))
def Tn(K:av)(ta tv:TE)(f:Str):TS:=λD σ H=>tv σ H λv H1=>ta σ H1 λx H2=>∃e C dx fs,x=.ref e/\H2 e=some (mB C e (some dx))/\H2 dx=some (AQ dx fs)/\dx≠e/\GA K C/\fY K C f/\fs.length<50/\
 D.nx σ (upd H2 dx (AQ dx (lr f v fs)))
theorem MD(ha:PE X o ta)(hv:PE X value tv)(hs:swapsWith value (some (.Attribute o f pos')) pos.line X.env=pure false):PS X (.Assign [.Attribute o f pos'] value pos) (Tj X.K ta tv f):=by
 intro pins s σ H D I h;refine nV (gj (hv pins s σ H _ I h) λu s1 ⟨v,H1,I1,rv,q⟩=>gj (ha pins s1 σ H1 _ I1 q) λov s2 ⟨x,H2,I2,rx,e,C,ex,ge,c,n,q2⟩=>?_) hs
 subst ex;obtain rfl:ov=bA e:=rx;exact GB I2 ge c n rv λdx s3 h1 h2 I3=>⟨σ,_,I3,q2 dx h1 h2⟩
theorem MF(ha:PE X o ta)(hv:PE X value tv)(hs:swapsWith value (some (.Attribute o f pos')) pos.line X.env=pure false):PS X (.Assign [.Attribute o f pos'] value pos) (Tn X.K ta tv f):=by
 intro pins s σ H D I h;refine nV (gj (hv pins s σ H _ I h) λu s1 ⟨v,H1,I1,rv,q⟩=>gj (ha pins s1 σ H1 _ I1 q) λov s2 ⟨x,H2,I2,rx,e,C,dx,fs,ex,ge,gd,lR,c,n,hl,q2⟩=>?_) hs
 subst ex;obtain rfl:ov=bA e:=rx;exact Kg I2 ge gd lR c n hl rv λs3 I3=>⟨σ,_,I3,q2⟩
def WH(x:Str)(ta:TE):TE:=λσ H Q=>ta σ H λv H1=>∃y,v=.str y/\y.length<=sizeLine/\(eP++x++y).length<=sizeLine/\Q (.str (eP++x++y)) H1
theorem Pw(he:PE X a1 ta)(hx:(eP++x).length<=sizeLine):PE X (.JoinedStr [.Constant (.str x) j4 p3,.FormattedValue a1 (-1) none p4] p) (WH x ta):=by
 intro pins s σ H Q I h;refine JoinedStr_many (joinParts_cons (Calls.Constant_str ⟨hx,joinParts_cons (FormattedValue_plain (gj (he pins _ σ H _ (I.tok _) h) λv s1 ⟨v1,H1,I1,rv,y,ey,hy,YM,q⟩=>?_))⟩))
 subst ey;obtain⟨tk,rfl⟩:=rv;refine formatField_str (λt' tk=>⟨YM,joinParts_nil ⟨.str _,H1,(I1.tok _).tok _,⟨_,rfl⟩,q⟩ YM⟩) hy
def za3(K:av)(t:TA):TE:=λσ H Q=>t σ H λvs H1=>∃e C dx v2,vs=[.ref e,v2]/\H1 e=some (mB C e dx)/\GA K C/\Q .non H1
theorem Tp{pl:Sem Bool}{t:TA}(hg:Gl X x)(hm:X.mg x=some (.ref M))(hr:yy X.K M (.type "type")=true)(hf:yz X.K (.ref M) (.type "type") "__init__"=some (.val (.builtin "ValueError.__init__")))
  (yN:lz X.K (.ref M) "__getattribute__"=some (some (.builtin "type.__getattribute__")))(ha:PA X [a1,a2] t)(qP:(x==("__debug__":Str))=false:=by decide)
  (he:starEach [a1,a2] X.env=(false,eval a1 X.env)::starEach [a2] X.env:=by rfl)(pY:(backTo pos (starEach [a2] X.env)).any (·.1)=false:=by rfl)
  (ht:eval (.Call (.Attribute (.Name x p) "__init__" ap) [a1,a2] [] pos) X.env=(do
   let ov <-eval (.Name x p) X.env
   standAt ap.atName
   let(f,first) <-holding [ov] (getMethod ov "__init__" pl)
   callWith pos f first (backTo pos (starEach [a1,a2] X.env)) (backToKw pos (keywordEach [] X.env))):=by rfl):PE X (.Call (.Attribute (.Name x p) "__init__" ap) [a1,a2] [] pos) (za3 X.K t):=by
 intro pins s σ H Q I h;refine PySem.W.methodCall_KW (pl:=pl) (qL I hg hm ?_ qP) ht
 refine PySem.W.method_cls I.sv yN (PySem.W.cls_value I.sv hr hf rfl ?_)
 refine callWith_builtin1 (gj (ha pos pins _ σ H _ (I.tok _) h) λus s1 ⟨vs,H1,I1,r1,e,C,dx,v2,ev,ge,c,q⟩=>?_) he pY
 subst ev;obtain⟨u1,u2,rfl,ru1,Uu⟩:=vals2 r1;obtain rfl:u1=bA e:=ru1;obtain⟨t0,sl,g⟩:=mB.at I1.hok ge;obtain⟨nm,q0,N,bs,bm,hdct,sn,sub,ab,col,dd,k0,k1,k2,k3,k5,lk,cB,_⟩:=c.ob;obtain⟨hh,gg,d,tk,os⟩:=s1;refine Ti zc cB (I1.sv _ _ lk) g (by show 1<=sizeLine;rw[du];decide) λh' t1 g1 kk=>?_
 have hu:upd H1 e (mB C e dx)=H1:=by
  funext b
  by_cases hb:b=e
  ·subst hb;rw[b0,ge]
  ·rw[aT hb]
 have I2:=I1.write (x:=e) (e:=e) (h':=h') (t':=tk) (by rw[ge];exact eX) (.inl rfl) (λb o hb gb=>kk b o hb gb) ⟨_,g1⟩ (mB.ok (dx:=dx) g1)
 rw[hu]at I2;exact⟨.non,H1,I2,rfl,q⟩
end
section
variable{X:Cx}{CX:JQ}{k:Nat}{f C:aN}{fd:fN}{ps:List Str}{sp:Sp}{E:XK}
structure WK(K:av)(C f:aN):Prop extends GA K C where
 init:ck K (.ref C) "__init__"=some (some (.ref f))
 fn:vK K (.ref f)=true
theorem Kh{σ:St}{Q:VK}{us:List aD}(M:WK X.K C f)(F:eQ X.prog X.w X.K X.mg X.base CX k f fd ps sp)(hr:fZ (k+1) X.A)(hb:Binds X.K fd ps [])
  (hx:u6 CX X E)(I:Inv X pins σ H s)(r:dZ vs us)(few:us.length<=sizeLine)
  (h:∀e,H e=none->s.heap.objs.size<=e->sp (.ref e::vs) (upd H e (mB C e none)) (λv H2=>v=.non/\Q (.ref e) H2) E):
  wpAny (model X.prog X.w) X.A (call (.ref C) us) (EP X pins σ Q) X.xe s:=by
 obtain⟨nm,q0,N,bs,bm,hdct,sn,sub,ab,col,dd,k0,k1,k2,k3,k5,lk,cB,cA,cN,_⟩:=M.ob;obtain⟨hh,gg,d,tk,os⟩:=s;have gC:=I.sv _ _ lk;refine Tg zc cB cA cN I.sv gC M.init (beq_iff_eq.mp M.fn) ?_ few
 have up:∀b o,hh.get? b=some o->(wo hh C us).get? b=some o:=λb o e=>aE _ (aE _ e)
 have ge:(wo hh C us).get? (hh.objs.size+1)=some (Gv C hh.objs.size):=by heap_get
 have I2:=I.laid (a:=hh.objs.size+1) (o:=mB C (hh.objs.size+1) none) (h':=wo hh C us) (t':=tk) up (jK _) (mB.ok (t:=hh.objs.size) (sl:=#[]) ge);have hq:=h (hh.objs.size+1) (I.hok.fresh (jK _)) (jK _);have r2:dZ (V.ref (hh.objs.size+1)::vs) (bA (hh.objs.size+1)::us):=.cons rfl r;have hl:(bA (hh.objs.size+1)::us ++ []).length=ps.length:=by
  rw[dA];have e:=r2.length;rw[F.len _ _ _ _ hq]at e;exact e.symm
 refine mq (lj (F.run _ X.stack _ _ ⟨bA (hh.objs.size+1)::us,[]⟩ (bA (hh.objs.size+1)::us) _ _ E (hr.make C us []) (I2.env0.make C us []) ?_ r2 hq) λr s' D4=>?_)
 ·have:=hb _ (bA (hh.objs.size+1)::us) I2.sv hl
  rw[dA]at this;exact this
 cases r with
 |error e=>exact hx pins σ _ _ e s' I2 D4
 |ok fl=>
  cases fl with
  |ret u=>
   obtain⟨v,H',I3,rv,ev,q3⟩:=I2.after D4;subst ev;exact⟨rv,⟨V.ref (hh.objs.size+1),H',I3,rfl,q3⟩⟩
  |next=>exact fh D4
  |brk=>exact fh D4
  |cont=>exact fh D4
end
def mD(C e dx T:aN):HO:=.ext λh=>∃us sl,h.get? e=some { cls:=.ref C,dict:=some dx,data:=.fields us,slots:=sl }/\us[1]?=some (.ref T)
def xI(T:aN):HO:=.ext λh=>∃oT ts,h.get? T=some oT/\oT.data=.fields ts/\ts[3]?=some .none
theorem mD.ok(g:h.get? e=some { cls:=.ref C,dict:=some dx,data:=.fields us,slots:=sl })(u:us[1]?=some (.ref T)):hZ P w H h e (mD C e dx T):=
 ⟨⟨us,sl,g,u⟩,⟨_,g⟩,λh1 h2 ⟨us,sl,q,u⟩ k=>⟨us,sl,k _ q,u⟩⟩
theorem xI.ok{oT:Obj}(g:h.get? T=some oT)(d:oT.data=.fields ts)(u:ts[3]?=some .none):hZ P w H h T (xI T):=
 ⟨⟨oT,ts,g,d,u⟩,⟨_,g⟩,λh1 h2 ⟨oT,ts,q,d,u⟩ k=>⟨oT,ts,k _ q,d,u⟩⟩
def HL(H:Hp)(ex:List aN)(e T:aN)(o1 o2:HO):Hp:=λb=>if b=e then some o1 else if b=T then some o2 else if b∈ex then none else H b
section
variable{H:Hp}{ex:List aN}{e T b:aN}{o1 o2:HO}
theorem Ki:HL H ex e T o1 o2 e=some o1:=if_pos rfl
theorem Kj(h:T≠e):HL H ex e T o1 o2 T=some o2:=by unfold HL;rw[if_neg h,if_pos rfl]
theorem r6(h1:b≠e)(h2:b≠T)(h3:b∉ex):HL H ex e T o1 o2 b=H b:=by unfold HL;rw[if_neg h1,if_neg h2,if_neg h3]
theorem WL(h1:b≠e)(h2:b≠T)(h3:b∈ex):HL H ex e T o1 o2 b=none:=by unfold HL;rw[if_neg h1,if_neg h2,if_pos h3]
end
def tj(o:Option HO):Prop:=∃φ,o=some (.ext φ)
section
variable{P:bM}{w:cy}{fs ex:List aN}{H0 H:Hp}{h0 h h':dq}{L e T:aN}{oe:Obj}{o1 o2:HO}
theorem Ew(u:Un fs [] H0 H h0 h)(l:zT (L::fs) ex e oe h h')(hL:h0.objs.size<=L)(he:h0.objs.size<=e)(hx:∀x∈ex,h0.objs.size<=x)(ie:tj (H e))(ix:∀x∈ex,tj (H x))(hT:h.get? T=none)(nT:H T=none):
  Un fs [] H0 (HL H ex e T o1 o2) h0 h':=by
 have nL:∀b o,h0.get? b=some o->b≠L:=λb o q z=>by subst z;exact absurd (aW q) (Nat.not_lt.mpr hL)
 have ne:∀b o,h0.get? b=some o->b≠e:=λb o q z=>by subst z;exact absurd (aW q) (Nat.not_lt.mpr he)
 have nx:∀b o,h0.get? b=some o->b∉ex:=λb o q z=>absurd (aW q) (Nat.not_lt.mpr (hx b z))
 have MG:∀b (o:HO),H b=some o->(∀φ,o≠.ext φ)->b≠e/\b≠T/\b∉ex:=λb o q z=>by
  refine⟨λq2=>?_,λq2=>?_,λq2=>?_⟩
  ·obtain⟨φ,r⟩:=ie;rw[q2,r]at q;cases q;exact z φ rfl
  ·rw[q2,nT]at q;cases q
  ·obtain⟨φ,r⟩:=ix b q2;rw[r]at q;cases q;exact z φ rfl
 refine⟨λb o q n hf hb=>?_,λb o q n hf hb=>?_,λb o q n hb=>?_,λb o q hb=>?_,λb xs q=>?_,λb o u' q=>?_,λb ps q=>?_⟩
 ·refine l.keep b o (u.keep b o q n hf hb) ?_ (nx b o q) (ne b o q)
  intro z;rcases aJ.mp z with z|z
  ·exact nL b o q z
  ·exact hf z
 ·obtain⟨sl,q1⟩:=u.slot b o q n hf hb
  obtain⟨Um,q2⟩:=l.slot b _ q1 (aU _ hf) (nx b o q) (ne b o q);exact⟨Um,q2⟩
 ·have z:=u.free b o q n hb
  obtain⟨o',q1⟩:=u.there b o q hb;rw[r6 (ne b o q) (λz=>by subst z;rw[hT]at q1;cases q1) (nx b o q)]
  exact z
 ·obtain⟨o',q1⟩:=u.there b o q hb
  by_cases hf:b∈L::fs
  ·obtain⟨sl,q2⟩:=l.slot b o' q1 hf (nx b o q) (ne b o q)
   exact⟨_,q2⟩
  ·exact⟨_,l.keep b o' q1 hf (nx b o q) (ne b o q)⟩
 ·have z:=u.tups b xs q
  obtain⟨a1,a2,a3⟩:=MG b _ z (by intro φ z;cases z)
  rw[r6 a1 a2 a3];exact z
 ·have z:=u.xj b o u' q
  obtain⟨a1,a2,a3⟩:=MG b _ z (by intro φ z;cases z)
  rw[r6 a1 a2 a3];exact z
 ·obtain⟨more,z⟩:=u.yB b ps q
  obtain⟨a1,a2,a3⟩:=MG b _ z (by intro φ z;cases z)
  exact⟨more,by rw[r6 a1 a2 a3];exact z⟩
theorem xJ(k:su P w H h)(l:zT (L::fs) ex e oe h h')(nf:∀b∈L::fs,H b=none)(ie:tj (H e))(ix:∀x∈ex,tj (H x))(hT:h.get? T=none)(nT:H T=none)
  (n1:hZ P w (HL H ex e T o1 o2) h' e o1)(n2:hZ P w (HL H ex e T o1 o2) h' T o2):su P w (HL H ex e T o1 o2) h':=by
 intro b o q;by_cases hb:b=e
 ·subst hb;rw[Ki]at q;cases q;exact n1
 by_cases Pu:b=T
 ·subst Pu;rw[Kj hb]at q;cases q;exact n2
 by_cases K_:b∈ex
 ·rw[WL hb Pu K_]at q;cases q
 rw[r6 hb Pu K_]at q;have MG:∀c (o:HO),H c=some o->(∀φ,o≠.ext φ)->c≠e/\c≠T/\c∉ex:=λc o q z=>by
  refine⟨λq2=>?_,λq2=>?_,λq2=>?_⟩
  ·obtain⟨φ,r⟩:=ie;rw[q2,r]at q;cases q;exact z φ rfl
  ·rw[q2,nT]at q;cases q
  ·obtain⟨φ,r⟩:=ix c q2;rw[r]at q;cases q;exact z φ rfl
 refine(k b o q).stay (λc u hc r=>?_) (λc r=>?_) λc xs r=>?_
 ·rcases hc with rfl|hc
  ·exact l.keep c u r (λz=>by rw[nf c z]at q;cases q) K_ hb
  ·obtain⟨a1,a2,a3⟩:=MG c _ hc (by intro φ z;cases z)
   exact l.keep c u r (λz=>by rw[nf c z]at hc;cases hc) a3 a1
 ·obtain⟨a1,a2,a3⟩:=MG c _ r (by intro φ z;cases z)
  rw[r6 a1 a2 a3];exact r
 ·obtain⟨a1,a2,a3⟩:=MG c _ r (by intro φ z;cases z)
  rw[r6 a1 a2 a3];exact r
theorem qZ:∀{l:List Env},(∀b∈l.filterMap (·.frame),∀o,h.get? b=some o->∃o',h'.get? b=some o'/\o'.data=o.data)->h.FunFrames base l->h'.FunFrames base l
 | [],_,_=>trivial
 |env::rest,k,⟨hk,⟨L,o,hf,hn,ho,hd⟩,hr⟩=>by
  obtain⟨o',Cv,rX⟩:=k L (by rw[iq,hf];exact aO) o ho
  exact⟨hk,⟨L,o',hf,hn,Cv,λvs=>rX▸hd vs⟩,qZ (λb hb=>k b (by rw[iq,hf];exact aU _ hb)) hr⟩
end
def Tq(P:bM)(w:cy):JQ:=λouter H s E e s'=>∃ea C dx T H',e=.ref ea/\s'.os=s.os/\sf s'.gens/\Un (DV outer) [] H H' s.heap s'.heap/\su P w H' s'.heap/\
 H' ea=some (mD C ea dx T)/\H' T=some (xI T)/\T≠ea/\s.heap.objs.size<=ea/\s.heap.objs.size<=T/\E (.ref ea) (some T) H'
section
variable{P:bM}{w:cy}{K:av}{mg:Str->Option aD}{base:dq}{N:List Str}{qual:Str}{scope:lS}{f:aN}{cd:aD}{A:ej}{outer:List Env}{s0:aQ}{H0:Hp}{E:XK}
variable{pins:List (aN×Obj)}{σ:St}{H:Hp}{s:aQ}
abbrev BM(P:bM)(w:cy)(K:av)(mg:Str->Option aD)(base:dq)(N:List Str)(qual:Str)(scope:lS)(f:aN)(cd:aD)(A:ej)(outer:List Env)(s0:aQ)(H0:Hp)(E:XK):Cx:=sP (Tq P w) P w K mg base N qual scope f cd A outer s0 H0 E
theorem oG(I:Inv (BM P w K mg base N qual scope f cd A outer s0 H0 E) pins σ H s):
  s.heap.FunFrames base (envOfC qual scope s0.heap.objs.size f cd::outer)/\s0.heap.objs.size<=s.heap.objs.size/\(∀b∈s0.heap.objs.size::DV outer,H b=none)/\(envOfC qual scope s0.heap.objs.size f cd::outer).filterMap (·.frame)=s0.heap.objs.size::DV outer:=by
 obtain⟨m,F8,_⟩:=I.loc;have hb:base.get? s0.heap.objs.size=none:=by
  cases q:base.get? s0.heap.objs.size with
  |none=>rfl
  |some o=>exact absurd (aW (I.ok.bs _ o q).1) (jf _)
 have WM:∀b∈DV outer,H0 b=none/\∃o,s0.heap.get? b=some o:=λb hb=>by
  obtain⟨_,o,ho,_⟩:=(show s0.heap.FunFrames base outer from I.ok.rW).mem hb
  exact⟨I.ok.Lc b hb,o,ho⟩
 refine⟨?_,?_,?_,rfl⟩
 ·refine zh (L:=s0.heap.objs.size) (m:=m) (by rw[show(envOfC qual scope s0.heap.objs.size f cd).scope.kind=.function from I.ok.kind];decide) rfl F8 hb (qZ (λb hb o ho=>?_) (show s0.heap.FunFrames base outer from I.ok.rW))
  obtain⟨sl,q⟩:=I.base.any ho (WM b hb).1 (by intro z;exact absurd (show b∈([]:List aN)from z) (by simp))
  exact⟨_,q,rfl⟩
 ·obtain⟨o,_,_,ho,_⟩:=F8
  exact oZ (aW ho)
 ·intro b hb
  rcases aJ.mp hb with rfl|hb
  ·exact I.free
  ·obtain⟨h1,o,ho⟩:=WM b hb
   exact I.base.free b o ho h1 (by intro z;exact absurd (show b∈([]:List aN)from z) (by simp))
theorem Ey(I:Inv (BM P w K mg base N qual scope f cd A outer s0 H0 E) pins σ H s)(ge:H e=some (mB C e (some dx)))(he:s0.heap.objs.size<=e)(hE:∀T,H T=none->T≠e->E (.ref e) (some T) (HL H [] e T (mD C e dx T) (xI T))):
  (BM P w K mg base N qual scope f cd A outer s0 H0 E).xe (.ref e) s:=by
 obtain⟨ff,sz,nf,UA⟩:=oG I;obtain⟨t,sl,g⟩:=mB.at I.hok ge;show wpAny (model P w) _ (leaving _ _) _ _ s;refine Es (base:=base) (L:=s0.heap.objs.size) I.ok.frames ff rfl g rfl rfl λh' l=>?_
 rw[UA]at l;obtain⟨T,oT,ts,hT,g1,lR,g2,d2,t3⟩:=l.exc;have nT:H T=none:=I.hok.fresh hT;have gT:=nM hT;have ie:tj (H e):=⟨_,ge⟩;have gm:h'.get? e=some { cls:=.ref C,dict:=some dx,data:=.fields #[.ref t,.ref T,.none,.none,.bool false,.none],slots:=sl }:=g1;refine⟨e,C,dx,T,HL H [] e T (mD C e dx T) (xI T),rfl,I.os,I.bare,Ew I.base l (aA _) he (λx hx=>(nomatch hx)) ie (λx hx=>(nomatch hx)) gT nT,xJ I.hok l nf ie (λx hx=>(nomatch hx)) gT nT (mD.ok gm rfl) (xI.ok g2 d2 t3),Ki,Kj lR,lR,he,b9 sz hT,hE T nT lR⟩
theorem Px{T0: aN}(I:Inv (BM P w K mg base N qual scope f cd A outer s0 H0 E) pins σ H s)(ge:H e=some (mD C e dx T0))(gT0:H T0=some (xI T0))(ne0:T0≠e)(he:s0.heap.objs.size<=e)(hT0:s0.heap.objs.size<=T0)
  (hE:∀T,H T=none->T≠e->E (.ref e) (some T) (HL H [T0] e T (mD C e dx T) (xI T))):(BM P w K mg base N qual scope f cd A outer s0 H0 E).xe (.ref e) s:=by
 obtain⟨ff,sz,nf,UA⟩:=oG I;obtain⟨us,sl,g,u1⟩:=(I.hok e _ ge).1;obtain⟨oT0,ts0,gt0,dt0,t30⟩:=(I.hok T0 _ gT0).1;show wpAny (model P w) _ (leaving _ _) _ _ s;refine Gu (base:=base) (L:=s0.heap.objs.size) I.ok.frames ff rfl g rfl u1 ne0 gt0 dt0 t30 λh' l=>?_
 rw[UA]at l;obtain⟨T,oT,ts,hT,g1,lR,g2,d2,t3⟩:=l.exc;have nT:H T=none:=I.hok.fresh hT;have gT:=nM hT;have ie:tj (H e):=⟨_,ge⟩;have ix:∀x∈[T0],tj (H x):=λx hx=>by rw[a_.mp hx];exact⟨_,gT0⟩
 have gm:h'.get? e=some { cls:=.ref C,dict:=some dx,data:=.fields (us.setIfInBounds 1 (.ref T)),slots:=sl }:=g1;have hsz:1<us.size:=(eE.mp u1).1;refine⟨e,C,dx,T,HL H [T0] e T (mD C e dx T) (xI T),rfl,I.os,I.bare,Ew I.base l (aA _) he (λx hx=>by rw[a_.mp hx];exact hT0) ie ix gT nT,xJ I.hok l nf ie ix gT nT (mD.ok gm (by simp[hsz])) (xI.ok g2 d2 t3),Ki,Kj lR,lR,he,b9 sz hT,hE T nT lR⟩
theorem MH{E':XK}(h:∀pins σ H s e C dx T0 T,Inv (BM P w K mg base N qual scope f cd A outer s0 H0 E) pins σ H s->H e=some (mD C e dx T0)->H T0=some (xI T0)->E' (.ref e) (some T0) H->H T=none->T≠e->E (.ref e) (some T) (HL H [T0] e T (mD C e dx T) (xI T))):
  u6 (Tq P w) (BM P w K mg base N qual scope f cd A outer s0 H0 E) E':=by
 rintro pins σ H s e s' I ⟨ea,C,dx,T,H',rfl,os,bare,un,hok,ge,gT,ne,se,sT,q⟩
 obtain⟨hh,gg,d,tk,Lr⟩:=s';obtain rfl:Lr=s.os:=os;have I2:=I.call (h':=hh) (g':=gg) (d':=d) (t':=tk) (ch:=[]) un hok bare (λb z=>absurd z (by simp))
 obtain⟨_,sz,_,_⟩:=oG I;exact Px I2 ge gT ne (b9 sz se) (b9 sz sT) λT' h1 h2=>h pins σ H' _ ea C dx T T' I2 ge gT q h1 h2
end
def yW(C:aN):Sp:=λvs H Q _=>∃e v1 x2,vs=[.ref e,v1,.str x2]/\x2.length<=1000/\H e=some (mB C e none)/\
 ∀dx,H dx=none->dx≠e->Q .non (upd (upd (upd H dx (AQ dx [("place",v1)])) e (mB C e (some dx))) dx (AQ dx (lr "word" (.str x2) [("place",v1)])))
abbrev wq(p:Int)(wd:Str):List (Str×V):=lr "word" (.str wd) [("place",.int p)]
def I0(C:aN)(p:Int)(wd:Str)(B0 B:Hp)(e dx:aN)(H:Hp):Prop:=∃H1,dW B0 B H1 H/\H1 e=none/\B e=none/\H1 dx=none/\B dx=none/\dx≠e/\H dx=some (AQ dx (wq p wd))
section
variable{X:Cx}{B0 B H0 H:Hp}{σ:St}{D:Ends}{δ:List Slot}{a1 a2 tg iter:cw}{p:Int}{wd x y:Str}{np oC pos:Pos}{k:Nat}{fI C:aN}{fd:fN}{body:List iH}{ds:List aq}
theorem I_(f:gW X.K B0 B H0 H σ δ)(M:WK X.K C fI)(F:eQ X.prog X.w X.K X.mg X.base jE k fI fd ["self","place","word"] (yW C))(hr:fZ (k+1) X.A)(hb:Binds X.K fd ["self","place","word"] [])(hg:Gl X x)(hm:X.mg x=some (.ref C))
  (h1:VE X a1 δ (.int p))(h2:VE X a2 δ (.str wd))(hl:wd.length<=1000)
  (hW:∀pins σ H2 s e dx,Inv X pins σ H2 s->H2 e=some (mB C e (some dx))->X.s₀.heap.objs.size<=e->I0 C p wd B0 B e dx H2->X.xe (.ref e) s)
  (hs0:∀pins σ H s,Inv X pins σ H s->X.s₀.heap.objs.size<=s.heap.objs.size)(hh:X.A.handled=none)
  (qP:(x==("__debug__":Str))=false:=by decide)(he:starEach [a1,a2] X.env=(false,eval a1 X.env)::starEach [a2] X.env:=by rfl)(Sy:starEach [a2] X.env=(false,eval a2 X.env)::starEach [] X.env:=by rfl)(pY:(backTo oC (starEach [a2] X.env)).any (·.1)=false:=by rfl):
  cS X (.Raise (some (.Call (.Name x np) [a1,a2] [] oC)) none pos) D σ H:=λpins s I=>by
 obtain⟨nm,q0,N,bs,bm,hdct,sn,sub,ab,col,dd,k0,k1,k2,k3,k5,lk,_,_,_,cE⟩:=M.ob;show wpAny (model X.prog X.w) X.A (do standAt pos;raiseStmt X.env (some (do let v <-eval (.Call (.Name x np) [a1,a2] [] oC) X.env;standAt pos;pure v)) none) _ _ s
 refine au (lV (Gy (C:=C) (nm:=nm) (q:=q0) (N:=N) (bs:=bs) (bm:=bm) (hdct:=hdct) (sn:=sn) (sub:=sub) (ab:=ab) (col:=col) (dd:=dd) (k0:=k0) (k1:=k1) (k2:=k2) (k3:=k3) (k5:=k5) (newId:="ValueError.__new__") cE hh (au (eT ?_ (λv s1 q=>au (lV (aZ q))) λ_ _ z=>z))))
 refine j5 (qL I hg hm ?_ qP)
 have ha:=cV (X:=X) (e:=a1) (es:=[a2]) (dD (X:=X) (e:=a1)) (cV (dD (X:=X) (e:=a2)) fB Sy) he;refine uW (h₀:=X.base) I.ok.mod.RH M.kp (gj (ha oC pins s σ H (λvs Hh=>∃Ha,dW B0 B Ha Hh/\vs=[.int p,.str wd]) I ?_) λus s1 ⟨vs,Hh,I1,r,Ha,g,ev⟩=>⟨I1.sv,?_⟩) he pY
 ·refine h1 B0 B σ H0 H _ f λv H1 dX g1 r1=>?_
  cases r1;refine h2 B0 B σ H1 dX _ (f.grow g1) λu H2 iL g2 r2=>?_
  cases r2;exact⟨H2,(f.ent.trans g1).trans g2,rfl⟩
 ·subst ev
  have few:us.length<=sizeLine:=by rw[<-r.length,du];show 2<=16777216;decide
  refine gj (Kh (CX:=jE) (E:=E0) (Q:=λv H2=>∃e dx,v=.ref e/\H2 e=some (mB C e (some dx))/\s1.heap.objs.size<=e/\I0 C p wd B0 B e dx H2) M F hr hb Bx I1 r few λe ne se=>?_) λu s2 ⟨v,H2,I2,rv,e,dx,ev,ge,se,wi⟩=>?_
  ·refine⟨e,.int p,wd,rfl,hl,b0,λdx nd lR=>⟨rfl,e,dx,rfl,?_,se,Ha,⟨λb o q=>?_,g.gL,λb o q=>?_,g.new⟩,g.sub.free ne,g.big.free ne,?_,?_,lR,b0⟩⟩
   ·rw[aT (bU lR),b0]
   ·have Mx:=g.big _ _ q
    have nd':Hh dx=none:=by rw[aT lR]at nd;exact nd
    have b1:=bE Mx ne;have b2:=bE Mx nd';rw[aT b2,aT b1,aT b2,aT b1];exact Mx
   ·have Mx:=g.sub _ _ q
    have nd':Hh dx=none:=by rw[aT lR]at nd;exact nd
    have b1:=bE Mx ne;have b2:=bE Mx nd';rw[aT b2,aT b1,aT b2,aT b1];exact Mx
   ·rw[aT lR]at nd;exact g.sub.free nd
   ·rw[aT lR]at nd;exact g.big.free nd
  ·subst ev
   obtain rfl:u=bA e:=rv;obtain⟨t,sl,gg⟩:=mB.at I2.hok ge;exact⟨e,some dx,t,sl,rfl,I2.sv _ _ lk,gg,hW pins σ H2 s2 e dx I2 ge (b9 (hs0 pins σ Hh s1 I1) se) wi⟩
theorem MJ{tgt:IC}(f:gW X.K B0 B H0 H σ δ)(hp:B' (model X.prog X.w) X.A X.env X.xe)(hc:X.calm=true)(hi:VI X tg iter δ ds)(hg:PG X tg (L7 X.K tgt))(δs:Nat->List Slot)(m:Nat)(h0:δs 0=δ)(hm:m<ds.length)
  (step:∀k d,k<m->ds[k]?=some d->∃δ',zD tgt d (δs k)=some δ'/\rO X body δ' (.nx (δs (k+1))))
  (last:∀d,ds[m]?=some d->∃δ',zD tgt d (δs m)=some δ'/\∀D' σ' Ha Hb,gW X.K B0 B Ha Hb σ' δ'->J1 X body D' σ' Hb)
  (hs:∀x,foldedSetIterable iter X.env x=pure x:=by intro _;rfl):cS X (.For tg iter body [] pos) D σ H:=λpins s I=>by
 obtain⟨wi,pi,qi⟩:=hi;refine Cy hp hc pi hg mh hs pins s σ H D I ?_
 refine qi B0 B σ H0 H _ f λJ H1 dX g it=>?_
 refine⟨λi mm σ' H'=>i<=m/\mm=m+1-i/\∃Ha,er H1 Ha/\gW X.K B0 B Ha H' σ' (δs i),⟨m+1,bK _,rfl,H1,er.refl _,by rw[h0];exact f.grow g⟩,?_⟩
 rintro i mm σ' H' ⟨hi,rfl,Ha,sm,fa⟩
 obtain⟨i1,i2,i3⟩:=it Ha H' sm fa.sub i;by_cases qI:i<m
 ·refine .inr ⟨i1 (by omega),λσ'' AJ=>∃Hb,er H1 Hb/\gW X.K B0 B Hb AJ σ'' (δs (i+1)),λσ'' AJ ⟨Hb,z1,z2⟩=>⟨m+1-(i+1),by omega,qI,rfl,Hb,z1,z2⟩,λv H2 y=>?_⟩
  have hd:ds[i]?=some (ds[i]'(by omega)):=by simp
  obtain⟨Hb,g2,rx⟩:=i3 v H2 _ hd y;obtain⟨δ',e1,e2⟩:=step i _ qI hd;refine qV (fa.grow g2) rx e1 λσ3 f3=>?_
  exact e2 B0 B σ3 Hb H2 _ f3 λσ4 Hc H4 s4 f4=>⟨Hc,(sm.trans g2.gL).trans s4,f4⟩
 ·have e:i=m:=by omega
  subst e;have hd:ds[i]?=some ds[i]:=by simp[hm]
  refine .inr ⟨i1 hm,λ_ _=>False,λ_ _ z=>z.elim,λv H2 y=>?_⟩
  obtain⟨Hb,g2,rx⟩:=i3 v H2 _ hd y;obtain⟨δ',e1,e2⟩:=last _ hd;refine qV (fa.grow g2) rx e1 λσ3 f3=>?_
  exact e2 _ σ3 Hb H2 f3
end
section
variable{M:Model}{A:ej}{E:aD->aQ->Prop}{s:aQ}
theorem Kk{env:Env}{out:List Env}{L: aN}{oe oT:Obj}
  (fr:A.frames=some (env::out))(ff:s.heap.FunFrames base (env::out))(fL:env.frame=some L)
  (ge:s.heap.get? e=some oe)(de:oe.data=.fields us)(u1:us[1]?=some (.ref T))(ne:T≠e)(gT:s.heap.get? T=some oT)(dT:oT.data=.fields ts)(t3:ts[3]?=some .none)
  (q:∀h',zT ((env::out).filterMap (·.frame)) [T] e oe s.heap h'->Q () { s with heap:=h' }):wpAny M A (noteFrame (.ref e) env) (λ_ s2=>wpAny M A (setFlight (.ref e) none) Q E s2) E s:=by
 unfold noteFrame;simp only[fL];refine au (dQ ge de u1 ?_)
 rw[if_pos (show(bA T != ef)=true from by simp)]
 refine au (dQ gT dT t3 ?_)
 rw[if_neg (show ¬((ef==rawInt L)=true)from by simp[rawInt])]
 refine au (kW gT dT (eE.mp t3).1 ?_)
 have ot:∀b,b≠T->(s.heap.update T (j0 (·.setIfInBounds 3 ef))).get? b=s.heap.get? b:=λb hb=>df _ _ (bU hb)
 have noT:∀b o,s.heap.get? b=some o->(∀vs,o.data≠.fields vs)->b≠T:=λb o hb hn z=>by
  rw[z,gT]at hb;injection hb with hb;subst hb;exact hn ts dT
 refine vd fr (ff.of_keeps λb o hb hn=>⟨o,(ot b (noT b o hb hn)).trans hb,rfl⟩) fL ((ot e (bU ne)).trans ge) de (eE.mp u1).1 λh' l=>q h' ⟨?_,λb o hb hf hx be=>?_,λb o hb hf hx be=>?_,λb o hb=>?_,?_⟩
 ·have:=l.size
  rw[iB]at this;exact this
 ·exact l.keep b o ((ot b (by simpa using hx)).trans hb) hf (by simp) be
 ·exact l.slot b o ((ot b (by simpa using hx)).trans hb) hf (by simp) be
 ·by_cases Pu:b=T
  ·subst Pu
   exact l.there b _ (eY _ gT (iR (fS dT _)))
  ·exact l.there b o ((ot b Pu).trans hb)
 ·obtain⟨T',oT',ts',h1,h2⟩:=l.exc
  rw[iB]at h1;exact⟨T',oT',ts',h1,h2⟩
end
section
variable{X:Cx}{pins:List (aN×Obj)}{σ:St}{H:Hp}{s:aQ}{C M e dx T:aN}{E:aD->aQ->Prop}
structure Py(K:av)(C M:aN):Prop where
 ob:∃nm q N bs bm hdct sn sub ab col dd k0 k1 k2 k3 k5 YN q' N' YQ UB Ja YR Pz YS PB Gc YT YV YW YX YY,K.lookup C=some (excClassObj nm q C N bs bm hdct sn sub ab col dd k0 k1 k2 k3 k5 "ValueError.__new__")/\K.lookup M=some (excClassObj YN q' M N' YQ UB Ja YR Pz YS PB Gc YT YV YW YX YY "ValueError.__new__")/\
  (bA C::bm).contains (.ref M)=true/\(bA M::UB).contains (.type "BaseException")=true
theorem Ez{Q:Bool->aQ->Prop}(KX:X.K.In s.heap)(c:Py X.K C M)(ge:s.heap.get? e=some { cls:=.ref C,dict:=some dx,data:=.fields us,slots:=sl })(hq:Q true s):
  wpAny (model X.prog X.w) A (excMatches (.ref e) (.ref M)) Q E s:=by
 obtain⟨nm,q,N,bs,bm,hdct,sn,sub,ab,col,dd,k0,k1,k2,k3,k5,YN,q',N',YQ,UB,Ja,YR,Pz,YS,PB,Gc,YT,YV,YW,YX,YY,lC,lM,cM,cB⟩:=c.ob;obtain⟨hh,g,d,tk,os⟩:=s;have gC:=KX _ _ lC;have gM:=KX _ _ lM;have f:=tc_notTuple;unfold excMatches
 repeat (first|with_reducible refine fk ge ?_|with_reducible refine fk gM ?_|(with_reducible refine iG gM ?_;rw[cB])|(with_reducible refine iG gC ?_;rw[cM])|wp_step)
 exact hq
theorem Kl{M:Model}{i:Nat}{x:Str}(I:Inv X pins σ H s)(hN:X.N.Nodup)(hi:X.N[i]?=some x)(hk:X.env.scope.names.lookup x=some .local)(h:∀s',Inv X pins (σ.set i none) H s'->Q () s'):
  wpAny M A (do bindName X.env x .none;unbindBehindTheSuite X.env x pos) Q E s:=by
 obtain⟨m,hn,hl⟩:=id I.loc;have RK:(X.env.scope.kind == .class||(X.env.scope.kind == .module&&X.env.locals != X.env.globals))=false:=by rw[I.ok.kind];rfl
 have hiσ:i < σ.length:=by rw[I.len];exact(aL.mp hi).1
 have Ld:=I.Ld;refine wpAny_nameGoes_keeps hk hn RK λh' v Zz hs=>h _ ?_
 obtain⟨oL,_,_,hoL,_⟩:=id hn;refine⟨I.ok,I.os,I.bare,⟨λb o e n hb hx=>?_,λb o e n hb hx=>?_,I.base.free,λb o e hx=>?_,I.base.tups,I.base.xj,I.base.yB⟩,⟨_,Zz,λj y v' e1 e2 e3=>?_⟩,λy c e=>?_,I.free,I.pj,λp hp=>?_,λb ob e=>?_,by simpa using I.len⟩
 ·exact(hs.2 b (bB (bY (aW e) I.ok.above))).trans (I.base.keep b o e n hb hx)
 ·obtain⟨sl,e1⟩:=I.base.slot b o e n hb hx
  exact⟨sl,(hs.2 b (bB (bY (aW e) I.ok.above))).trans e1⟩
 ·obtain⟨o',e1⟩:=I.base.there b o e hx
  exact⟨o',(hs.2 b (bB (bY (aW e) I.ok.above))).trans e1⟩
 ·by_cases hj:j=i
  ·subst hj
   rw[bf hiσ]at e2;cases e2
  ·rw[a7 (bU hj)]at e2
   obtain⟨u',r',q⟩:=hl j y v' e1 e2 e3;refine⟨u',r',?_⟩
   rcases q with⟨k,e⟩|⟨k,c,e,z⟩
   ·refine .inl ⟨k,?_⟩
    have:y≠x:=λe=>hj (zk hN e1 (e▸hi))
    simp[this,e]
   ·exact .inr ⟨k,c,e,z.sameBut hs (Ld y c e)⟩
 ·obtain⟨w',z⟩:=I.cell y c e
  exact⟨w',z.sameBut hs (Ld y c e)⟩
 ·obtain⟨e,n,ne,nf,d⟩:=I.pin p hp
  exact⟨(hs.2 p.1 ne).trans e,n,ne,nf,d⟩
 ·refine(I.hok b ob e).stay (λc w' hc q=>(hs.2 c ?_).trans q) (λ_ q=>q) λ_ _ q=>q
  rintro rfl
  rcases hc with rfl|hc
  ·rw[I.free]at e;cases e
  ·rw[I.free]at hc;cases hc
abbrev Cx.held(X:Cx)(e:aN):Cx:={ X with A:=X.A.mark (some (.ref e)),calm:=false,xe:=λ_ _=>False }
theorem Inv.held(I:Inv X pins σ H s)(e:aN):Inv (X.held e) pins σ H s:=
 ⟨⟨I.ok.mod,I.ok.kind,I.ok.glob,I.ok.blt,I.ok.above,I.ok.inj,I.ok.has,I.ok.cab,(λz=>nomatch z),I.ok.frames,I.ok.stk,I.ok.Yk,I.ok.bs,I.ok.N0,I.ok.FL,I.ok.JD,I.ok.rW,I.ok.Lc⟩,I.os,I.bare,I.base,I.loc,I.cell,I.free,I.pj,I.pin,I.hok,I.len⟩
theorem Inv.Tr(I:Inv (X.held e) pins σ H s)(hc:X.calm=true->X.A.handled=none):Inv X pins σ H s:=
 ⟨⟨I.ok.mod,I.ok.kind,I.ok.glob,I.ok.blt,I.ok.above,I.ok.inj,I.ok.has,I.ok.cab,hc,I.ok.frames,I.ok.stk,I.ok.Yk,I.ok.bs,I.ok.N0,I.ok.FL,I.ok.JD,I.ok.rW,I.ok.Lc⟩,I.os,I.bare,I.base,I.loc,I.cell,I.free,I.pj,I.pin,I.hok,I.len⟩
end
def EA(C:aN)(p:Int)(wd:Str)(B0 B:Hp)(e T dx:aN)(H:Hp):Prop:=H e=some (mD C e dx T)/\H T=some (xI T)/\T≠e/\H dx=some (AQ dx (wq p wd))/\dx≠e/\dx≠T/\B e=none/\B T=none/\B dx=none/\
 ∃H1,dW B0 B H1 H/\H1 e=none/\H1 T=none/\H1 dx=none
def UC(K:av)(C:aN)(R:List aq->Int->Str->Prop):Sp:=λvs H _ E=>∃H0 ds p wd,er H0 H/\dz K H0 vs ds/\R ds p wd/\∀e T dx H',EA C p wd H0 H e T dx H'->E (.ref e) (some T) H'
theorem Jb{A B Hx H':Hp}{T': aN}(g:dW A B Hx H')(be:B e=none)(bT:B T=none)(xe:Hx e=none)(xT:Hx T=none)(nT:H' T'=none):dW A B Hx (HL H' [T] e T' o1 o2):=by
 refine⟨λb o q=>?_,g.gL,λb o q=>?_,g.new⟩
 ·have z:=g.big _ _ q
  rw[r6 (bE q be) (bE z nT) (by rw[a_];exact bE q bT)];exact z
 ·have z:=g.sub _ _ q
  rw[r6 (bE q xe) (bE z nT) (by rw[a_];exact bE q xT)];exact z
theorem MK{A B Hx H':Hp}{T': aN}(g:dW A B Hx H')(be:B e=none)(xe:Hx e=none)(nT:H' T'=none):dW A B Hx (HL H' [] e T' o1 o2):=by
 refine⟨λb o q=>?_,g.gL,λb o q=>?_,g.new⟩
 ·have z:=g.big _ _ q
  rw[r6 (bE q be) (bE z nT) (by simp)];exact z
 ·have z:=g.sub _ _ q
  rw[r6 (bE q xe) (bE z nT) (by simp)];exact z
theorem I0.fly{p:Int}{B0 B: Hp}(w:I0 C p wd B0 B e dx H)(nT:H T=none)(ne:T≠e):EA C p wd B0 B e T dx (HL H [] e T (mD C e dx T) (xI T)):=by
 obtain⟨H1,g,a1,a2,a3,a4,a5,a6⟩:=w;have Ts:dx≠T:=bE a6 nT;exact⟨Ki,Kj ne,ne,by rw[r6 a5 Ts (by simp)];exact a6,a5,Ts,a2,g.big.free nT,a4,H1,MK g a2 a1 nT,a1,g.sub.free nT,a3⟩
theorem EA.on{p:Int}{B0 B A0 A: Hp}{T': aN}(x:EA C p wd B0 B e T dx H)(g0:∀Hx,dW B0 B Hx H->dW A0 A Hx H)(sB:∀b,B b=none->A b=none)(nT:H T'=none)(ne:T'≠e):EA C p wd A0 A e T' dx (HL H [T] e T' (mD C e dx T') (xI T')):=by
 obtain⟨a1,a2,a3,a4,a5,a6,b1,b2,b3,H1,g,c1,c2,c3⟩:=x;have Ts:dx≠T':=bE a4 nT;have g':=g0 H1 g;exact⟨Ki,Kj ne,ne,by rw[r6 a5 Ts (by rw[a_];exact a6)];exact a4,a5,Ts,sB _ b1,g'.big.free nT,sB _ b3,H1,Jb g' (sB _ b1) (sB _ b2) c1 c2 nT,c1,g'.sub.free nT,c3⟩
section
variable{X:Cx}{B0 B H0 H:Hp}{σ:St}{D:Ends}{δ:List Slot}{pins:List (aN×Obj)}{s:aQ}
theorem Tt{st:iH}{h0:ExceptHandler}{hs:List ExceptHandler}(hx:∀e s,X.xe e s->False)(h:cS X st D σ H):cS X (.Try [st] (h0::hs) [] [] pos) D σ H:=λpins s I=>by
 refine wpAny_Try_except (ux (eT (h pins s I) (λf s1 q=>?_) λe s1 z=>(hx e s1 z).elim))
 cases f with
 |next=>exact pN (pN q)
 |ret v=>exact q
 |brk=>exact q
 |cont=>exact q
theorem EB(I:Inv X pins σ H s)(K9:X.stack=X.env::X.outer)(WN:X.env.frame=some X.env.locals)(hex:X.ex=[]):
  s.heap.FunFrames X.base (X.env::X.outer)/\(∀b∈X.env.locals::X.fs,H b=none)/\(X.env::X.outer).filterMap (·.frame)=X.env.locals::X.fs:=by
 obtain⟨m,F8,_⟩:=I.loc;have nex:∀b:aN,b∉X.ex:=λb z=>by rw[hex]at z;cases z
 have hb:X.base.get? X.env.locals=none:=by
  cases q:X.base.get? X.env.locals with
  |none=>rfl
  |some o=>exact absurd (bY (aW (I.ok.bs _ o q).1) I.ok.above) (jf _)
 have WM:∀b∈X.fs,X.H₀ b=none/\∃o,X.s₀.heap.get? b=some o:=λb hb=>by
  obtain⟨_,o,ho,_⟩:=I.ok.rW.mem hb;exact⟨I.ok.Lc b hb,o,ho⟩
 refine⟨?_,?_,by rw[iq,WN];rfl⟩
 ·refine zh (L:=X.env.locals) (m:=m) (by rw[I.ok.kind];decide) WN F8 hb (qZ (λb hb o ho=>?_) I.ok.rW)
  obtain⟨sl,q⟩:=I.base.any ho (WM b hb).1 (nex b);exact⟨_,q,rfl⟩
 ·intro b hb
  rcases aJ.mp hb with rfl|hb
  ·exact I.free
  ·obtain⟨h1,o,ho⟩:=WM b hb
   exact I.base.free b o ho h1 (nex b)
theorem PD{P:bM}{w:cy}{fr ex:List aN}{h': dq}{oe:Obj}(l:zT fr ex e oe h h')(ie:tj (H e))(ix:∀x∈ex,tj (H x))(hT:h.get? T=none)(nT:H T=none):Un fr [] H (HL H ex e T o1 o2) h h':=by
 have ne:∀b,H b=none->b≠e/\b∉ex:=λb n=>by
  refine⟨λz=>?_,λz=>?_⟩
  ·obtain⟨φ,r⟩:=ie;rw[<-z,n]at r;cases r
  ·obtain⟨φ,r⟩:=ix b z;rw[n]at r;cases r
 have MG:∀b (o:HO),H b=some o->(∀φ,o≠.ext φ)->b≠e/\b≠T/\b∉ex:=λb o q z=>by
  refine⟨λq2=>?_,λq2=>?_,λq2=>?_⟩
  ·obtain⟨φ,r⟩:=ie;rw[q2,r]at q;cases q;exact z φ rfl
  ·rw[q2,nT]at q;cases q
  ·obtain⟨φ,r⟩:=ix b q2;rw[r]at q;cases q;exact z φ rfl
 refine⟨λb o q n hf hb=>?_,λb o q n hf hb=>?_,λb o q n hb=>?_,λb o q hb=>?_,λb xs q=>?_,λb o u' q=>?_,λb ps q=>?_⟩
 ·exact l.keep b o q hf (ne b n).2 (ne b n).1
 ·exact l.slot b o q hf (ne b n).2 (ne b n).1
 ·rw[r6 (ne b n).1 (λz=>by subst z;rw[hT]at q;cases q) (ne b n).2];exact n
 ·exact l.there b o q
 ·obtain⟨a1,a2,a3⟩:=MG b _ q (by intro φ z;cases z)
  rw[r6 a1 a2 a3];exact q
 ·obtain⟨a1,a2,a3⟩:=MG b _ q (by intro φ z;cases z)
  rw[r6 a1 a2 a3];exact q
 ·obtain⟨a1,a2,a3⟩:=MG b _ q (by intro φ z;cases z)
  exact⟨#[],by rw[r6 a1 a2 a3,Array.append_empty];exact q⟩
theorem gW.unset(f:gW X.K B0 B H0 H σ δ){i:Nat}:gW X.K B0 B H0 H (σ.set i none) (δ.set i .un):=by
 refine⟨f.ent,by simp[f.len],λj sl e=>?_,λj k ds es p DW e1 e2 e3=>?_⟩
 ·by_cases hj:j=i
  ·subst hj
   rw[bf (by simpa using(aL.mp e).1)]at e
   cases e
   trivial
  ·rw[a7 (bU hj)]at e ⊢
   exact f.slot j sl e
 ·by_cases hj:j=i
  ·subst hj
   rw[bf (by simpa using(aL.mp e1).1)]at e1
   cases e1
  by_cases hk:k=i
  ·subst hk
   rw[bf (by simpa using(aL.mp e2).1)]at e2
   cases e2
  rw[a7 (bU hj)]at e1 e3;rw[a7 (bU hk)]at e2 ⊢;exact f.apart j k ds es p DW e1 e2 e3
end
section
variable{X:Cx}{CX:JQ}{k:Nat}{f:aN}{fd:fN}{ps:List Str}{sp:Sp}{E:XK}{Ex:aD->aQ->Prop}
theorem PF{σ:St}{Q:VK}{us:List aD}(F:eQ X.prog X.w X.K X.mg X.base CX k f fd ps sp)(hr:fZ k X.A)(hb:Binds X.K fd ps [])(hx:∀e s',CX X.stack H s E e s'->Ex e s')
  (I:Inv X pins σ H s)(r:dZ vs us)(h:sp vs H Q E):wpAny (model X.prog X.w) X.A (call (.ref f) us) (EP X pins σ Q) Ex s:=by
 have hl:(us ++ []).length=ps.length:=by rw[dA,<-r.length];exact F.len _ _ _ _ h
 have Yu:=hb s us I.sv hl;rw[dA]at Yu;refine mq (lj (F.run X.A X.stack s H ⟨us,[]⟩ us vs Q E hr I.env0 Yu r h) λr s' hq=>?_)
 cases r with
 |error e=>exact hx e s' hq
 |ok fl=>
  cases fl with
  |ret u=>exact I.after hq
  |next=>exact fh hq
  |brk=>exact fh hq
  |cont=>exact fh hq
end
section
variable{X:Cx}{B0 B H0 H:Hp}{σ:St}{D:Ends}{δ:List Slot}{C M fa:aN}{fd:fN}{ps:List Str}{ds:List aq}{R:List aq->Int->Str->Prop}{k jn jc:Nat}{p:Int}{wd y g xM n xc:Str}{a:cw}{as:List cw}{p1 p2 p3 p4 p5 p6 p7 p8 hp pos:Pos}
theorem Tv(fr:gW X.K B0 B H0 H σ δ)(hx:∀e s,X.xe e s->False)(K9:X.stack=X.env::X.outer)(WN:X.env.frame=some X.env.locals)(hex:X.ex=[])(hcm:X.calm=true->X.A.handled=none)
  (F:eQ X.prog X.w X.K X.mg X.base (Tq X.prog X.w) k fa fd ps (UC X.K C R))(hr:fZ k X.A)(hb:Binds X.K fd ps [])(hg:Gl X g)(hm:X.mg g=some (.ref fa))(hk:eA X.K (.ref fa)=true)(ha:VA X (a::as) δ ds)(hR:R ds p wd)
  (hgM:Gl X xM)(hmM:X.mg xM=some (.ref M))(sub:Py X.K C M)(hN:X.N.Nodup)(YZ:X.N[jn]?=some n)(QX:X.env.scope.names.lookup n=some .local)(hjc:X.N[jc]?=some xc)(hkc:Loc X.env.scope xc)(hfc:X.fn xc=true\/X.env.scope.names.lookup xc=some .local)(lR:jc≠jn)
  (q:∀e dx T σ' Ha Hb,gW X.K B0 B Ha Hb σ' (((δ.set jn .un).set jc (.ref e)).set jn .un)->Hb e=some (mD C e dx T)->Hb dx=some (AQ dx (wq p wd))->Ha e=none->Ha dx=none->B e=none->B dx=none->dx≠e->D.nx σ' Hb)
  (qP:(g==("__debug__":Str))=false:=by decide)(hdM:(xM==("__debug__":Str))=false:=by decide)(hdn:(n==("__debug__":Str))=false:=by decide)(UD:(n==("__classdict__":Str))=false:=by decide)
  (hs:swapsWith (.Call (.Name g p1) (a::as) [] p2) (some (.Name y p3)) p4.line X.env=pure false:=by rfl)(qH:swapsWith (.Name n p6) (some (.Name xc p7)) p8.line X.env=pure false:=by rfl)
  (he:starEach (a::as) X.env=(false,eval a X.env)::starEach as X.env:=by rfl)(pY:(backTo p2 (starEach as X.env)).any (·.1)=false:=by rfl):
  cS X (.Try [.Assign [.Name y p3] (.Call (.Name g p1) (a::as) [] p2) p4] [.ExceptHandler (some (.Name xM p5)) (some n) [.Assign [.Name xc p7] (.Name n p6) p8] hp] [] [] pos) D σ H:=λpins s I=>by
 obtain⟨t,pa,FC⟩:=ha;refine wpAny_Try_except (ux (wpAny_Assign_Name (eT (Q:=λ_ _=>False) ?_ (λ_ _ z=>z.elim) λ_ _ z=>z) hs))
 refine j5 (qL I hg hm ?_ qP)
 refine uW (h₀:=X.base) I.ok.mod.RH hk (eT (pa p2 pins s σ H (λvs Hh=>∃Ha,dW H0 H Ha Hh/\dz X.K Ha vs ds) I ?_) (λus s1 ⟨vs,Hh,I1,r,Ha,g1,rs⟩=>⟨I1.sv,?_⟩) λe s z=>(hx e s z).elim) he pY
 ·exact FC B0 B σ H0 H _ fr λvs H1 dX g1 rs=>⟨H1,g1,rs⟩
 refine gj (PF (Q:=λ_ _=>False) (E:=λv To H'=>∃e T dx,v=.ref e/\To=some T/\EA C p wd Ha Hh e T dx H') F hr hb (λe s' hq=>?_) I1 r ⟨Ha,ds,p,wd,g1.sub,rs,hR,λe T dx H' x=>⟨e,T,dx,rfl,rfl,x⟩⟩) λu s2 ⟨v,H2,_,_,z⟩=>z.elim
 obtain⟨ea,C',dx',T',H',rfl,os,bare,un,hok,ge',gT',ne',se,sT,e1,T0,dx,z1,z2,x⟩:=hq;cases z1;cases z2;obtain⟨hh,gg,d,tk,Lr⟩:=s';obtain rfl:Lr=s1.os:=os;have I2:Inv X pins σ H' ⟨hh,gg,d,tk,s1.os⟩:=I1.call (h':=hh) (g':=gg) (d':=d) (t':=tk) (ch:=[]) un hok bare (λb z=>absurd z (by simp))
 obtain⟨ff,nf,UA⟩:=EB I2 K9 WN hex;obtain⟨ge,gT,ne,gd,hde,Ts,b1,b2,b3,H1x,gx,c1,c2,c3⟩:=x;obtain⟨us0,sl,g0,u1⟩:=(I2.hok ea _ ge).1;obtain⟨oT,ts,gt,dt,t3⟩:=(I2.hok T' _ gT).1;refine Kk (base:=X.base) (L:=X.env.locals) (out:=X.outer) (by rw[I.ok.frames,K9]) ff WN g0 rfl u1 ne gt dt t3 λh' l=>?_
 rw[UA]at l;obtain⟨T,oT2,ts2,hT,g1',za7,g2,d2,t32⟩:=l.exc;have nT:H' T=none:=I2.hok.fresh hT;have gTn:=nM hT;have ie:tj (H' ea):=⟨_,ge⟩;have ix:∀x∈[T'],tj (H' x):=λx hx=>by rw[a_.mp hx];exact⟨_,gT⟩
 have gm:h'.get? ea=some { cls:=.ref C,dict:=some dx,data:=.fields (us0.setIfInBounds 1 (.ref T)),slots:=sl }:=g1';have hsz:1<us0.size:=(eE.mp u1).1;have WO:3<ts2.size:=(eE.mp t32).1;have za8:su X.prog X.w (HL H' [T'] ea T (mD C ea dx T) (xI T)) h':=xJ I2.hok l nf ie ix gTn nT (mD.ok gm (by simp[hsz])) (xI.ok g2 d2 t32)
 have un3:Un (DV X.stack) [] H' (HL H' [T'] ea T (mD C ea dx T) (xI T)) hh h':=by
  have e0:DV X.stack=X.env.locals::X.fs:=by rw[K9];exact UA
  rw[e0];exact PD (P:=X.prog) (w:=X.w) l ie ix gTn nT
 have I3:Inv X pins σ (HL H' [T'] ea T (mD C ea dx T) (xI T)) ⟨h',gg,d,tk,s1.os⟩:=Inv.call (s:=⟨hh,gg,d,tk,s1.os⟩) (H:=H') (h':=h') (g':=gg) (d':=d) (t':=tk) (ch:=[]) I2 un3 za8 bare (λb z=>absurd z (by simp))
 have gx':=Jb (T':=T) (o1:=mD C ea dx T) (o2:=xI T) gx b1 b2 c1 c2 nT;have gdx:HL H' [T'] ea T (mD C ea dx T) (xI T) dx=some (AQ dx (wq p wd)):=by rw[r6 hde (bE gd nT) (by rw[a_];exact Ts)];exact gd
 have geF:HL H' [T'] ea T (mD C ea dx T) (xI T) ea=some (mD C ea dx T):=Ki;have gTF:HL H' [T'] ea T (mD C ea dx T) (xI T) T=some (xI T):=Kj za7
 generalize HL H' [T'] ea T (mD C ea dx T) (xI T)=Hc at *
 show wpAny (model X.prog X.w) X.A (handleBy (.ref ea) X.env _) _ _ _;refine wpAny_handleBy_cons (codeAny_handlers_test (qL (X:=X.held ea) (I3.held ea) hgM hmM ?_ hdM)) (by intro q;cases q)
 refine Ez (X:=X) I3.sv sub gm ?_
 show codeAny _ _ (.handlers (.ref ea) [.ExceptHandler none (some n) _ _] X.env) _ _;refine codeAny_handlers_suite_as ?_
 have gt4:=eY (j0 (·.setIfInBounds 3 ef)) g2 (iR (fS d2 _))
 refine wpAny_setFlight_none gm rfl (by simp[hsz]) g2 d2 WO ?_
 have hu:upd Hc T (xI T)=Hc:=by
  funext b
  by_cases hb:b=T
  ·subst hb;rw[b0,gTF]
  ·rw[aT hb]
 have I4:=I3.write (x:=T) (e:=T) (h':=h'.update T (j0 (·.setIfInBounds 3 ef))) (t':=tk) (by rw[gTF];exact eX) (.inl rfl) (λb o hb gb=>(df _ _ (bU hb)).trans gb) ⟨_,gt4⟩ (xI.ok gt4 (fS d2 _) (by simp[WO]))
 rw[hu]at I4;refine mW I4 hN YZ (.inl QX) (v:=.ref ea) rfl (λs5 I5=>?_) (.inr QX)
 have suite:=yM (zo (X:=X.held ea) (i:=jc) (pos:=p8) (pos':=p7) hN hjc hkc (gO (X:=X.held ea) (i:=jn) (pos:=p6) YZ (.inl QX) hdn UD) qH hfc);have hlj:jn < σ.length:=by rw[fr.len];have:=fr.len;rw[<-fr.len,I.len];exact(aL.mp YZ).1
 refine eT (suite pins s5 (σ.set jn (some (.ref ea))) Hc { nx:=λσ' H2=>σ'=(σ.set jn (some (.ref ea))).set jc (some (.ref ea))/\H2=Hc,rt:=λ_ _=>False } (I5.held ea) ⟨.ref ea,bf hlj,rfl,rfl⟩) (λf s6 h6=>?_) λ_ _ z=>z.elim
 cases f with
 |next=>
  obtain⟨σ6,H6,I6,rfl,rfl⟩:=h6;refine Kl (I6.Tr hcm) hN YZ QX λs7 I7=>⟨_,_,I7,?_⟩
  have fr2:=((fr.grow g1).grow gx');have Yp:=(((fr2.Gi (i:=jn) (v:=.ref ea) (sl:=.un) trivial rfl).Gi (i:=jc) (v:=.ref ea) (sl:=.ref ea) rfl rfl).unset (i:=jn));exact q ea dx T _ H1x _ Yp geF gdx c1 c3 ((fr.grow g1).ent.big.free b1) ((fr.grow g1).ent.big.free b3) hde
 |ret v=>obtain⟨_,_,_,_,_,z⟩:=h6;exact z.elim
 |brk=>obtain⟨_,_,_,z⟩:=h6;exact z.elim
 |cont=>obtain⟨_,_,_,z⟩:=h6;exact z.elim
end
end L2
namespace L2
open PySem PySem.Spec PyProof.Rows PySem.W
variable{expr:Bool}{odd:Obj}{tk:Tok}{Q:aD->aQ->Prop}
structure GC(K:av)(C:aN):Prop where
 ga:findIn K (.ref C) "__getattribute__"=some (some (.builtin "BaseException.__getattribute__"))
 gh:findIn K (.ref C) "__getattr__"=some none
 mb:mroIn K C (.type "BaseException")=some true
 hd:hasDictIn K C=true
 cl:findIn K (.ref C) "__class__"=some (some (.builtin "object.__class__"))
 cg:specialIn K (.builtin "object.__class__") "__get__"=some (some (.builtin "getset_descriptor.__get__"))
 ct:takesIn K (.builtin "object.__class__")=some true
 mo:mroIn K C (.type "object")=some true
section
variable{prog:bM}{w:cy}{A:ej}{E:aD->aQ->Prop}{s:aQ}{K:av}{x C:aN}{ox:Obj}{od:Option Obj}{name:Str}
theorem ML{R:uV->aQ->Prop}(KX:K.In s.heap)(I:InstAt s.heap x ox C od)(hm:mroIn K C (.type "BaseException")=some true)
  (h:wpAny (model prog w) A.in1 (p_.«object.__getattribute__» ⟨[.ref x,.str name tk],[]⟩) (λfin s'=>match fin with | .done f=>R (.ok f) s' | .again c'=>c'.quiet=true/\codeAny (model prog w) A c' R s') (λe s'=>R (.error e) s') s):
  codeAny (model prog w) A (.call (.builtin "BaseException.__getattribute__") ⟨[.ref x,.str name tk],[]⟩) R s:=
 o5 Bm.ga.plain PySem.F.entry_bexc_ga (@check_slot (model prog w) _ _ s "BaseException.__getattribute__" "BaseException" "__getattribute__" (.ref x) [.str name tk] [] _ (by decide +kernel) (by decide +kernel) (I.type.andThen (looks_mroIn KX hm)) (PySem.F.args_bexc_ga _ _) h)
theorem BO{fill: Bool}(KX:K.In s.heap)(I:InstAt s.heap x ox C od)(c:GC K C)
  (h:wpAny (model prog w) A.in1 (p_.«object.__getattribute__» ⟨[.ref x,.str name tk],[]⟩) (λfin s'=>match fin with | .done (.ret v)=>wpAny (model prog w) A (handedOut v) Q E s'|_=>False) (λ_ _=>False) s):
  wpAny (model prog w) A (getAttrBy (.ref x) (.str name tk) fill expr) Q E s:=by
 have L0:=I.type (M:=model prog w);have L1:=looks_findIn (M:=model prog w) KX c.ga;have L2:Looks (model prog w) s.heap (hookBefore (.ref C)) none:=looks_hook KX (by rw[if_pos (show onTheHeap (.ref C)=true from rfl)];exact c.gh)
 refine iP (au (L0 _ _ _ _ (λ_ _ e=>e) (au (L1 _ _ _ _ (λ_ _ e=>e) ?_))))
 dsimp only
 rw[show(onTheHeap (bA C)&&nF "BaseException.__getattribute__"==nF "object.__getattribute__")=false from by rw[show(nF "BaseException.__getattribute__"==nF "object.__getattribute__")=false from by decide +kernel,o_],if_neg (by decide)]
 refine au (L2 _ _ _ _ (λ_ _ e=>e) (au (yJ (iP ?_))))
 unfold callGetattribute;rw[show(expr&&onTheHeap (nF "BaseException.__getattribute__"))=false from o_ _,if_neg (by decide)]
 unfold boundAndCalled;rw[Bm.ga.bind];refine au (aZ ?_)
 show wpAny _ _ (call (.builtin "BaseException.__getattribute__") [.ref x,.str name tk]) _ _ _;refine mq (ML KX I c.mb (eT h (λfin s' z=>?_) λ_ _ z=>z.elim))
 rcases fin with(_|_|_|_)|_<;>first|exact z|exact z.elim
theorem GF{v:aD}(KX:K.In s.heap)(I:InstAt s.heap x ox C od)(c:GC K C)(hf:findObj K C od name=some (.value v))(hh:handedIn v=true)(h:Q v { s with toks:=s.toks+1 }):
  wpAny (model prog w) A (getAttr (.ref x) name expr) Q E s:=by
 refine au (wpAny_mkText (BO (s:={ s with toks:=s.toks+1 }) KX I c ?_))
 obtain⟨hh',g,d,t,os⟩:=s;have L0:=I.type (M:=model prog w);have L1:=looks_find (M:=model prog w) KX I hf;refine au (aZ (au (aZ (au (L0.at (au (L1.at ?_)))))))
 refine aZ ?_
 show wpAny _ _ (handedOut v) _ _ _;rw[handedOut_of hh];exact aZ h
theorem GH{Q:Option aD->aQ->Prop}(KX:K.In s.heap)(I:InstAt s.heap x ox C (some odd))(c:GC K C)(h:Q (some (.ref C)) { s with toks:=s.toks+1 }):wpAny (model prog w) A (getAttr? (.ref x) "__class__") Q E s:=by
 have hf:findObj K C (some odd) "__class__"=some (.bind (.builtin "getset_descriptor.__get__") (.builtin "object.__class__")):=findObj_data (by obtain⟨cd,hc,_⟩:=any_some c.hd;rw[hc];rfl) c.cl c.cg c.ct
 unfold getAttr? getAttrBy?;refine au (wpAny_mkText (au (yJ (BO (s:={ s with toks:=s.toks+1 }) KX I c ?_))))
 obtain⟨hh',g,d,t,os⟩:=s;have L0:=I.type (M:=model prog w);have L1:=looks_find (M:=model prog w) KX I hf;refine au (aZ (au (aZ (au (L0.at (au (L1.at ?_)))))))
 show wpAny _ _ (holding [nF "object.__class__"] (call (.builtin "getset_descriptor.__get__") [.builtin "object.__class__",.ref x,.ref C]) >>= ret) _ _ _;refine au (iP (mq (class_get (ox:=ox) (od:=some odd) KX I c.mo (aZ ?_))))
 show wpAny _ _ (handedOut (.ref C)) _ _ _;exact handed_on rfl (aZ h)
theorem GJ(c:GC K C):KitX K (.ref x) (.ref C) (λh=>InstAt h x ox C (some odd)) where
 ty:=λ_ _ _ I=>I.type
 it:=λ_ _ X _=>by
  obtain⟨cdD,JP,_⟩:=any_some c.hd;unfold clsIn at JP
  split at JP
  ·rename_i c' d' cd' RJ ho
   intro A' Q' E' s' k q;unfold isType loadHead;exact au (w8 (k _ _ (X _ _ ho)) (aZ q))
  ·cases JP
 ne:=λh tp dd its n sl X htp=>by
  obtain⟨cdD,JP,_⟩:=any_some c.hd;refine x'.mpr λq=>?_
  have e:C=tp:=bA.inj (beq_iff_eq.mp q);subst e;unfold clsIn at JP
  split at JP
  ·rename_i c' d' cd' RJ ho
   have z:=(X _ _ ho).symm.trans htp;cases z
  ·cases JP
 ca:=λX I k=>GH X I c k
end
end L2
namespace L2
open PySem PySem.Spec PyProof.Rows
variable{b:Bool}{H:Hp}{body:List iH}{K:av}
structure oH(K:av)(H:Hp)(e C:aN)(p:Int)(wd:Str):Prop where
 ex:∃dx T,H e=some (mD C e dx T)/\H dx=some (AQ dx (wq p wd))/\dx≠e
 gt:GC K C
 np:fY K C "place"
 nw:fY K C "word"
section
variable{X:Cx}{pins:List (aN×Obj)}{σ:St}{H H':Hp}{s:aQ}{e C:aN}{p:Int}{wd f x:Str}
theorem oH.mono(c:oH K H e C p wd)(s:er H H'):oH K H' e C p wd:=by
 obtain⟨dx,T,a,b,d⟩:=c.ex;exact⟨⟨dx,T,s _ _ a,s _ _ b,d⟩,c.gt,c.np,c.nw⟩
theorem oH.inst(c:oH X.K H e C p wd)(I:Inv X pins σ H s):∃(ox od:Obj)(mA:Str->Option aD),oo s.heap e ox C (some od)/\(∀f,oB ((wq p wd).lookup f) (mA f))/\∀name,sx name od=some (mA name):=by
 obtain⟨dx,T,ge,gd,lR⟩:=c.ex;obtain⟨us,sl,g,_⟩:=(I.hok e _ ge).1;obtain⟨mA,n1,r,_⟩:=AQ.at I.hok gd;obtain⟨od,god,hl⟩:=xo n1;exact⟨_,od,mA,⟨g,rfl,rfl,god⟩,r,hl⟩
theorem PH:jT X (.builtin "isinstance") (λxs H Q=>∃e C p wd M b,xs=[.ref e,.ref M]/\oH X.K H e C p wd/\dm X.K (.ref C) (.ref M)=some b/\Q (.bl b) H):=by
 intro pins s σ H xs us Q I r h;obtain⟨e,C,p,wd,M,b,rfl,c,hk,q⟩:=h;obtain⟨u1,u2,rfl,r1,r2⟩:=vals2 r;cases r1;cases r2;obtain⟨ox,od,mA,J,_,_⟩:=c.inst I;exact iQ (GJ (ox:=ox) (odd:=od) c.gt) I.sv J hk (λz=>nomatch z) λtk=>⟨.bl b,H,I.tok tk,rfl,q⟩
theorem Tw:jT X (.builtin "isinstance") (λxs H Q=>∃e C p wd tn b,xs=[.ref e,.ty tn]/\oH X.K H e C p wd/\dm X.K (.ref C) (.type tn)=some b/\Q (.bl b) H):=by
 intro pins s σ H xs us Q I r h;obtain⟨e,C,p,wd,tn,b,rfl,c,hk,q⟩:=h;obtain⟨u1,u2,rfl,r1,r2⟩:=vals2 r;cases r1;cases r2;obtain⟨ox,od,mA,J,_,_⟩:=c.inst I;exact iQ (GJ (ox:=ox) (odd:=od) c.gt) I.sv J hk (λz=>nomatch z) λtk=>⟨.bl b,H,I.tok tk,rfl,q⟩
theorem PJ:jT X (.builtin "isinstance") (λxs H Q=>∃e C p wd t M1 M2 M3 b,xs=[.ref e,.ref t]/\oH X.K H e C p wd/\H t=some (.tup [.ref M1,.ref M2,.ref M3])/\zj X.K (.ref C) [.ref M1,.ref M2,.ref M3]=some b/\Q (.bl b) H):=by
 intro pins s σ H xs us Q I r h;obtain⟨e,C,p,wd,t,M1,M2,M3,b,rfl,c,ht,hk,q⟩:=h;obtain⟨u1,u2,rfl,r1,r2⟩:=vals2 r;cases r1;cases r2;obtain⟨ox,od,mA,J,_,_⟩:=c.inst I;obtain⟨_,its,rv,ob,g,hc,n,hd⟩:=I.hok t _ ht;obtain⟨oc,odd,odt,F4⟩:=ob;simp only at hc hd;subst hc;subst hd;obtain rfl:its=[.ref M1,.ref M2,.ref M3]:=by
  cases rv with|cons a rv=>cases rv with|cons b rv=>cases rv with|cons d rv=>cases rv;cases a;cases b;cases d;rfl
 exact PySem.W.kia_tup (GJ (ox:=ox) (odd:=od) c.gt) I.sv J g hk (λz=>nomatch z) λtk=>⟨.bl b,H,I.tok tk,rfl,q⟩
def WQ(K:av)(i:Nat)(f:Str):TE:=λσ H Q=>∃e C p wd v,σ[i]?=some (some (.ref e))/\oH K H e C p wd/\fY K C f/\(wq p wd).lookup f=some v/\Q v H
theorem wt{i:Nat}{px pos:Pos}(hN:X.N[i]?=some x)(hv:D0 X.env.scope x)(hb:attributeBase (.Name x px) f X.env (eval (.Name x px) X.env)=eval (.Name x px) X.env)(hd:(x==("__debug__":Str))=false:=by decide)(pT:(x==("__classdict__":Str))=false:=by decide):
  PE X (.Attribute (.Name x px) f pos) (WQ X.K i f):=by
 intro pins s σ H Q I h;obtain⟨e,C,p,wd,v,hs,c,na,hl,q⟩:=h;refine Im hb (gj (gO (i:=i) hN hv hd pT pins s σ H (λy H1=>y=.ref e/\H1=H) I ⟨.ref e,hs,rfl,rfl⟩) λu s1 ⟨y,H1,I1,ry,ey,eH⟩=>?_)
 subst ey;subst eH;obtain rfl:u=bA e:=ry;obtain⟨ox,od,mA,J,r,hlk⟩:=c.inst I1;obtain⟨u,hu,ru⟩:=oB.some_of (v:=v) (o:=mA f) (by rw[<-hl];exact r f)
 exact GF I1.sv J c.gt (Ft c.gt.hd na rfl (by rw[hlk,hu])) (Br ru) ⟨v,H1,I1.tok _,ru,q⟩
end
section
variable{X:Cx}{δ:List Slot}{pos px:Pos}{a b e:cw}{x:Str}{d:aq}{ds:List aq}{k:Int}{j:Nat}
theorem dz.put{v:V}(rv:Rep K H v d):∀{xs:List V}{ds:List aq}(j:Nat),dz K H xs ds->dz K H (xs.set j v) (ds.set j d)
 |_,_,_,.nil=>.nil
 |_,_,0,.cons _ r=>.cons rv r
 |_,_,j+1,.cons a r=>.cons a (dz.put rv j r)
theorem Tx(i:Nat)(hi:δ[i]?=some (.own ds))(h:VE X b δ (.int (j:Nat)))(ha:ds[j]?=some d)(hs:qR b:=by intro _ _;rfl)(hN:X.N[i]?=some x:=by rfl)(hv:D0 X.env.scope x:=by first|exact aV rfl|exact cX (aV rfl)|exact cX (cX rfl))(hd:(x==("__debug__":Str))=false:=by decide)
  (pT:(x==("__classdict__":Str))=false:=by decide):VE X (.Subscript (.Name x px) b pos) δ d:=
 .of (Lz Ir (gO hN hv hd pT) dD hs) λB0 B σ H0 H Q f q=>by
  obtain⟨p,xs,h1,h2,h3,h4,h5⟩:=f.slot i _ hi;refine⟨.ref p,h1,h B0 B σ H0 H _ f λv H1 dX g r=>?_⟩
  cases r;obtain⟨z,hz,rz⟩:=(h5.mono g.gL).get ha;exact⟨p,xs,_,z,rfl,rfl,lW.of (g.big _ _ h2),a9 hz,q z H1 dX g rz⟩
theorem gW.put{B0 B H0: Hp}{σ:St}(f:gW K B0 B H0 H σ δ){i:Nat}{p:aN}{xs:List V}{y:V}(hi:δ[i]?=some (.own ds))(hp:σ[i]?=some (some (.ref p)))(h1:H p=some (.lst xs))(ry:Rep K H0 y d):
  gW K B0 B H0 (upd H p (.lst (xs.set j y))) σ (δ.set i (.own (ds.set j d))):=by
 obtain⟨p',LZ,e1,e2,e3,e4,e5⟩:=f.slot i _ hi;rw[hp]at e1;cases e1;rw[h1]at e2;cases e2;have hl:i < δ.length:=(aL.mp hi).1;refine⟨⟨λb u e=>?_,f.ent.gL,λb u e=>?_,f.ent.new⟩,by simp[f.len],λj sl e=>?_,λj k Fx es q DW a1 a2 a3=>?_⟩
 ·have:b≠p:=bE e e4
  rw[aT this];exact f.ent.big b u e
 ·have:b≠p:=bE e e3
  rw[aT this];exact f.ent.sub b u e
 ·by_cases hj:j=i
  ·subst hj
   rw[bf hl]at e;cases e;exact⟨p,_,hp,b0,e3,e4,e5.put ry _⟩
  ·rw[a7 (bU hj)]at e
   have q:=f.slot j sl e;cases sl with
   |un=>trivial
   |ref a=>exact q
   |val d=>exact q
   |own Fx=>
    obtain⟨p2,V0,g1,g2,g3,g4,g5⟩:=q;have:p2≠p:=λz=>by subst z;exact f.apart i j ds Fx p2 (bU hj) hi e hp g1
    exact⟨p2,V0,g1,by rw[aT this];exact g2,g3,g4,g5⟩
 ·have c1:∃N5,δ[j]?=some (.own N5):=by
   by_cases hj:j=i
   ·subst hj;exact⟨_,hi⟩
   ·rw[a7 (bU hj)]at a1;exact⟨_,a1⟩
  have c2:∃N5,δ[k]?=some (.own N5):=by
   by_cases hk:k=i
   ·subst hk;exact⟨_,hi⟩
   ·rw[a7 (bU hk)]at a2;exact⟨_,a2⟩
  obtain⟨d1,c1⟩:=c1;obtain⟨d2,c2⟩:=c2;exact f.apart j k d1 d2 q DW c1 c2 a3
theorem tq(i:Nat){tp:Pos}(hi:δ[i]?=some (.own ds))(hb:VE X b δ (.int (j:Nat)))(hj:j<ds.length)(h:VE X e δ d)(hN:X.N[i]?=some x:=by rfl)(hv:D0 X.env.scope x:=by first|exact aV rfl|exact cX (aV rfl)|exact cX (cX rfl))(hd:(x==("__debug__":Str))=false:=by decide)
  (pT:(x==("__classdict__":Str))=false:=by decide)(hs:swapsWithSole [.Subscript (.Name x px) b tp] e pos.line X.env=pure false:=by rfl)(hw:swappedStores [.Subscript (.Name x px) b tp] e X.env=pure none:=by rfl)
  (h1:(assignEach [.Subscript (.Name x px) b tp] X.env).map (·.2)=[assign (.Subscript (.Name x px) b tp) X.env]:=by rfl)
  (ha:∀v,assign (.Subscript (.Name x px) b tp) X.env v=(do
   let ov <-holding [v] (eval (.Name x px) X.env)
   let iv <-holding [v,ov] (eval b X.env)
   standAt tp
   holding [v,ov,iv] (setItem ov iv v)
   release [v,ov,iv] []):=by intro _;rfl) :
  VS X (.Assign [.Subscript (.Name x px) b tp] e pos) δ (.nx (δ.set i (.own (ds.set j d)))):=λB0 B σ H0 H D f ok pins s I=>by
 refine Lh dD (RX (gO hN hv hd pT) dD set_list ha) hs hw h1 pins s σ H D I (h B0 B σ H0 H _ f λv H1 dX g r=>?_)
 have f1:=f.grow g;obtain⟨p,xs,z1,z2,z3,z4,z5⟩:=f1.slot i _ hi;refine⟨.ref p,z1,hb B0 B σ H1 dX _ f1 λv2 H2 iL g2 r2=>?_⟩
 cases r2;have hl:=z5.length;refine⟨p,xs,_,j,rfl,rfl,g2.big _ _ z2,?_,ok σ H2 _ (g.gL.trans g2.gL) ((f1.grow g2).put hi z1 (g2.big _ _ z2) (r.mono g2.gL))⟩
 rw[hl];unfold N2;rw[if_pos (by omega),if_pos (by omega),eJ]
def uf(P:bM)(w:cy)(K:av)(mg:Str->Option aD)(base:dq)(k:Nat)(x:Str)(ps:List Str)(C:aN)(R:List aq->Int->Str->Prop):Prop:=
 ∃f fd,eQ P w K mg base (Tq P w) k f fd ps (UC K C R)/\mg x=some (.ref f)/\eA K (.ref f)=true/\Binds K fd ps []
theorem Jc{d:aq}{b:Bool}(h:(match d with | .none=>false|_=>true)=b):AK K (λx y H Q=>y=.non/\Q (.bl (!decide (x=.non))) H) d .none (.bool b):=λv u H0 H Q s r1 r2 k=>by
 cases r2;subst h;refine⟨rfl,k _ _ _ (.refl s) ?_⟩
 cases r1<;>exact .bl _
end
theorem dz.J3{H': Hp}:∀{xs:List V}{ds:List aq},dz K H xs ds->(∀d∈ds,Eg d=true)->dz K H' xs ds
 |_,_,.nil,_=>.nil
 |_,_,.cons a r,h=>.cons (a.J3 (h _ aO)) (dz.J3 r λd hd=>h d (aU _ hd))
section
variable{X:Cx}{sc:lS}{own N:List Str}{cap:List Nat}{cl:List (Str×aN)}{tg elt iter:cw}{ifs:List cw}{δ:List Slot}{ds rs:List aq}{pos px v8:Pos}{tgt:IC}{x:Str}
theorem MN(i j:Nat){F:aq->Option aq}(hj:δ[j]?=some (.own rs))(hc:X.calm=true)(CS:k8 X sc own cap N cl)(hi:VI X tg iter (δ.set j (.val (.list rs))) ds)(hg:∀f s3 H3,PG (gP X sc N cl f s3 H3) tg (L7 X.K tgt))(ht:zG own.length tgt=true)(hz:ds.length<=sizeLine)
  (step:∀d∈ds,CQ X sc own cap N cl tgt elt ifs (δ.set j (.val (.list rs))) F d)(hsc:∀d∈ds.filterMap F,Eg d=true)(hN:X.N.Nodup)(Sx:X.N[i]?=some x:=by rfl)(hx:Loc X.env.scope x:=by first|exact aV rfl|exact cX rfl)
  (CM:swapsWith (.ListComp elt [⟨tg,iter,ifs,0⟩] sc pos) (some (.Name x px)) v8.line X.env=pure true:=by rfl)(hs:∀x,foldedSetIterable iter X.env x=pure x:=by intro _;rfl)(hf:X.fn x=true\/X.env.scope.names.lookup x=some .local:=by first|exact .inl rfl|exact .inr rfl):
  VS X (.Assign [.Name x px] (.ListComp elt [⟨tg,iter,ifs,0⟩] sc pos) v8) δ (.nx (δ.set i (.own (ds.filterMap F)))):=λB0 B σ H0 H D f ok pins s I=>by
 obtain⟨p0,xs0,h1,h2,h3,h4,h5⟩:=f.slot j _ hj;obtain⟨f',sm⟩:=f.freeze hj h1 h2;obtain⟨wi,pi,qi⟩:=hi;refine u9 (i:=i) (tc:=V9 X sc N cl ifs) (te:=teC X sc N cl elt) hN Sx hx hc CS pi hg (λf s3 H3 pins s σ H Q I h=>h f s3 H3 pins s I) (λf s3 H3 pins s σ H Q I h=>h f s3 H3 pins s I) CM hs hf pins s σ H D I ?_
 refine qi B0 B σ _ H _ f' λJ H1 dX g it=>?_
 refine sV ht hz step (f'.grow g) it λp xs Ha Hb g2 a1 a2 a3 a4=>?_
 have gg:=g.trans g2;have g0:dW H0 H H0 Hb:=dW.far f.sub gg.big;have hp:H p=none:=g.big.free a1;refine ok _ H0 Hb (er.refl _) ((f.grow g0).zC a3 (f.sub.free hp) (f.ent.big.free hp) (a4.J3 hsc) λj es e2 e3=>?_)
 obtain⟨p',LZ,g1,Wf,_⟩:=f.slot j _ e2;rw[e3]at g1;cases g1;rw[hp]at Wf;cases Wf
end
section
variable{X:Cx}{δ:List Slot}{pos px p:Pos}{a e:cw}{x:Str}{d:aq}
theorem Tz:pF K (λxs H Q=>(∃i,xs=[.int i]/\Q (.int i) H)\/∃k,xs=[.bl k]/\Q (.int (if k then 1 else 0)) H) [.bool b] (.int (if b then 1 else 0)):=λvs H0 H Q s r k=>by
 obtain⟨v,rfl,rv⟩:=r.one;cases rv;exact .inr ⟨b,rfl,k _ _ _ (.refl s) (.int _)⟩
theorem PK(h:VE X a δ (.bool b))(hm:X.mg "int"=none)(hg:Gl X "int":=by rfl)(hs:starEach [a] X.env=(false,eval a X.env)::starEach [] X.env:=by rfl):VE X (.Call (.Name "int" p) [a] [] pos) δ (.int (if b then 1 else 0)):=k9 JM Tz (ao h aK hs) hm rfl hg (he:=hs)
theorem Km{B0 B H0: Hp}{σ:St}{D:Ends}{fa:aN}{fd:fN}{ps:List Str}{sp:Sp}{n:Nat}{c e2 c2:cw}{g:Str}{p1 p3 p4 p5 p6:Pos}{ea:aN}(i:Nat)(f:gW X.K B0 B H0 H σ δ)(hc:VT X c δ true)(Sy:VE X e2 δ d)(F:eQ X.prog X.w X.K X.mg X.base jE n fa fd ps sp)(hr:fZ n X.A)(hm:X.mg g=some (.ref fa))(hk:eA X.K (.ref fa)=true)(hb:Binds X.K fd ps [])
  (hi:δ[i]?=some (.ref ea))(yN:∀Ha Hb v,dW H0 H Ha Hb->Rep X.K Ha v d->∀Q:VK,(∀Ha' Hb',dW Ha Hb Ha' Hb'->Q (.bl true) Hb')->sp [.ref ea,v] Hb Q E0)(Uo:VT X c2 δ false)(q:∀Ha Hb,dW H0 H Ha Hb->gW X.K B0 B Ha Hb σ δ->D.nx σ Hb)
  (hg:Gl X g:=by rfl)(hN:X.N[i]?=some x:=by rfl)(hv:D0 X.env.scope x:=by first|exact aV rfl|exact cX (aV rfl)|exact cX (cX rfl))(hd:(x==("__debug__":Str))=false:=by decide)(pT:(x==("__classdict__":Str))=false:=by decide)(hdg:(g==("__debug__":Str))=false:=by decide)
  (he:starEach [.Name x px,e2] X.env=(false,eval (.Name x px) X.env)::starEach [e2] X.env:=by rfl)(he':starEach [e2] X.env=(false,eval e2 X.env)::starEach [] X.env:=by rfl)(pY:(backTo p3 (starEach [e2] X.env)).any (·.1)=false:=by rfl)
  (hit:∀whole,isTrue (.Call (.Name g p1) [.Name x px,e2] [] p3) X.env whole=(do let v <-whole;standAt (cw.Call (.Name g p1) [.Name x px,e2] [] p3).pos;holding [v] (truthy v)):=by intro _;rfl):
  cS X (.If (.BoolOp .Or [.BoolOp .And [c,.UnaryOp .Not (.Call (.Name g p1) [.Name x px,e2] [] p3) p4] p5,c2] p6) body [] pos) D σ H:=λpins s I=>by
 refine ya (PW.pt (pw_or (PW.pt (pw_and kY (pw_and1 (xn (u0 (vT F hr hg hm hk hb .nil Bx (cV (gO (i:=i) hN hv hd pT) (cV dD fB he') he) hdg he pY) hit))))) (pw_or1 kY))) kz vR pins s σ H D I ?_
 refine hc B0 B σ H0 H _ f λH1 dX g1=>Sn ?_
 refine⟨.ref ea,f.slot i _ hi,Sy B0 B σ H1 dX _ (f.grow g1) λv H2 iL g2 r=>?_⟩
 refine yN H2 iL v (g1.trans g2) r _ λH3 ua g3=>⟨true,rfl,?_⟩
 have Y0:=(g1.trans g2).trans g3;refine A6 (Uo B0 B σ H3 ua _ (f.grow Y0) λH4 O5 g4=>A6 ?_)
 exact q H4 O5 (Y0.trans g4) ((f.grow Y0).grow g4)
end
section
variable{X:Cx}{δ:List Slot}{pos:Pos}{a b c e:cw}
theorem C7{k:Bool}{rest: List iH}{o:Out}(h:VT X c δ k)(hr:IE o=true)(h1:k=true->rO X body δ o)(h2:k=false->rO X rest δ o):rO X (.If c body [] pos::rest) δ o:=by
 cases k with
 |true=>exact cH (cR h (h1 rfl)) hr
 |false=>exact ay (bN h bp) (h2 rfl)
theorem MP{k1 k2 k3 k4:Bool}(h1:VT X a δ k1)(h2:k1=false->VT X b δ k2)(h3:k1=false->k2=false->VT X c δ k3)(h4:k1=false->k2=false->k3=false->VT X e δ k4):VT X (.BoolOp .Or [a,b,c,e] pos) δ (k1||(k2||(k3||k4))):=by
 cases k1 with
 |true=>
  exact .of (pw_or kY (pw_or kf (pw_or kf (pw_or1 kf)))).pt λB0 B σ H0 H Q f q=>h1 B0 B σ H0 H _ f λH1 dX g=>by
   rw[if_pos rfl];exact q H1 dX g
 |false=>
  cases k2 with
  |true=>
   exact .of (pw_or kY (pw_or kY (pw_or kf (pw_or1 kf)))).pt λB0 B σ H0 H Q f q=>h1 B0 B σ H0 H _ f λH1 dX g=>by
    rw[if_neg bP];refine h2 rfl B0 B σ H1 dX _ (f.grow g) λH2 iL g2=>?_
    rw[if_pos rfl];exact q H2 iL (g.trans g2)
  |false=>
   cases k3 with
   |true=>
    exact .of (pw_or kY (pw_or kY (pw_or kY (pw_or1 kf)))).pt λB0 B σ H0 H Q f q=>h1 B0 B σ H0 H _ f λH1 dX g=>by
     rw[if_neg bP];refine h2 rfl B0 B σ H1 dX _ (f.grow g) λH2 iL g2=>?_
     rw[if_neg bP];refine h3 rfl rfl B0 B σ H2 iL _ ((f.grow g).grow g2) λH3 ua g3=>?_
     rw[if_pos rfl];exact q H3 ua ((g.trans g2).trans g3)
   |false=>
    exact .of (pw_or kY (pw_or kY (pw_or kY (pw_or1 kY)))).pt λB0 B σ H0 H Q f q=>h1 B0 B σ H0 H _ f λH1 dX g=>by
     rw[if_neg bP];refine h2 rfl B0 B σ H1 dX _ (f.grow g) λH2 iL g2=>?_
     rw[if_neg bP];refine h3 rfl rfl B0 B σ H2 iL _ ((f.grow g).grow g2) λH3 ua g3=>?_
     rw[if_neg bP];exact h4 rfl rfl rfl B0 B σ H3 ua _ (((f.grow g).grow g2).grow g3) λH4 O5 g4=>q H4 O5 (((g.trans g2).trans g3).trans g4)
end
section
variable{P:bM}{w:cy}{K:av}{mg:Str->Option aD}{base:dq}{N:List Str}{qual:Str}{scope:lS}{f0:aN}{cd:aD}{A:ej}{outer:List Env}{s0:aQ}{PL:Hp}{E:XK}{B0 B H0 H:Hp}{σ:St}{D:Ends}{δ:List Slot}{C fa:aN}{fd:fN}{ps:List Str}{ds:List aq}{R:List aq->Int->Str->Prop}{k:Nat}{p:Int}{wd g:Str}{a:cw}{as:List cw}{p1 p2 pos:Pos}
theorem PN(fr:gW K B0 B H0 H σ δ)(F:eQ P w K mg base (Tq P w) k fa fd ps (UC K C R))(hr:fZ k (BM P w K mg base N qual scope f0 cd A outer s0 PL E).A)(hb:Binds K fd ps [])(hm:mg g=some (.ref fa))(hk:eA K (.ref fa)=true)(ha:VA (BM P w K mg base N qual scope f0 cd A outer s0 PL E) (a::as) δ ds)(hR:R ds p wd)
  (q:∀e T dx H',EA C p wd B0 B e T dx H'->E (.ref e) (some T) H')(hg:Gl (BM P w K mg base N qual scope f0 cd A outer s0 PL E) g:=by rfl)(qP:(g==("__debug__":Str))=false:=by decide)(hs:swapsWith (.Call (.Name g p1) (a::as) [] p2) none pos.line (BM P w K mg base N qual scope f0 cd A outer s0 PL E).env=pure false:=by rfl)
  (he:starEach (a::as) (BM P w K mg base N qual scope f0 cd A outer s0 PL E).env=(false,eval a (BM P w K mg base N qual scope f0 cd A outer s0 PL E).env)::starEach as (BM P w K mg base N qual scope f0 cd A outer s0 PL E).env:=by rfl)(pY:(backTo p2 (starEach as (BM P w K mg base N qual scope f0 cd A outer s0 PL E).env)).any (·.1)=false:=by rfl):
  cS (BM P w K mg base N qual scope f0 cd A outer s0 PL E) (.Expr (.Call (.Name g p1) (a::as) [] p2) pos) D σ H:=λpins s I=>by
 obtain⟨t,pa,FC⟩:=ha;refine pw (vT (E:=λv To H'=>∃e T dx Ha Hh,v=.ref e/\To=some T/\dW H0 H Ha Hh/\EA C p wd Ha Hh e T dx H') F hr hg hm hk hb .nil (MH λpins σ H' s e C' dx' T0 T I' ge gT hE nT ne=>?_) pa qP he pY) hs pins s σ H D I ?_
 ·obtain⟨e1,T1,dx,Ha,Hh,z1,z2,g1,x⟩:=hE
  cases z1;cases z2;obtain⟨us0,sl0,g0,_⟩:=(I'.hok e _ ge).1;obtain⟨us1,sl1,g2,_⟩:=(I'.hok e _ x.1).1;rw[g0]at g2;cases g2;exact q e T _ _ (x.on (λHx gx=>(fr.ent.trans g1).trans gx) (λb hb=>(fr.ent.trans g1).big.free hb) nT ne)
 ·refine FC B0 B σ H0 H _ fr λvs H1 dX g1 rs=>?_
  show UC K C R (vs ++ []) _ _ _;rw[dA];exact⟨H1,ds,p,wd,g1.sub,rs,hR,λe T dx H' x=>⟨e,T,dx,H1,dX,rfl,rfl,g1,x⟩⟩
end
end L2
namespace Mg
open L2 PySem PyProof.Rows
def top(i:Nat):iH:=PySem.Challenge.pw_mergeline_k13_rows_refused.main.body.getD i (.Pass ⟨0,0,0,0⟩)
theorem small{n:Nat}(h:n<=1000000):n<=sizeLine:=b9 h (by rw[du];decide)
theorem iN{n:Nat}(h:n<=1000000):n<sizeLine:=Nat.lt_of_le_of_lt h (by rw[du];decide)
def mj(x:Str):Prop:=cn (.str x)=true
theorem bS(a b:Str):cU (.str a) (.str b)=decide (a=b):=by
 rw[cU,ic];simp
theorem jU(a b:Int):cU (.int a) (.int b)=decide (a=b):=by
 rw[cU,ic];simp
end Mg
namespace L2
open PySem PySem.Spec PyProof.Rows
section
variable{X:Cx}{a b c e:cw}{δ:List Slot}{d d1 d2 d3:aq}{pos:Pos}{k:Nat}
theorem EC{op op':AV}{r r':R2}{k1 k2:Bool}(ho:rM X (compareOp op) r)(Cv:rM X (compareOp op') r')(Wi:AK X.K r d1 d2 (.bool k1))(od2:AK X.K r' d2 d3 (.bool k2))(h1:VE X a δ d1)(h2:VE X b δ d2)(h3:k1=true->VE X c δ d3)
  (hm:lastMarks [op,op'] [b,c]=false:=by with_unfolding_all rfl):VE X (.Compare a [op,op'] [b,c] pos) δ (.bool (k1&&k2)):=by
 cases k1 with
 |true=>
  refine .of (D1 ho Cv dD dD dD hm) λB0 B σ H0 H Q f q=>h1 B0 B σ H0 H _ f λv H1 dX g1 r1=>h2 B0 B σ H1 dX _ (f.grow g1) λu H2 iL g2 r2=>Wi v u H2 iL _ g2.sub (r1.mono g2.gL) r2 λz H3 ua g3 r3=>?_
  cases r3;refine⟨true,rfl,?_⟩
  rw[if_pos rfl];exact h3 rfl B0 B σ H3 ua _ (((f.grow g1).grow g2).grow g3) λx H4 O5 g4 r4=>od2 u x H4 O5 _ g4.sub ((r2.mono g3.gL).mono g4.gL) r4 λy H5 H5' g5 r5=>q y H5 H5' ((((g1.trans g2).trans g3).trans g4).trans g5) r5
 |false=>
  refine .of (D1 ho Cv dD dD wg hm) λB0 B σ H0 H Q f q=>h1 B0 B σ H0 H _ f λv H1 dX g1 r1=>h2 B0 B σ H1 dX _ (f.grow g1) λu H2 iL g2 r2=>Wi v u H2 iL _ g2.sub (r1.mono g2.gL) r2 λz H3 ua g3 r3=>?_
  cases r3;refine⟨false,rfl,?_⟩
  rw[if_neg bP];exact q _ H3 ua ((g1.trans g2).trans g3) (.bl false)
theorem MQ{x:Str}{s:Str}{t:Tok}(hm:X.mg x=some (.str s t))(hg:Gl X x:=by rfl)(hd:(x==("__debug__":Str))=false:=by decide):VE X (.Name x pos) δ (.str s):=.of (pq hg hm (v:=.str s) ⟨t,rfl⟩ hd) λ_ _ _ _ _ _ f k=>k _ _ _ (.refl f.sub) (.str s)
theorem Jd{x:Str}{i:Int}{t:Tok}(hm:X.mg x=some (.int i t))(hg:Gl X x:=by rfl)(hd:(x==("__debug__":Str))=false:=by decide):VE X (.Name x pos) δ (.int i):=.of (pq hg hm (v:=.int i) ⟨t,rfl⟩ hd) λ_ _ _ _ _ _ f k=>k _ _ _ (.refl f.sub) (.int i)
end
end L2
namespace Mg
open L2 PySem PyProof.Rows
seal L2.VE L2.VS L2.rO L2.VT L2.VO L2.O2
variable{fd:fN}{kinds:List (Str×Option Int)}{ds:List aq}{c i:Nat}{d:aq}{x:Str}
structure Nw(mg:Str->Option aD):Prop where
 len:mg "len"=none
 all:mg "all"=none
 Fy:mg "enumerate"=none
 let_:∃t,mg "LETTERS"=some (.str "abcdefghijklmnopqrstuvwxyz" t)
 fig:∃t,mg "FIGURES"=some (.str "0123456789" t)
 lna:∃t,mg "LONGEST_NAME"=some (.int 8 t)
 lnu:∃t,mg "LONGEST_NUMBER"=some (.int 6 t)
def one(c:Nat):Str:=⟨#[c]⟩
def lG(signs:Str)(longest:Int)(w:Str):Bool:=(decide (1<=(w.length:Int))&&decide ((w.length:Int)<=longest))&&w.cps.toList.all λc=>zI (one c) signs
def ED(signs:Str):aq->Option aq
 | .str x=>some (.bool (zI x signs))
 |_=>none
theorem ug(signs w:Str):(kG w).filterMap (ED signs)=(w.cps.toList.map λc=>zI (one c) signs).map .bool:=by
 unfold kG;rw[cW,bC];exact filterMap_some λc _=>rfl
def isName(w:Str):Bool:=lG "abcdefghijklmnopqrstuvwxyz" 8 w
def isNumber(w:Str):Bool:=lG "0123456789" 6 w&&(decide (w="0") || !decide ((w.cps.toList.head?.map one).getD eP="0"))
def wordsOf(row:Str):List Str:=(bR row " ").filter λw=>decide (w≠"")
def rowsOf(text:Str):List (Nat×List Str):=(bR text "\n").zipIdx.filterMap λp=>if(wordsOf p.1).isEmpty then none else some (p.2,wordsOf p.1)
theorem jB(x:Str):mj x↔∀c∈x.cps.toList,c<0x110000:=by
 show(x.cps.all λc=>decide (c<0x110000))=true↔_
 rw[<-Array.all_toList,eV];exact⟨λh c hc=>of_decide_eq_true (h c hc),λh c hc=>decide_eq_true (h c hc)⟩
theorem MR(h:mj x)(hc:c∈x.cps.toList):mj (one c):=by
 rw[jB]at h ⊢;intro z hz;have:z=c:=by simpa[one]using hz
 rw[this];exact h c hc
def pH(x:Str):Prop:=x.length<=100000/\mj x
section
variable{P:bM}{w:cy}{K:av}{mg:Str->Option aD}{base:dq}{f:aN}{k:Nat}
abbrev WR:List Str:=["signs","longest","word"]
theorem WT:cG WR WR (bJ (top 11)):=⟨rfl,rfl,rfl,by decide +kernel,rfl,by decide +kernel,by decide +kernel⟩
def Rmo(ds:List aq)(d:aq):Prop:=∃(signs:Str)(longest:Int)(x:Str),ds=[.str signs,.int longest,.str x]/\x.length<=100000/\d=.bool (lG signs longest x)
theorem zba(F:kM K "is_made_of" "is_made_of" (top 11) f fd)(n:Nw mg):eQ P w K mg base jE 1 f fd WR (gX K Rmo):=
 jA F WT (λ_ _ h=>by obtain⟨_,_,_,rfl,_⟩:=h;rfl) λ_ _ h=>by
  obtain⟨signs,longest,x,rfl,hx,rfl⟩:=h;intro gy A outer s H E hr;have nc:(["sign","signs"]:List Str).Nodup:=by decide +kernel
  have hl:(kG x).length<=100000:=by unfold kG;rw[aj,cq];exact hx
  refine aS (bV (VE.to (kZ (EC pA pA (rZ 1 x.length) (rZ x.length longest) ax (qW (ai 2 rfl) (small (by omega)) n.len) (λ_=>ai 1 rfl)) (λ_=>jg (h7 (kN rfl) uL (ao (VO.ve (VO.to (fw (own:=["sign"]) (cap:=[0]) (N:=["sign","signs"]) (tgt:=.one 0) (F:=ED signs) (ds:=kG x) rfl ⟨rfl,by decide +kernel,by decide +kernel,rfl,rfl,?_⟩ (CW (ai 2 rfl)) (λf s3 H3=>bD (i:=0) nc rfl (aV rfl)) rfl
   (small (by omega)) (λd hd=>?_)) (ug signs x))) aK) n.all rfl))) ?_))
  ·intro j hj
   rcases aJ.mp hj with rfl|hj
   ·exact⟨(by show(0:Nat)<3;decide),aV rfl,rfl⟩
   ·cases hj
  ·obtain⟨c,_,rfl⟩:=aI.mp hd
   exact⟨_,rfl,λf s3 H3=>fu,λr jC f s3 H3=>by cases jC;exact CY (ai 0 rfl) (ai 1 rfl)⟩
  ·unfold lG m_
   rw[oW];rfl
theorem WU:cG ["word"] ["word"] (bJ (top 12)):=⟨rfl,rfl,rfl,by decide +kernel,rfl,by decide +kernel,by decide +kernel⟩
theorem WV:cG ["word"] ["word"] (bJ (top 13)):=⟨rfl,rfl,rfl,by decide +kernel,rfl,by decide +kernel,by decide +kernel⟩
def N9(ds:List aq)(d:aq):Prop:=∃x:Str,ds=[.str x]/\x.length<=100000/\d=.bool (isName x)
def WW(ds:List aq)(d:aq):Prop:=∃x:Str,ds=[.str x]/\pH x/\d=.bool (isNumber x)
theorem zbb(F:kM K "is_name" "is_name" (top 12) f fd)(n:Nw mg)(C:bG P w K mg base 1 "is_made_of" WR (gX K Rmo)):eQ P w K mg base jE 2 f fd ["word"] (gX K N9):=
 jA F WU (λ_ _ h=>by obtain⟨_,rfl,_⟩:=h;rfl) λ_ _ h=>by
  obtain⟨x,rfl,hx,rfl⟩:=h;intro gy A outer s H E hr;obtain⟨t1,m1⟩:=n.let_;obtain⟨t2,m2⟩:=n.lna;exact aS (bV (bw C hr (ao (MQ m1) (ao (Jd m2) (ao (ai 0 rfl) aK))) ⟨_,8,x,rfl,hx,rfl⟩))
theorem zbc(F:kM K "is_number" "is_number" (top 13) f fd)(n:Nw mg)(C:bG P w K mg base 1 "is_made_of" WR (gX K Rmo)):eQ P w K mg base jE 2 f fd ["word"] (gX K WW):=
 jA F WV (λ_ _ h=>by obtain⟨_,rfl,_⟩:=h;rfl) λ_ _ h=>by
  obtain⟨x,rfl,⟨hx,UE⟩,rfl⟩:=h;intro gy A outer s H E hr;obtain⟨t1,m1⟩:=n.fig;obtain⟨t2,m2⟩:=n.lnu;have o0:Lay 20 (.str "0"):=bq (by decide +kernel)
  cases em:lG "0123456789" 6 x with
  |false=>
   refine aS (bV (VE.to (kZ (k1:=false) (k2:=false) (VE.to (bw C hr (ao (MQ m1) (ao (Jd m2) (ao (ai 0 rfl) aK))) ⟨_,6,x,rfl,hx,rfl⟩) (by rw[em])) (λz=>by cases z)) ?_))
   unfold isNumber;rw[em];rfl
  |true=>
   obtain⟨c,hc⟩:∃c,x.cps.toList.head?=some c:=by
    cases e:x.cps.toList with
    |cons c l=>exact⟨c,rfl⟩
    |nil=>
     exfalso
     have:x.length=0:=by
      have:=congrArg i5 e;rw[cq]at this;exact this
     unfold lG at em;rw[this]at em;cases em
   have h0:qQ x.cps.toList 0=some c:=by
    cases e:x.cps.toList with
    |nil=>rw[e]at hc;cases hc
    |cons a l=>rw[e]at hc;cases hc;exact a9 (j:=0) rfl
   have Y1:mj (one c):=by
    have hm:c∈x.cps.toList:=by
     cases e:x.cps.toList with
     |nil=>rw[e]at hc;cases hc
     |cons a l=>rw[e]at hc;cases hc;exact aO
    exact MR UE hm
   refine aS (bV (VE.to (kZ (k1:=true) (VE.to (bw C hr (ao (MQ m1) (ao (Jd m2) (ao (ai 0 rfl) aK))) ⟨_,6,x,rfl,hx,rfl⟩) (by rw[em])) (λ_=>jg (uK (pE hr (bq UE) o0 (ai 0 rfl) aF) (λ_=>jg (II hr (bq Y1) o0 (xD (ai 0 rfl) ax (small (by omega)) h0) aF))))) ?_))
   unfold isNumber;rw[em,bS,bS,hc];rfl
end
theorem zU{y p:Str}:∀{zs:List Str},p∈zs->c∈p.cps.toList->c∈(cj y zs).cps.toList
 | [],h,_=>by cases h
 | [x],h,hc=>by
  rw[a_]at h;subst h;exact hc
 |x::x2::zs,h,hc=>by
  show c∈(x++y++cj y (x2::zs)).cps.toList;have e:(x++y++cj y (x2::zs)).cps.toList=(x.cps.toList++y.cps.toList)++(cj y (x2::zs)).cps.toList:=by
   show(x.cps++y.cps++(cj y (x2::zs)).cps).toList=_
   simp
  rw[e];rcases aJ.mp h with rfl|h
  ·exact dg _ (dg _ hc)
  ·exact cu _ (zU h hc)
theorem tD{y p: Str}(h:pH x)(hp:p∈bR x y):pH p:=by
 refine⟨b9 (part_short hp) h.1,(jB p).mpr λc hc=>(jB x).mp h.2 c ?_⟩
 have:=zU (y:=y) hp hc;rw[jv]at this;exact this
def BP:aq->Option aq
 | .str w=>if decide (w≠"")=true then some (.str w)else none
 |_=>none
theorem BQ(l:List Str):(l.map aH).filterMap BP=(l.filter λw:Str=>decide (w≠"")).map aH:=by
 induction l with
 |nil=>rfl
 |cons w l ih=>
  rw[aR,jq];by_cases h:decide (w≠"")=true
  ·rw[if_pos h,c7 (f:=BP) (b:=.str w) (by show(if _ then _ else _)=_;rw[if_pos h]),ih];rfl
  ·rw[if_neg h,ei (f:=BP) (by show(if _ then _ else _)=_;rw[if_neg h]),ih]
theorem EE{w: Str}(h:pH x)(hw:w∈wordsOf x):pH w:=tD h (lb.mp hw).1
def rQ(p:Nat×List Str):aq:=.tuple [.int p.1,.list (p.2.map .str)]
def q_(text:Str)(i:Nat):List (Nat×List Str):=((bR text "\n").zipIdx.take i).filterMap λp=>if(wordsOf p.1).isEmpty then none else some (p.2,wordsOf p.1)
theorem yj{text row:Str}(h:(bR text "\n")[i]?=some row):q_ text (i+1)=q_ text i++(if(wordsOf row).isEmpty then []else [(i,wordsOf row)]):=by
 unfold q_;rw[dv,i6,h];simp only[nQ,vE,tX,sG]
 congr 1
 cases e:(wordsOf row).isEmpty
 ·rw[c7 (b:=(i,wordsOf row)) (by simp only[e];rfl)];rfl
 ·rw[ei (by simp only[e];rfl)];rfl
theorem zV(text:Str):q_ text (bR text "\n").length=rowsOf text:=by
 unfold q_ rowsOf;rw[dF (by simp)]
theorem zW(text:Str)(i:Nat):(q_ text i).length<=i:=by
 unfold q_;exact b9 (qG _ _) (by rw[bW];omega)
theorem pI{y: Str}(h:x.length<=100000):(bR x y).length<=100002:=by
 have e1:=DR x y 0 x.length (x.length+1);unfold bR
 split
 ·show 1<=100002;omega
 ·split
  ·show 1<=100002;omega
  ·rw[yv];omega
section
variable{P:bM}{w:cy}{K:av}{mg:Str->Option aD}{base:dq}{f:aN}{k:Nat}
theorem WX:cG ["row"] ["row"] (bJ (top 14)):=⟨rfl,rfl,rfl,by decide +kernel,rfl,by decide +kernel,by decide +kernel⟩
def Rwo(ds es:List aq):Prop:=∃x:Str,ds=[.str x]/\pH x/\es=(wordsOf x).map .str
theorem zbd(F:kM K "words_of" "words_of" (top 14) f fd):eQ P w K mg base jE 1 f fd ["row"] (AO K Rwo):=
 Ef F WX (λ_ _ h=>by obtain⟨_,rfl,_⟩:=h;rfl) λ_ _ h=>by
  obtain⟨x,rfl,ok,rfl⟩:=h;intro gy A outer s H E hr;have nc:(["word"]:List Str).Nodup:=by decide +kernel
  have hx:=ok.1;refine aS (yS (VO.to (fw (own:=["word"]) (cap:=[]) (N:=["word"]) (cl:=[]) (tgt:=.one 0) (F:=BP) (ds:=(bR x " ").map aH) rfl ⟨rfl,by decide +kernel,by decide +kernel,rfl,rfl,by simp⟩ (gu (VO.ve (ng (ai 0 rfl) aF rfl (small (by omega))))) (λf s3 H3=>bD (i:=0) nc rfl (aV rfl)) rfl
   (small (by rw[aj];have:=pI (y:=" ") hx;omega)) (λd hd=>?_)) (BQ _)))
  obtain⟨p,hp,rfl⟩:=aI.mp hd;have C8:=tD ok hp;refine⟨_,rfl,λf s3 H3=>?_,λr jC f s3 H3=>?_⟩
  ·refine wa (VT.to (g7 (k:=0) hr (bq C8.2) (bq (x:="") (by decide +kernel)) (ai 0 rfl) aF) ?_)
   rw[bS]
   show(!decide (p=""))=(if decide (p≠"")=true then some (aH p)else none).isSome
   by_cases h:p=""
   ·subst h;rfl
   ·rw[if_pos (by simpa using h),decide_eq_false h];rfl
  ·have GK:(if decide (p≠"")=true then some (aH p)else none)=some r:=jC
   split at GK
   ·cases GK;exact ai 0 rfl
   ·cases GK
abbrev Nro:List Str:=["text","rows","number","row","words"]
theorem QY:cG Nro ["text"] (bJ (top 15)):=⟨rfl,rfl,rfl,by decide +kernel,rfl,by decide +kernel,by decide +kernel⟩
def Y2(ds es:List aq):Prop:=∃x:Str,ds=[.str x]/\pH x/\es=(rowsOf x).map rQ
theorem zbe(F:kM K "rows_of" "rows_of" (top 15) f fd)(n:Nw mg)(C:bG P w K mg base 1 "words_of" ["row"] (AO K Rwo)):eQ P w K mg base jE 2 f fd ["text"] (AO K Y2):=
 Ef F QY (λ_ _ h=>by obtain⟨_,rfl,_⟩:=h;rfl) λ_ _ h=>by
  obtain⟨x,rfl,ok,rfl⟩:=h;intro gy A outer s H E hr;have nd:Nro.Nodup:=QY.nd;have hx:=ok.1;have hc:=pI (y:="\n") hx;refine ay (iE 1 (dR aK) nd) ?_
  refine ay (jz (tgt:=.tup [2,3]) (o:=.nx [.val (.str x),.own ((q_ x (bR x "\n").length).map rQ),.un,.un,.un]) cZ rfl (jy (ds:=(bR x "\n").map aH) (VO.ve (ng (ai 0 rfl) aF rfl (small (by omega)))) n.Fy)
   (fz rfl (bO (bD (i:=2) nd rfl (aV rfl)) (bO (bD (i:=3) nd rfl (aV rfl)) eu))) (λi=>[.val (.str x),.own ((q_ x i).map rQ),.un,.un,.un]) (bR x "\n").length rfl (by rw[cC];simp) (λi d hi hd=>?_) (.inl ⟨by rw[cC];simp,rfl⟩)) ?_
  ·obtain⟨y,hy,rfl⟩:=fQ hd
   obtain⟨row,uB⟩:∃row,(bR x "\n")[i]?=some row:=⟨(bR x "\n")[i],by simp[hi]⟩
   rw[aP,uB]at hy;cases hy;have UG:=tD ok (bF uB);have hle:=zW x i;refine⟨_,rfl,?_⟩
   refine ay (c6 4 (VO.ve (i_ C hr (ao (ai 3 rfl) aK) ⟨row,rfl,UG,rfl⟩)) nd) ?_
   cases ew:(wordsOf row).isEmpty with
   |true=>
    refine fF (aS (bN (VT.to (e9 (ai 4 rfl) rfl) (by cases e:wordsOf row with|nil=>rfl|cons _ _=>rw[e]at ew;cases ew)) bp)) ⟨.inr rfl,.inr ?_,.inl rfl,.inl rfl,.inl rfl,trivial⟩
    rw[yj uB,ew,if_pos rfl,dA]
   |false=>
    refine fF (aS (cR (VT.to (e9 (ai 4 rfl) rfl) (by cases e:wordsOf row with|nil=>rw[e]at ew;cases ew|cons _ _=>rfl)) (aS (g8 1 rfl (d:=rQ (i,wordsOf row)) (fe (ao (ai 2 rfl) (ao (ai 4 rfl) aK))) (iN (by rw[aj];omega)))))) ⟨.inr rfl,.inr ?_,.inl rfl,.inl rfl,.inl rfl,trivial⟩
    rw[yj uB,ew,if_neg bP,aX];rfl
  ·rw[zV]
   exact aS (wc 1 rfl)
end
def jh(ns:List Int):aq:=.list (ns.map .int)
def cJ(c k:Int):Int:=((c%2147483629+k*k*7919+11)*48271%2147483647)*((c%2147483629+k*k*7919+11)*48271%2147483647)%1999999973
theorem C9(c k:Int):0<=cJ c k:=bH _ (by decide)
theorem PQ(c k:Int):cJ c k<1999999973:=bL _ (by decide)
abbrev TB:Str:="abcdefghijklmnopqrstuvwxyz"
theorem EF:(TB:Str).cps.toList=(cp 26).map (97 + ·):=by decide +kernel
def EG(i:Int):Str:=one (97+i.toNat)
theorem GL{i:Int}(h0:0<=i)(h1:i<26):qQ (TB:Str).cps.toList i=some (97+i.toNat):=by
 obtain⟨n,rfl⟩:=lO h0;refine a9 (j:=n) ?_
 have hn:n<26:=by omega
 rw[EF,aP,ou hn];rfl
def dH(x:Str):Prop:=1<=x.cps.toList.length/\x.cps.toList.length<=8/\∀c∈x.cps.toList,97<=c/\c<123
theorem PV(h:97<=c/\c<123):c∈(TB:Str).cps.toList:=by
 rw[EF];exact aI.mpr ⟨c-97,cY.mpr (by omega),by omega⟩
theorem dH.is(h:dH x):isName x=true:=by
 obtain⟨h1,h2,h3⟩:=h;rw[cq]at h1 h2;have e:x.length=x.cps.size:=rfl;unfold isName lG;rw[decide_eq_true (by omega),decide_eq_true (by omega),i9,i9,eV]
 intro c hc;show zI (one c) TB=true;have:zI (one c) TB=decide (c∈(TB:Str).cps.toList):=vO ..;rw[this];exact decide_eq_true (PV (h3 c hc))
theorem dH.ok(h:dH x):pH x:=by
 obtain⟨h1,h2,h3⟩:=h;rw[cq]at h1 h2;refine⟨by show x.cps.size<=_;omega,(jB x).mpr λc hc=>?_⟩
 have:=h3 c hc;omega
theorem EH(x:Str):∀n,(jY x n).cps.toList=(bu n x.cps.toList).flatten
 |0=>rfl
 |n+1=>by
  have e:(jY x (n+1)).cps.toList=x.cps.toList++(jY x n).cps.toList:=by
   show(x.cps++(jY x n).cps).toList=_
   simp
  rw[e,EH x n];rfl
theorem C_(c n:Nat):(jY (one c) n).cps.toList=bu n c:=by
 rw[EH]
 induction n with
 |zero=>rfl
 |succ n ih=>
  rw[eC,gi,ih];rfl
def nameA(m:Int)(many k:Nat):Str:=jY (EG (m/3%26)) (many-k)
def stemOf(m:Int):Str:=jY (EG (m/4992%26)) (1+m/78%8).toNat
def uM(m:Int)(k:Nat):Str:=nH (stemOf m) none (some (m/624%(1+m/78%8)))++EG ((m/3+5*k)%26)++nH (stemOf m) (some (m/624%(1+m/78%8)+1)) none
def namesOf(cell:Int)(many:Nat):List Str:=if cJ cell 3%3=0/\many<9 then(cp many).map (nameA (cJ cell 3) many) else(cp many).map (uM (cJ cell 3))
theorem fK(cell:Int)(many:Nat):(namesOf cell many).length=many:=by unfold namesOf;split<;>simp
theorem xK(m:Int):(stemOf m).cps.toList=bu (1+m/78%8).toNat (97+(m/4992%26).toNat):=C_ _ _
theorem MS(m:Int){many k:Nat}(h:k<many)(h9:many<9):dH (nameA m many k):=by
 have e:(nameA m many k).cps.toList=bu (many-k) (97+(m/3%26).toNat):=C_ _ _;refine⟨by rw[e,dM];omega,by rw[e,dM];omega,λc hc=>?_⟩
 rw[e]at hc;have:=(jL.mp hc).2;omega
theorem MT(m:Int)(k:Nat):dH (uM m k):=by
 have hs:=xK m;have hl:(stemOf m).cps.toList.length=(1+m/78%8).toNat:=by rw[hs,dM]
 have b1:0<=m/78%8:=bH _ (by decide)
 have b2:m/78%8<8:=bL _ (by decide)
 have p1:0<=m/624%(1+m/78%8):=bH _ (by omega)
 have p2:m/624%(1+m/78%8)<1+m/78%8:=bL _ (by omega)
 have e1:nH (stemOf m) none (some (m/624%(1+m/78%8)))=_:=DY (x:=stemOf m) ⟨p1,by rw[hl];omega⟩
 have e2:nH (stemOf m) (some (m/624%(1+m/78%8)+1)) none=_:=Cr (x:=stemOf m) ⟨by omega,by rw[hl];omega⟩
 have e:(uM m k).cps.toList=(stemOf m).cps.toList.take (m/624%(1+m/78%8)).toNat ++ [97+((m/3+5*k)%26).toNat]++(stemOf m).cps.toList.drop (m/624%(1+m/78%8)+1).toNat:=by
  unfold uM;rw[e1,e2]
  show((_++_++_:Array Nat)).toList=_
  simp only[HY,lX,Int.sub_zero,EG,one];rw[dF (l:=List.drop _ _) (by rw[cP];omega)]
 have l1:(uM m k).cps.toList.length=(1+m/78%8).toNat:=by
  rw[e,a8,a8,bW,cP,hl];simp only[jZ];omega
 refine⟨by rw[l1];omega,by rw[l1];omega,λc hc=>?_⟩
 rw[e,hs]at hc;have q1:0<=(m/3+5*k)%26:=bH _ (by decide)
 have q2:(m/3+5*k)%26<26:=bL _ (by decide)
 have r1:0<=m/4992%26:=bH _ (by decide)
 have r2:m/4992%26<26:=bL _ (by decide)
 rcases bX.mp hc with hc|hc
 ·rcases bX.mp hc with hc|hc
  ·have:=(jL.mp (eL hc)).2
   omega
  ·have:=a_.mp hc
   omega
 ·have:=(jL.mp (eM hc)).2
  omega
theorem kj{cell:Int}{many:Nat}(h:x∈namesOf cell many):dH x:=by
 unfold namesOf at h
 split at h
 ·rename_i hh
  obtain⟨k,hk,rfl⟩:=aI.mp h;exact MS _ (cY.mp hk) hh.2
 ·obtain⟨k,hk,rfl⟩:=aI.mp h
  exact MT _ _
abbrev Ng(mg:Str->Option aD):Prop:=Nm mg
section
variable{P:bM}{w:cy}{K:av}{mg:Str->Option aD}{base:dq}{f:aN}{k:Nat}
def Je(ds:List aq)(d:aq):Prop:=∃(ns:List Int)(k:Nat),ds=[jh ns,.int k]/\d=.int (ns.getD k 0)
theorem PX:cG ["_law_script","_law_k"] ["_law_script","_law_k"] (bJ (top 48)):=⟨rfl,rfl,rfl,by decide +kernel,rfl,by decide +kernel,by decide +kernel⟩
theorem TC(m1:mg "len"=none)(h:Je ds d):yg P w K mg base ["_law_script","_law_k"] "_law_cell_at" (top 48) f k ds (.rt d):=by
 obtain⟨ns,n,rfl,rfl⟩:=h;intro gy A outer s H E hr;by_cases hn:n<ns.length
 ·refine cH (cR (VT.to (rN (ai 1 rfl) (gS (ai 0 rfl) m1)) (by simp only[aj];exact decide_eq_true (by omega))) (aS (bV (dJ (ai 0 rfl) (ai 1 rfl) (a9 ?_))))) rfl
  rw[aP,aG,aw hn];rfl
 ·refine ay (bN (VT.to (rN (ai 1 rfl) (gS (ai 0 rfl) m1)) (by simp only[aj];exact decide_eq_false (by omega))) bp) ?_
  have e:ns.getD n 0=0:=by rw[aG,gD (by omega)];rfl
  rw[e];exact aS (bV ax)
theorem TF(F:kM K "_law_cell_at" "_law_cell_at" (top 48) f fd)(m1:mg "len"=none):eQ P w K mg base jE 1 f fd ["_law_script","_law_k"] (gX K Je):=jA F PX (λ_ _ h=>by obtain⟨_,_,rfl,_⟩:=h;rfl) λ_ _ h=>TC m1 h
def GN(ds:List aq)(d:aq):Prop:=∃(c k:Int),ds=[.int c,.int k]/\0<=k/\k<=1000/\d=.int (cJ c k)
abbrev TH:List Str:=["_law_cell","_law_k","_law_m"]
theorem MV:cG TH ["_law_cell","_law_k"] (bJ (top 49)):=⟨rfl,rfl,rfl,by decide +kernel,rfl,by decide +kernel,by decide +kernel⟩
theorem WY(h:GN ds d):yg P w K mg base TH "_law_mix" (top 49) f k ds (.rt d):=by
 obtain⟨c,n,rfl,h0,h1,rfl⟩:=h;intro gy A outer s H E hr;have nd:TH.Nodup:=MV.nd;have q1:0<=(c%2147483629+n*n*7919+11)*48271%2147483647:=bH _ (by decide)
 have q2:(c%2147483629+n*n*7919+11)*48271%2147483647<2147483647:=bL _ (by decide)
 refine ay (c6 2 (cQ (sU (eU (eU (cQ (ai 0 rfl) ax (by decide)) (sU (sU (ai 1 rfl) (ai 1 rfl) (.inl ⟨by omega,by omega⟩)) ax (.inr ⟨by decide,by decide⟩))) ax) ax (.inr ⟨by decide,by decide⟩)) ax (by decide)) nd) ?_
 exact aS (bV (cQ (sU (ai 2 rfl) (ai 2 rfl) (.inl ⟨by omega,by omega⟩)) ax (by decide)))
theorem WZ(F:kM K "_law_mix" "_law_mix" (top 49) f fd):eQ P w K mg base jE 1 f fd ["_law_cell","_law_k"] (gX K GN):=jA F MV (λ_ _ h=>by obtain⟨_,_,rfl,_⟩:=h;rfl) λ_ _ h=>WY h
abbrev Nnm:List Str:=["_law_cell","_law_many","_law_letters","_law_m","_law_size","_law_place","_law_stem"]
theorem QZ:cG Nnm ["_law_cell","_law_many"] (bJ (top 50)):=⟨rfl,rfl,rfl,by decide +kernel,rfl,by decide +kernel,by decide +kernel⟩
def Y3(ds es:List aq):Prop:=∃(c:Int)(many:Nat),ds=[.int c,.int many]/\many<=60/\es=(namesOf c many).map .str
def FA(m:Int)(many:Nat):aq->Option aq
 | .int k=>some (.str (nameA m many k.toNat))
 |_=>none
def FB(m:Int):aq->Option aq
 | .int k=>some (.str (uM m k.toNat))
 |_=>none
theorem TJ(m:Int)(many:Nat):(jx many).filterMap (FA m many)=((cp many).map (nameA m many)).map .str:=by
 unfold jx;rw[cW,bC];exact filterMap_some λk _=>by show some _=some _;rw[eJ];rfl
theorem TK(m:Int)(many:Nat):(jx many).filterMap (FB m)=((cp many).map (uM m)).map .str:=by
 unfold jx;rw[cW,bC];exact filterMap_some λk _=>by show some _=some _;rw[eJ];rfl
theorem xN:(TB:Str).length<=sizeLine:=small (by decide +kernel)
theorem zbf(F:kM K "_law_names" "_law_names" (top 50) f fd)(n:Ng mg)(C:bG P w K mg base 1 "_law_mix" ["_law_cell","_law_k"] (gX K GN)):eQ P w K mg base jE 2 f fd ["_law_cell","_law_many"] (AO K Y3):=
 Ef F QZ (λ_ _ h=>by obtain⟨_,_,rfl,_⟩:=h;rfl) λ_ _ h=>by
  obtain⟨c,many,rfl,hm,rfl⟩:=h;intro gy A outer s H E hr;have nd:Nnm.Nodup:=QZ.nd;have nk:(["_law_k","_law_many","_law_letters","_law_m"]:List Str).Nodup:=by decide +kernel
  have lo:=C9 c 3;refine ay (c6 2 aF nd) ?_
  refine ay (c6 3 (d:=.int (cJ c 3)) (bw C hr (ao (ai 0 rfl) (ao ax aK)) ⟨c,3,rfl,by decide,by decide,rfl⟩) nd) ?_
  by_cases hh:cJ c 3%3=0/\many<9
  ·have e:namesOf c many=(cp many).map (nameA (cJ c 3) many):=by unfold namesOf;rw[if_pos hh]
   rw[e];refine cH (cR (VT.to (jw (b_ (k:=1) (hr.mono (by omega)) (cx 20 _) (cx 20 _) (cQ (ai 3 rfl) ax (by decide)) ax) (λ_=>rN (ai 1 rfl) ax)) ?_) (aS (yS (VO.to (fw (own:=["_law_k"]) (cap:=[1,2,3]) (N:=["_law_k","_law_many","_law_letters","_law_m"]) (tgt:=.one 0) (F:=FA (cJ c 3) many) (ds:=jx many) rfl ⟨rfl,by decide +kernel,by decide +kernel,rfl,rfl,?_⟩ (qj (n:=(many:Int)) (ai 1 rfl) n.rng (by omega) (by omega)) (λf s3 H3=>bD (i:=0) nk rfl (aV rfl)) rfl
    (small (by rw[jM];omega)) (λd hd=>?_)) (TJ _ _))))) rfl
   ·rw[jU,decide_eq_true hh.1,decide_eq_true (by omega)];rfl
   ·intro j hj
    rcases aJ.mp hj with rfl|hj
    ·exact⟨(by show(1:Nat)<7;decide),aV rfl,rfl⟩
    ·rcases aJ.mp hj with rfl|hj
     ·exact⟨(by show(2:Nat)<7;decide),aV rfl,rfl⟩
     ·rcases aJ.mp hj with rfl|hj
      ·exact⟨(by show(3:Nat)<7;decide),aV rfl,rfl⟩
      ·cases hj
   ·obtain⟨i,hi,rfl⟩:=aI.mp hd
    have hi:=cY.mp hi;refine⟨_,rfl,λf s3 H3=>fu,λr jC f s3 H3=>?_⟩
    cases jC;refine VE.to (IL (xD (ai 2 rfl) (cQ (fV (ai 3 rfl) ax ⟨by decide,by decide⟩) ax (by decide)) xN (GL (bH _ (by decide)) (bL _ (by decide)))) (SK (ai 1 rfl) (ai 0 rfl)) (by omega) (by omega) (by show 1<=1000;decide)) ?_
    unfold nameA;have e:((many:Int)-(i:Int)).toNat=many-((i:Nat):Int).toNat:=by omega
    rw[e];rfl
  ·have e:namesOf c many=(cp many).map (uM (cJ c 3)):=by unfold namesOf;rw[if_neg hh]
   rw[e];have nk2:(["_law_k","_law_letters","_law_m","_law_place","_law_stem"]:List Str).Nodup:=by decide +kernel
   have b1:0<=cJ c 3/78%8:=bH _ (by decide)
   have b2:cJ c 3/78%8<8:=bL _ (by decide)
   have p1:0<=cJ c 3/624%(1+cJ c 3/78%8):=bH _ (by omega)
   have p2:cJ c 3/624%(1+cJ c 3/78%8)<1+cJ c 3/78%8:=bL _ (by omega)
   have sl:(stemOf (cJ c 3)).length<=8:=by
    show(stemOf (cJ c 3)).cps.size<=8
    rw[<-cq,xK,dM];omega
   refine ay (bN (VT.to (jw (b_ (k:=1) (hr.mono (by omega)) (cx 20 _) (cx 20 _) (cQ (ai 3 rfl) ax (by decide)) ax) (λ_=>rN (ai 1 rfl) ax)) ?_) bp) ?_
   ·rw[jU]
    by_cases h0:cJ c 3%3=0
    ·rw[decide_eq_true h0,i9]
     exact decide_eq_false λz=>hh ⟨h0,by omega⟩
    ·rw[decide_eq_false h0];rfl
   refine ay (c6 4 (eU ax (cQ (fV (ai 3 rfl) ax ⟨by decide,by decide⟩) ax (by decide))) nd) ?_
   refine ay (c6 5 (cQ (fV (ai 3 rfl) ax ⟨by decide,by decide⟩) (ai 4 rfl) (by omega)) nd) ?_
   refine ay (c6 6 (d:=.str (stemOf (cJ c 3))) (IL (xD (ai 2 rfl) (cQ (fV (ai 3 rfl) ax ⟨by decide,by decide⟩) ax (by decide)) xN (GL (bH _ (by decide)) (bL _ (by decide)))) (ai 4 rfl) (by omega) (by omega) (by show 1<=1000;decide)) nd) ?_
   refine aS (yS (VO.to (fw (own:=["_law_k"]) (cap:=[2,3,5,6]) (N:=["_law_k","_law_letters","_law_m","_law_place","_law_stem"]) (tgt:=.one 0) (F:=FB (cJ c 3)) (ds:=jx many) rfl ⟨rfl,by decide +kernel,by decide +kernel,rfl,rfl,?_⟩ (qj (n:=(many:Int)) (ai 1 rfl) n.rng (by omega) (by omega)) (λf s3 H3=>bD (i:=0) nk2 rfl (aV rfl)) rfl
    (small (by rw[jM];omega)) (λd hd=>?_)) (TK _ _)))
   ·intro j hj
    rcases aJ.mp hj with rfl|hj
    ·exact⟨(by show(2:Nat)<7;decide),aV rfl,rfl⟩
    ·rcases aJ.mp hj with rfl|hj
     ·exact⟨(by show(3:Nat)<7;decide),aV rfl,rfl⟩
     ·rcases aJ.mp hj with rfl|hj
      ·exact⟨(by show(5:Nat)<7;decide),aV rfl,rfl⟩
      ·rcases aJ.mp hj with rfl|hj
       ·exact⟨(by show(6:Nat)<7;decide),aV rfl,rfl⟩
       ·cases hj
   ·obtain⟨i,hi,rfl⟩:=aI.mp hd
    have hi:=cY.mp hi;refine⟨_,rfl,λf s3 H3=>fu,λr jC f s3 H3=>?_⟩
    cases jC;have l1:=FH (stemOf (cJ c 3)) none (some (cJ c 3/624%(1+cJ c 3/78%8)));have l2:=FH (stemOf (cJ c 3)) (some (cJ c 3/624%(1+cJ c 3/78%8)+1)) none;have l3:(EG ((cJ c 3/3+5*(i:Int))%26)).length=1:=rfl;refine VE.to (ja (ja (BH (ai 4 rfl) (small (by omega)) .no (.yes (ai 3 rfl))) (xD (ai 1 rfl) (cQ (eU (fV (ai 2 rfl) ax ⟨by decide,by decide⟩) (sU ax (ai 0 rfl) (.inl ⟨by decide,by decide⟩))) ax (by decide)) xN (GL (bH _ (by decide)) (bL _ (by decide)))) (small ?_)) (BH (ai 4 rfl) (small (by omega)) (.yes (eU (ai 3 rfl) ax)) .no) (small ?_)) ?_
    ·show _+(EG ((cJ c 3/3+5*(i:Int))%26)).length<=_
     omega
    ·rw[cF]
     show _+(EG ((cJ c 3/3+5*(i:Int))%26)).length+_<=_;omega
    ·rfl
end
inductive Rl where
 |meet
 |gather (most age:Int)
 |many (most:Int)
 |rank (bound:Option Int)
 |turns (shares:List Int)
 |eldest
def o7:Option Int->aq
 |none=>.none
 |some i=>.int i
def pZ:Rl->Str
 | .meet=>"meet"
 | .gather _ _=>"gather"
 | .many _=>"many"
 | .rank _=>"rank"
 | .turns _=>"turns"
 | .eldest=>"eldest"
def tE:Rl->List aq
 | .meet=>[]
 | .gather m a=>[.int m,.int a]
 | .many m=>[.int m]
 | .rank b=>[o7 b]
 | .turns s=>[.tuple (s.map .int)]
 | .eldest=>[]
def Kn(r:Rl):aq:=.tuple (.str (pZ r)::tE r)
def Dc(rest:Int)(k:Nat):Int:=1+rest/((k:Int)*k+1)%3
def lH(m:Int)(many:Nat):Rl:=
 if m%6=5/\1<many then .meet
 else if m%6=4 then .gather (1+m/6%4) (m/6/4%9)
 else if m%6=3 then .many (1+m/6%4)
 else if m%6=2 then .rank (if m/6%2=0 then none else some (m/6/2%9))
 else if m%6=1 then .turns ((cp many).map (Dc (m/6)))
 else .eldest
def iX:Rl->Nat->Int
 | .many m,_=>m
 | .gather m _,_=>m
 | .meet,n=>n
 |_,_=>1
section
variable{P:bM}{w:cy}{K:av}{mg:Str->Option aD}{base:dq}{f:aN}{k:Nat}
abbrev Nrl:List Str:=["_law_m","_law_many","_law_rest"]
theorem Q0:cG Nrl ["_law_m","_law_many"] (bJ (top 51)):=⟨rfl,rfl,rfl,by decide +kernel,rfl,by decide +kernel,by decide +kernel⟩
def Rrl(ds:List aq)(d:aq):Prop:=∃(m:Int)(many:Nat),ds=[.int m,.int many]/\0<=m/\m<1999999973/\many<=60/\d=Kn (lH m many)
def MX(rest:Int):aq->Option aq
 | .int k=>some (.int (1+rest/(k*k+1)%3))
 |_=>none
theorem GO(rest:Int)(many:Nat):(jx many).filterMap (MX rest)=((cp many).map (Dc rest)).map .int:=by
 unfold jx;rw[cW,bC];exact filterMap_some λk _=>rfl
theorem zbg(F:kM K "_law_rule" "_law_rule" (top 51) f fd)(n:Ng mg):eQ P w K mg base jE 1 f fd ["_law_m","_law_many"] (gX K Rrl):=
 jA F Q0 (λ_ _ h=>by obtain⟨_,_,rfl,_⟩:=h;rfl) λ_ _ h=>by
  obtain⟨m,many,rfl,h0,h1,hm,rfl⟩:=h;intro gy A outer s H E hr;have nd:Nrl.Nodup:=Q0.nd;have nk:(["_law_k","_law_rest"]:List Str).Nodup:=by decide +kernel
  have r0:0<=m/6:=Int.ediv_nonneg h0 (by decide)
  have r1:m/6<1999999973:=by omega
  refine ay (c6 2 (fV (ai 0 rfl) ax ⟨by decide,by decide⟩) nd) ?_
  have ev:∀j:Int,cU (.int (m%6)) (.int j)=decide (m%6=j):=λj=>jU _ _
  unfold lH;by_cases c5:m%6=5/\1<many
  ·rw[if_pos c5]
   refine cH (cR (VT.to (jw (b_ hr (cx 20 _) (cx 20 _) (cQ (ai 0 rfl) ax (by decide)) ax) (λ_=>IA (ai 1 rfl) ax)) ?_) (aS (bV (VE.to (fe (ao aF aK)) rfl)))) rfl
   rw[ev,decide_eq_true c5.1,decide_eq_true (by omega)];rfl
  rw[if_neg c5];refine ay (bN (VT.to (jw (b_ hr (cx 20 _) (cx 20 _) (cQ (ai 0 rfl) ax (by decide)) ax) (λ_=>IA (ai 1 rfl) ax)) ?_) bp) ?_
  ·rw[ev]
   by_cases h5:m%6=5
   ·rw[decide_eq_true h5,i9]
    exact decide_eq_false λz=>c5 ⟨h5,by omega⟩
   ·rw[decide_eq_false h5];rfl
  by_cases c4:m%6=4
  ·rw[if_pos c4]
   refine cH (cR (VT.to (b_ hr (cx 20 _) (cx 20 _) (cQ (ai 0 rfl) ax (by decide)) ax) (by rw[ev,decide_eq_true c4])) (aS (bV (VE.to (fe (ao aF (ao (eU ax (cQ (ai 2 rfl) ax (by decide))) (ao (cQ (fV (ai 2 rfl) ax ⟨by decide,by decide⟩) ax (by decide)) aK)))) rfl)))) rfl
  rw[if_neg c4];refine ay (bN (VT.to (b_ hr (cx 20 _) (cx 20 _) (cQ (ai 0 rfl) ax (by decide)) ax) (by rw[ev,decide_eq_false c4])) bp) ?_
  by_cases c3:m%6=3
  ·rw[if_pos c3]
   refine cH (cR (VT.to (b_ hr (cx 20 _) (cx 20 _) (cQ (ai 0 rfl) ax (by decide)) ax) (by rw[ev,decide_eq_true c3])) (aS (bV (VE.to (fe (ao aF (ao (eU ax (cQ (ai 2 rfl) ax (by decide))) aK))) rfl)))) rfl
  rw[if_neg c3];refine ay (bN (VT.to (b_ hr (cx 20 _) (cx 20 _) (cQ (ai 0 rfl) ax (by decide)) ax) (by rw[ev,decide_eq_false c3])) bp) ?_
  by_cases c2:m%6=2
  ·rw[if_pos c2]
   refine cH (cR (VT.to (b_ hr (cx 20 _) (cx 20 _) (cQ (ai 0 rfl) ax (by decide)) ax) (by rw[ev,decide_eq_true c2])) (aS (bV (VE.to (fe (ao aF (ao (dJ (d:=o7 (if m/6%2=0 then none else some (m/6/2%9))) (VO.ve (dR (ao eB (ao (cQ (fV (ai 2 rfl) ax ⟨by decide,by decide⟩) ax (by decide)) aK)))) (cQ (ai 2 rfl) ax (by decide)) ?_) aK))) rfl)))) rfl
   rcases Int.emod_two_eq (m/6)with e|e
   ·rw[e,if_pos rfl];rfl
   ·rw[e,if_neg (by decide)];rfl
  rw[if_neg c2];refine ay (bN (VT.to (b_ hr (cx 20 _) (cx 20 _) (cQ (ai 0 rfl) ax (by decide)) ax) (by rw[ev,decide_eq_false c2])) bp) ?_
  by_cases c1:m%6=1
  ·rw[if_pos c1]
   refine cH (cR (VT.to (b_ hr (cx 20 _) (cx 20 _) (cQ (ai 0 rfl) ax (by decide)) ax) (by rw[ev,decide_eq_true c1])) (aS (bV (VE.to (fe (ao aF (ao (k9 mN yR (ao (VO.ve (VO.to (fw (own:=["_law_k"]) (cap:=[2]) (N:=["_law_k","_law_rest"]) (tgt:=.one 0) (F:=MX (m/6)) (ds:=jx many) rfl ⟨rfl,by decide +kernel,by decide +kernel,rfl,rfl,?_⟩ (qj (n:=(many:Int)) (ai 1 rfl) n.rng (by omega) (by omega)) (λf s3 H3=>bD (i:=0) nk rfl (aV rfl)) rfl
    (small (by rw[jM];omega)) (λd hd=>?_)) (GO _ _))) aK) n.tup rfl) aK))) rfl)))) rfl
   ·intro j hj
    rcases aJ.mp hj with rfl|hj
    ·exact⟨(by show(2:Nat)<3;decide),aV rfl,rfl⟩
    ·cases hj
   ·obtain⟨i,hi,rfl⟩:=aI.mp hd
    have hi:=cY.mp hi;have hii:(0:Int)<=(i:Int)*i:=uY (by omega) (by omega)
    have zgP:(i:Int)*i<=60*60:=Ct (by omega) (by omega) (by omega) (by omega)
    refine⟨_,rfl,λf s3 H3=>fu,λr jC f s3 H3=>?_⟩
    cases jC;exact eU ax (cQ (fV (ai 1 rfl) (eU (sU (ai 0 rfl) (ai 0 rfl) (.inl ⟨by omega,by omega⟩)) ax) ⟨by omega,by omega⟩) ax (by decide))
  rw[if_neg c1];refine ay (bN (VT.to (b_ hr (cx 20 _) (cx 20 _) (cQ (ai 0 rfl) ax (by decide)) ax) (by rw[ev,decide_eq_false c1])) bp) ?_
  exact aS (bV (VE.to (fe (ao aF aK)) rfl))
theorem W1:cG ["_law_rule_here","_law_many"] ["_law_rule_here","_law_many"] (bJ (top 52)):=⟨rfl,rfl,rfl,by decide +kernel,rfl,by decide +kernel,by decide +kernel⟩
def Y4(ds:List aq)(d:aq):Prop:=∃(r:Rl)(many:Nat),ds=[Kn r,.int many]/\d=.int (iX r many)
theorem zbh(F:kM K "_law_greatest" "_law_greatest" (top 52) f fd):eQ P w K mg base jE 1 f fd ["_law_rule_here","_law_many"] (gX K Y4):=
 jA F W1 (λ_ _ h=>by obtain⟨_,_,rfl,_⟩:=h;rfl) λ_ _ h=>by
  obtain⟨r,many,rfl,rfl⟩:=h;unfold Kn;intro gy A outer s H E hr;have hl:(tE r).length<=2:=by cases r<;>simp[tE]
  have x1:∃x,(aH (pZ r)::tE r ++ [.int 0])[1]?=some x/\((kO [(("many":Str),x),("gather",x),("meet",.int many)] (pZ r)).getD (.int 1))=.int (iX r many):=by
   cases r<;>exact⟨_,rfl,rfl⟩
  obtain⟨x,hx,hv⟩:=x1;have hn3:([(("many":Str),x),("gather",x),("meet",dO many)].map (·.1)).Nodup:=(show([("many":Str),"gather","meet"]).Nodup by decide +kernel)
  have hx1:qQ (aH (pZ r)::tE r ++ [.int 0]) 1=some x:=a9 (j:=1) hx;have hx0:qQ (aH (pZ r)::tE r) 0=some (.str (pZ r)):=a9 (j:=0) rfl;have hz:(aH (pZ r)::tE r).length + [dO 0].length<=sizeLine:=small (by simp only[bh,cv];omega)
  have lR:(aH (pZ r)::tE r)≠[]:=by simp
  generalize tE r=ra at *
  generalize pZ r=rY at *
  refine aS (bV (VE.to (Mv hr (IW (kvs:=[(("many":Str),x),("gather",x),("meet",.int many)]) (.cons aF ?_ (.cons aF ?_ (.cons aF (ai 1 rfl) .nil))) hn3 (by simp) (by show 3<=15;decide)) (x:=rY) ?_ (d:=.int 1) ax) hv))
  ·exact bZ (yV (d1:=.str rY::ra) (d2:=[.int 0]) (ai 0 rfl) (fe (ao ax aK)) lR hz) ax hx1
  ·exact bZ (yV (d1:=.str rY::ra) (d2:=[.int 0]) (ai 0 rfl) (fe (ao ax aK)) lR hz) ax hx1
  ·exact bZ (ds:=.str rY::ra) (ai 0 rfl) ax hx0
end
structure Dk where
 name:Str
 to:Str
 rule:Rl
 places:List Str
variable{iS:List Dk}
def dP(l:List Str):aq:=.list (l.map .str)
def gk(d:Dk):aq:=.tuple [.str d.name,.str d.to,Kn d.rule,.tuple (d.places.map .str)]
def gq(cell:Int)(nn k:Nat):Nat:=if k<nn then k else(cJ cell (40+k)%nn).toNat
def zX(cell:Int)(k len:Nat):Nat:=(cJ cell (60+k)%(len+1)).toNat
def ez(cell:Int)(nn:Nat)(places:List Str):Nat->List (List Str)
 |0=>bu nn []
 |k+1=>(ez cell nn places k).set (gq cell nn k) (o6 ((ez cell nn places k).getD (gq cell nn k) []) (zX cell k ((ez cell nn places k).getD (gq cell nn k) []).length) (places.getD k ""))
def GP(cell:Int)(lines:List Str)(k:Nat):Str:=(lines ++ [("":Str)]).getD (cJ cell (80+k)%(lines.length+1)).toNat ""
def zY(cell:Int)(names lines:List Str)(taken:List (List Str))(k:Nat):Dk:=⟨names.getD k "",GP cell lines k,lH (cJ cell (90+k)) (taken.getD k []).length,taken.getD k []⟩
def k_(cell:Int)(n:Nat):Nat:=(1+cJ cell 32%(if(n:Int)<4 then(n:Int)else 4)).toNat
def cf(cell:Int)(places lines:List Str):List Dk:=(cp (k_ cell places.length)).map (zY cell (namesOf (cJ cell 31) (k_ cell places.length)) lines (ez cell (k_ cell places.length) places places.length))
theorem iC(cell:Int)(nn:Nat)(places:List Str):∀k,(ez cell nn places k).length=nn
 |0=>by simp[ez]
 |k+1=>by rw[ez,oi,iC cell nn places k]
theorem nh(cell:Int){n:Nat}(h:1<=n):1<=k_ cell n/\k_ cell n<=4/\k_ cell n<=n:=by
 unfold k_
 split
 ·rename_i hn
  have a1:0<=cJ cell 32%(n:Int):=bH _ (by omega)
  have a2:cJ cell 32%(n:Int)<n:=bL _ (by omega)
  omega
 ·have a1:0<=cJ cell 32%4:=bH _ (by omega)
  have a2:cJ cell 32%4<4:=bL _ (by omega)
  omega
theorem BR(cell:Int){nn:Nat}(h:1<=nn)(k:Nat):gq cell nn k<nn:=by
 unfold gq
 split
 ·assumption
 ·have a1:0<=cJ cell (40+k)%(nn:Int):=bH _ (by omega)
  have a2:cJ cell (40+k)%(nn:Int)<nn:=bL _ (by omega)
  omega
theorem MY(cell:Int)(k len:Nat):zX cell k len<=len:=by
 unfold zX;have a1:0<=cJ cell (60+k)%((len:Int)+1):=bH _ (by omega)
 have a2:cJ cell (60+k)%((len:Int)+1)<(len:Int)+1:=bL _ (by omega)
 omega
theorem yk{α:Type}(l:List α)(i:Nat)(y:α):(o6 l i y).length=l.length+1:=by
 unfold o6;rw[a8,bh,bW,cP];omega
theorem MZ{α:Type}{l:List α}{x y:α}(h:x∈o6 l i y):x∈l\/x=y:=by
 unfold o6 at h;rcases bX.mp h with h|h
 ·exact .inl (eL h)
 ·rcases aJ.mp h with h|h
  ·exact .inr h
  ·exact .inl (eM h)
theorem uh(cell:Int)(nn:Nat)(places:List Str):∀k,∀row∈ez cell nn places k,row.length<=k/\(k<=places.length->∀x∈row,x∈places)
 |0,row,h=>by
  obtain⟨_,rfl⟩:=jL.mp h;exact⟨aA _,λ_ x hx=>by cases hx⟩
 |k+1,row,h=>by
  have ih:=uh cell nn places k;rcases pW (show row∈List.set _ _ _ from h)with h|h
  ·exact⟨Nat.le_succ_of_le (ih row h).1,λhk=>(ih row h).2 (by omega)⟩
  ·have hg:(ez cell nn places k).getD (gq cell nn k) []=[]\/(ez cell nn places k).getD (gq cell nn k) []∈ez cell nn places k:=by
    rw[aG];cases e:(ez cell nn places k)[gq cell nn k]? with
    |none=>exact .inl rfl
    |some r=>exact .inr (bF e)
   generalize(ez cell nn places k).getD (gq cell nn k) []=g at *
   subst h;have hgl:g.length<=k/\(k<=places.length->∀x∈g,x∈places):=by
    rcases hg with rfl|hg
    ·exact⟨bK _,λ_ x hx=>by cases hx⟩
    ·exact ih g hg
   refine⟨by rw[yk];omega,λhk x hx=>?_⟩
   rcases MZ hx with hx|rfl
   ·exact hgl.2 (by omega) x hx
   ·rw[aG,aw (by omega)]
    exact cK _
theorem Dd(cell:Int)(lines:List Str)(k:Nat):qQ ((lines ++ [("":Str)]).map aH) (cJ cell (80+k)%((lines.length:Int)+1))=some (.str (GP cell lines k))/\GP cell lines k∈lines ++ [("":Str)]:=by
 have a1:0<=cJ cell (80+k)%((lines.length:Int)+1):=bH _ (by omega)
 have a2:cJ cell (80+k)%((lines.length:Int)+1)<(lines.length:Int)+1:=bL _ (by omega)
 unfold GP
 generalize cJ cell (80+k)%((lines.length:Int)+1)=j at *
 obtain⟨i,rfl⟩:=lO a1;have hi:i<(lines ++ [("":Str)]).length:=by simp;omega
 have e:(lines ++ [("":Str)]).getD ((i:Int)).toNat ""=(lines ++ [("":Str)])[i]:=by
  rw[eJ,aG,aw hi];rfl
 rw[e];exact⟨a9 (by rw[aP,aw hi];rfl),cK hi⟩
section
variable{P:bM}{w:cy}{K:av}{mg:Str->Option aD}{base:dq}{f:aN}{k:Nat}
abbrev Ndk:List Str:=["_law_cell","_law_places","_law_lines","_law_names_here","_law_taken","_law_k","_law_place","_law_at","_law_desks_here","_law_name","_law_to"]
theorem Q5:cG Ndk ["_law_cell","_law_places","_law_lines"] (bJ (top 53)):=⟨rfl,rfl,rfl,by decide +kernel,rfl,by decide +kernel,by decide +kernel⟩
def Rdk(ds es:List aq):Prop:=∃(cell:Int)(places lines:List Str),ds=[.int cell,dP places,dP lines]/\1<=places.length/\places.length<=12/\lines.length<=12/\es=(cf cell places lines).map gk
theorem zbj(F:kM K "_law_desks" "_law_desks" (top 53) f fd)(n:Ng mg)(C1:bG P w K mg base 1 "_law_mix" ["_law_cell","_law_k"] (gX K GN))(C2:bG P w K mg base 2 "_law_names" ["_law_cell","_law_many"] (AO K Y3))(C3:bG P w K mg base 1 "_law_rule" ["_law_m","_law_many"] (gX K Rrl)):eQ P w K mg base jE 3 f fd ["_law_cell","_law_places","_law_lines"] (AO K Rdk):=
 Ef F Q5 (λ_ _ h=>by obtain⟨_,_,_,rfl,_⟩:=h;rfl) λ_ _ h=>by
  obtain⟨cell,places,lines,rfl,h1,h12,TL,rfl⟩:=h;intro gy A outer s H E hr;have nd:Ndk.Nodup:=Q5.nd;have nc:(["_law_name"]:List Str).Nodup:=by decide +kernel
  have o8:fZ 1 _:=hr.mono (by omega)
  obtain⟨nn1,nn4,nnp⟩:=nh cell h1;unfold cf;have enn:((k_ cell places.length:Nat):Int)=1+cJ cell 32%(if(places.length:Int)<4 then(places.length:Int)else 4):=by
   unfold k_;have a1:0<=cJ cell 32%(if(places.length:Int)<4 then(places.length:Int)else 4):=bH _ (by split<;>omega)
   omega
  generalize k_ cell places.length=nn at *
  have nl:=fK (cJ cell 31) nn
  generalize hnm:namesOf (cJ cell 31) nn=names at *
  refine ay (c6 3 (d:=dP names) (VO.ve (i_ C2 hr (ao (bw C1 o8 (ao (ai 0 rfl) (ao ax aK)) ⟨cell,31,rfl,by decide,by decide,rfl⟩) (ao (VE.to (k:=.int nn) (eU ax (cQ (bw C1 o8 (ao (ai 0 rfl) (ao ax aK)) ⟨cell,32,rfl,by decide,by decide,rfl⟩) (h7 (JL rfl) (S8 4 (places.length:Int)) (ao ax (ao (VE.to (gS (ai 1 rfl) n.len) (by simp)) aK)) n.min rfl) (by split<;>omega))) (by rw[enn])) aK)) ⟨cJ cell 31,nn,rfl,by omega,by rw[hnm]⟩)) nd) ?_
  refine wm λB0 B σ H0 Hh D fr ok=>?_
  refine dS (O4 4 (ds:=names.map aH) (own:=["_law_name"]) (cap:=[]) (N:=["_law_name"]) (cl:=[]) (tgt:=.one 0) fr rfl rfl ⟨rfl,by decide +kernel,by decide +kernel,rfl,rfl,by simp⟩ (gu (ai 3 rfl)) (λf s3 H3=>bD (i:=0) nc rfl (aV rfl)) rfl (small (by rw[aj];omega)) (λd hd=>⟨_,rfl⟩) nd (λσ1 a ps H1 dX G=>?_) (λa=>rfl))
  refine dS (Wh (tgt:=.tup [5,6]) (ds:=yf (places.map .str)) G cZ rfl (jy (ds:=places.map .str) (ai 1 rfl) n.Fy)
   (fz rfl (bO (bD (i:=5) nd rfl (aV rfl)) (bO (bD (i:=6) nd rfl (aV rfl)) eu))) (λi=>(ez cell nn places i).map λr=>r.map aH) ?_ (λi d hd=>?_) (λσ2 Ha Hb G2=>?_))
  ·show(bu nn []).map _=_
   rw[List.map_replicate,aj,nl];rfl
  ·obtain⟨x,hx,rfl⟩:=fQ hd
   obtain⟨hip,rfl⟩:i<places.length/\x=.str (places.getD i ""):=by
    rw[aP]at hx;cases e:places[i]? with
    |none=>rw[e]at hx;cases hx
    |some p=>
     rw[e]at hx;cases hx;exact⟨(aL.mp e).1,by rw[aG,e];rfl⟩
   refine⟨[.val (.int cell),.val (dP places),.val (dP lines),.val (dP names),.ref a,.val (.int i),.val (.str (places.getD i "")),.un,.un,.un,.un],rfl,rfl,λD C0 σ' fq H' G q=>?_⟩
   have hR:=iC cell nn places i;have hj:=BR cell nn1 i;have pY:ps.length=nn:=G.len.trans (by simp[hR])
   obtain⟨p,hp⟩:∃p,ps[gq cell nn i]?=some p:=⟨ps[gq cell nn i]'(by omega),aw _⟩
   have uB:(ez cell nn places i)[gq cell nn i]?=some ((ez cell nn places i).getD (gq cell nn i) []):=by
    rw[aG,aw (by omega)];rfl
   have v7:=bF uB;have hlen:=(uh cell nn places i _ v7).1;have egs:((ez cell nn places (i+1)).map λr=>r.map aH)=((ez cell nn places i).map λr=>r.map aH).set (gq cell nn i) (o6 (((ez cell nn places i).getD (gq cell nn i) []).map aH) (zX cell i ((ez cell nn places i).getD (gq cell nn i) []).length) (.str (places.getD i ""))):=by
    show(List.set _ _ _).map _=_
    rw[l']
    congr 1
    unfold o6;rw[aX,aR,nI,k7]
   have hgj:((ez cell nn places i).map λr=>r.map aH)[gq cell nn i]?=some (((ez cell nn places i).getD (gq cell nn i) []).map aH):=by
    rw[aP,uB];rfl
   rw[egs]at q
   generalize(ez cell nn places i).getD (gq cell nn i) []=row at *
   refine dS (Ma G (c6 7 (ai 5 rfl) nd) rfl λσ1 Ha Hb G1=>?_)
   refine dS (Ma G1 (V' (o:=.nx [.val (.int cell),.val (dP places),.val (dP lines),.val (dP names),.ref a,.val (.int i),.val (.str (places.getD i "")),.val (.int (gq cell nn i)),.un,.un,.un]) (QN (ai 5 rfl) (gS (ai 3 rfl) n.len)) (λhk=>?_) (λhk=>?_)) rfl λσ2 Hc Hd G2=>?_)
   ·have hk:¬i<nn:=by
     have:=of_decide_eq_true hk;rw[aj,nl]at this;omega
    have e:((gq cell nn i:Nat):Int)=cJ cell (40+i)%(nn:Int):=by
     unfold gq;rw[if_neg hk];have a1:0<=cJ cell (40+i)%(nn:Int):=bH _ (by omega)
     omega
    rw[e];exact aS (c6 7 (cQ (bw C1 o8 (ao (ai 0 rfl) (ao (eU ax (ai 5 rfl)) aK)) ⟨cell,40+(i:Int),rfl,by omega,by omega,rfl⟩) (VE.to (gS (ai 3 rfl) n.len) (by rw[aj,nl])) (by omega)) nd)
   ·have hk:i<nn:=by
     have:=of_decide_eq_false hk;rw[aj,nl]at this;omega
    have e:gq cell nn i=i:=by unfold gq;rw[if_pos hk]
    rw[e];exact bp
   have em:((zX cell i row.length:Nat):Int)=cJ cell (60+i)%((row.length:Int)+1):=by
    unfold zX;have a1:0<=cJ cell (60+i)%((row.length:Int)+1):=bH _ (by omega)
    omega
   refine d_ (Mw G2 4 (j:=gq cell nn i) (m:=zX cell i row.length) (p:=p) (ds:=row.map .str) (d:=.str (places.getD i "")) rfl (ai 7 rfl) hp hgj (VE.to (cQ (bw C1 o8 (ao (ai 0 rfl) (ao (eU ax (ai 5 rfl)) aK)) ⟨cell,60+(i:Int),rfl,by omega,by omega,rfl⟩) (eU (gS (ds:=row.map .str) (dJ (ai 4 rfl) (ai 7 rfl) (a9 (by rw[aP,hgj];rfl))) n.len) ax) (by omega)) (by rw[em,aj])) rfl (by rw[aj];exact MY _ _ _) (ai 6 rfl) (iN (by rw[aj];omega)) (λσ6 Hk Hl G6=>?_))
   exact q _ _ _ (G6.forget ⟨.inr rfl,.inr rfl,.inr rfl,.inr rfl,.inr rfl,.inl rfl,.inl rfl,.inl rfl,.inr rfl,.inr rfl,.inr rfl,trivial⟩ rfl)
  ·refine S9 G2 (ig:=4) (o:=.ro ((cp nn).map (zY cell names lines (ez cell nn places places.length)) |>.map gk)) rfl ?_ (λHx _=>uA.ret rfl rfl ok)
   rw[cC,aj];have tl:=iC cell nn places places.length;have tr:=uh cell nn places places.length
   generalize ez cell nn places places.length=taken at *
   refine ay (iE 8 (dR aK) nd) ?_
   refine ay (jz (tgt:=.tup [5,9]) (o:=.nx [.val (.int cell),.val (dP places),.val (dP lines),.val (dP names),.val (.list ((taken.map λr=>r.map aH).map .list)),.un,.un,.un,.own (((cp nn).map (zY cell names lines taken)).map gk),.un,.un]) cZ rfl (jy (ds:=names.map .str) (ai 3 rfl) n.Fy)
    (fz rfl (bO (bD (i:=5) nd rfl (aV rfl)) (bO (bD (i:=9) nd rfl (aV rfl)) eu))) (λi=>[.val (.int cell),.val (dP places),.val (dP lines),.val (dP names),.val (.list ((taken.map λr=>r.map aH).map .list)),.un,.un,.un,.own (((cp i).map (zY cell names lines taken)).map gk),.un,.un]) nn rfl (by rw[cC,aj,nl];exact aA _) (λi d hi hd=>?_) (.inl ⟨by rw[cC,aj,nl],rfl⟩)) (aS (wc 8 rfl))
   obtain⟨x,hx,rfl⟩:=fQ hd;obtain rfl:x=.str (names.getD i ""):=by
    rw[aP,aw (by omega)]at hx
    cases hx;rw[aG,aw (by omega)];rfl
   have uB:taken[i]?=some (taken.getD i []):=by
    rw[aG,aw (by omega)];rfl
   have Q6:=(tr _ (bF uB)).1;obtain⟨ht,_⟩:=Dd cell lines i;have lo:=C9 cell (90+i);have Y5:=PQ cell (90+i);refine⟨_,rfl,?_⟩
   refine ay (c6 10 (d:=.str (GP cell lines i)) (dJ (ds:=(lines ++ [("":Str)]).map .str) (VE.to (VO.ve (lF (d1:=lines.map .str) (d2:=[.str ""]) (ai 2 rfl) (VO.ve (dR (ao aF aK))) (small (by simp only[aj,bh,cv];omega)))) (by rw[aX];rfl)) (VE.to (cQ (bw C1 o8 (ao (ai 0 rfl) (ao (eU ax (ai 5 rfl)) aK)) ⟨cell,80+(i:Int),rfl,by omega,by omega,rfl⟩) (eU (gS (ai 2 rfl) n.len) ax) (by omega)) (by rw[aj])) ht) nd) ?_
   refine fF (aS (g8 8 rfl (d:=gk (zY cell names lines taken i)) (fe (ao (ai 9 rfl) (ao (ai 10 rfl) (ao ?_ (ao ?_ aK))))) (iN (by simp only[aj,dY];omega)))) ⟨.inr rfl,.inr rfl,.inr rfl,.inr rfl,.inr rfl,.inl rfl,.inl rfl,.inl rfl,.inr ?_,.inl rfl,.inl rfl,trivial⟩
   ·exact bw C3 o8 (ao (bw C1 o8 (ao (ai 0 rfl) (ao (eU ax (ai 5 rfl)) aK)) ⟨cell,90+(i:Int),rfl,by omega,by omega,rfl⟩) (ao (gS (ds:=(taken.getD i []).map .str) (dJ (ai 4 rfl) (ai 5 rfl) (a9 (by rw[aP,aP,uB];rfl))) n.len) aK)) ⟨cJ cell (90+i),(taken.getD i []).length,by rw[aj],by omega,by omega,by omega,rfl⟩
   ·exact k9 mN yR (ao (dJ (ds:=(taken.map λr=>r.map aH).map .list) (d:=.list ((taken.getD i []).map .str)) (ai 4 rfl) (ai 5 rfl) (a9 (by rw[aP,aP,uB];rfl))) aK) n.tup rfl
   ·rw[sJ,aX,aX];rfl
end
def h8(ns:List Int):Int:=ns.getD 0 0
def b8(ns:List Int):Int:=ns.getD 1 0
def f7(ns:List Int):Int:=ns.getD 2 0
def kC(p:Str×Option Int):aq:=.tuple [.str p.1,o7 p.2]
def vg(m:Int):Option Int:=if m%3=2 then some (1+m/3%30)else none
def kindAt(a:Int)(names:List Str)(k:Nat):Str×Option Int:=(names.getD k "",vg (cJ a (10+k)))
def jG(a:Int):Nat:=(1+cJ a 1%4).toNat
def cO(a:Int):List (Str×Option Int):=(cp (jG a)).map (kindAt a (namesOf a (jG a)))
def g_(b:Int):Nat:=(1+cJ b 2%3).toNat
def placesOf(b:Int):List Str:=namesOf (cJ b 4) (g_ b+(cJ b 5%4).toNat)
def nK(b:Int)(n:Nat):Nat:=(cJ b 6%n).toNat
def orderOf(b:Int):List Str:=(placesOf b).drop (nK b (placesOf b).length)++(placesOf b).take (nK b (placesOf b).length)
def lI(b:Int):List Str:=(placesOf b).take (g_ b)
def linesOf(b:Int):List Str:=(placesOf b).drop (g_ b)
def jH(iS:List Dk)(name:Str):List Int:=iS.filterMap λd=>if decide (d.to=name)=true then some (iX d.rule d.places.length)else none
def maxOf(l:List Int):Int:=l.foldl (λm z=>if m<z then z else m) 1
def roomAt(b:Int)(iS:List Dk)(lines:List Str)(k:Nat):Str×Int:=(lines.getD k "",maxOf (jH iS (lines.getD k ""))+cJ b (20+k)%3)
def rR(p:Str×Int):aq:=.tuple [.str p.1,.int p.2]
def uN(p:Str×Str×Int):aq:=.tuple [.str p.1,.str p.2.1,.int p.2.2]
def tF(p:Str×Int×Int):aq:=.tuple [.str p.1,.int p.2.1,.int p.2.2]
def vh(m:Int)(dn:Str)(p:(Str×Option Int)×Nat):Option (Str×Str×Int):=if decide (0<m/((p.2:Int)+7)%3)=true then some (dn,p.1.1,1+m/((p.2:Int)*p.2+2)%6)else none
def gw(m:Int)(dn:Str)(kinds:List (Str×Option Int))(j:Nat):List (Str×Str×Int):=(kinds.zipIdx.take j).filterMap (vh m dn)
def kP(m:Int)(dn:Str):List (Str×Int×Int):=if m/5%4=0 then [(dn,m/20%9,9+m/180%20),(dn,25+m/3600%20,50+m/72000%40)]else []
def hC(c:Int)(iS:List Dk)(kinds:List (Str×Option Int))(i:Nat):List (Str×Str×Int):=(iS.zipIdx.take i).flatMap λp=>gw (cJ c (110+p.2)) p.1.name kinds kinds.length
def jb(c:Int)(iS:List Dk)(i:Nat):List (Str×Int×Int):=(iS.zipIdx.take i).flatMap λp=>kP (cJ c (110+p.2)) p.1.name
structure Pl where
 kinds:List (Str×Option Int)
 gates:List Str
 lines:List (Str×Int)
 desks:List Dk
 times:List (Str×Str×Int)
 hours:List (Str×Int×Int)
def hU(ns:List Int):Pl:=
 let kds:=cO (h8 ns)
 let lns:=linesOf (b8 ns)
 let iS:=cf (f7 ns) (orderOf (b8 ns)) lns
 ⟨kds,lI (b8 ns),(cp lns.length).map (roomAt (b8 ns) iS lns),iS,hC (f7 ns) iS kds iS.length,jb (f7 ns) iS iS.length⟩
def nY(p:Pl):List (Str×aq):=[("kinds",.list (p.kinds.map kC)),("gates",dP p.gates),("lines",.list (p.lines.map rR)),("desks",.list (p.desks.map gk)),("times",.list (p.times.map uN)),("hours",.list (p.hours.map tF)),("paces",.list [])]
def dI(p:Pl):aq:=va (nY p)
theorem rg(l:List Int):maxOf l∈(1::l)/\∀z∈(1::l),z<=maxOf l:=by
 have go:∀(l:List Int)(m0:Int),(l.foldl (λm z=>if m<z then z else m) m0)∈m0::l/\∀z∈m0::l,z<=l.foldl (λm z=>if m<z then z else m) m0:=by
  intro l
  induction l with
  |nil=>intro m0;exact⟨aO,λz hz=>by simp at hz;rw[hz];exact Int.le_refl _⟩
  |cons x l ih=>
   intro m0;obtain⟨h1,h2⟩:=ih (if m0<x then x else m0)
   rw[oj];refine⟨?_,λz hz=>?_⟩
   ·rcases aJ.mp h1 with h|h
    ·rw[h]
     split<;>simp
    ·exact aU _ (aU _ h)
   ·have hm:=h2 _ aO
    rcases aJ.mp hz with rfl|hz
    ·refine Int.le_trans ?_ hm
     split<;>omega
    ·rcases aJ.mp hz with rfl|hz
     ·refine Int.le_trans ?_ hm
      split<;>omega
     ·exact h2 z (aU _ hz)
 exact go l 1
theorem uO{m:Int}{dn:Str}{j:Nat}{p:Str×Option Int}(h:kinds[j]?=some p):gw m dn kinds (j+1)=gw m dn kinds j++(vh m dn (p,j)).toList:=by
 unfold gw;rw[dv,i6,h];simp only[nQ,vE,tX,sG];cases e:vh m dn (p,j) with
 |none=>rw[ei e];rfl
 |some r=>rw[c7 e];rfl
theorem tH(m:Int)(dn:Str)(kinds:List (Str×Option Int))(j:Nat):(gw m dn kinds j).length<=j:=by
 unfold gw;exact b9 (qG _ _) (by rw[bW];omega)
theorem rh{c:Int}{d:Dk}(h:iS[i]?=some d):hC c iS kinds (i+1)=hC c iS kinds i++gw (cJ c (110+i)) d.name kinds kinds.length:=by
 unfold hC;rw[dv,i6,h];simp
theorem wu{c:Int}{d:Dk}(h:iS[i]?=some d):jb c iS (i+1)=jb c iS i++kP (cJ c (110+i)) d.name:=by
 unfold jb;rw[dv,i6,h];simp
theorem EI(m:Int)(dn:Str):(kP m dn).length<=2:=by unfold kP;split<;>simp
theorem rj(c:Int)(iS:List Dk)(kinds:List (Str×Option Int))(hk:kinds.length<=4):∀i,i<=iS.length->(hC c iS kinds i).length<=4*i
 |0,_=>by simp[hC]
 |i+1,h=>by
  have ih:=rj c iS kinds hk i (by omega)
  have:=tH (cJ c (110+i)) iS[i].name kinds kinds.length;rw[rh (aw (by omega)),a8]
  omega
theorem rm(c:Int)(iS:List Dk):∀i,i<=iS.length->(jb c iS i).length<=2*i
 |0,_=>by simp[jb]
 |i+1,h=>by
  have ih:=rm c iS i (by omega)
  have:=EI (cJ c (110+i)) iS[i].name;rw[wu (aw (by omega)),a8]
  omega
theorem ni(a:Int):1<=jG a/\jG a<=4:=by
 unfold jG;have a1:0<=cJ a 1%4:=bH _ (by omega)
 have a2:cJ a 1%4<4:=bL _ (by omega)
 omega
theorem km(b:Int):1<=g_ b/\g_ b<=3:=by
 unfold g_;have a1:0<=cJ b 2%3:=bH _ (by omega)
 have a2:cJ b 2%3<3:=bL _ (by omega)
 omega
theorem pU(b:Int):(placesOf b).length=g_ b+(cJ b 5%4).toNat:=fK _ _
theorem lJ(b:Int):g_ b<=(placesOf b).length/\(placesOf b).length<=6:=by
 have:=km b;have a1:0<=cJ b 5%4:=bH _ (by omega)
 have a2:cJ b 5%4<4:=bL _ (by omega)
 rw[pU];omega
theorem ui(b:Int){n:Nat}(h:1<=n):nK b n<n:=by
 unfold nK;have a1:0<=cJ b 6%(n:Int):=bH _ (by omega)
 have a2:cJ b 6%(n:Int)<n:=bL _ (by omega)
 omega
theorem rq(cell:Int)(places lines:List Str):(cf cell places lines).length=k_ cell places.length:=by simp[cf]
theorem PY(m:Int):qQ [aq.none,.none,.int (1+m/3%30)] (m%3)=some (o7 (vg m)):=by
 unfold vg;have a1:0<=m%3:=bH _ (by omega)
 have a2:m%3<3:=bL _ (by omega)
 rcases(by omega:m%3=0\/m%3=1\/m%3=2)with e|e|e<;>rw[e]<;>rfl
def xO(r:aq)(n:Nat):Int:=match r with
 | .tuple [.str w,.int m]=>if w="many" then m else 1
 | .tuple [.str w,.int m,_]=>if w="gather" then m else 1
 | .tuple [.str w]=>if w="meet" then n else 1
 |_=>1
theorem De(r:Rl)(n:Nat):xO (Kn r) n=iX r n:=by
 cases r with
 |rank b=>cases b<;>rfl
 |_=>rfl
def Jf(name:Str):aq->Option aq
 | .tuple [_,.str to,r,.tuple ps]=>if decide (to=name)=true then some (.int (xO r ps.length))else none
 |_=>none
theorem vi(name:Str)(d:Dk):Jf name (gk d)=(if decide (d.to=name)=true then some (.int (iX d.rule d.places.length))else none):=by
 show(if decide (d.to=name)=true then some (dO (xO (Kn d.rule) (d.places.map aH).length))else none)=_
 rw[De,aj]
theorem Ko(name:Str)(iS:List Dk):(iS.map gk).filterMap (Jf name)=(jH iS name).map .int:=by
 unfold jH;rw[cW,List.map_filterMap]
 congr 1
 funext d
 show Jf name (gk d)=_;rw[vi]
 split<;>rfl
section
variable{P:bM}{w:cy}{K:av}{mg:Str->Option aD}{base:dq}{f:aN}{k:Nat}
abbrev Npl:List Str:=["_law_script","_law_a","_law_b","_law_c","_law_kinds","_law_k","_law_name","_law_m","_law_many","_law_places","_law_gates","_law_lines","_law_order","_law_desks_here","_law_rooms","_law_loads","_law_times","_law_hours","_law_desk","_law_j","_law_kind"]
theorem Q7:cG Npl ["_law_script"] (bJ (top 54)):=⟨rfl,rfl,rfl,by decide +kernel,rfl,by decide +kernel,by decide +kernel⟩
def Rpl(ds:List aq)(d:aq):Prop:=∃ns:List Int,ds=[jh ns]/\d=dI (hU ns)
end
theorem uj{α β:Type}(g:α->β)(l:List α)(lo hi:Option Int):L2.cutD (l.map g) lo hi=(L2.cutD l lo hi).map g:=by
 unfold L2.cutD;rw[aj,nI,k7]
theorem jI{α:Type}(l:List α)(n:Nat):L2.cutD l (some (n:Int)) none=l.drop n:=by
 unfold L2.cutD;rw[HT.nW,HT.D7];by_cases h:n<=l.length
 ·rw[oy h,dF (by rw[cP];omega)]
 ·rw[Nat.min_eq_right (by omega),sr (aA _),sr (by omega)];simp
section
variable{P:bM}{w:cy}{K:av}{mg:Str->Option aD}{base:dq}{f:aN}{k:Nat}
theorem zbl(F:kM K "_law_plant" "_law_plant" (top 54) f fd)(n:Ng mg)(C0:bG P w K mg base 1 "_law_cell_at" ["_law_script","_law_k"] (gX K Je))(C1:bG P w K mg base 1 "_law_mix" ["_law_cell","_law_k"] (gX K GN))(C2:bG P w K mg base 2 "_law_names" ["_law_cell","_law_many"] (AO K Y3))(C3:bG P w K mg base 1 "_law_greatest" ["_law_rule_here","_law_many"] (gX K Y4))(C4:bG P w K mg base 3 "_law_desks" ["_law_cell","_law_places","_law_lines"] (AO K Rdk)):eQ P w K mg base jE 4 f fd ["_law_script"] (gX K Rpl):=
 jA F Q7 (λ_ _ h=>by obtain⟨_,rfl,_⟩:=h;rfl) λ_ _ h=>by
  obtain⟨ns,rfl,rfl⟩:=h;intro gy A outer s H E hr;have nd:Npl.Nodup:=Q7.nd;have o8:fZ 1 _:=hr.mono (by omega)
  have UH:fZ 2 _:=hr.mono (by omega)
  have e0:hU ns=⟨(cO (h8 ns)),(placesOf (b8 ns)).take (g_ (b8 ns)),((cp (linesOf (b8 ns)).length).map (roomAt (b8 ns) (cf (f7 ns) (orderOf (b8 ns)) (linesOf (b8 ns))) (linesOf (b8 ns)))),(cf (f7 ns) (orderOf (b8 ns)) (linesOf (b8 ns))),hC (f7 ns) (cf (f7 ns) (orderOf (b8 ns)) (linesOf (b8 ns))) (cO (h8 ns)) (cf (f7 ns) (orderOf (b8 ns)) (linesOf (b8 ns))).length,jb (f7 ns) (cf (f7 ns) (orderOf (b8 ns)) (linesOf (b8 ns))) (cf (f7 ns) (orderOf (b8 ns)) (linesOf (b8 ns))).length⟩:=rfl;rw[e0];obtain⟨k1,k4⟩:=ni (h8 ns);have knl:(namesOf (h8 ns) (jG (h8 ns))).length=jG (h8 ns):=fK _ _;have hkd:(cp (jG (h8 ns))).map (kindAt (h8 ns) (namesOf (h8 ns) (jG (h8 ns))))=(cO (h8 ns)):=rfl;have hkl:(cO (h8 ns)).length=jG (h8 ns):=by simp[cO]
  obtain⟨g1,g3⟩:=km (b8 ns);obtain⟨p1,p6⟩:=lJ (b8 ns);have pl:=pU (b8 ns);have TL:(placesOf (b8 ns)).drop (g_ (b8 ns))=(linesOf (b8 ns)):=rfl;have hll:(linesOf (b8 ns)).length<=6:=by rw[<-TL,cP];omega
  have hor:(placesOf (b8 ns)).drop (nK (b8 ns) (placesOf (b8 ns)).length)++(placesOf (b8 ns)).take (nK (b8 ns) (placesOf (b8 ns)).length)=(orderOf (b8 ns)):=rfl;have N8:(orderOf (b8 ns)).length=(placesOf (b8 ns)).length:=by rw[<-hor,a8,cP,bW];have:=ui (b8 ns) (n:=(placesOf (b8 ns)).length) (by omega);omega
  have Mm:(cf (f7 ns) (orderOf (b8 ns)) (linesOf (b8 ns))).length<=4:=by rw[rq];exact(nh (f7 ns) (by omega)).2.1
  have ek:((jG (h8 ns):Nat):Int)=1+cJ (h8 ns) 1%4:=by
   unfold jG;have a1:0<=cJ (h8 ns) 1%4:=bH _ (by omega)
   omega
  have eg:(((g_ (b8 ns)):Nat):Int)=1+cJ (b8 ns) 2%3:=by
   unfold g_;have a1:0<=cJ (b8 ns) 2%3:=bH _ (by omega)
   omega
  have ep:((((g_ (b8 ns))+(cJ (b8 ns) 5%4).toNat:Nat)):Int)=((g_ (b8 ns)):Int)+cJ (b8 ns) 5%4:=by
   have a1:0<=cJ (b8 ns) 5%4:=bH _ (by omega)
   omega
  have et:((nK (b8 ns) (placesOf (b8 ns)).length:Nat):Int)=cJ (b8 ns) 6%((placesOf (b8 ns)).length:Int):=by
   unfold nK;have a1:0<=cJ (b8 ns) 6%((placesOf (b8 ns)).length:Int):=bH _ (by omega)
   omega
  refine ay (Pj 1 2 3 (d1:=.int (h8 ns)) (d2:=.int (b8 ns)) (d3:=.int (f7 ns)) (bw C0 o8 (ao (ai 0 rfl) (ao ax aK)) ⟨ns,0,rfl,rfl⟩) (bw C0 o8 (ao (ai 0 rfl) (ao ax aK)) ⟨ns,1,rfl,rfl⟩) (bw C0 o8 (ao (ai 0 rfl) (ao ax aK)) ⟨ns,2,rfl,rfl⟩) rfl nd (by decide) (by decide) (by decide)) ?_
  refine ay (iE 4 (dR aK) nd) ?_
  refine ay (jz (tgt:=.tup [5,6]) (o:=.nx [.val (jh ns),.val (.int (h8 ns)),.val (.int (b8 ns)),.val (.int (f7 ns)),.own (((cp (jG (h8 ns))).map (kindAt (h8 ns) (namesOf (h8 ns) (jG (h8 ns))))).map kC),.un,.un,.un,.un,.un,.un,.un,.un,.un,.un,.un,.un,.un,.un,.un,.un]) cZ rfl (jy (ds:=(namesOf (h8 ns) (jG (h8 ns))).map .str) (VO.ve (i_ C2 UH (ao (ai 1 rfl) (ao (VE.to (k:=.int (jG (h8 ns):Nat)) (eU ax (cQ (bw C1 o8 (ao (ai 1 rfl) (ao (ax) aK)) ⟨h8 ns,1,rfl,by first|decide|omega,by first|decide|omega,rfl⟩) ax (by decide))) (by rw[ek])) aK)) ⟨h8 ns,jG (h8 ns),rfl,by omega,rfl⟩)) n.Fy)
   (fz rfl (bO (bD (i:=5) nd rfl (by first|exact aV rfl|exact cX rfl)) (bO (bD (i:=6) nd rfl (by first|exact aV rfl|exact cX rfl)) (eu)))) (λi=>[.val (jh ns),.val (.int (h8 ns)),.val (.int (b8 ns)),.val (.int (f7 ns)),.own (((cp (i)).map (kindAt (h8 ns) (namesOf (h8 ns) (jG (h8 ns))))).map kC),.un,.un,.un,.un,.un,.un,.un,.un,.un,.un,.un,.un,.un,.un,.un,.un]) (jG (h8 ns)) rfl (by rw[cC,aj,knl];exact aA _) (λi d hi hd=>?_) (.inl ⟨by rw[cC,aj,knl],rfl⟩)) ?_
  ·obtain⟨x,hx,rfl⟩:=fQ hd
   obtain rfl:x=.str ((namesOf (h8 ns) (jG (h8 ns))).getD i ""):=by
    rw[aP,aw (by omega)]at hx
    cases hx;rw[aG,aw (by omega)];rfl
   refine⟨_,rfl,?_⟩
   refine ay (c6 7 (d:=.int (cJ (h8 ns) (10+i))) (bw C1 o8 (ao (ai 1 rfl) (ao (eU ax (ai 5 rfl)) aK)) ⟨h8 ns,10+(i:Int),rfl,by first|decide|omega,by first|decide|omega,rfl⟩) nd) ?_
   refine fF (aS (g8 4 rfl (d:=kC (kindAt (h8 ns) (namesOf (h8 ns) (jG (h8 ns))) i)) (fe (ao (ai 6 rfl) (ao (dJ (VO.ve (dR (ao eB (ao eB (ao (eU ax (cQ (fV (ai 7 rfl) ax ⟨by decide,by decide⟩) ax (by decide))) aK))))) (cQ (ai 7 rfl) ax (by decide)) (PY _)) aK))) (iN (by simp only[aj,dY];omega)))) ⟨.inr rfl,.inr rfl,.inr rfl,.inr rfl,.inr ?_,.inl rfl,.inl rfl,.inl rfl,.inl rfl,.inl rfl,.inl rfl,.inl rfl,.inl rfl,.inl rfl,.inl rfl,.inl rfl,.inl rfl,.inl rfl,.inl rfl,.inl rfl,.inl rfl,trivial⟩
   rw[sJ,aX,aX];rfl
  rw[hkd];refine eK 4 rfl ?_
  refine ay (c6 8 (d:=.int ((g_ (b8 ns)):Nat)) (VE.to (eU ax (cQ (bw C1 o8 (ao (ai 2 rfl) (ao (ax) aK)) ⟨b8 ns,2,rfl,by first|decide|omega,by first|decide|omega,rfl⟩) ax (by decide))) (by rw[eg])) nd) ?_
  refine ay (c6 9 (d:=dP (placesOf (b8 ns))) (VO.ve (i_ C2 UH (ao (bw C1 o8 (ao (ai 2 rfl) (ao (ax) aK)) ⟨b8 ns,4,rfl,by first|decide|omega,by first|decide|omega,rfl⟩) (ao (VE.to (k:=.int ((g_ (b8 ns))+(cJ (b8 ns) 5%4).toNat:Nat)) (eU (ai 8 rfl) (cQ (bw C1 o8 (ao (ai 2 rfl) (ao (ax) aK)) ⟨b8 ns,5,rfl,by first|decide|omega,by first|decide|omega,rfl⟩) ax (by decide))) (by rw[ep])) aK)) ⟨cJ (b8 ns) 4,(g_ (b8 ns))+(cJ (b8 ns) 5%4).toNat,rfl,by omega,rfl⟩)) nd) ?_
  refine ay (L_ 10 11 (d1:=dP ((placesOf (b8 ns)).take (g_ (b8 ns)))) (d2:=dP (linesOf (b8 ns))) (VE.to (VO.ve (gR (ds:=(placesOf (b8 ns)).map .str) (ai 9 rfl) .no (.yes (ai 8 rfl)))) (by rw[uj,m9];rfl)) (VE.to (VO.ve (gR (ds:=(placesOf (b8 ns)).map .str) (ai 9 rfl) (.yes (ai 8 rfl)) .no)) (by rw[uj,jI];rfl)) rfl nd (by decide)) ?_
  refine ay (c6 12 (d:=dP (orderOf (b8 ns))) (VE.to (VO.ve (lF (VO.ve (VO.to (k:=((placesOf (b8 ns)).drop (nK (b8 ns) (placesOf (b8 ns)).length)).map aH) (gR (ds:=(placesOf (b8 ns)).map .str) (ai 9 rfl) (.yes (VE.to (k:=.int (nK (b8 ns) (placesOf (b8 ns)).length:Nat)) (cQ (bw C1 o8 (ao (ai 2 rfl) (ao (ax) aK)) ⟨b8 ns,6,rfl,by first|decide|omega,by first|decide|omega,rfl⟩) (gS (ds:=(placesOf (b8 ns)).map .str) (ai 9 rfl) n.len) (by rw[aj];omega)) (by rw[et,aj]))) .no) (by rw[uj,jI]))) (VO.ve (VO.to (k:=((placesOf (b8 ns)).take (nK (b8 ns) (placesOf (b8 ns)).length)).map aH) (gR (ds:=(placesOf (b8 ns)).map .str) (ai 9 rfl) .no (.yes (VE.to (k:=.int (nK (b8 ns) (placesOf (b8 ns)).length:Nat)) (cQ (bw C1 o8 (ao (ai 2 rfl) (ao (ax) aK)) ⟨b8 ns,6,rfl,by first|decide|omega,by first|decide|omega,rfl⟩) (gS (ds:=(placesOf (b8 ns)).map .str) (ai 9 rfl) n.len) (by rw[aj];omega)) (by rw[et,aj])))) (by rw[uj,m9]))) (small (by simp only[aj,cP,bW];omega)))) (by rw[<-aX,hor];rfl)) nd) ?_
  refine ay (c6 13 (d:=.list ((cf (f7 ns) (orderOf (b8 ns)) (linesOf (b8 ns))).map gk)) (VO.ve (i_ C4 hr (ao (ai 3 rfl) (ao (ai 12 rfl) (ao (ai 11 rfl) aK))) ⟨f7 ns,(orderOf (b8 ns)),(linesOf (b8 ns)),rfl,by omega,by omega,by omega,rfl⟩)) nd) ?_
  refine ay (iE 14 (dR aK) nd) ?_
  have Y6:∀d∈(cf (f7 ns) (orderOf (b8 ns)) (linesOf (b8 ns))),mj d.to:=λd hd=>by
   obtain⟨j,_,rfl⟩:=aI.mp hd;have hm:=(Dd (f7 ns) (linesOf (b8 ns)) j).2;rcases bX.mp hm with hm|hm
   ·exact(kj (eM (show GP (f7 ns) (linesOf (b8 ns)) j∈(placesOf (b8 ns)).drop (g_ (b8 ns))from hm))).ok.2
   ·show mj (GP (f7 ns) (linesOf (b8 ns)) j)
    rw[a_.mp hm];show cn (.str ("":Str))=true;decide +kernel
  refine ay (jz (tgt:=.tup [5,6]) (o:=.nx [.val (jh ns),.val (.int (h8 ns)),.val (.int (b8 ns)),.val (.int (f7 ns)),.val (.list ((cO (h8 ns)).map kC)),.un,.un,.un,.val (.int (g_ (b8 ns))),.val (dP (placesOf (b8 ns))),.val (dP ((placesOf (b8 ns)).take (g_ (b8 ns)))),.val (dP (linesOf (b8 ns))),.val (dP (orderOf (b8 ns))),.val (.list ((cf (f7 ns) (orderOf (b8 ns)) (linesOf (b8 ns))).map gk)),.own (((cp ((linesOf (b8 ns)).length)).map (roomAt (b8 ns) (cf (f7 ns) (orderOf (b8 ns)) (linesOf (b8 ns))) (linesOf (b8 ns)))).map rR),.un,.un,.un,.un,.un,.un]) cZ rfl (jy (ds:=(linesOf (b8 ns)).map .str) (ai 11 rfl) n.Fy)
   (fz rfl (bO (bD (i:=5) nd rfl (by first|exact aV rfl|exact cX rfl)) (bO (bD (i:=6) nd rfl (by first|exact aV rfl|exact cX rfl)) (eu)))) (λi=>[.val (jh ns),.val (.int (h8 ns)),.val (.int (b8 ns)),.val (.int (f7 ns)),.val (.list ((cO (h8 ns)).map kC)),.un,.un,.un,.val (.int (g_ (b8 ns))),.val (dP (placesOf (b8 ns))),.val (dP ((placesOf (b8 ns)).take (g_ (b8 ns)))),.val (dP (linesOf (b8 ns))),.val (dP (orderOf (b8 ns))),.val (.list ((cf (f7 ns) (orderOf (b8 ns)) (linesOf (b8 ns))).map gk)),.own (((cp (i)).map (roomAt (b8 ns) (cf (f7 ns) (orderOf (b8 ns)) (linesOf (b8 ns))) (linesOf (b8 ns)))).map rR),.un,.un,.un,.un,.un,.un]) (linesOf (b8 ns)).length rfl (by rw[cC,aj];exact aA _) (λi d hi hd=>?_) (.inl ⟨by rw[cC,aj],rfl⟩)) ?_
  ·obtain⟨x,hx,rfl⟩:=fQ hd
   obtain⟨rfl,v7⟩:x=.str ((linesOf (b8 ns)).getD i "")/\(linesOf (b8 ns)).getD i ""∈(linesOf (b8 ns)):=by
    rw[aP,aw (by omega)]at hx
    cases hx;rw[aG,aw (by omega)]
    exact⟨rfl,cK _⟩
   have okn:mj ((linesOf (b8 ns)).getD i ""):=(kj (eM (show(linesOf (b8 ns)).getD i ""∈(placesOf (b8 ns)).drop (g_ (b8 ns))from v7))).ok.2
   have nc:(["_law_desk","_law_name"]:List Str).Nodup:=by decide +kernel
   have hlo:(jH (cf (f7 ns) (orderOf (b8 ns)) (linesOf (b8 ns))) ((linesOf (b8 ns)).getD i "")).length<=4:=b9 (qG _ _) Mm;refine⟨_,rfl,?_⟩
   refine ay (CT 15 (own:=["_law_desk"]) (cap:=[6]) (N:=["_law_desk","_law_name"]) (tgt:=.one 0) (F:=Jf ((linesOf (b8 ns)).getD i "")) (ds:=(cf (f7 ns) (orderOf (b8 ns)) (linesOf (b8 ns))).map gk) rfl ⟨rfl,by decide +kernel,by decide +kernel,rfl,rfl,?_⟩ (gu (ai 13 rfl)) (λf s3 H3=>bD (i:=0) nc rfl (aV rfl)) rfl (small (by rw[aj];omega)) (λd hd=>?_) nd) ?_
   ·intro j hj
    rcases aJ.mp hj with rfl|hj
    ·exact⟨(by show(6:Nat)<21;decide),aV rfl,rfl⟩
    ·cases hj
   ·obtain⟨dk,Jg,rfl⟩:=aI.mp hd
    refine⟨_,rfl,λf s3 H3=>?_,λr jC f s3 H3=>?_⟩
    ·refine wa (VT.to (b_ (k:=1) o8 (bq (Y6 dk Jg)) (bq okn) (bZ (ai 0 rfl) ax rfl) (ai 1 rfl)) ?_)
     rw[vi,bS];by_cases h:dk.to=(linesOf (b8 ns)).getD i ""
     ·rw[decide_eq_true h,if_pos rfl];rfl
     ·rw[decide_eq_false h,if_neg bP];rfl
    ·rw[vi]at jC
     split at jC
     ·cases jC
      exact bw C3 o8 (ao (bZ (ai 0 rfl) ax rfl) (ao (lE (ds:=dk.places.map .str) (bZ (ai 0 rfl) ax rfl) n.len) aK)) ⟨dk.rule,dk.places.length,by rw[aj],rfl⟩
     ·cases jC
   refine eK 15 rfl ?_
   rw[Ko];obtain⟨mx1,mx2⟩:=rg (jH (cf (f7 ns) (orderOf (b8 ns)) (linesOf (b8 ns))) ((linesOf (b8 ns)).getD i ""));refine fF (aS (g8 14 rfl (d:=rR (roomAt (b8 ns) (cf (f7 ns) (orderOf (b8 ns)) (linesOf (b8 ns))) (linesOf (b8 ns)) i)) (fe (ao (ai 6 rfl) (ao (eU (h7 (J4 rfl) (Wc (ns:=1::jH (cf (f7 ns) (orderOf (b8 ns)) (linesOf (b8 ns))) ((linesOf (b8 ns)).getD i "")) mx1 mx2) (ao (VO.ve (lF (d1:=[.int 1]) (d2:=(jH (cf (f7 ns) (orderOf (b8 ns)) (linesOf (b8 ns))) ((linesOf (b8 ns)).getD i "")).map .int) (VO.ve (dR (ds:=[.int 1]) (ao ax aK))) (ai 15 rfl) (small (by simp only[aj,bh,cv];omega)))) aK) n.max rfl) (cQ (bw C1 o8 (ao (ai 2 rfl) (ao (eU ax (ai 5 rfl)) aK)) ⟨b8 ns,20+(i:Int),rfl,by first|decide|omega,by first|decide|omega,rfl⟩) ax (by decide))) aK))) (iN (by simp only[aj,dY];omega)))) ⟨.inr rfl,.inr rfl,.inr rfl,.inr rfl,.inr rfl,.inl rfl,.inl rfl,.inl rfl,.inr rfl,.inr rfl,.inr rfl,.inr rfl,.inr rfl,.inr rfl,.inr ?_,.inl rfl,.inl rfl,.inl rfl,.inl rfl,.inl rfl,.inl rfl,trivial⟩
   rw[sJ,aX,aX];rfl
  refine eK 14 rfl ?_
  refine ay (Pg 16 17 (dR aK) (dR aK) rfl nd (by decide)) ?_
  refine ay (jz (tgt:=.tup [5,18]) (o:=.nx [.val (jh ns),.val (.int (h8 ns)),.val (.int (b8 ns)),.val (.int (f7 ns)),.val (.list ((cO (h8 ns)).map kC)),.un,.un,.un,.val (.int (g_ (b8 ns))),.val (dP (placesOf (b8 ns))),.val (dP ((placesOf (b8 ns)).take (g_ (b8 ns)))),.val (dP (linesOf (b8 ns))),.val (dP (orderOf (b8 ns))),.val (.list ((cf (f7 ns) (orderOf (b8 ns)) (linesOf (b8 ns))).map gk)),.val (.list (((cp (linesOf (b8 ns)).length).map (roomAt (b8 ns) (cf (f7 ns) (orderOf (b8 ns)) (linesOf (b8 ns))) (linesOf (b8 ns)))).map rR)),.un,.own ((hC (f7 ns) (cf (f7 ns) (orderOf (b8 ns)) (linesOf (b8 ns))) (cO (h8 ns)) ((cf (f7 ns) (orderOf (b8 ns)) (linesOf (b8 ns))).length)).map uN),.own ((jb (f7 ns) (cf (f7 ns) (orderOf (b8 ns)) (linesOf (b8 ns))) ((cf (f7 ns) (orderOf (b8 ns)) (linesOf (b8 ns))).length)).map tF),.un,.un,.un]) cZ rfl (jy (ds:=(cf (f7 ns) (orderOf (b8 ns)) (linesOf (b8 ns))).map gk) (ai 13 rfl) n.Fy)
   (fz rfl (bO (bD (i:=5) nd rfl (by first|exact aV rfl|exact cX rfl)) (bO (bD (i:=18) nd rfl (by first|exact aV rfl|exact cX rfl)) (eu)))) (λi=>[.val (jh ns),.val (.int (h8 ns)),.val (.int (b8 ns)),.val (.int (f7 ns)),.val (.list ((cO (h8 ns)).map kC)),.un,.un,.un,.val (.int (g_ (b8 ns))),.val (dP (placesOf (b8 ns))),.val (dP ((placesOf (b8 ns)).take (g_ (b8 ns)))),.val (dP (linesOf (b8 ns))),.val (dP (orderOf (b8 ns))),.val (.list ((cf (f7 ns) (orderOf (b8 ns)) (linesOf (b8 ns))).map gk)),.val (.list (((cp (linesOf (b8 ns)).length).map (roomAt (b8 ns) (cf (f7 ns) (orderOf (b8 ns)) (linesOf (b8 ns))) (linesOf (b8 ns)))).map rR)),.un,.own ((hC (f7 ns) (cf (f7 ns) (orderOf (b8 ns)) (linesOf (b8 ns))) (cO (h8 ns)) (i)).map uN),.own ((jb (f7 ns) (cf (f7 ns) (orderOf (b8 ns)) (linesOf (b8 ns))) (i)).map tF),.un,.un,.un]) (cf (f7 ns) (orderOf (b8 ns)) (linesOf (b8 ns))).length rfl (by rw[cC,aj];exact aA _) (λi d hi hd=>?_) (.inl ⟨by rw[cC,aj],rfl⟩)) ?_
  ·obtain⟨x,hx,rfl⟩:=fQ hd
   obtain⟨dk,Jg,rfl⟩:∃dk,(cf (f7 ns) (orderOf (b8 ns)) (linesOf (b8 ns)))[i]?=some dk/\x=gk dk:=by
    rw[aP,aw (by omega)]at hx
    cases hx;exact⟨_,aw (by omega),rfl⟩
   refine⟨_,rfl,?_⟩
   refine ay (c6 7 (d:=.int (cJ (f7 ns) (110+i))) (bw C1 o8 (ao (ai 3 rfl) (ao (eU ax (ai 5 rfl)) aK)) ⟨f7 ns,110+(i:Int),rfl,by first|decide|omega,by first|decide|omega,rfl⟩) nd) ?_
   have tsu:=rh (c:=f7 ns) (kinds:=(cO (h8 ns))) Jg;have hsu:=wu (c:=f7 ns) Jg;have tle:=rj (f7 ns) (cf (f7 ns) (orderOf (b8 ns)) (linesOf (b8 ns))) (cO (h8 ns)) (by omega) i (by omega)
   have hle:=rm (f7 ns) (cf (f7 ns) (orderOf (b8 ns)) (linesOf (b8 ns))) i (by omega)
   rw[tsu,hsu];have m0:=C9 (f7 ns) (110+i)
   generalize cJ (f7 ns) (110+i)=m at *
   refine ay (jz (tgt:=.tup [19,20]) (o:=.nx [.val (jh ns),.val (.int (h8 ns)),.val (.int (b8 ns)),.val (.int (f7 ns)),.val (.list ((cO (h8 ns)).map kC)),.val (.int i),.un,.val (.int m),.val (.int (g_ (b8 ns))),.val (dP (placesOf (b8 ns))),.val (dP ((placesOf (b8 ns)).take (g_ (b8 ns)))),.val (dP (linesOf (b8 ns))),.val (dP (orderOf (b8 ns))),.val (.list ((cf (f7 ns) (orderOf (b8 ns)) (linesOf (b8 ns))).map gk)),.val (.list (((cp (linesOf (b8 ns)).length).map (roomAt (b8 ns) (cf (f7 ns) (orderOf (b8 ns)) (linesOf (b8 ns))) (linesOf (b8 ns)))).map rR)),.un,.own ((hC (f7 ns) (cf (f7 ns) (orderOf (b8 ns)) (linesOf (b8 ns))) (cO (h8 ns)) i++gw m dk.name (cO (h8 ns)) ((cO (h8 ns)).length)).map uN),.own ((jb (f7 ns) (cf (f7 ns) (orderOf (b8 ns)) (linesOf (b8 ns))) (i)).map tF),.val (gk dk),.un,.un]) cZ rfl (jy (ds:=(cO (h8 ns)).map kC) (ai 4 rfl) n.Fy)
    (fz rfl (bO (bD (i:=19) nd rfl (by first|exact aV rfl|exact cX rfl)) (bO (bD (i:=20) nd rfl (by first|exact aV rfl|exact cX rfl)) (eu)))) (λj=>[.val (jh ns),.val (.int (h8 ns)),.val (.int (b8 ns)),.val (.int (f7 ns)),.val (.list ((cO (h8 ns)).map kC)),.val (.int i),.un,.val (.int m),.val (.int (g_ (b8 ns))),.val (dP (placesOf (b8 ns))),.val (dP ((placesOf (b8 ns)).take (g_ (b8 ns)))),.val (dP (linesOf (b8 ns))),.val (dP (orderOf (b8 ns))),.val (.list ((cf (f7 ns) (orderOf (b8 ns)) (linesOf (b8 ns))).map gk)),.val (.list (((cp (linesOf (b8 ns)).length).map (roomAt (b8 ns) (cf (f7 ns) (orderOf (b8 ns)) (linesOf (b8 ns))) (linesOf (b8 ns)))).map rR)),.un,.own ((hC (f7 ns) (cf (f7 ns) (orderOf (b8 ns)) (linesOf (b8 ns))) (cO (h8 ns)) i++gw m dk.name (cO (h8 ns)) (j)).map uN),.own ((jb (f7 ns) (cf (f7 ns) (orderOf (b8 ns)) (linesOf (b8 ns))) (i)).map tF),.val (gk dk),.un,.un]) (cO (h8 ns)).length (by show([.val (jh ns),.val (.int (h8 ns)),.val (.int (b8 ns)),.val (.int (f7 ns)),.val (.list ((cO (h8 ns)).map kC)),.val (.int i),.un,.val (.int m),.val (.int (g_ (b8 ns))),.val (dP (placesOf (b8 ns))),.val (dP ((placesOf (b8 ns)).take (g_ (b8 ns)))),.val (dP (linesOf (b8 ns))),.val (dP (orderOf (b8 ns))),.val (.list ((cf (f7 ns) (orderOf (b8 ns)) (linesOf (b8 ns))).map gk)),.val (.list (((cp (linesOf (b8 ns)).length).map (roomAt (b8 ns) (cf (f7 ns) (orderOf (b8 ns)) (linesOf (b8 ns))) (linesOf (b8 ns)))).map rR)),.un,.own ((hC (f7 ns) (cf (f7 ns) (orderOf (b8 ns)) (linesOf (b8 ns))) (cO (h8 ns)) i++gw m dk.name (cO (h8 ns)) (0)).map uN),.own ((jb (f7 ns) (cf (f7 ns) (orderOf (b8 ns)) (linesOf (b8 ns))) (i)).map tF),.val (gk dk),.un,.un]:List Slot)=_;rw[show gw m dk.name (cO (h8 ns)) 0=[]from rfl,dA];rfl) (by rw[cC,aj];exact aA _) (λj d hj hd=>?_) (.inl ⟨by rw[cC,aj],rfl⟩)) ?_
   ·obtain⟨x,hx,rfl⟩:=fQ hd
    obtain⟨kd,zbm,rfl⟩:∃kd,(cO (h8 ns))[j]?=some kd/\x=kC kd:=by
     rw[aP,aw (by omega)]at hx
     cases hx;exact⟨_,aw (by omega),rfl⟩
    have rle:=tH m dk.name (cO (h8 ns)) j;have jj0:(0:Int)<=(j:Int)*j:=uY (by omega) (by omega)
    have jj1:(j:Int)*j<=60*60:=Ct (by omega) (by omega) (by omega) (by omega)
    refine⟨_,rfl,?_⟩
    rw[uO zbm];by_cases ht:decide (0<m/((j:Int)+7)%3)=true
    ·have et:vh m dk.name (kd,j)=some (dk.name,kd.1,1+m/((j:Int)*j+2)%6):=by show(if _ then _ else _)=_;rw[if_pos ht]
     rw[et];refine fF (aS (cR (VT.to (IA (cQ (fV (ai 7 rfl) (eU (ai 19 rfl) ax) ⟨by omega,by omega⟩) ax (by decide)) ax) ht) (aS (g8 16 rfl (d:=uN (dk.name,kd.1,1+m/((j:Int)*j+2)%6)) (fe (ao (bZ (ai 18 rfl) ax rfl) (ao (bZ (ai 20 rfl) ax rfl) (ao (eU ax (cQ (fV (ai 7 rfl) (eU (sU (ai 19 rfl) (ai 19 rfl) (.inl ⟨by omega,by omega⟩)) ax) ⟨by omega,by omega⟩) ax (by decide))) aK)))) (iN (by simp only[aj,a8];omega)))))) ⟨.inr rfl,.inr rfl,.inr rfl,.inr rfl,.inr rfl,.inr rfl,.inl rfl,.inr rfl,.inr rfl,.inr rfl,.inr rfl,.inr rfl,.inr rfl,.inr rfl,.inr rfl,.inl rfl,.inr ?_,.inr rfl,.inr rfl,.inl rfl,.inl rfl,trivial⟩
     rw[<-fJ,aX (l₂:=Option.toList _)];rfl
    ·have et:vh m dk.name (kd,j)=none:=by show(if _ then _ else _)=_;rw[if_neg ht]
     rw[et];refine fF (aS (bN (VT.to (IA (cQ (fV (ai 7 rfl) (eU (ai 19 rfl) ax) ⟨by omega,by omega⟩) ax (by decide)) ax) (by simpa using ht)) bp)) ⟨.inr rfl,.inr rfl,.inr rfl,.inr rfl,.inr rfl,.inr rfl,.inl rfl,.inr rfl,.inr rfl,.inr rfl,.inr rfl,.inr rfl,.inr rfl,.inr rfl,.inr rfl,.inl rfl,.inr ?_,.inr rfl,.inr rfl,.inl rfl,.inl rfl,trivial⟩
     rw[Option.toList_none,dA]
   have rle:=tH m dk.name (cO (h8 ns)) (cO (h8 ns)).length;have e5:cU (.int (m/5%4)) (.int 0)=decide (m/5%4=0):=jU _ _;by_cases h5:m/5%4=0
   ·have eh:kP m dk.name=[(dk.name,m/20%9,9+m/180%20),(dk.name,25+m/3600%20,50+m/72000%40)]:=by unfold kP;rw[if_pos h5]
    rw[eh];refine fF (aS (cR (VT.to (b_ (k:=1) o8 (cx 20 _) (cx 20 _) (cQ (fV (ai 7 rfl) ax ⟨by decide,by decide⟩) ax (by decide)) ax) (by rw[e5,decide_eq_true h5])) (ay (g8 17 rfl (d:=tF (dk.name,m/20%9,9+m/180%20)) (fe (ao (bZ (ai 18 rfl) ax rfl) (ao (cQ (fV (ai 7 rfl) ax ⟨by decide,by decide⟩) ax (by decide)) (ao (eU ax (cQ (fV (ai 7 rfl) ax ⟨by decide,by decide⟩) ax (by decide))) aK)))) (iN (by simp only[aj];omega))) (aS (g8 17 rfl (d:=tF (dk.name,25+m/3600%20,50+m/72000%40)) (fe (ao (bZ (ai 18 rfl) ax rfl) (ao (eU ax (cQ (fV (ai 7 rfl) ax ⟨by decide,by decide⟩) ax (by decide))) (ao (eU ax (cQ (fV (ai 7 rfl) ax ⟨by decide,by decide⟩) ax (by decide))) aK)))) (iN (by simp only[aj,a8,bh,cv];omega))))))) ⟨.inr rfl,.inr rfl,.inr rfl,.inr rfl,.inr rfl,.inl rfl,.inl rfl,.inl rfl,.inr rfl,.inr rfl,.inr rfl,.inr rfl,.inr rfl,.inr rfl,.inr rfl,.inl rfl,.inr rfl,.inr ?_,.inl rfl,.inl rfl,.inl rfl,trivial⟩
    rw[aX (l₂:=[_,_]),fJ];rfl
   ·have eh:kP m dk.name=[]:=by unfold kP;rw[if_neg h5]
    rw[eh,dA];exact fF (aS (bN (VT.to (b_ (k:=1) o8 (cx 20 _) (cx 20 _) (cQ (fV (ai 7 rfl) ax ⟨by decide,by decide⟩) ax (by decide)) ax) (by rw[e5,decide_eq_false h5])) bp)) ⟨.inr rfl,.inr rfl,.inr rfl,.inr rfl,.inr rfl,.inl rfl,.inl rfl,.inl rfl,.inr rfl,.inr rfl,.inr rfl,.inr rfl,.inr rfl,.inr rfl,.inr rfl,.inl rfl,.inr rfl,.inr rfl,.inl rfl,.inl rfl,.inl rfl,trivial⟩
  refine eK 16 rfl ?_
  refine eK 17 rfl ?_
  refine aS (bV (IW (.cons aF (ai 4 rfl) (.cons aF (ai 10 rfl) (.cons aF (ai 14 rfl) (.cons aF (ai 13 rfl) (.cons aF (ai 16 rfl) (.cons aF (ai 17 rfl) (.cons aF (VO.ve (dR aK)) .nil))))))) (show([("kinds":Str),"gates","lines","desks","times","hours","paces"]).Nodup by decide +kernel) (by simp[nY]) (by show 7<=15;decide)))
end
end Mg
namespace Mg
open L2 PySem PyProof.Rows
theorem qo(p:Pl):kO (nY p) "kinds"=some (.list (p.kinds.map kC)):=gU rfl
theorem oI(p:Pl):kO (nY p) "gates"=some (dP p.gates):=(dw (show ¬(("kinds":Str)="gates") by decide +kernel)).trans (gU rfl)
theorem M0(p:Pl):kO (nY p) "lines"=some (.list (p.lines.map rR)):=(dw (show ¬(("kinds":Str)="lines") by decide +kernel)).trans ((dw (show ¬(("gates":Str)="lines") by decide +kernel)).trans (gU rfl))
theorem M4(p:Pl):kO (nY p) "desks"=some (.list (p.desks.map gk)):=(dw (show ¬(("kinds":Str)="desks") by decide +kernel)).trans ((dw (show ¬(("gates":Str)="desks") by decide +kernel)).trans ((dw (show ¬(("lines":Str)="desks") by decide +kernel)).trans (gU rfl)))
theorem M5(p:Pl):kO (nY p) "times"=some (.list (p.times.map uN)):=(dw (show ¬(("kinds":Str)="times") by decide +kernel)).trans ((dw (show ¬(("gates":Str)="times") by decide +kernel)).trans ((dw (show ¬(("lines":Str)="times") by decide +kernel)).trans ((dw (show ¬(("desks":Str)="times") by decide +kernel)).trans (gU rfl))))
theorem M6(p:Pl):kO (nY p) "hours"=some (.list (p.hours.map tF)):=(dw (show ¬(("kinds":Str)="hours") by decide +kernel)).trans ((dw (show ¬(("gates":Str)="hours") by decide +kernel)).trans ((dw (show ¬(("lines":Str)="hours") by decide +kernel)).trans ((dw (show ¬(("desks":Str)="hours") by decide +kernel)).trans ((dw (show ¬(("times":Str)="hours") by decide +kernel)).trans (gU rfl)))))
theorem M7(p:Pl):kO (nY p) "paces"=some (.list []):=(dw (show ¬(("kinds":Str)="paces") by decide +kernel)).trans ((dw (show ¬(("gates":Str)="paces") by decide +kernel)).trans ((dw (show ¬(("lines":Str)="paces") by decide +kernel)).trans ((dw (show ¬(("desks":Str)="paces") by decide +kernel)).trans ((dw (show ¬(("times":Str)="paces") by decide +kernel)).trans ((dw (show ¬(("hours":Str)="paces") by decide +kernel)).trans (gU rfl))))))
def pickOf{α:Type}(l:List α)(d:α)(j:Int):α:=l.getD (j%l.length).toNat d
theorem jV{α:Type}{l:List α}{d:α}{F:α->aq}(h:1<=l.length)(j:Int):qQ (l.map F) (j%(l.length:Int))=some (F (pickOf l d j))/\pickOf l d j∈l:=by
 unfold pickOf;have a1:0<=j%(l.length:Int):=bH _ (by omega)
 have a2:j%(l.length:Int)<l.length:=bL _ (by omega)
 generalize j%(l.length:Int)=i at *
 obtain⟨n,rfl⟩:=lO a1;have hn:n<l.length:=by omega
 have e:l.getD ((n:Int)).toNat d=l[n]:=by rw[eJ,aG,aw hn];rfl
 rw[e];exact⟨a9 (by rw[aP,aw hn];rfl),cK hn⟩
structure Ka(K:av):Prop where
 ss:dm K (.type "str") (.type "str")=some true
 is:dm K (.type "int") (.type "str")=some false
 ts:dm K (.type "tuple") (.type "str")=some false
 ls:dm K (.type "list") (.type "str")=some false
 ii:dm K (.type "int") (.type "int")=some true
 ti:dm K (.type "tuple") (.type "int")=some false
 li:dm K (.type "list") (.type "int")=some false
 ib:dm K (.type "int") (.type "bool")=some false
 tt:dm K (.type "tuple") (.type "tuple")=some true
 tl:dm K (.type "tuple") (.type "list")=some false
 lt:dm K (.type "list") (.type "tuple")=some false
 ll:dm K (.type "list") (.type "list")=some true
def M8:aq->Prop
 | .none=>True
 | .int _=>True
 | .str x=>mj x
 |_=>False
def Y7:Nat->aq->Prop
 |0,d=>M8 d
 |n+1,d=>M8 d\/∃ds,(d=.tuple ds\/d=.list ds)/\ds.length<=1000/\∀e∈ds,Y7 n e
def W3:aq->Bool
 | .none=>true
 |_=>false
theorem kD{K:av}{d:aq}:AK K (λx y H Q=>y=.non/\Q (.bl (decide (x=.non))) H) d .none (.bool (W3 d)):=λv u H0 H Q s r1 r2 k=>by
 cases r2;refine⟨rfl,k _ _ _ (.refl s) ?_⟩
 cases r1<;>exact .bl _
theorem nq(n:Nat)(b:Bool):Lay n (.bool b):=⟨rfl,bK _⟩
structure Na(mg:Str->Option aD):Prop extends Nm mg where
 str:mg "str"=none
 all:mg "all"=none
def W4:aq->Option aq:=λ_=>some (.bool true)
theorem yX:∀l:List aq,l.filterMap W4=(bu l.length true).map .bool
 | []=>rfl
 |d::l=>by rw[c7 (f:=W4) (b:=.bool true) rfl,yX l];rfl
theorem xP(n:Nat):m_ (bu n true)=true:=by
 unfold m_;rw[eV];intro b hb;exact(jL.mp hb).2
end Mg
namespace Mg
open L2 PySem PyProof.Rows
seal L2.VE L2.VS L2.rO L2.VT L2.VO L2.O2
variable{fd:fN}{x:aq}
section
variable{P:bM}{w:cy}{K:av}{mg:Str->Option aD}{base:dq}{f:aN}{k:Nat}
abbrev PZ:List Str:=["_law_found","_law_due_here"]
theorem Q8:cG PZ PZ (bJ (top 62)):=⟨rfl,rfl,rfl,by decide +kernel,rfl,by decide +kernel,by decide +kernel⟩
def W5(n:Nat)(ds:List aq)(d:aq):Prop:=∃x,ds=[x,x]/\Y7 n x/\d=.bool true
theorem Q9(n:Na mg)(kt:Ka K)(h:M8 x):yg P w K mg base PZ "_law_alike" (top 62) f k [x,x] (.rt (.bool true)):=by
 intro gy A outer s H E hr;cases x with
 |none=>
  exact cH (cR (VT.to (fU iK kD (ai 1 rfl) eB (fA _)) rfl) (aS (bV (VE.to (xx iK kD (ai 0 rfl) eB (fA _)) rfl)))) rfl
 |int i=>
  refine ay (bN (VT.to (fU iK kD (ai 1 rfl) eB (fA _)) rfl) bp) ?_
  refine ay (bN (e9 (iM (tn:="str") (ai 1 rfl) rfl kt.is rfl n.wY n.str rfl) rfl) bp) ?_
  refine cH (cR (e9 (iM (tn:="int") (ai 1 rfl) rfl kt.ii rfl n.wY n.int rfl) rfl) (aS (bV (VE.to (kZ (iM (tn:="int") (ai 0 rfl) rfl kt.ii rfl n.wY n.int rfl) (λ_=>kZ (ud (iM (tn:="bool") (ai 0 rfl) rfl kt.ib rfl n.wY n.bool rfl)) (λ_=>jg (pE hr (cx 20 _) (cx 20 _) (ai 0 rfl) (ai 1 rfl))))) ?_)))) rfl
  rw[jU,decide_eq_true rfl];rfl
 |str z=>
  refine ay (bN (VT.to (fU iK kD (ai 1 rfl) eB (fA _)) rfl) bp) ?_
  refine cH (cR (e9 (iM (tn:="str") (ai 1 rfl) rfl kt.ss rfl n.wY n.str rfl) rfl) (aS (bV (VE.to (kZ (iM (tn:="str") (ai 0 rfl) rfl kt.ss rfl n.wY n.str rfl) (λ_=>jg (pE hr (bq h) (bq h) (ai 0 rfl) (ai 1 rfl)))) ?_)))) rfl
  rw[bS,decide_eq_true rfl];rfl
 |_=>exact h.elim
theorem W6{m:Nat}(n:Na mg)(kt:Ka K)(C:bG P w K mg base (m+1) "_law_alike" PZ (gX K (W5 m))){xs:List aq}(hx:x=.tuple xs\/x=.list xs)(hl:xs.length<=1000)(ho:∀e∈xs,Y7 m e):yg P w K mg base PZ "_law_alike" (top 62) f (m+1) [x,x] (.rt (.bool true)):=by
 intro gy A outer s H E hr;have nk:(["_law_k","_law_found","_law_due_here"]:List Str).Nodup:=by decide +kernel
 have FC:∀i,i<xs.length->qQ xs (i:Int)=some (xs.getD i .none):=λi hi=>a9 (by rw[aG,aw hi];rfl)
 have v7:∀i,i<xs.length->xs.getD i .none∈xs:=λi hi=>by rw[aG,aw hi];exact cK _
 rcases hx with rfl|rfl
 ·refine ay (bN (VT.to (fU iK kD (ai 1 rfl) eB (fA _)) rfl) bp) ?_
  refine ay (bN (e9 (iM (tn:="str") (ai 1 rfl) rfl kt.ts rfl n.wY n.str rfl) rfl) bp) ?_
  refine ay (bN (e9 (iM (tn:="int") (ai 1 rfl) rfl kt.ti rfl n.wY n.int rfl) rfl) bp) ?_
  refine ay (bN (VT.to (iU (g7 hr (nq 20 _) (nq 20 _) (iM (tn:="tuple") (ai 1 rfl) rfl kt.tt rfl n.wY n.tup rfl) (iM (tn:="tuple") (ai 0 rfl) rfl kt.tt rfl n.wY n.tup rfl)) (λ_=>g7 hr (nq 20 _) (nq 20 _) (iM (tn:="list") (ai 1 rfl) rfl kt.tl rfl n.wY n.lst rfl) (iM (tn:="list") (ai 0 rfl) rfl kt.tl rfl n.wY n.lst rfl))) rfl) bp) ?_
  refine aS (bV (VE.to (kZ (pE hr (cx 20 _) (cx 20 _) (lE (ai 0 rfl) n.len) (lE (ai 1 rfl) n.len)) (λ_=>jg (h7 (kN rfl) uL (ao (VO.ve (VO.to (fw (own:=["_law_k"]) (cap:=[0,1]) (N:=["_law_k","_law_found","_law_due_here"]) (tgt:=.one 0) (F:=W4) (ds:=jx xs.length) rfl ⟨rfl,by decide +kernel,by decide +kernel,rfl,rfl,?_⟩ (qj (n:=(xs.length:Int)) (lE (ai 1 rfl) n.len) n.rng (by omega) (by omega)) (λf s3 H3=>bD (i:=0) nk rfl (aV rfl)) rfl
   (small (by rw[jM];omega)) (λd hd=>?_)) (yX _))) aK) n.all rfl))) ?_))
  ·intro j hj
   rcases aJ.mp hj with rfl|hj
   ·exact⟨(by show(0:Nat)<2;decide),aV rfl,rfl⟩
   ·rcases aJ.mp hj with rfl|hj
    ·exact⟨(by show(1:Nat)<2;decide),aV rfl,rfl⟩
    ·cases hj
  ·obtain⟨i,hi,rfl⟩:=aI.mp hd
   have hi:=cY.mp hi;refine⟨_,rfl,λf s3 H3=>fu,λr jC f s3 H3=>?_⟩
   cases jC;exact bw C hr (ao (bZ (ai 1 rfl) (ai 0 rfl) (FC i hi)) (ao (bZ (ai 2 rfl) (ai 0 rfl) (FC i hi)) aK)) ⟨xs.getD i .none,rfl,ho _ (v7 i hi),rfl⟩
  ·rw[jU,decide_eq_true rfl,xP];rfl
 ·refine ay (bN (VT.to (fU iK kD (ai 1 rfl) eB (fA _)) rfl) bp) ?_
  refine ay (bN (e9 (iM (tn:="str") (ai 1 rfl) rfl kt.ls rfl n.wY n.str rfl) rfl) bp) ?_
  refine ay (bN (e9 (iM (tn:="int") (ai 1 rfl) rfl kt.li rfl n.wY n.int rfl) rfl) bp) ?_
  refine ay (bN (VT.to (iU (g7 hr (nq 20 _) (nq 20 _) (iM (tn:="tuple") (ai 1 rfl) rfl kt.lt rfl n.wY n.tup rfl) (iM (tn:="tuple") (ai 0 rfl) rfl kt.lt rfl n.wY n.tup rfl)) (λ_=>g7 hr (nq 20 _) (nq 20 _) (iM (tn:="list") (ai 1 rfl) rfl kt.ll rfl n.wY n.lst rfl) (iM (tn:="list") (ai 0 rfl) rfl kt.ll rfl n.wY n.lst rfl))) rfl) bp) ?_
  refine aS (bV (VE.to (kZ (pE hr (cx 20 _) (cx 20 _) (gS (ai 0 rfl) n.len) (gS (ai 1 rfl) n.len)) (λ_=>jg (h7 (kN rfl) uL (ao (VO.ve (VO.to (fw (own:=["_law_k"]) (cap:=[0,1]) (N:=["_law_k","_law_found","_law_due_here"]) (tgt:=.one 0) (F:=W4) (ds:=jx xs.length) rfl ⟨rfl,by decide +kernel,by decide +kernel,rfl,rfl,?_⟩ (qj (n:=(xs.length:Int)) (gS (ai 1 rfl) n.len) n.rng (by omega) (by omega)) (λf s3 H3=>bD (i:=0) nk rfl (aV rfl)) rfl
   (small (by rw[jM];omega)) (λd hd=>?_)) (yX _))) aK) n.all rfl))) ?_))
  ·intro j hj
   rcases aJ.mp hj with rfl|hj
   ·exact⟨(by show(0:Nat)<2;decide),aV rfl,rfl⟩
   ·rcases aJ.mp hj with rfl|hj
    ·exact⟨(by show(1:Nat)<2;decide),aV rfl,rfl⟩
    ·cases hj
  ·obtain⟨i,hi,rfl⟩:=aI.mp hd
   have hi:=cY.mp hi;refine⟨_,rfl,λf s3 H3=>fu,λr jC f s3 H3=>?_⟩
   cases jC;exact bw C hr (ao (dJ (ai 1 rfl) (ai 0 rfl) (FC i hi)) (ao (dJ (ai 2 rfl) (ai 0 rfl) (FC i hi)) aK)) ⟨xs.getD i .none,rfl,ho _ (v7 i hi),rfl⟩
  ·rw[jU,decide_eq_true rfl,xP];rfl
theorem W7(F:kM K "_law_alike" "_law_alike" (top 62) f fd)(n:Na mg)(kt:Ka K):eQ P w K mg base jE 1 f fd PZ (gX K (W5 0)):=
 jA F Q8 (λ_ _ h=>by obtain⟨_,rfl,_⟩:=h;rfl) λ_ _ h=>by
  obtain⟨x,rfl,ho,rfl⟩:=h;exact Q9 n kt ho
theorem M9{m:Nat}(F:kM K "_law_alike" "_law_alike" (top 62) f fd)(n:Na mg)(kt:Ka K)(C:bG P w K mg base (m+1) "_law_alike" PZ (gX K (W5 m))):eQ P w K mg base jE (m+2) f fd PZ (gX K (W5 (m+1))):=
 jA F Q8 (λ_ _ h=>by obtain⟨_,rfl,_⟩:=h;rfl) λ_ _ h=>by
  obtain⟨x,rfl,ho,rfl⟩:=h;rcases ho with ho|⟨xs,h1,h2,h3⟩
  ·exact Q9 n kt ho
  ·exact W6 n kt C h1 h2 h3
end
abbrev qJ:=Int×Str×Str×Str
def eN(g:qJ):aq:=.tuple [.int g.1,.str g.2.1,.str g.2.2.1,.str g.2.2.2]
def mE(m:Int):Int:=if m%5=2 then 1 else if m%5=3 then m/7%3 else if m%5=4 then m/7%12 else 0
theorem step_at(m:Int):qQ [dO 0,.int 0,.int 1,.int (m/7%3),.int (m/7%12)] (m%5)=some (.int (mE m)):=by
 unfold mE;have a1:0<=m%5:=bH _ (by omega)
 have a2:m%5<5:=bL _ (by omega)
 rcases(by omega:m%5=0\/m%5=1\/m%5=2\/m%5=3\/m%5=4)with e|e|e|e|e<;>rw[e]<;>rfl
def iY(cells:List Int):Nat->Int
 |0=>0
 |k+1=>iY cells k+mE (cJ (cells.getD k 0) k)
def oJ(m:Int):Str:=([("":Str),"p","q","pp","r"]).getD (m/10000%5).toNat ""
theorem Kq(m:Int):qQ [aH "",.str "p",.str "q",.str "pp",.str "r"] (m/10000%5)=some (.str (oJ m)):=by
 unfold oJ;have a1:0<=m/10000%5:=bH _ (by omega)
 have a2:m/10000%5<5:=bL _ (by omega)
 rcases(by omega:m/10000%5=0\/m/10000%5=1\/m/10000%5=2\/m/10000%5=3\/m/10000%5=4)with e|e|e|e|e<;>rw[e]<;>rfl
def Df(p:Pl)(cells:List Int)(k:Nat):qJ:=(iY cells (k+1),pickOf p.gates "" (cJ (cells.getD k 0) k/100),(pickOf p.kinds ("",none) (cJ (cells.getD k 0) k/1000)).1,oJ (cJ (cells.getD k 0) k))
def kQ(p:Pl)(cells:List Int):List qJ:=(cp cells.length).map (Df p cells)
section
variable{P:bM}{w:cy}{K:av}{mg:Str->Option aD}{base:dq}{f:aN}{k:Nat}
abbrev Ndy:List Str:=["_law_h","_law_cells","_law_day_here","_law_t","_law_k","_law_cell","_law_m","_law_gate","_law_kind","_law_parcel"]
theorem Q_:cG Ndy ["_law_h","_law_cells"] (bJ (top 58)):=⟨rfl,rfl,rfl,by decide +kernel,rfl,by decide +kernel,by decide +kernel⟩
def Rdy(ds es:List aq):Prop:=∃(p:Pl)(cells:List Int),ds=[dI p,jh cells]/\1<=p.gates.length/\1<=p.kinds.length/\cells.length<=63/\es=(kQ p cells).map eN
theorem zbn(F:kM K "_law_day" "_law_day" (top 58) f fd)(n:Ng mg)(C1:bG P w K mg base 1 "_law_mix" ["_law_cell","_law_k"] (gX K GN)):eQ P w K mg base jE 2 f fd ["_law_h","_law_cells"] (AO K Rdy):=
 Ef F Q_ (λ_ _ h=>by obtain⟨_,_,rfl,_⟩:=h;rfl) λ_ _ h=>by
  obtain⟨p,cells,rfl,hg,hk,hc,rfl⟩:=h;intro gy A outer s H E hr;have nd:Ndy.Nodup:=Q_.nd;refine ay (iE 2 (dR aK) nd) ?_
  refine ay (c6 3 ax nd) ?_
  refine ay (jz (tgt:=.tup [4,5]) (o:=.nx [.val (dI p),.val (jh cells),.own ((kQ p cells).map eN),.val (.int (iY cells cells.length)),.un,.un,.un,.un,.un,.un]) cZ rfl (jy (ds:=cells.map .int) (ai 1 rfl) n.Fy)
   (fz rfl (bO (bD (i:=4) nd rfl (aV rfl)) (bO (bD (i:=5) nd rfl (aV rfl)) eu))) (λi=>[.val (dI p),.val (jh cells),.own (((cp i).map (Df p cells)).map eN),.val (.int (iY cells i)),.un,.un,.un,.un,.un,.un]) cells.length rfl (by rw[cC,aj];exact aA _) (λi d hi hd=>?_) (.inl ⟨by rw[cC,aj],rfl⟩)) (aS (wc 2 rfl))
  obtain⟨x,hx,rfl⟩:=fQ hd;obtain rfl:x=.int (cells.getD i 0):=by
   rw[aP,aw (by omega)]at hx
   cases hx;rw[aG,aw (by omega)];rfl
  refine⟨_,rfl,?_⟩
  have eg:Df p cells i=(iY cells i+mE (cJ (cells.getD i 0) i),pickOf p.gates "" (cJ (cells.getD i 0) i/100),(pickOf p.kinds ("",none) (cJ (cells.getD i 0) i/1000)).1,oJ (cJ (cells.getD i 0) i)):=rfl;have et:iY cells (i+1)=iY cells i+mE (cJ (cells.getD i 0) i):=rfl;refine ay (c6 6 (d:=.int (cJ (cells.getD i 0) i)) (bw C1 hr (ao (ai 5 rfl) (ao (ai 4 rfl) aK)) ⟨cells.getD i 0,i,rfl,by omega,by omega,rfl⟩) nd) ?_
  rw[sJ,aX,aX,pf,pf,eg,et]
  generalize cJ (cells.getD i 0) i=m
  obtain⟨pg,_⟩:=jV (d:=("":Str)) (F:=aH) hg (m/100);obtain⟨pk,_⟩:=jV (d:=(("",none):Str×Option Int)) (F:=kC) hk (m/1000);refine ay (c6 3 (d:=.int (iY cells i+mE m)) (eU (ai 3 rfl) (dJ (VO.ve (dR (ao ax (ao ax (ao ax (ao (cQ (fV (ai 6 rfl) ax ⟨by decide,by decide⟩) ax (by decide)) (ao (cQ (fV (ai 6 rfl) ax ⟨by decide,by decide⟩) ax (by decide)) aK))))))) (cQ (ai 6 rfl) ax (by decide)) (step_at m))) nd) ?_
  refine ay (c6 7 (dJ (il hr (ai 0 rfl) aF (oI p)) (VE.to (cQ (fV (ai 6 rfl) ax ⟨by decide,by decide⟩) (gS (il hr (ai 0 rfl) aF (oI p)) n.len) (by rw[aj];omega)) (by rw[aj])) pg) nd) ?_
  refine ay (c6 8 (d:=.str (pickOf p.kinds ("",none) (m/1000)).1) (bZ (dJ (il hr (ai 0 rfl) aF (qo p)) (VE.to (cQ (fV (ai 6 rfl) ax ⟨by decide,by decide⟩) (gS (il hr (ai 0 rfl) aF (qo p)) n.len) (by rw[aj];omega)) (by rw[aj])) pk) ax rfl) nd) ?_
  refine ay (c6 9 (dJ (VO.ve (dR (ao aF (ao aF (ao aF (ao aF (ao aF aK))))))) (cQ (fV (ai 6 rfl) ax ⟨by decide,by decide⟩) ax (by decide)) (Kq m)) nd) ?_
  exact fF (aS (g8 2 rfl (d:=eN (iY cells i+mE m,pickOf p.gates "" (m/100),(pickOf p.kinds ("",none) (m/1000)).1,oJ m)) (fe (ao (ai 3 rfl) (ao (ai 7 rfl) (ao (ai 8 rfl) (ao (ai 9 rfl) aK))))) (iN (by simp only[aj,dY];omega)))) ⟨.inr rfl,.inr rfl,.inr rfl,.inr rfl,.inl rfl,.inl rfl,.inl rfl,.inl rfl,.inl rfl,.inl rfl,trivial⟩
end
end Mg
namespace Mg
open L2 PySem PyProof.Rows
variable{n:Int}{c:Nat}{x:Str}
def BU(c:Nat):List (List Nat)->List Nat
 | []=>[]
 | [x]=>x
 |x::y::r=>x++c::BU c (y::r)
theorem EJ:∀{a b r s:List Nat},c∉a->c∉b->a++c::r=b++c::s->a=b/\r=s
 | [],[],r,s,_,_,h=>⟨rfl,(kF h).2⟩
 | [],y::b,r,s,_,hb,h=>absurd (kF h).1 (λz=>hb (by rw[z];exact aO))
 |x::a,[],r,s,ha,_,h=>absurd (kF h).1 (λz=>ha (by rw[<-z];exact aO))
 |x::a,y::b,r,s,ha,hb,h=>by
  obtain⟨h1,h2⟩:=kF h;obtain⟨h3,h4⟩:=EJ (λz=>ha (aU _ z)) (λz=>hb (aU _ z)) h2
  exact⟨by rw[h1,h3],h4⟩
theorem BV{c:Nat}:∀{ps qs:List (List Nat)},ps≠[]->qs≠[]->(∀p∈ps,c∉p)->(∀p∈qs,c∉p)->BU c ps=BU c qs->ps=qs
 | [],_,h,_,_,_,_=>absurd rfl h
 |_,[],_,h,_,_,_=>absurd rfl h
 | [x],[y],_,_,_,_,h=>by have h:x=y:=h;rw[h]
 | [x],y::y2::qs,_,_,hp,_,h=>by
  have h:x=y++c::BU c (y2::qs):=h;exact absurd (by rw[h];exact cu _ aO) (hp x aO)
 |x::x2::ps,[y],_,_,_,hq,h=>by
  have h:x++c::BU c (x2::ps)=y:=h;exact absurd (by rw[<-h];exact cu _ aO) (hq y aO)
 |x::x2::ps,y::y2::qs,_,_,hp,hq,h=>by
  obtain⟨h1,h2⟩:=EJ (hp x aO) (hq y aO) h;have:=BV (ps:=x2::ps) (qs:=y2::qs) (by simp) (by simp) (λp z=>hp p (aU _ z)) (λp z=>hq p (aU _ z)) h2
  rw[h1,this]
theorem add_list(x y:Str):(x++y).cps.toList=x.cps.toList++y.cps.toList:=by
 show(x.cps++y.cps).toList=_
 simp
theorem str_inj{y: Str}(h:x.cps.toList=y.cps.toList):x=y:=Str.ext' (Array.toList_inj.mp h)
theorem join_list(c:Nat):∀ps:List Str,(cj (one c) ps).cps.toList=BU c (ps.map λp=>p.cps.toList)
 | []=>rfl
 | [x]=>rfl
 |x::y::r=>by
  show(x++one c++cj (one c) (y::r)).cps.toList=_
  rw[add_list,add_list,join_list c (y::r)];show x.cps.toList ++ [c]++_=x.cps.toList++c::_;simp
theorem qp(x y:Str):bR x y≠[]:=by
 intro h;unfold bR at h
 split at h
 ·cases h
 ·split at h
  ·cases h
  ·have:=congrArg i5 h
   rw[yv]at this;simp at this
theorem vj{ps:List Str}(h:ps≠[])(hf:∀p∈ps,c∉p.cps.toList):bR (cj (one c) ps) (one c)=ps:=by
 have h1:=jv (cj (one c) ps) (one c);have h2:=oA (cj (one c) ps) c;have h3:=qp (cj (one c) ps) (one c)
 generalize hq:bR (cj (one c) ps) (one c)=qs at *
 have h2:∀p∈qs,c∉p.cps.toList:=by rw[<-hq];exact oA (cj (one c) ps) c
 have e:=congrArg (λs:Str=>s.cps.toList) h1
 simp only[join_list]at e;have:=BV (c:=c) (ps:=qs.map λp=>p.cps.toList) (qs:=ps.map λp=>p.cps.toList) (by simpa using h3) (by simpa using h)
  (λp hp=>by obtain⟨q,hq,rfl⟩:=aI.mp hp;exact h2 q hq) (λp hp=>by obtain⟨q,hq,rfl⟩:=aI.mp hp;exact hf q hq) e
 have inj:∀{l m:List Str},(l.map λp=>p.cps.toList)=(m.map λp=>p.cps.toList)->l=m:=by
  intro l
  induction l with
  |nil=>intro m hm;cases m with|nil=>rfl|cons _ _=>cases hm
  |cons x l ih=>
   intro m hm;cases m with
   |nil=>cases hm
   |cons y m=>
    obtain⟨a1,a2⟩:=kF hm;rw[str_inj a1,ih a2]
 exact inj this
theorem EK(c:Nat):∀{ps qs:List Str},ps≠[]->qs≠[]->cj (one c) (ps++qs)=cj (one c) ps++one c++cj (one c) qs
 | [],_,h,_=>absurd rfl h
 | [x],q::qs,_,_=>rfl
 | [x],[],_,h=>absurd rfl h
 |x::y::r,qs,_,h=>by
  show x++one c++cj (one c) ((y::r)++qs)=_;rw[EK c (ps:=y::r) (by simp) h]
  apply str_inj;show _=(x++one c++cj (one c) (y::r)++one c++cj (one c) qs).cps.toList;simp only[add_list,fJ]
theorem Kr(c:Nat)(x y:Str):bR (x++one c++y) (one c)=bR x (one c)++bR y (one c):=by
 have e:x++one c++y=cj (one c) (bR x (one c)++bR y (one c)):=by
  rw[EK c (qp _ _) (qp _ _),jv,jv]
 rw[e];refine vj (by simp[qp]) λp hp=>?_
 rcases bX.mp hp with hp|hp
 ·exact oA x c p hp
 ·exact oA y c p hp
theorem vk(h:c∉x.cps.toList):bR x (one c)=[x]:=by
 have:=vj (c:=c) (ps:=[x]) (by simp) (λp hp=>by rw[a_.mp hp];exact h)
 exact this
theorem xQ:(" ":Str)=one 32:=by decide +kernel
theorem M_:("\n":Str)=one 10:=by decide +kernel
theorem mF(x y:Str):wordsOf (x++" "++y)=wordsOf x++wordsOf y:=by
 unfold wordsOf;rw[xQ,Kr,wW]
theorem oK:wordsOf ""=[]:=by
 unfold wordsOf;rw[xQ,vk (by decide +kernel)]
 rfl
theorem xR{w:Str}(h:w≠"")(hb:32∉w.cps.toList):wordsOf w=[w]:=by
 unfold wordsOf;rw[xQ,vk hb,jq,if_pos (by simpa using h)]
 rfl
theorem Ks(x y z:Str):x++y++z=x++(y++z):=by
 apply str_inj;simp only[add_list,fJ]
theorem Kt(x:Str):x++""=x:=by
 apply str_inj;rw[add_list];show x.cps.toList ++ []=_;simp
theorem empty_app(x:Str):""++x=x:=by
 apply str_inj;rw[add_list];rfl
theorem zZ(x:Str)(n:Nat):jY x (n+1)=x++jY x n:=by
 apply str_inj;rw[add_list]
 show(x.cps++(jY x n).cps).toList=_
 simp
theorem GQ(n:Nat)(y:Str):wordsOf (jY " " n++y)=wordsOf y:=by
 induction n with
 |zero=>rw[show jY " " 0="" from rfl,empty_app]
 |succ n ih=>
  have e:jY " " (n+1)++y=""++" "++(jY " " n++y):=by rw[zZ,empty_app,Ks]
  rw[e,mF,oK,ih];rfl
theorem Ku(n:Nat)(x y:Str):wordsOf (x++jY " " (n+1)++y)=wordsOf x++wordsOf y:=by
 have e:x++jY " " (n+1)++y=x++" "++(jY " " n++y):=by rw[zZ];apply str_inj;simp only[add_list,fJ]
 rw[e,mF,GQ]
theorem z0(n:Nat):∀{ws:List Str},(∀w∈ws,w≠""/\32∉w.cps.toList)->wordsOf (cj (jY " " (n+1)) ws)=ws
 | [],_=>oK
 | [w],h=>xR (h w aO).1 (h w aO).2
 |w::v::ws,h=>by
  show wordsOf (w++jY " " (n+1)++cj (jY " " (n+1)) (v::ws))=_;rw[Ku,xR (h w aO).1 (h w aO).2,z0 n (λu hu=>h u (aU _ hu))]
  rfl
theorem nr{ws:List Str}(h:∀w∈ws,w≠""/\32∉w.cps.toList):wordsOf (cj " " ws)=ws:=by
 have e:jY " " (0+1)=" ":=by rw[zZ,show jY " " 0="" from rfl,Kt]
 have:=z0 0 h;rw[e]at this;exact this
theorem xS{rows:List Str}(h0:rows≠[])(h:∀r∈rows,10∉r.cps.toList):rowsOf (cj "\n" rows)=rows.zipIdx.filterMap λp=>if(wordsOf p.1).isEmpty then none else some (p.2,wordsOf p.1):=by
 unfold rowsOf;rw[M_,vj h0 h]
def dE(n:Int):Str:=o4 (toString n)
theorem Dg{m:Nat}(h:¬m<10):i7 10 m=i7 10 (m/10) ++ [Nat.digitChar (m%10)]:=by
 have hm:m%10<10:=Nat.mod_lt m (by decide)
 have t:i7 10 (m/10)++i7 10 (m%10)=i7 10 (10*(m/10)+m%10):=Nat.toDigits_append_toDigits (by decide) (by omega) hm
 rw[Nat.div_add_mod]at t;rw[<-t,lP hm]
theorem Jh:∀(k m:Nat),1<=k->m<10^k->(i7 10 m).length<=k
 |0,_,h,_=>by omega
 |k+1,m,_,h=>by
  by_cases hm:m<10
  ·rw[lP hm];simp
  ·rw[Dg hm,a8]
   have hk:1<=k:=by
    rcases xh k with rfl|hk
    ·exact absurd h (by simpa using hm)
    ·exact hk
   have h10:m/10<10^k:=by rw[Nat.div_lt_iff_lt_mul (by decide)];rw[Nat.pow_succ]at h;exact h
   have:=Jh k (m/10) hk h10;simp only[jZ];omega
theorem P0(m:Nat):1<=(i7 10 m).length:=by
 by_cases hm:m<10
 ·rw[lP hm];simp
 ·rw[Dg hm,a8];simp
theorem Nb(m:Nat)(h:0<m):∃c,(i7 10 m).head?=some c/\c≠'0':=by
 induction m using Nat.strongRecOn with
 |_ m ih=>
  by_cases hm:m<10
  ·rw[lP hm]
   refine⟨_,rfl,?_⟩
   have:∀d:Nat,d<10->0<d->Nat.digitChar d≠'0':=by decide
   exact this m hm h
  ·obtain⟨c,h1,h2⟩:=ih (m/10) (by omega) (by omega)
   refine⟨c,?_,h2⟩
   rw[Dg hm,List.head?_append,h1]
   rfl
theorem xU(h0:0<=n):(dE n).cps.toList=(i7 10 n.toNat).map Char.toNat:=by
 obtain⟨m,rfl⟩:=lO h0;exact PySem.W.KIN.signs_num m
theorem mG(h0:0<=n)(hc:c∈(dE n).cps.toList):48<=c/\c<=57:=by
 rw[xU h0]at hc;obtain⟨ch,K8,e⟩:=aI.mp hc;have r:=digit_range (Nat.isDigit_of_mem_toDigits (by decide) (by decide) K8)
 rw[<-e];exact r
theorem yZ(h0:0<=n)(h1:n<1000000):1<=(dE n).length/\(dE n).length<=6:=by
 have e:(dE n).length=(i7 10 n.toNat).length:=by
  show(dE n).cps.size=_
  rw[<-cq,xU h0,aj]
 rw[e];exact⟨P0 _,Jh 6 _ (by decide) (by omega)⟩
theorem EL:("0123456789":Str).cps.toList=(cp 10).map (48 + ·):=by decide +kernel
theorem oM(h0:0<=n)(h1:n<1000000):pH (dE n):=by
 refine⟨by have:=yZ h0 h1;omega,(jB _).mpr λc hc=>?_⟩
 have:=mG h0 hc;omega
theorem xV(h0:0<=n)(h1:n<1000000):isNumber (dE n)=true:=by
 obtain⟨l1,l2⟩:=yZ h0 h1;have em:lG "0123456789" 6 (dE n)=true:=by
  unfold lG;rw[decide_eq_true (by omega),decide_eq_true (by omega),i9,i9,eV]
  intro c hc;have hd:=mG h0 hc;have:zI (one c) "0123456789"=decide (c∈("0123456789":Str).cps.toList):=vO ..;rw[this,EL];exact decide_eq_true (aI.mpr ⟨c-48,cY.mpr (by omega),by omega⟩)
 unfold isNumber;rw[em,i9];by_cases hn:n=0
 ·subst hn
  rw[decide_eq_true (show dE 0="0" by decide +kernel)]
  rfl
 ·obtain⟨c,c1,c2⟩:=Nb n.toNat (by omega)
  have hh:(dE n).cps.toList.head?=some c.toNat:=by
   rw[xU h0,List.head?_map,c1]
   rfl
  rw[hh];have:one c.toNat≠"0":=by
   intro z;have z2:(one c.toNat).cps.toList=("0":Str).cps.toList:=by rw[z]
   have z3:[c.toNat]=[48]:=z2;have z4:c.toNat=48:=by simpa using z3
   exact c2 (Char.toNat_inj.mp z4)
  show(_ || !decide (one c.toNat="0"))=true
  rw[decide_eq_false this];simp
theorem num_reads(h0:0<=n)(h1:n<1000000):intText? (dE n)=some n:=PySem.W.KIN.num_reads h0 (by omega)
theorem nu(h0:0<=n)(h1:n<1000000):dE n≠""/\32∉(dE n).cps.toList/\10∉(dE n).cps.toList:=by
 refine⟨λz=>?_,λz=>?_,λz=>?_⟩
 ·have:=(yZ h0 h1).1
  rw[z]at this;exact absurd this (by decide)
 ·have:=mG h0 z;omega
 ·have:=mG h0 z;omega
theorem fH(h:dH x):x≠""/\32∉x.cps.toList/\10∉x.cps.toList:=by
 refine⟨λz=>?_,λz=>?_,λz=>?_⟩
 ·have:=h.1
  rw[z]at this;exact absurd this (by decide)
 ·have:=h.2.2 _ z;omega
 ·have:=h.2.2 _ z;omega
end Mg
namespace Mg
open L2 PySem PyProof.Rows
seal L2.VE L2.VS L2.rO L2.VT L2.VO L2.O2
variable{fd:fN}
def dG(i:Int):Prop:=0<=i/\i<1000000
theorem dG.log{i:Int}(h:dG i):i.natAbs.log2<1920:=by
 have:i.natAbs<2^20:=by have:=h.1;have:=h.2;omega
 have h2:i.natAbs.log2<=20:=by
  rcases xh i.natAbs with e|e
  ·rw[e];decide
  ·exact oZ ((Nat.log2_lt (by omega)).mpr this)
 omega
def GR:aq->Prop
 | .none=>True
 | .int i=>dG i
 | .str x=>x=""\/dH x
 |_=>False
def eI:aq->Str
 | .str x=>if x="" then "-" else x
 | .int i=>dE i
 |_=>"-"
section
variable{P:bM}{w:cy}{K:av}{mg:Str->Option aD}{base:dq}{f:aN}{k:Nat}
theorem W8:cG ["_law_thing"] ["_law_thing"] (bJ (top 55)):=⟨rfl,rfl,rfl,by decide +kernel,rfl,by decide +kernel,by decide +kernel⟩
def Y8(ds:List aq)(d:aq):Prop:=∃x,ds=[x]/\GR x/\d=.str (eI x)
theorem zbo(F:kM K "_law_dash" "_law_dash" (top 55) f fd)(n:Na mg):eQ P w K mg base jE 1 f fd ["_law_thing"] (gX K Y8):=
 jA F W8 (λ_ _ h=>by obtain⟨_,rfl,_⟩:=h;rfl) λ_ _ h=>by
  obtain⟨x,rfl,ho,rfl⟩:=h;intro gy A outer s H E hr;have l0:Lay 20 (.str ""):=bq (by decide +kernel)
  cases x with
  |none=>exact cH (cR (VT.to (iU (k2:=true) (fU iK kD (ai 0 rfl) eB (fA _)) (λz=>by cases z)) rfl) (aS (bV aF))) rfl
  |int i=>
   refine ay (bN (VT.to (iU (fU iK kD (ai 0 rfl) eB (fA _)) (λ_=>b_ hr (cx 20 _) l0 (ai 0 rfl) aF)) rfl) bp) ?_
   exact aS (bV (qX (ai 0 rfl) (dG.log ho) n.str))
  |str z=>
   have oz:mj z:=by
    rcases ho with rfl|ho
    ·show cn (.str ("":Str))=true;decide +kernel
    ·exact ho.ok.2
   by_cases hz:z=""
   ·refine cH (cR (VT.to (iU (fU iK kD (ai 0 rfl) eB (fA _)) (λ_=>b_ hr (bq oz) l0 (ai 0 rfl) aF)) ?_) (aS (bV (VE.to aF ?_)))) rfl
    ·rw[bS,decide_eq_true hz];rfl
    ·show aH "-"=.str (if z="" then "-" else z);rw[if_pos hz]
   ·refine ay (bN (VT.to (iU (fU iK kD (ai 0 rfl) eB (fA _)) (λ_=>b_ hr (bq oz) l0 (ai 0 rfl) aF)) ?_) bp) ?_
    ·rw[bS,decide_eq_false hz];rfl
    ·refine aS (bV (VE.to (Pk (ai 0 rfl) n.str) ?_))
     show aH z=.str (if z="" then "-" else z);rw[if_neg hz]
  |_=>exact ho.elim
def z8:Rl->Prop
 | .meet=>True
 | .gather m a=>dG m/\dG a
 | .many m=>dG m
 | .rank none=>True
 | .rank (some b)=>dG b
 | .turns s=>s.length<=60/\∀z∈s,dG z
 | .eldest=>True
def di:Rl->List Str
 | .turns s=>"turns"::s.map dE
 |r=>pZ r::(tE r).map eI
def qt(r:Rl):Str:=cj " " (di r)
theorem W9:cG ["_law_rule_here"] ["_law_rule_here"] (bJ (top 56)):=⟨rfl,rfl,rfl,by decide +kernel,rfl,by decide +kernel,by decide +kernel⟩
def Rrt(ds:List aq)(d:aq):Prop:=∃r,ds=[Kn r]/\z8 r/\d=.str (qt r)
def W_:aq->Option aq
 | .int i=>some (.str (dE i))
 |_=>none
theorem Nc(l:List Int):(l.map dO).filterMap W_=(l.map dE).map .str:=by
 rw[cW,bC];exact filterMap_some λk _=>rfl
def Ra:aq->Option aq:=λd=>some (.str (eI d))
theorem Kv(l:List aq):l.filterMap Ra=(l.map eI).map .str:=by
 rw[bC];exact filterMap_some λk _=>rfl
theorem iy{i:Int}(h:dG i):(dE i).length<=6:=(yZ h.1 h.2).2
theorem mH:∀{l:List Str}{b:Nat},(∀x∈l,x.length<=b)->(l.map (·.length)).sum<=l.length*b
 | [],_,_=>by simp
 |x::l,b,h=>by
  have h1:=h x aO;have h2:=mH λy hy=>h y (aU _ hy)
  rw[aR,vP,bh,Nat.add_mul];omega
theorem ko{d:aq}(h:GR d):(eI d).length<=8:=by
 cases d with
 |none=>decide
 |int i=>exact b9 (iy h) (by decide)
 |str x=>
  show(if x="" then("-":Str)else x).length<=8
  split
  ·decide
  ·rename_i hx
   rcases h with h|h
   ·exact absurd h hx
   ·have:=h.2.1
    rw[cq]at this;exact this
 |_=>exact h.elim
theorem z_{r:Rl}(ht:∀s,r≠.turns s)(h:z8 r):∀d∈tE r,GR d:=by
 intro d hd;cases r with
 |meet=>cases hd
 |eldest=>cases hd
 |gather m a=>
  rcases aJ.mp hd with rfl|hd
  ·exact h.1
  ·rw[a_.mp hd];exact h.2
 |many m=>rw[a_.mp hd];exact h
 |rank b=>rw[a_.mp hd];cases b with|none=>trivial|some b=>exact h
 |turns s=>exact absurd rfl (ht s)
theorem zbp(F:kM K "_law_rule_text" "_law_rule_text" (top 56) f fd)(n:Na mg)(C:bG P w K mg base 1 "_law_dash" ["_law_thing"] (gX K Y8)):eQ P w K mg base jE 2 f fd ["_law_rule_here"] (gX K Rrt):=
 jA F W9 (λ_ _ h=>by obtain⟨_,rfl,_⟩:=h;rfl) λ_ _ h=>by
  obtain⟨r,rfl,ho,rfl⟩:=h;intro gy A outer s H E hr;have oR:mj (pZ r):=by cases r<;>dsimp only[pZ,mj]<;>decide +kernel
  have lT:Lay 20 (.str "turns"):=bq (by decide +kernel)
  have h0:qQ (aH (pZ r)::tE r) 0=some (.str (pZ r)):=a9 (j:=0) rfl;by_cases ht:∃sh,r=.turns sh
  ·obtain⟨sh,rfl⟩:=ht
   have nc:(["_law_share"]:List Str).Nodup:=by decide +kernel
   refine cH (cR (VT.to (b_ (k:=1) hr (bq oR) lT (bZ (ai 0 rfl) ax h0) aF) (by rw[bS];exact decide_eq_true rfl)) (aS (bV (iV (zs:=di (.turns sh)) aF (VE.to (VO.ve (lF (d1:=[.str "turns"]) (d2:=(sh.map dE).map .str) (VO.ve (dR (ao aF aK))) (VO.ve (VO.to (fw (own:=["_law_share"]) (cap:=[]) (N:=["_law_share"]) (cl:=[]) (tgt:=.one 0) (F:=W_) (ds:=sh.map .int) rfl ⟨rfl,by decide +kernel,by decide +kernel,rfl,rfl,by simp⟩ (zE (bZ (d:=.tuple (sh.map .int)) (ai 0 rfl) ax (a9 (j:=1) rfl))) (λf s3 H3=>bD (i:=0) nc rfl (aV rfl)) rfl
    (small (by rw[aj];have:=ho.1;omega)) (λd hd=>?_)) (Nc _))) (small (by simp only[aj,bh,cv];have:=ho.1;omega)))) rfl) ?_)))) rfl
   ·obtain⟨z,hz,rfl⟩:=aI.mp hd
    refine⟨_,rfl,λf s3 H3=>fu,λr jC f s3 H3=>?_⟩
    cases jC;exact qX (ai 0 rfl) (dG.log (ho.2 z hz)) n.str
   ·have h1:=mH (l:=di (.turns sh)) (b:=6) λx hx=>by
     rcases aJ.mp hx with rfl|hx
     ·decide
     ·obtain⟨z,hz,rfl⟩:=aI.mp hx
      exact iy (ho.2 z hz)
    have h2:(di (.turns sh)).length=sh.length+1:=by simp[di]
    have h3:=ho.1;have h4:(" ":Str).length=1:=by decide
    rw[h4];omega
  ·have Dh:∀sh,r≠.turns sh:=λsh z=>ht ⟨sh,z⟩
   have hw:pZ r≠"turns":=by
    cases r with
    |turns sh=>exact absurd rfl (Dh sh)
    |_=>dsimp only[pZ];decide +kernel
   have Nf:di r=pZ r::(tE r).map eI:=by
    cases r with
    |turns sh=>exact absurd rfl (Dh sh)
    |_=>rfl
   have hl:(tE r).length<=2:=by cases r<;>simp[tE]
   have Sj:(pZ r).length<=8:=by cases r<;>dsimp only[pZ]<;>decide +kernel
   have hok:=z_ Dh ho;unfold qt;rw[Nf];unfold Kn
   generalize tE r=ra at *
   generalize pZ r=rY at *
   have nc:(["_law_one"]:List Str).Nodup:=by decide +kernel
   have GU:L2.cutD (aH rY::ra) (some 1) none=ra:=(jI (aH rY::ra) 1).trans rfl;refine ay (bN (VT.to (b_ (k:=1) hr (bq oR) lT (bZ (ai 0 rfl) ax h0) aF) (by rw[bS];exact decide_eq_false hw)) bp) ?_
   refine aS (bV (iV (zs:=rY::ra.map eI) aF (VE.to (VO.ve (lF (d1:=[.str rY]) (d2:=(ra.map eI).map .str) (VO.ve (dR (ao (bZ (ai 0 rfl) ax h0) aK))) (VO.ve (VO.to (fw (own:=["_law_one"]) (cap:=[]) (N:=["_law_one"]) (cl:=[]) (tgt:=.one 0) (F:=Ra) (ds:=ra) rfl ⟨rfl,by decide +kernel,by decide +kernel,rfl,rfl,by simp⟩ (zE (VE.to (xB (ds:=.str rY::ra) (ai 0 rfl) (.yes ax) .no ?_) (by rw[GU]))) (λf s3 H3=>bD (i:=0) nc rfl (aV rfl)) rfl
    (small (by omega)) (λd hd=>?_)) (Kv _))) (small (by simp only[aj,bh,cv];omega)))) rfl) ?_))
   ·intro z
    have:=z.1;rw[show(1:Int)=((1:Nat):Int)from rfl,HT.nW,bh]at this
    omega
   ·refine⟨_,rfl,λf s3 H3=>fu,λr jC f s3 H3=>?_⟩
    cases jC;exact bw C hr (ao (ai 0 rfl) aK) ⟨d,rfl,hok d hd,rfl⟩
   ·have h1:=mH (l:=rY::ra.map eI) (b:=8) λx hx=>by
     rcases aJ.mp hx with rfl|hx
     ·exact Sj
     ·obtain⟨z,hz,rfl⟩:=aI.mp hx
      exact ko (hok z hz)
    have h2:(rY::ra.map eI).length=ra.length+1:=by simp
    have h4:(" ":Str).length=1:=by decide
    rw[h4];omega
end
def rA(p:Str×Option Int):Str:="kind "++p.1++" "++eI (o7 p.2)
def nZ(g:Str):Str:="gate "++g
def n_(p:Str×Int):Str:="line "++p.1++" "++dE p.2
def oN(d:Dk):Str:="desk "++d.name++" to "++eI (.str d.to)++" by "++qt d.rule
def mO(d:Dk):Str:=oN d++" from "++cj " " d.places
def og(p:Str×Str×Int):Str:=cj " " ["time",p.1,p.2.1,dE p.2.2]
def pJ(p:Str×Int×Int):Str:=cj " " ["open",p.1,dE p.2.1,dE p.2.2]
structure ji(p:Pl):Prop where
 kn:p.kinds.length<=60
 gn:p.gates.length<=60
 ln:p.lines.length<=60
 dn:p.desks.length<=60
 tn:p.times.length<=600
 hn:p.hours.length<=600
 kinds:∀q∈p.kinds,dH q.1/\GR (o7 q.2)
 gates:∀g∈p.gates,dH g
 lines:∀q∈p.lines,dH q.1/\dG q.2
 desks:∀d∈p.desks,dH d.name/\(d.to=""\/dH d.to)/\z8 d.rule/\d.places.length<=60/\∀x∈d.places,dH x
 times:∀q∈p.times,dH q.1/\dH q.2.1/\dG q.2.2
 hours:∀q∈p.hours,dH q.1/\dG q.2.1/\dG q.2.2
theorem dH.short{x:Str}(h:dH x):x.length<=8:=by
 have:=h.2.1;rw[cq]at this;exact this
theorem iD{y:Str}(hy:y.length<=1):∀{l:List Str}{b:Nat},(∀x∈l,x.length<=b)->(cj y l).length<=l.length*(b+1)
 | [],_,_=>by show 0<=_;exact bK _
 | [x],b,h=>by
  have:=h x aO;show x.length<=1*(b+1);omega
 |x::z::l,b,h=>by
  have h1:=h x aO;have h2:=iD hy (l:=z::l) λu hu=>h u (aU _ hu)
  show(x++y++cj y (z::l)).length<=(z::l).length.succ*(b+1)
  rw[cF,cF,FG];omega
theorem oO{r:Rl}(h:z8 r):(qt r).length<=700:=by
 have hl:(di r).length<=61/\∀x∈di r,x.length<=8:=by
  by_cases ht:∃sh,r=.turns sh
  ·obtain⟨sh,rfl⟩:=ht
   refine⟨by have:=h.1;simp[di];omega,λx hx=>?_⟩
   rcases aJ.mp hx with rfl|hx
   ·decide
   ·obtain⟨z,hz,rfl⟩:=aI.mp hx
    exact b9 (iy (h.2 z hz)) (by decide)
  ·have Dh:∀sh,r≠.turns sh:=λsh z=>ht ⟨sh,z⟩
   have hok:=z_ Dh h;have Nf:di r=pZ r::(tE r).map eI:=by
    cases r with
    |turns sh=>exact absurd rfl (Dh sh)
    |_=>rfl
   have hl:(tE r).length<=2:=by cases r<;>simp[tE]
   have Sj:(pZ r).length<=8:=by cases r<;>dsimp only[pZ]<;>decide +kernel
   rw[Nf];refine⟨by rw[bh,aj];omega,λx hx=>?_⟩
   rcases aJ.mp hx with rfl|hx
   ·exact Sj
   ·obtain⟨z,hz,rfl⟩:=aI.mp hx
    exact ko (hok z hz)
 have:=iD (y:=" ") (by decide) hl.2
 unfold qt;have h9:(di r).length*(8+1)<=61*9:=ju hl.1 (aA _);omega
def Fkr:aq->Option aq
 | .tuple [.str a,k]=>some (.str ("kind "++a++" "++eI k))
 |_=>none
def Fgr:aq->Option aq
 | .str a=>some (.str (nZ a))
 |_=>none
def Flr:aq->Option aq
 | .tuple [.str a,.int i]=>some (.str (n_ (a,i)))
 |_=>none
def Ftr:aq->Option aq
 | .tuple [.str a,.str b,.int i]=>some (.str (og (a,b,i)))
 |_=>none
def Fhr:aq->Option aq
 | .tuple [.str a,.int i,.int j]=>some (.str (pJ (a,i,j)))
 |_=>none
theorem P1(l:List (Str×Option Int)):(l.map kC).filterMap Fkr=(l.map rA).map .str:=by
 rw[cW,bC];exact filterMap_some λk _=>rfl
theorem P2(l:List Str):(l.map aH).filterMap Fgr=(l.map nZ).map .str:=by
 rw[cW,bC];exact filterMap_some λk _=>rfl
theorem P4(l:List (Str×Int)):(l.map rR).filterMap Flr=(l.map n_).map .str:=by
 rw[cW,bC];exact filterMap_some λk _=>rfl
theorem P5(l:List (Str×Str×Int)):(l.map uN).filterMap Ftr=(l.map og).map .str:=by
 rw[cW,bC];exact filterMap_some λk _=>rfl
theorem P6(l:List (Str×Int×Int)):(l.map tF).filterMap Fhr=(l.map pJ).map .str:=by
 rw[cW,bC];exact filterMap_some λk _=>rfl
def oP(p:Pl):List Str:=p.kinds.map rA++p.gates.map nZ++p.lines.map n_
def eS(p:Pl):List Str:=oP p++p.desks.map mO++p.times.map og++p.hours.map pJ
def uk(p:Pl):Str:=cj "\n" (eS p)
section
variable{P:bM}{w:cy}{K:av}{mg:Str->Option aD}{base:dq}{f:aN}{k:Nat}
abbrev Npt:List Str:=["_law_h","_law_rows","_law_name","_law_to","_law_rule_here","_law_places","_law_row","_law_gate","_law_kind","_law_burst","_law_gap"]
theorem Rb:cG Npt ["_law_h"] (bJ (top 57)):=⟨rfl,rfl,rfl,by decide +kernel,rfl,by decide +kernel,by decide +kernel⟩
def Rpt(ds:List aq)(d:aq):Prop:=∃p,ds=[dI p]/\ji p/\d=.str (uk p)
theorem zbq(F:kM K "_law_plant_text" "_law_plant_text" (top 57) f fd)(n:Na mg)(C1:bG P w K mg base 1 "_law_dash" ["_law_thing"] (gX K Y8))(C2:bG P w K mg base 2 "_law_rule_text" ["_law_rule_here"] (gX K Rrt)):eQ P w K mg base jE 3 f fd ["_law_h"] (gX K Rpt):=
 jA F Rb (λ_ _ h=>by obtain⟨_,rfl,_⟩:=h;rfl) λ_ _ h=>by
  obtain⟨p,rfl,ok,rfl⟩:=h;intro gy A outer s H E hr;have nd:Npt.Nodup:=Rb.nd;have o8:fZ 1 _:=hr.mono (by omega)
  have b1:=ok.kn;have b2:=ok.gn;have b3:=ok.ln;have b4:=ok.dn;have b5:=ok.tn;have b6:=ok.hn;have nk:(["_law_name","_law_keep"]:List Str).Nodup:=by decide +kernel
  refine ay (CT 1 (own:=["_law_name","_law_keep"]) (cap:=[]) (N:=["_law_name","_law_keep"]) (cl:=[]) (tgt:=.tup [0,1]) (F:=Fkr) (ds:=p.kinds.map kC) rfl ⟨rfl,by decide +kernel,by decide +kernel,rfl,rfl,by simp⟩ (gu (il o8 (ai 0 rfl) aF (qo p))) (λf s3 H3=>fz rfl (bO (bD (i:=0) nk rfl (aV rfl)) (bO (bD (i:=1) nk rfl (aV rfl)) eu))) rfl (small (by rw[aj];omega)) (λd hd=>?_) nd) ?_
  ·obtain⟨q,hq,rfl⟩:=aI.mp hd
   obtain⟨h1,h2⟩:=ok.kinds q hq;refine⟨_,rfl,λf s3 H3=>fu,λr jC f s3 H3=>?_⟩
   cases jC;have s1:=h1.short;have s2:=ko h2;have e1:("kind ":Str).length=5:=by decide
   have e2:(" ":Str).length=1:=by decide
   exact ja (ja (ja aF (ai 0 rfl) (small (by omega))) aF (small (by simp only[cF];omega))) (bw C1 o8 (ao (ai 1 rfl) aK) ⟨_,rfl,h2,rfl⟩) (small (by simp only[cF];omega))
  rw[P1];refine eK 1 rfl ?_
  have n1:(["_law_name"]:List Str).Nodup:=by decide +kernel
  refine ay (iE 1 (ds:=(p.kinds.map rA++p.gates.map nZ).map .str) (VO.to (lF (d2:=(p.gates.map nZ).map .str) (ai 1 rfl) (VO.ve (VO.to (fw (own:=["_law_name"]) (cap:=[]) (N:=["_law_name"]) (cl:=[]) (tgt:=.one 0) (F:=Fgr) (ds:=p.gates.map .str) rfl ⟨rfl,by decide +kernel,by decide +kernel,rfl,rfl,by simp⟩ (gu (il o8 (ai 0 rfl) aF (oI p))) (λf s3 H3=>bD (i:=0) n1 rfl (aV rfl)) rfl (small (by rw[aj];omega)) (λd hd=>?_)) (P2 _))) (small (by simp only[aj];omega))) (by rw[aX])) nd) ?_
  ·obtain⟨q,hq,rfl⟩:=aI.mp hd
   have s1:=(ok.gates q hq).short;have e1:("gate ":Str).length=5:=by decide
   refine⟨_,rfl,λf s3 H3=>fu,λr jC f s3 H3=>?_⟩
   cases jC;exact ja aF (ai 0 rfl) (small (by omega))
  refine eK 1 rfl ?_
  have n2:(["_law_name","_law_room"]:List Str).Nodup:=by decide +kernel
  refine ay (iE 1 (ds:=(oP p).map .str) (VO.to (lF (d2:=(p.lines.map n_).map .str) (ai 1 rfl) (VO.ve (VO.to (fw (own:=["_law_name","_law_room"]) (cap:=[]) (N:=["_law_name","_law_room"]) (cl:=[]) (tgt:=.tup [0,1]) (F:=Flr) (ds:=p.lines.map rR) rfl ⟨rfl,by decide +kernel,by decide +kernel,rfl,rfl,by simp⟩ (gu (il o8 (ai 0 rfl) aF (M0 p))) (λf s3 H3=>fz rfl (bO (bD (i:=0) n2 rfl (aV rfl)) (bO (bD (i:=1) n2 rfl (aV rfl)) eu))) rfl (small (by rw[aj];omega)) (λd hd=>?_)) (P4 _))) (small (by simp only[aj,a8];omega))) (by unfold oP;rw[aX (l₂:=HX n_ _)])) nd) ?_
  ·obtain⟨⟨qa,qi⟩,hq,rfl⟩:=aI.mp hd
   obtain⟨h1,h2⟩:dH qa/\dG qi:=ok.lines (qa,qi) hq;have s1:=h1.short;have s2:=iy h2;have e1:("line ":Str).length=5:=by decide
   have e2:(" ":Str).length=1:=by decide
   refine⟨_,rfl,λf s3 H3=>fu,λr jC f s3 H3=>?_⟩
   cases jC;exact VE.to (ja (x:="line "++qa++" ") (y:=dE qi) (ja (x:="line "++qa) (ja (y:=qa) aF (ai 0 rfl) (small (by omega))) aF (small (by simp only[cF];omega))) (qX (ai 1 rfl) (dG.log h2) n.str) (small (by simp only[cF];omega))) rfl
  have r1:(oP p).length=p.kinds.length+p.gates.length+p.lines.length:=by unfold oP;simp only[a8,aj]
  refine ay (jz (tgt:=.tup [2,3,4,5]) (o:=.nx [.val (dI p),.own ((oP p++(p.desks.take p.desks.length).map mO).map .str),.un,.un,.un,.un,.un,.un,.un,.un,.un]) cZ rfl (gu (il o8 (ai 0 rfl) aF (M4 p)))
   (fz rfl (bO (bD (i:=2) nd rfl (by first|exact aV rfl|exact cX rfl)) (bO (bD (i:=3) nd rfl (by first|exact aV rfl|exact cX rfl)) (bO (bD (i:=4) nd rfl (by first|exact aV rfl|exact cX rfl)) (bO (bD (i:=5) nd rfl (by first|exact aV rfl|exact cX rfl)) eu))))) (λi=>[.val (dI p),.own ((oP p++(p.desks.take i).map mO).map .str),.un,.un,.un,.un,.un,.un,.un,.un,.un]) p.desks.length (by show([.val (dI p),.own ((oP p++(p.desks.take 0).map mO).map .str),.un,.un,.un,.un,.un,.un,.un,.un,.un]:List Slot)=_;rw[List.take_zero,iA,dA];rfl) (by rw[aj];exact aA _) (λi d hi hd=>?_) (.inl ⟨by rw[aj],rfl⟩)) ?_
  ·obtain⟨dk,Jg,rfl⟩:∃dk,p.desks[i]?=some dk/\d=gk dk:=by
    rw[aP,aw (by omega)]at hd
    cases hd;exact⟨_,aw (by omega),rfl⟩
   obtain⟨h1,h2,h3,h4,h5⟩:=ok.desks dk (bF Jg);have UI:GR (.str dk.to):=h2;have s1:=h1.short;have s2:=ko UI;have s3:=oO h3;have s4:=iD (y:=" ") (by decide) (l:=dk.places) (b:=8) λx hx=>(h5 x hx).short
   have s5:dk.places.length*(8+1)<=60*9:=ju h4 (aA _);have s6:=mH (l:=dk.places) (b:=8) λx hx=>(h5 x hx).short
   have e1:("desk ":Str).length=5:=by decide
   have e2:(" to ":Str).length=4:=by decide
   have e3:(" by ":Str).length=4:=by decide
   have e4:(" from ":Str).length=6:=by decide
   have e5:(" ":Str).length=1:=by decide
   have eh:(oN dk).length<=800:=by unfold oN;simp only[cF];omega
   refine⟨_,rfl,?_⟩
   refine ay (c6 6 (d:=.str (oN dk)) (ja (ja (ja (ja (ja aF (ai 2 rfl) (small (by omega))) aF (small (by simp only[cF];omega))) (bw C1 o8 (ao (ai 3 rfl) aK) ⟨_,rfl,UI,rfl⟩) (small (by simp only[cF];omega))) aF (small (by simp only[cF];omega))) (bw C2 hr (ao (ai 4 rfl) aK) ⟨_,rfl,h3,rfl⟩) (small (by simp only[cF];omega))) nd) ?_
   refine fF (aS (g8 1 rfl (d:=.str (mO dk)) (ja (ja (ai 6 rfl) aF (small (by omega))) (iV (zs:=dk.places) aF (VO.ve (ub vW Pm (ao (ai 5 rfl) aK) n.lst rfl)) (by rw[e5];omega)) (small (by simp only[cF];omega))) (iN (by simp only[aj,a8,bW];omega)))) ⟨.inr rfl,.inr ?_,.inl rfl,.inl rfl,.inl rfl,.inl rfl,.inl rfl,.inr rfl,.inr rfl,.inr rfl,.inr rfl,trivial⟩
   rw[dv,Jg];simp only[vE,aX,aR,iA,fJ]
  rw[eW];refine eK 1 rfl ?_
  have n3:(["_law_desk","_law_kind","_law_work"]:List Str).Nodup:=by decide +kernel
  refine ay (iE 1 (ds:=(oP p++p.desks.map mO++p.times.map og).map .str) (VO.to (lF (d2:=(p.times.map og).map .str) (ai 1 rfl) (VO.ve (VO.to (fw (own:=["_law_desk","_law_kind","_law_work"]) (cap:=[]) (N:=["_law_desk","_law_kind","_law_work"]) (cl:=[]) (tgt:=.tup [0,1,2]) (F:=Ftr) (ds:=p.times.map uN) rfl ⟨rfl,by decide +kernel,by decide +kernel,rfl,rfl,by simp⟩ (gu (il o8 (ai 0 rfl) aF (M5 p))) (λf s3 H3=>fz rfl (bO (bD (i:=0) n3 rfl (aV rfl)) (bO (bD (i:=1) n3 rfl (aV rfl)) (bO (bD (i:=2) n3 rfl (aV rfl)) eu)))) rfl (small (by rw[aj];omega)) (λd hd=>?_)) (P5 _))) (small (by simp only[aj,a8];omega))) (by rw[aX (l₂:=HX og _)])) nd) ?_
  ·obtain⟨⟨qa,qb,qi⟩,hq,rfl⟩:=aI.mp hd
   obtain⟨h1,h2,h3⟩:dH qa/\dH qb/\dG qi:=ok.times (qa,qb,qi) hq;have s1:=h1.short;have s2:=h2.short;have s3:=iy h3;have e1:("time":Str).length=4:=by decide
   have e2:(" ":Str).length=1:=by decide
   refine⟨_,rfl,λf s3 H3=>fu,λr jC f s3 H3=>?_⟩
   cases jC;exact iV (zs:=["time",qa,qb,dE qi]) aF (VO.ve (dR (ao aF (ao (ai 0 rfl) (ao (ai 1 rfl) (ao (qX (ai 2 rfl) (dG.log h3) n.str) aK)))) (small (by show 4<=_;decide)))) (by rw[e2];simp only[aR,iA,vP,List.sum_nil,bh,cv];omega)
  refine eK 1 rfl ?_
  have n4:(["_law_desk","_law_begin","_law_end"]:List Str).Nodup:=by decide +kernel
  refine ay (iE 1 (ds:=(eS p).map .str) (VO.to (lF (d2:=(p.hours.map pJ).map .str) (ai 1 rfl) (VO.ve (VO.to (fw (own:=["_law_desk","_law_begin","_law_end"]) (cap:=[]) (N:=["_law_desk","_law_begin","_law_end"]) (cl:=[]) (tgt:=.tup [0,1,2]) (F:=Fhr) (ds:=p.hours.map tF) rfl ⟨rfl,by decide +kernel,by decide +kernel,rfl,rfl,by simp⟩ (gu (il o8 (ai 0 rfl) aF (M6 p))) (λf s3 H3=>fz rfl (bO (bD (i:=0) n4 rfl (aV rfl)) (bO (bD (i:=1) n4 rfl (aV rfl)) (bO (bD (i:=2) n4 rfl (aV rfl)) eu)))) rfl (small (by rw[aj];omega)) (λd hd=>?_)) (P6 _))) (small (by simp only[aj,a8];omega))) (by unfold eS;rw[aX (l₂:=HX pJ _)])) nd) ?_
  ·obtain⟨⟨qa,qb,qi⟩,hq,rfl⟩:=aI.mp hd
   obtain⟨h1,h2,h3⟩:dH qa/\dG qb/\dG qi:=ok.hours (qa,qb,qi) hq;have s1:=h1.short;have s2:=iy h2;have s3:=iy h3;have e1:("open":Str).length=4:=by decide
   have e2:(" ":Str).length=1:=by decide
   refine⟨_,rfl,λf s3 H3=>fu,λr jC f s3 H3=>?_⟩
   cases jC;exact iV (zs:=["open",qa,dE qb,dE qi]) aF (VO.ve (dR (ao aF (ao (ai 0 rfl) (ao (qX (ai 1 rfl) (dG.log h2) n.str) (ao (qX (ai 2 rfl) (dG.log h3) n.str) aK)))) (small (by show 4<=_;decide)))) (by rw[e2];simp only[aR,iA,vP,List.sum_nil,bh,cv];omega)
  refine ay (jz (tgt:=.tup [7,8,9,10]) (o:=.nx [.val (dI p),.own ((eS p).map .str),.un,.un,.un,.un,.un,.un,.un,.un,.un]) cZ rfl (gu (il o8 (ai 0 rfl) aF (M7 p)))
   (fz rfl (bO (bD (i:=7) nd rfl (by first|exact aV rfl|exact cX rfl)) (bO (bD (i:=8) nd rfl (by first|exact aV rfl|exact cX rfl)) (bO (bD (i:=9) nd rfl (by first|exact aV rfl|exact cX rfl)) (bO (bD (i:=10) nd rfl (by first|exact aV rfl|exact cX rfl)) eu))))) (λi=>[.val (dI p),.own ((eS p).map .str),.un,.un,.un,.un,.un,.un,.un,.un,.un]) 0 rfl (bK _) (λi d hi hd=>absurd hi (by omega)) (.inl ⟨rfl,rfl⟩)) ?_
  refine eK 1 rfl ?_
  refine aS (bV (iV (zs:=eS p) aF (ai 1 rfl) ?_))
  have e5:("\n":Str).length=1:=by decide
  have e2:(" ":Str).length=1:=by decide
  have hl:(eS p).length<=1440:=by unfold eS;simp only[a8,aj];omega
  have hs:=mH (l:=eS p) (b:=2000) λx hx=>by
   unfold eS oP at hx;simp only[bX,aI]at hx;rcases hx with((((⟨q,hq,rfl⟩|⟨q,hq,rfl⟩)|⟨q,hq,rfl⟩)|⟨dk,hq,rfl⟩)|⟨q,hq,rfl⟩)|⟨q,hq,rfl⟩
   ·obtain⟨h1,h2⟩:=ok.kinds q hq
    have s1:=h1.short;have s2:=ko h2;have e1:("kind ":Str).length=5:=by decide
    unfold rA;simp only[cF];omega
   ·have s1:=(ok.gates q hq).short
    have e1:("gate ":Str).length=5:=by decide
    unfold nZ;simp only[cF];omega
   ·obtain⟨h1,h2⟩:=ok.lines q hq
    have s1:=h1.short;have s2:=iy h2;have e1:("line ":Str).length=5:=by decide
    unfold n_;simp only[cF];omega
   ·obtain⟨h1,h2,h3,h4,h5⟩:=ok.desks dk hq
    have UI:GR (.str dk.to):=h2;have s1:=h1.short;have s2:=ko UI;have s3:=oO h3;have s4:=iD (y:=" ") (by decide) (l:=dk.places) (b:=8) λx hx=>(h5 x hx).short
    have s5:dk.places.length*(8+1)<=60*9:=ju h4 (aA _);have e1:("desk ":Str).length=5:=by decide
    have e2:(" to ":Str).length=4:=by decide
    have e3:(" by ":Str).length=4:=by decide
    have e4:(" from ":Str).length=6:=by decide
    unfold mO oN;simp only[cF];omega
   ·obtain⟨h1,h2,h3⟩:=ok.times q hq
    have s1:=h1.short;have s2:=h2.short;have s3:=iy h3;have:=iD (y:=" ") (by decide) (l:=["time",q.1,q.2.1,dE q.2.2]) (b:=8) λx hx=>by
     simp only[aJ,b7,or_false]at hx;rcases hx with rfl|rfl|rfl|rfl
     ·decide
     ·exact s1
     ·exact s2
     ·omega
    unfold og;exact b9 this (by simp only[bh,cv];omega)
   ·obtain⟨h1,h2,h3⟩:=ok.hours q hq
    have s1:=h1.short;have s2:=iy h2;have s3:=iy h3;have:=iD (y:=" ") (by decide) (l:=["open",q.1,dE q.2.1,dE q.2.2]) (b:=8) λx hx=>by
     simp only[aJ,b7,or_false]at hx;rcases hx with rfl|rfl|rfl|rfl
     ·decide
     ·exact s1
     ·omega
     ·omega
    unfold pJ;exact b9 this (by simp only[bh,cv];omega)
  have hb:(eS p).length*2000<=1440*2000:=ju hl (aA _);rw[e5];omega
end
end Mg
namespace Mg
open L2 PySem PyProof.Rows
variable{many:Nat}
theorem iz(a c:Int){b:Int}(hb:0<b)(hc:0<=c)(h:c+b<=1000000):dG (c+a%b):=by
 have a1:0<=a%b:=bH _ (by omega)
 have a2:a%b<b:=bL _ hb;exact⟨by omega,by omega⟩
theorem oQ(a:Int){b:Int}(hb:0<b)(h:b<=1000000):dG (a%b):=by
 have:=iz a 0 hb (by omega) (by omega)
 rw[Int.zero_add]at this;exact this
theorem getD_mem{l:List Str}{k:Nat}(h:k<l.length):l.getD k ""∈l:=by
 rw[aG,aw h];exact cK _
theorem P7(m:Int)(h:many<=60):z8 (lH m many):=by
 unfold lH
 split
 ·trivial
 split
 ·exact⟨iz _ 1 (by decide) (by decide) (by decide),oQ _ (by decide) (by decide)⟩
 split
 ·exact iz _ 1 (by decide) (by decide) (by decide)
 split
 ·split
  ·trivial
  ·exact oQ _ (by decide) (by decide)
 split
 ·refine⟨by rw[aj,dY];exact h,λz hz=>?_⟩
  obtain⟨k,_,rfl⟩:=aI.mp hz;exact iz _ 1 (by decide) (by decide) (by decide)
 ·trivial
theorem Aa(m:Int)(h:many<=12):iX (lH m many) many<=12:=by
 have a2:m/6%4<4:=bL _ (by decide)
 unfold lH
 split
 ·show(many:Int)<=12;omega
 split
 ·show 1+m/6%4<=12;omega
 split
 ·show 1+m/6%4<=12;omega
 split
 ·show(1:Int)<=12;omega
 split
 ·show(1:Int)<=12;omega
 ·show(1:Int)<=12;omega
theorem Ji{cell:Int}{places lines:List Str}(h1:1<=places.length)(h12:places.length<=12){d:Dk}(hd:d∈cf cell places lines):
  dH d.name/\d.to∈lines ++ [("":Str)]/\z8 d.rule/\d.places.length<=places.length/\(∀x∈d.places,x∈places)/\iX d.rule d.places.length<=12:=by
 obtain⟨k,hk,rfl⟩:=aI.mp hd;have hk:=cY.mp hk;have tl:=iC cell (k_ cell places.length) places places.length;have uB:(ez cell (k_ cell places.length) places places.length).getD k []∈ez cell (k_ cell places.length) places places.length:=by
  rw[aG,aw (by omega)]
  exact cK _
 obtain⟨r1,r2⟩:=uh cell _ places _ _ uB;refine⟨kj (getD_mem (by rw[fK];exact hk)),(Dd cell lines k).2,P7 _ (by omega),r1,r2 (aA _),Aa _ (by omega)⟩
theorem Jj(ns:List Int):ji (hU ns):=by
 obtain⟨k1,k4⟩:=ni (h8 ns);obtain⟨g1,g3⟩:=km (b8 ns);obtain⟨p1,p6⟩:=lJ (b8 ns);have hll:(linesOf (b8 ns)).length<=6:=by unfold linesOf;rw[cP];omega
 have N8:(orderOf (b8 ns)).length=(placesOf (b8 ns)).length:=by
  unfold orderOf;rw[a8,cP,bW];have:=ui (b8 ns) (n:=(placesOf (b8 ns)).length) (by omega)
  omega
 have Y9:∀x∈placesOf (b8 ns),dH x:=λx hx=>kj hx
 have hon:∀x∈orderOf (b8 ns),dH x:=λx hx=>by
  rcases bX.mp hx with hx|hx
  ·exact Y9 x (eM hx)
  ·exact Y9 x (eL hx)
 have TL:∀x∈linesOf (b8 ns),dH x:=λx hx=>Y9 x (eM hx)
 have hkl:(cO (h8 ns)).length=jG (h8 ns):=by simp[cO]
 have QX:∀q∈cO (h8 ns),dH q.1/\GR (o7 q.2):=λq hq=>by
  obtain⟨k,hk,rfl⟩:=aI.mp hq;have hk:=cY.mp hk;refine⟨kj (getD_mem (by rw[fK];exact hk)),?_⟩
  show GR (o7 (vg _));unfold vg
  split
  ·exact iz _ 1 (by decide) (by decide) (by decide)
  ·trivial
 have Mm:(cf (f7 ns) (orderOf (b8 ns)) (linesOf (b8 ns))).length<=4:=by rw[rq];exact(nh (f7 ns) (by omega)).2.1
 have Jg:∀d∈cf (f7 ns) (orderOf (b8 ns)) (linesOf (b8 ns)),_:=λd hd=>Ji (by omega) (by omega) hd
 have htl:=rj (f7 ns) (cf (f7 ns) (orderOf (b8 ns)) (linesOf (b8 ns))) (cO (h8 ns)) (by omega) _ (aA _)
 have hhl:=rm (f7 ns) (cf (f7 ns) (orderOf (b8 ns)) (linesOf (b8 ns))) _ (aA _)
 generalize hD:cf (f7 ns) (orderOf (b8 ns)) (linesOf (b8 ns))=iS at *
 have e0:hU ns=⟨cO (h8 ns),lI (b8 ns),(cp (linesOf (b8 ns)).length).map (roomAt (b8 ns) iS (linesOf (b8 ns))),iS,hC (f7 ns) iS (cO (h8 ns)) iS.length,jb (f7 ns) iS iS.length⟩:=by rw[<-hD];rfl
 rw[e0];refine⟨by show(cO (h8 ns)).length<=60;omega,?_,?_,by show iS.length<=60;omega,by show(hC _ _ _ _).length<=600;omega,by show(jb _ _ _).length<=600;omega,QX,λg hg=>Y9 g (eL hg),λq hq=>?_,λd hd=>?_,λq hq=>?_,λq hq=>?_⟩
 ·show(lI (b8 ns)).length<=60
  unfold lI;rw[bW];omega
 ·show((cp (linesOf (b8 ns)).length).map _).length<=60
  rw[aj,dY];omega
 ·obtain⟨k,hk,rfl⟩:=aI.mp hq
  have hk:=cY.mp hk;refine⟨TL _ (getD_mem hk),?_⟩
  have mo:=rg (jH iS ((linesOf (b8 ns)).getD k ""));have mb:maxOf (jH iS ((linesOf (b8 ns)).getD k ""))<=12:=by
   rcases aJ.mp mo.1 with h|h
   ·rw[h];decide
   ·obtain⟨d,hd,he⟩:=jJ.mp h
    split at he
    ·rw[<-c9 he];exact(Jg d hd).2.2.2.2.2
    ·cases he
  have ml:=mo.2 1 aO;exact iz _ _ (by decide) (by omega) (by omega)
 ·obtain⟨d1,d2,d3,d4,d5,_⟩:=Jg d hd
  refine⟨d1,?_,d3,by omega,λx hx=>hon x (d5 x hx)⟩
  rcases bX.mp d2 with h|h
  ·exact .inr (TL _ h)
  ·exact .inl (a_.mp h)
 ·obtain⟨⟨d,i⟩,hd,hq⟩:=yL.mp hq
  have UJ:d∈iS:=by
   have:=eL hd;exact kA this
  obtain⟨⟨kd,j⟩,hk,hq⟩:=jJ.mp hq;have hkm:kd∈cO (h8 ns):=kA (eL hk);unfold vh at hq
  split at hq
  ·cases hq
   exact⟨(Jg d UJ).1,(QX kd hkm).1,iz _ 1 (by decide) (by decide) (by decide)⟩
  ·cases hq
 ·obtain⟨⟨d,i⟩,hd,hq⟩:=yL.mp hq
  have UJ:d∈iS:=kA (eL hd);have hn:=(Jg d UJ).1;unfold kP at hq
  split at hq
  ·rcases aJ.mp hq with rfl|hq
   ·exact⟨hn,oQ _ (by decide) (by decide),iz _ 9 (by decide) (by decide) (by decide)⟩
   ·rw[a_.mp hq]
    exact⟨hn,iz _ 25 (by decide) (by decide) (by decide),iz _ 50 (by decide) (by decide) (by decide)⟩
  ·cases hq
def jj(x:Str):Prop:=x≠""/\32∉x.cps.toList/\10∉x.cps.toList
theorem jj.one{x:Str}(h:jj x):wordsOf x=[x]:=xR h.1 h.2.1
theorem rB{l k:Str}(hl:l=k++" ")(hk:jj k)(x:Str):wordsOf (l++x)=k::wordsOf x:=by
 rw[hl,mF,hk.one];rfl
theorem vm{l k:Str}(hl:l=" "++k++" ")(hk:jj k)(x y:Str):wordsOf (x++l++y)=wordsOf x++k::wordsOf y:=by
 have e:x++l++y=x++" "++(k++" "++y):=by
  rw[hl];apply str_inj;simp only[add_list,fJ]
 rw[e,mF,mF,hk.one];rfl
theorem qu{d:aq}(h:GR d):jj (eI d):=by
 have e:jj "-":=by unfold jj;decide +kernel
 cases d with
 |none=>exact e
 |int i=>exact nu h.1 h.2
 |str x=>
  show jj (if x="" then "-" else x)
  split
  ·exact e
  ·rename_i hx
   rcases h with h|h
   ·exact absurd h hx
   ·exact fH h
 |_=>exact h.elim
theorem vn{r:Rl}(h:z8 r):∀w∈di r,jj w:=by
 intro w hw;by_cases ht:∃sh,r=.turns sh
 ·obtain⟨sh,rfl⟩:=ht
  rcases aJ.mp hw with rfl|hw
  ·unfold jj;decide +kernel
  ·obtain⟨z,hz,rfl⟩:=aI.mp hw
   exact nu (h.2 z hz).1 (h.2 z hz).2
 ·have Dh:∀sh,r≠.turns sh:=λsh z=>ht ⟨sh,z⟩
  have hok:=z_ Dh h;have Nf:di r=pZ r::(tE r).map eI:=by
   cases r with
   |turns sh=>exact absurd rfl (Dh sh)
   |_=>rfl
  rw[Nf]at hw;rcases aJ.mp hw with rfl|hw
  ·cases r<;>dsimp only[pZ,jj]<;>decide +kernel
  ·obtain⟨z,hz,rfl⟩:=aI.mp hw
   exact qu (hok z hz)
theorem GV{q:Str×Option Int}(h:dH q.1/\GR (o7 q.2)):wordsOf (rA q)=[("kind":Str),q.1,eI (o7 q.2)]:=by
 unfold rA;rw[mF,rB (k:="kind") (by decide +kernel) (by unfold jj;decide +kernel),(show jj q.1 from fH h.1).one,(qu h.2).one];rfl
theorem GW{g:Str}(h:dH g):wordsOf (nZ g)=[("gate":Str),g]:=by
 unfold nZ;rw[rB (k:="gate") (by decide +kernel) (by unfold jj;decide +kernel),(show jj g from fH h).one]
theorem GX{q:Str×Int}(h:dH q.1/\dG q.2):wordsOf (n_ q)=[("line":Str),q.1,dE q.2]:=by
 unfold n_;rw[mF,rB (k:="line") (by decide +kernel) (by unfold jj;decide +kernel),(show jj q.1 from fH h.1).one,(show jj (dE q.2)from nu h.2.1 h.2.2).one];rfl
theorem GY{d:Dk}(h:dH d.name/\(d.to=""\/dH d.to)/\z8 d.rule/\d.places.length<=60/\∀x∈d.places,dH x):wordsOf (mO d)=[("desk":Str),d.name,"to",eI (.str d.to),"by"]++di d.rule ++ [("from":Str)]++d.places:=by
 obtain⟨h1,h2,h3,h4,h5⟩:=h;have UI:GR (.str d.to):=h2;have hr:wordsOf (qt d.rule)=di d.rule:=nr λw hw=>⟨(vn h3 w hw).1,(vn h3 w hw).2.1⟩
 have hp:wordsOf (cj " " d.places)=d.places:=nr λw hw=>⟨(fH (h5 w hw)).1,(fH (h5 w hw)).2.1⟩
 unfold mO oN;rw[vm (k:="from") (by decide +kernel) (by unfold jj;decide +kernel),vm (k:="by") (by decide +kernel) (by unfold jj;decide +kernel),vm (k:="to") (by decide +kernel) (by unfold jj;decide +kernel),rB (k:="desk") (by decide +kernel) (by unfold jj;decide +kernel),(show jj d.name from fH h1).one,(qu UI).one,hr,hp]
 simp
theorem GZ{q:Str×Str×Int}(h:dH q.1/\dH q.2.1/\dG q.2.2):wordsOf (og q)=[("time":Str),q.1,q.2.1,dE q.2.2]:=by
 refine nr λw hw=>?_
 have:jj w:=by
  simp only[aJ,b7,or_false]at hw;rcases hw with rfl|rfl|rfl|rfl
  ·unfold jj;decide +kernel
  ·exact fH h.1
  ·exact fH h.2.1
  ·exact nu h.2.2.1 h.2.2.2
 exact⟨this.1,this.2.1⟩
theorem G5{q:Str×Int×Int}(h:dH q.1/\dG q.2.1/\dG q.2.2):wordsOf (pJ q)=[("open":Str),q.1,dE q.2.1,dE q.2.2]:=by
 refine nr λw hw=>?_
 have:jj w:=by
  simp only[aJ,b7,or_false]at hw;rcases hw with rfl|rfl|rfl|rfl
  ·unfold jj;decide +kernel
  ·exact fH h.1
  ·exact nu h.2.1.1 h.2.1.2
  ·exact nu h.2.2.1 h.2.2.2
 exact⟨this.1,this.2.1⟩
end Mg
namespace Mg
open L2 PySem PyProof.Rows
seal L2.VE L2.VS L2.rO L2.VT L2.VO L2.O2
variable{p:aN}{fd:fN}{H:Hp}{n:Int}{l:List Str}{d:aq}{K:av}{r:Rl}{x:Str}
theorem BW{c:Nat}{y:Str}(hy:c∉y.cps.toList):∀{l:List Str},(∀x∈l,c∉x.cps.toList)->c∉(cj y l).cps.toList
 | [],_=>by show c∉([]:List Nat);simp
 | [x],h=>h x aO
 |x::z::l,h=>by
  show c∉(x++y++cj y (z::l)).cps.toList;rw[add_list,add_list];simp only[bX,not_or];exact⟨⟨h x aO,hy⟩,BW hy λu hu=>h u (aU _ hu)⟩
theorem G7(l:List Str):∀k,((l.zipIdx k).filterMap λp=>if(wordsOf p.1).isEmpty then none else some (p.2,wordsOf p.1)).map (·.2)=(l.map wordsOf).filter λws=>!ws.isEmpty:=by
 induction l with
 |nil=>intro k;rfl
 |cons x l ih=>
  intro k;rw[nE,aR,jq];cases hx:(wordsOf x).isEmpty with
  |true=>
   rw[ei (by simp only[hx];rfl),ih]
   rfl
  |false=>
   rw[c7 (b:=(k,wordsOf x)) (by simp only[hx];rfl),aR,ih]
   rfl
theorem Di(h:∀r∈l,10∉r.cps.toList):(rowsOf (cj "\n" l)).map (·.2)=(l.map wordsOf).filter λws=>!ws.isEmpty:=by
 cases l with
 |nil=>
  show(rowsOf "").map _=[]
  unfold rowsOf;rw[M_,vk (by decide +kernel)]
  show(List.filterMap _ [(("":Str),0)]).map _=[]
  rw[ei (by simp only[oK];rfl)]
  rfl
 |cons x l=>rw[xS (by simp) h];exact G7 _ 0
inductive Sh where
 |name|number|count|share|mI|ny|mP
def Sh.tx:Sh->Str
 | .name=>"name"
 | .number=>"number"
 | .count=>"count"
 | .share=>"share"
 | .mI=>"count or -"
 | .ny=>"name or -"
 | .mP=>"number or -"
def kS(x:Str):Bool:=isNumber x && !decide (x="0")
def mn:Sh->Str->Bool
 | .name,x=>isName x
 | .number,x=>isNumber x
 | .count,x=>kS x
 | .share,x=>kS x&&decide ((x.length:Int)=1)
 | .mI,x=>decide (x="-")||kS x
 | .ny,x=>decide (x="-")||isName x
 | .mP,x=>decide (x="-")||isNumber x
def Dj(x:Str):Int:=(intText? x).getD 0
def iZ:Sh->Str->aq
 | .name,x=>.str x
 | .ny,x=>.str (if x="-" then "" else x)
 |_,x=>if x="-" then .none else .int (Dj x)
def Sh.base:Sh->Bool
 | .name=>true
 | .number=>true
 | .count=>true
 |_=>false
theorem Sh.ok(s:Sh):mj s.tx:=by cases s<;>(show cn (.str _)=true)<;>decide +kernel
theorem oS(h:isNumber x=true):1<=x.length/\x.length<=6/\∀c∈x.cps.toList,48<=c/\c<=57:=by
 unfold isNumber at h;have h:=(dC.mp h).1;unfold lG at h;obtain⟨h1,h2⟩:=dC.mp h;obtain⟨h3,h4⟩:=dC.mp h1;have h3:=of_decide_eq_true h3;have h4:=of_decide_eq_true h4;refine⟨by omega,by omega,λc hc=>?_⟩
 have:=eV.mp h2 c hc;have e:zI (one c) "0123456789"=decide (c∈("0123456789":Str).cps.toList):=vO ..;rw[e,EL]at this;obtain⟨i,hi,rfl⟩:=aI.mp (of_decide_eq_true this);have:=cY.mp hi;omega
theorem Bc(h:isNumber x=true):intText? x=some (Dj x):=by
 obtain⟨h1,h2,h3⟩:=oS h;have hd:HZ x.cps.toList:=λc hc=>h3 c hc
 have hl:x.cps.toList.length=x.length:=cq;have e:=intText_digits hd (λz=>by rw[z]at hl;simp only[cv]at hl;omega) (by omega)
 unfold Dj;rw[e];rfl
theorem ER(h:dG n):Dj (dE n)=n:=by unfold Dj;rw[num_reads h.1 h.2];rfl
theorem rC(h:kS x=true):isNumber x=true:=(dC.mp h).1
theorem yl{s:Sh}(h:mn s x=true)(h1:s≠.name)(h2:s≠.ny)(hx:x≠"-"):isNumber x=true:=by
 cases s with
 |name=>exact absurd rfl h1
 |ny=>exact absurd rfl h2
 |number=>exact h
 |count=>exact rC h
 |share=>exact rC (dC.mp h).1
 |mI=>
  rcases Bool.or_eq_true_iff.mp h with h|h
  ·exact absurd (of_decide_eq_true h) hx
  ·exact rC h
 |mP=>
  rcases Bool.or_eq_true_iff.mp h with h|h
  ·exact absurd (of_decide_eq_true h) hx
  ·exact h
section
variable{P:bM}{w:cy}{K:av}{mg:Str->Option aD}{base:dq}{f:aN}{k:Nat}
abbrev K':List Str:=["shape","word"]
theorem Rc:cG K' K' (bJ (top 31)):=⟨rfl,rfl,rfl,by decide +kernel,rfl,by decide +kernel,by decide +kernel⟩
def UK(b:Bool)(ds:List aq)(d:aq):Prop:=∃(s:Sh)(x:Str),ds=[.str s.tx,.str x]/\pH x/\(b=true\/s.base=true)/\d=.bool (mn s x)
theorem aY(h:cn (.str x)=true:=by decide +kernel):Lay 20 (.str x):=bq h
theorem W'{fb:Bool}(n:Na mg)(C1:bG P w K mg base 2 "is_name" ["word"] (gX K N9))(C2:bG P w K mg base 2 "is_number" ["word"] (gX K WW))(k2:2<=k)(C3:fb=true->bG P w K mg base k "fits" K' (gX K (UK false))){ds:List aq}(h:UK fb ds d):yg P w K mg base K' "fits" (top 31) f k ds (.rt d):=by
 obtain⟨s,x,rfl,ox,hb,rfl⟩:=h;intro gy A outer sh H E hr;have UH:fZ 2 _:=hr.mono k2;have ls:=bq (n:=20) s.ok;have lx:=bq (n:=20) ox.2;cases s with
 |name=>exact cH (cR (VT.to (b_ hr ls aY (ai 0 rfl) aF) (by rw[bS];exact decide_eq_true rfl)) (aS (bV (bw C1 UH (ao (ai 1 rfl) aK) ⟨x,rfl,ox.1,rfl⟩)))) rfl
 |number=>
  refine ay (bN (VT.to (b_ hr ls aY (ai 0 rfl) aF) (by rw[bS];decide +kernel)) bp) ?_
  exact cH (cR (VT.to (b_ hr ls aY (ai 0 rfl) aF) (by rw[bS];exact decide_eq_true rfl)) (aS (bV (bw C2 UH (ao (ai 1 rfl) aK) ⟨x,rfl,ox,rfl⟩)))) rfl
 |count=>
  refine ay (bN (VT.to (b_ hr ls aY (ai 0 rfl) aF) (by rw[bS];decide +kernel)) bp) ?_
  refine ay (bN (VT.to (b_ hr ls aY (ai 0 rfl) aF) (by rw[bS];decide +kernel)) bp) ?_
  exact cH (cR (VT.to (b_ hr ls aY (ai 0 rfl) aF) (by rw[bS];exact decide_eq_true rfl)) (aS (bV (VE.to (kZ (bw C2 UH (ao (ai 1 rfl) aK) ⟨x,rfl,ox,rfl⟩) (λ_=>jg (II hr lx aY (ai 1 rfl) aF))) (by rw[bS];rfl))))) rfl
 |share=>
  have C3:=C3 (hb.resolve_right (by decide))
  refine ay (bN (VT.to (b_ hr ls aY (ai 0 rfl) aF) (by rw[bS];decide +kernel)) bp) ?_
  refine ay (bN (VT.to (b_ hr ls aY (ai 0 rfl) aF) (by rw[bS];decide +kernel)) bp) ?_
  refine ay (bN (VT.to (b_ hr ls aY (ai 0 rfl) aF) (by rw[bS];decide +kernel)) bp) ?_
  exact cH (cR (VT.to (b_ hr ls aY (ai 0 rfl) aF) (by rw[bS];exact decide_eq_true rfl)) (aS (bV (VE.to (kZ (bw C3 hr (ao aF (ao (ai 1 rfl) aK)) ⟨.count,x,rfl,ox,.inr rfl,rfl⟩) (λ_=>jg (pE hr (cx 20 _) (cx 20 _) (qW (ai 1 rfl) (small (by have:=ox.1;omega)) n.len) ax))) (by rw[jU];rfl))))) rfl
 |mI=>
  have C3:=C3 (hb.resolve_right (by decide))
  refine ay (bN (VT.to (b_ hr ls aY (ai 0 rfl) aF) (by rw[bS];decide +kernel)) bp) ?_
  refine ay (bN (VT.to (b_ hr ls aY (ai 0 rfl) aF) (by rw[bS];decide +kernel)) bp) ?_
  refine ay (bN (VT.to (b_ hr ls aY (ai 0 rfl) aF) (by rw[bS];decide +kernel)) bp) ?_
  refine ay (bN (VT.to (b_ hr ls aY (ai 0 rfl) aF) (by rw[bS];decide +kernel)) bp) ?_
  have yN:(bR (Sh.mI.tx) " ").map aH=[.str "count",.str "or",.str "-"]:=by rw[show bR (Sh.mI.tx) " "=[("count":Str),"or","-"]from by decide +kernel];rfl
  exact aS (bV (VE.to (uK (pE hr lx aY (ai 1 rfl) aF) (λ_=>jg (bw C3 hr (ao (dJ (VE.to (VO.ve (ng (ai 0 rfl) aF rfl (small (by decide)))) (by rw[yN])) ax (a9 (j:=0) rfl)) (ao (ai 1 rfl) aK)) ⟨.count,x,rfl,ox,.inr rfl,rfl⟩))) (by rw[bS];rfl)))
 |ny=>
  have C3:=C3 (hb.resolve_right (by decide))
  refine ay (bN (VT.to (b_ hr ls aY (ai 0 rfl) aF) (by rw[bS];decide +kernel)) bp) ?_
  refine ay (bN (VT.to (b_ hr ls aY (ai 0 rfl) aF) (by rw[bS];decide +kernel)) bp) ?_
  refine ay (bN (VT.to (b_ hr ls aY (ai 0 rfl) aF) (by rw[bS];decide +kernel)) bp) ?_
  refine ay (bN (VT.to (b_ hr ls aY (ai 0 rfl) aF) (by rw[bS];decide +kernel)) bp) ?_
  have yN:(bR (Sh.ny.tx) " ").map aH=[.str "name",.str "or",.str "-"]:=by rw[show bR (Sh.ny.tx) " "=[("name":Str),"or","-"]from by decide +kernel];rfl
  exact aS (bV (VE.to (uK (pE hr lx aY (ai 1 rfl) aF) (λ_=>jg (bw C3 hr (ao (dJ (VE.to (VO.ve (ng (ai 0 rfl) aF rfl (small (by decide)))) (by rw[yN])) ax (a9 (j:=0) rfl)) (ao (ai 1 rfl) aK)) ⟨.name,x,rfl,ox,.inr rfl,rfl⟩))) (by rw[bS];rfl)))
 |mP=>
  have C3:=C3 (hb.resolve_right (by decide))
  refine ay (bN (VT.to (b_ hr ls aY (ai 0 rfl) aF) (by rw[bS];decide +kernel)) bp) ?_
  refine ay (bN (VT.to (b_ hr ls aY (ai 0 rfl) aF) (by rw[bS];decide +kernel)) bp) ?_
  refine ay (bN (VT.to (b_ hr ls aY (ai 0 rfl) aF) (by rw[bS];decide +kernel)) bp) ?_
  refine ay (bN (VT.to (b_ hr ls aY (ai 0 rfl) aF) (by rw[bS];decide +kernel)) bp) ?_
  have yN:(bR (Sh.mP.tx) " ").map aH=[.str "number",.str "or",.str "-"]:=by rw[show bR (Sh.mP.tx) " "=[("number":Str),"or","-"]from by decide +kernel];rfl
  exact aS (bV (VE.to (uK (pE hr lx aY (ai 1 rfl) aF) (λ_=>jg (bw C3 hr (ao (dJ (VE.to (VO.ve (ng (ai 0 rfl) aF rfl (small (by decide)))) (by rw[yN])) ax (a9 (j:=0) rfl)) (ao (ai 1 rfl) aK)) ⟨.number,x,rfl,ox,.inr rfl,rfl⟩))) (by rw[bS];rfl)))
theorem Xa(F:kM K "fits" "fits" (top 31) f fd)(n:Na mg)(C1:bG P w K mg base 2 "is_name" ["word"] (gX K N9))(C2:bG P w K mg base 2 "is_number" ["word"] (gX K WW)):eQ P w K mg base jE 3 f fd K' (gX K (UK false)):=
 jA F Rc (λ_ _ h=>by obtain⟨_,_,rfl,_⟩:=h;rfl) λ_ _ h=>W' n C1 C2 (aA _) (λz=>by cases z) h
theorem zbr(F:kM K "fits" "fits" (top 31) f fd)(n:Na mg)(C1:bG P w K mg base 2 "is_name" ["word"] (gX K N9))(C2:bG P w K mg base 2 "is_number" ["word"] (gX K WW))(C3:bG P w K mg base 3 "fits" K' (gX K (UK false))):eQ P w K mg base jE 4 f fd K' (gX K (UK true)):=
 jA F Rc (λ_ _ h=>by obtain⟨_,_,rfl,_⟩:=h;rfl) λ_ _ h=>W' n C1 C2 (by decide) (λ_=>C3) h
theorem Xb:cG K' K' (bJ (top 32)):=⟨rfl,rfl,rfl,by decide +kernel,rfl,by decide +kernel,by decide +kernel⟩
def Rvo(ds:List aq)(d:aq):Prop:=∃(s:Sh)(x:Str),ds=[.str s.tx,.str x]/\pH x/\mn s x=true/\d=iZ s x
theorem zbs(F:kM K "value_of" "value_of" (top 32) f fd)(n:Na mg):eQ P w K mg base jE 1 f fd K' (gX K Rvo):=
 jA F Xb (λ_ _ h=>by obtain⟨_,_,rfl,_⟩:=h;rfl) λ_ _ h=>by
  obtain⟨s,x,rfl,ox,hf,rfl⟩:=h;intro gy A outer sh H E hr;have ls:=bq (n:=20) s.ok;have lx:=bq (n:=20) ox.2;by_cases h1:s=.name
  ·subst h1
   exact cH (cR (VT.to (b_ hr ls aY (ai 0 rfl) aF) (by rw[bS];exact decide_eq_true rfl)) (aS (bV (ai 1 rfl)))) rfl
  ·have d1:s.tx≠"name":=by cases s<;>first|exact absurd rfl h1|(dsimp only[Sh.tx];decide +kernel)
   refine ay (bN (VT.to (b_ hr ls aY (ai 0 rfl) aF) (by rw[bS];exact decide_eq_false d1)) bp) ?_
   by_cases h2:s=.ny
   ·subst h2
    refine cH (cR (VT.to (b_ hr ls aY (ai 0 rfl) aF) (by rw[bS];exact decide_eq_true rfl)) (aS (bV (xA (k:=decide (x="-")) (VT.to (b_ hr lx aY (ai 1 rfl) aF) (by rw[bS])) (λz=>VE.to aF ?_) (λz=>VE.to (ai 1 rfl) ?_))))) rfl
    ·show aH ""=.str (if x="-" then "" else x);rw[if_pos (of_decide_eq_true z)]
    ·show aH x=.str (if x="-" then "" else x);rw[if_neg (of_decide_eq_false z)]
   ·have d2:s.tx≠"name or -":=by cases s<;>first|exact absurd rfl h2|exact absurd rfl h1|(dsimp only[Sh.tx];decide +kernel)
    have ev:iZ s x=if x="-" then .none else .int (Dj x):=by cases s<;>first|exact absurd rfl h1|exact absurd rfl h2|rfl
    rw[ev];refine ay (bN (VT.to (b_ hr ls aY (ai 0 rfl) aF) (by rw[bS];exact decide_eq_false d2)) bp) ?_
    refine aS (bV (xA (k:=decide (x="-")) (VT.to (b_ hr lx aY (ai 1 rfl) aF) (by rw[bS])) (λz=>VE.to eB (by rw[if_pos (of_decide_eq_true z)])) (λz=>VE.to (yU (ai 1 rfl) (Bc (yl hf h1 h2 (of_decide_eq_false z))) (by have:=(oS (yl hf h1 h2 (of_decide_eq_false z))).2.1;omega) n.int) (by rw[if_neg (of_decide_eq_false z)]))))
def EV(qv:List Sh):aq:=.tuple (qv.map λs=>.str s.tx)
def tJ(qv:List Sh)(ws:List Str):Bool:=decide (ws.length=qv.length)&&(qv.zip ws).all λp=>mn p.1 p.2
def pK(qv:List Sh)(ws:List Str):List aq:=(qv.zip ws).map λp=>iZ p.1 p.2
def jW(qv:List Sh)(ws:List Str):aq:=if tJ qv ws then .tuple (pK qv ws)else .none
abbrev UL:List Str:=["shapes","words"]
theorem Xc:cG UL UL (bJ (top 33)):=⟨rfl,rfl,rfl,by decide +kernel,rfl,by decide +kernel,by decide +kernel⟩
def Y_(ds:List aq)(d:aq):Prop:=∃(qv:List Sh)(ws:List Str),ds=[EV qv,dP ws]/\qv.length<=1000/\ws.length<=100002/\(∀x∈ws,pH x)/\d=jW qv ws
def EW(x:Str):Sh:=if x="name" then .name else if x="number" then .number else if x="count" then .count else if x="share" then .share else if x="count or -" then .mI else if x="name or -" then .ny else .mP
theorem wx(s:Sh):EW s.tx=s:=by
 cases s<;>rfl
def TN:aq->Option aq
 | .tuple [.str s,.str x]=>some (.bool (mn (EW s) x))
 |_=>none
def Xd:aq->Option aq
 | .tuple [.str s,.str x]=>some (iZ (EW s) x)
 |_=>none
theorem tK:∀(qv:List Sh)(ws:List Str),zL (qv.map λs=>aH s.tx) (ws.map aH)=(qv.zip ws).map λp=>.tuple [.str p.1.tx,.str p.2]
 | [],_=>rfl
 |_::_,[]=>rfl
 |s::qv,x::ws=>by
  have:=tK qv ws;unfold zL at this ⊢;rw[aR,aR,lu,lu,aR,aR,this]
theorem EX(qv:List Sh)(ws:List Str):(zL (qv.map λs=>aH s.tx) (ws.map aH)).filterMap TN=((qv.zip ws).map λp=>mn p.1 p.2).map .bool:=by
 rw[tK,cW,bC];exact filterMap_some λp _=>by show some (lq (mn (EW p.1.tx) p.2))=_;rw[wx];rfl
theorem Nh(qv:List Sh)(ws:List Str):(zL (qv.map λs=>aH s.tx) (ws.map aH)).filterMap Xd=pK qv ws:=by
 unfold pK;rw[tK,cW];exact filterMap_some λp _=>by show some (iZ (EW p.1.tx) p.2)=_;rw[wx]
theorem zbt(F:kM K "values_of" "values_of" (top 33) f fd)(n:Na mg)(mz:mg "zip"=none)(C1:bG P w K mg base 4 "fits" K' (gX K (UK true)))(C2:bG P w K mg base 1 "value_of" K' (gX K Rvo)):eQ P w K mg base jE 5 f fd UL (gX K Y_):=
 jA F Xc (λ_ _ h=>by obtain⟨_,_,rfl,_⟩:=h;rfl) λ_ _ h=>by
  obtain⟨qv,ws,rfl,Eh,hw1,hok,rfl⟩:=h;intro gy A outer sh H E hr;have o8:fZ 1 _:=hr.mono (by omega)
  have nc:(["shape","word"]:List Str).Nodup:=by decide +kernel
  have hzl:(zL (qv.map λs=>aH s.tx) (ws.map aH)).length<=1000:=by rw[tK,aj,List.length_zip];omega
  have hlen:∀b,decide (ws.length=qv.length)=b->cU (.int ((ws.map aH).length:Nat)) (.int ((qv.map λs=>aH s.tx).length:Nat))=b:=λb hb=>by
   rw[jU,aj,aj,<-hb,ic,decide_eq_true_iff,decide_eq_true_iff];omega
  have v7:∀d∈zL (qv.map λs=>aH s.tx) (ws.map aH),∃s x,d=.tuple [.str (Sh.tx s),.str x]/\(s,x)∈qv.zip ws/\pH x:=λd hd=>by
   rw[tK]at hd;obtain⟨p,hp,rfl⟩:=aI.mp hd;exact⟨p.1,p.2,rfl,hp,hok _ (sA hp).2⟩
  by_cases hl:ws.length=qv.length
  ·have yE:∀b,((qv.zip ws).all λp=>mn p.1 p.2)=b->m_ ((qv.zip ws).map λp=>mn p.1 p.2)=b:=λb hb=>by
    unfold m_;rw[oW];exact hb
   by_cases ha:((qv.zip ws).all λp=>mn p.1 p.2)=true
   ·have ev:jW qv ws=.tuple (pK qv ws):=by unfold jW tJ;rw[ha,decide_eq_true hl];rfl
    rw[ev];refine ay (bN (VT.to (iU (k1:=false) (k2:=false) (VT.to (g7 hr (cx 20 _) (cx 20 _) (gS (ai 1 rfl) n.len) (lE (ai 0 rfl) n.len)) (by rw[hlen true (decide_eq_true hl)];rfl)) (λ_=>VT.to (gQ (e9 (h7 (kN rfl) uL (ao (VO.ve (VO.to (fw (own:=["shape","word"]) (cap:=[]) (N:=["shape","word"]) (cl:=[]) (tgt:=.tup [0,1]) (F:=TN) rfl ⟨rfl,by decide +kernel,by decide +kernel,rfl,rfl,by simp⟩ (Gp .tup .lst (ai 0 rfl) (ai 1 rfl) mz) (λf s3 H3=>fz rfl (bO (bD (i:=0) nc rfl (aV rfl)) (bO (bD (i:=1) nc rfl (aV rfl)) eu))) rfl
     (small (by omega)) (λd hd=>?_)) (EX qv ws))) aK) n.all rfl) (t:=true) (by show some _=some _;rw[yE true ha]))) rfl)) rfl) bp) ?_
    ·obtain⟨s,x,rfl,hp,ox⟩:=v7 d hd
     refine⟨_,rfl,λf s3 H3=>fu,λr jC f s3 H3=>?_⟩
     have jC:some (lq (mn (EW s.tx) x))=some r:=jC;rw[wx]at jC;cases jC;exact bw C1 hr (ao (ai 0 rfl) (ao (ai 1 rfl) aK)) ⟨s,x,rfl,ox,.inl rfl,rfl⟩
    refine aS (bV (k9 mN yR (ao (VO.ve (VO.to (fw (own:=["shape","word"]) (cap:=[]) (N:=["shape","word"]) (cl:=[]) (tgt:=.tup [0,1]) (F:=Xd) rfl ⟨rfl,by decide +kernel,by decide +kernel,rfl,rfl,by simp⟩ (Gp .tup .lst (ai 0 rfl) (ai 1 rfl) mz) (λf s3 H3=>fz rfl (bO (bD (i:=0) nc rfl (aV rfl)) (bO (bD (i:=1) nc rfl (aV rfl)) eu))) rfl
     (small (by omega)) (λd hd=>?_)) (Nh qv ws))) aK) n.tup rfl))
    obtain⟨s,x,rfl,hp,ox⟩:=v7 d hd;refine⟨_,rfl,λf s3 H3=>fu,λr jC f s3 H3=>?_⟩
    have jC:some (iZ (EW s.tx) x)=some r:=jC;rw[wx]at jC;cases jC;exact bw C2 o8 (ao (ai 0 rfl) (ao (ai 1 rfl) aK)) ⟨s,x,rfl,ox,eV.mp ha (s,x) hp,rfl⟩
   ·have ha:=Bool.not_eq_true _▸ha
    have ev:jW qv ws=.none:=by unfold jW tJ;rw[ha,o_];rfl
    rw[ev];refine cH (cR (VT.to (iU (k1:=false) (k2:=true) (VT.to (g7 hr (cx 20 _) (cx 20 _) (gS (ai 1 rfl) n.len) (lE (ai 0 rfl) n.len)) (by rw[hlen true (decide_eq_true hl)];rfl)) (λ_=>VT.to (gQ (e9 (h7 (kN rfl) uL (ao (VO.ve (VO.to (fw (own:=["shape","word"]) (cap:=[]) (N:=["shape","word"]) (cl:=[]) (tgt:=.tup [0,1]) (F:=TN) rfl ⟨rfl,by decide +kernel,by decide +kernel,rfl,rfl,by simp⟩ (Gp .tup .lst (ai 0 rfl) (ai 1 rfl) mz) (λf s3 H3=>fz rfl (bO (bD (i:=0) nc rfl (aV rfl)) (bO (bD (i:=1) nc rfl (aV rfl)) eu))) rfl
     (small (by omega)) (λd hd=>?_)) (EX qv ws))) aK) n.all rfl) (t:=false) (by show some _=some _;rw[yE false ha]))) rfl)) rfl) (aS (bV eB))) rfl
    obtain⟨s,x,rfl,hp,ox⟩:=v7 d hd;refine⟨_,rfl,λf s3 H3=>fu,λr jC f s3 H3=>?_⟩
    have jC:some (lq (mn (EW s.tx) x))=some r:=jC;rw[wx]at jC;cases jC;exact bw C1 hr (ao (ai 0 rfl) (ao (ai 1 rfl) aK)) ⟨s,x,rfl,ox,.inl rfl,rfl⟩
  ·have ev:jW qv ws=.none:=by unfold jW tJ;rw[decide_eq_false hl];rfl
   rw[ev];exact cH (cR (VT.to (iU (k1:=true) (k2:=true) (VT.to (g7 hr (cx 20 _) (cx 20 _) (gS (ai 1 rfl) n.len) (lE (ai 0 rfl) n.len)) (by rw[hlen false (decide_eq_false hl)];rfl)) (λz=>by cases z)) rfl) (aS (bV eB))) rfl
end
def tL:Rl->Nat->Prop
 | .meet,n=>2<=n
 | .gather m a,_=>1<=m/\dG m/\dG a
 | .many m,_=>1<=m/\dG m
 | .rank none,_=>True
 | .rank (some b),_=>dG b
 | .turns s,n=>s.length=n/\∀z∈s,1<=z/\z<=9
 | .eldest,_=>True
theorem TQ(h:dG n)(hx:Dj x≠n):dE n≠x:=λz=>hx (by rw[<-z,ER h])
theorem Ni(h:dG n):dE n≠"-":=λz=>by
 have hd:45∈(dE n).cps.toList:=by rw[z];decide +kernel
 have:=mG h.1 hd;omega
theorem om(h:dG n)(h1:1<=n):kS (dE n)=true:=by
 unfold kS;rw[xV h.1 h.2,decide_eq_false (TQ h (by rw[show Dj "0"=0 from by decide +kernel];omega))]
 rfl
theorem Kw(h1:1<=n)(h9:n<=9):mn .share (dE n)=true:=by
 have hs:dG n:=⟨by omega,by omega⟩
 show(kS (dE n)&&decide (((dE n).length:Int)=1))=true
 rw[om hs h1];rcases(by omega:n=1\/n=2\/n=3\/n=4\/n=5\/n=6\/n=7\/n=8\/n=9)with rfl|rfl|rfl|rfl|rfl|rfl|rfl|rfl|rfl<;>decide +kernel
theorem mQ{s:Sh}(h:dG n)(h1:s≠.name)(h2:s≠.ny):iZ s (dE n)=.int n:=by
 have e:iZ s (dE n)=if dE n="-" then .none else .int (Dj (dE n)):=by cases s<;>first|exact absurd rfl h1|exact absurd rfl h2|rfl
 rw[e,if_neg (Ni h),ER h]
theorem wy:∀s:List Int,(∀z∈s,1<=z/\z<=9)->tJ (bu s.length .share) (s.map dE)=true/\pK (bu s.length .share) (s.map dE)=s.map .int
 | [],_=>⟨rfl,rfl⟩
 |z::s,h=>by
  obtain⟨i1,i2⟩:=wy s λx hx=>h x (aU _ hx)
  obtain⟨z1,z9⟩:=h z aO;unfold tJ at i1 ⊢;unfold pK at i2 ⊢;obtain⟨j1,j2⟩:=dC.mp i1;rw[bh,eC,aR,lu,List.all_cons,aR,aR,i2];refine⟨?_,?_⟩
  ·rw[j2,show mn (Sh.share,dE z).1 (Sh.share,dE z).2=true from Kw z1 z9]
   simp
  ·rw[show iZ (Sh.share,dE z).1 (Sh.share,dE z).2=.int z from mQ (s:=.share) ⟨by omega,by omega⟩ (by intro z;cases z) (by intro z;cases z)]
def tM:Rl->List Sh
 | .rank _=>[.mP]
 | .many _=>[.count]
 | .gather _ _=>[.count,.number]
 |_=>[]
theorem EY{n:Nat}(h:tL r n)(ht:∀s,r≠.turns s):tJ (tM r) ((tE r).map eI)=true/\pK (tM r) ((tE r).map eI)=tE r:=by
 cases r with
 |meet=>exact⟨rfl,rfl⟩
 |eldest=>exact⟨rfl,rfl⟩
 |turns s=>exact absurd rfl (ht s)
 |many m=>
  obtain⟨h1,h2⟩:=h
  constructor
  ·show(true&&(kS (dE m)&&true))=true
   rw[om h2 h1];rfl
  ·show [iZ .count (dE m)]=[dO m]
   rw[mQ h2 (by intro z;cases z) (by intro z;cases z)]
 |gather m a=>
  obtain⟨h1,h2,h3⟩:=h
  constructor
  ·show(true&&(kS (dE m)&&(isNumber (dE a)&&true)))=true
   rw[om h2 h1,xV h3.1 h3.2];rfl
  ·show [iZ .count (dE m),iZ .number (dE a)]=[dO m,.int a]
   rw[mQ h2 (by intro z;cases z) (by intro z;cases z),mQ h3 (by intro z;cases z) (by intro z;cases z)]
 |rank b=>
  cases b with
  |none=>exact⟨by decide +kernel,rfl⟩
  |some b=>
   constructor
   ·show(true&&((decide (dE b="-")||isNumber (dE b))&&true))=true
    rw[xV h.1 h.2];simp
   ·show [iZ .mP (dE b)]=[dO b]
    rw[mQ h (by intro z;cases z) (by intro z;cases z)]
theorem tL.ok{n:Nat}(hn:n<=60)(h:tL r n):z8 r:=by
 cases r with
 |meet=>trivial
 |eldest=>trivial
 |gather m a=>exact h.2
 |many m=>exact h.2
 |rank b=>cases b with|none=>trivial|some b=>exact h
 |turns s=>exact⟨by have:=h.1;omega,λz hz=>by have:=h.2 z hz;exact⟨by omega,by omega⟩⟩
abbrev rD:List (Str×List Str):=[("kind",[("name":Str),"count or -"]),("gate",[("name":Str)]),("line",[("name":Str),"count"]),("time",[("name":Str),"name","count"]),("open",[("name":Str),"number","number"]),("pace",[("name":Str),"name","count","count"])]
abbrev wz:List (Str×List Str):=[("eldest",[]),("rank",[("number or -":Str)]),("many",[("count":Str)]),("gather",[("count":Str),"number"]),("meet",[])]
structure Np(mg:Str->Option aD)(pr:Ci)(K:av):Prop extends Na mg where
 zip:mg "zip"=none
 set:mg "set"=none
 any:mg "any"=none
 mp:∃t,mg "MOST_PLACES"=some (.int 6 t)
 fo:∃g,mg "FORMS"=some (.ref g)/\GD pr K g rD
 ru:∃g,mg "RULES"=some (.ref g)/\GD pr K g wz
theorem EZ{α:Type}(x:α):∀n,(bu n [x]).flatten=bu n x
 |0=>rfl
 |n+1=>by rw[eC,gi,EZ x n];rfl
theorem Ab(x:aq)(l:List aq):L2.cutD (x::l) (some 1) none=l:=(jI (x::l) 1).trans rfl
section
variable{P:bM}{w:cy}{K:av}{mg:Str->Option aD}{base:dq}{f:aN}{k:Nat}
abbrev Xe:List Str:=["words","many","shares","values"]
theorem Nj:cG Xe ["words","many"] (bJ (top 36)):=⟨rfl,rfl,rfl,by decide +kernel,rfl,by decide +kernel,by decide +kernel⟩
def Xf(ds:List aq)(d:aq):Prop:=∃(r:Rl)(n:Nat),ds=[dP (di r),.int n]/\1<=n/\n<=6/\tL r n/\d=Kn r
theorem Xg(F:kM K "rule_of" "rule_of" (top 36) f fd)(n:Np mg w.params K)(C:bG P w K mg base 5 "values_of" UL (gX K Y_)):eQ P w K mg base jE 6 f fd ["words","many"] (gX K Xf):=
 jA F Nj (λ_ _ h=>by obtain⟨_,_,rfl,_⟩:=h;rfl) λ_ _ h=>by
  obtain⟨r,m,rfl,m1,m6,hg,rfl⟩:=h;intro gy A outer s H E hr;have nd:Xe.Nodup:=Nj.nd;have UG:=hg.ok (by omega)
  by_cases ht:∃sh,r=.turns sh
  ·obtain⟨sh,rfl⟩:=ht
   obtain⟨hl,hz⟩:=hg;obtain⟨v1,v2⟩:=wy sh hz;have ev:jW (bu m .share) (sh.map dE)=.tuple (sh.map .int):=by unfold jW;rw[<-hl,v1,v2];rfl
   refine cH (cR (VT.to (b_ hr aY aY (dJ (ai 0 rfl) ax (a9 (j:=0) rfl)) aF) (by rw[bS];exact decide_eq_true rfl)) (ay (c6 2 (d:=.tuple (sh.map .int)) (bw C hr (ao (VE.to (Pp (fe (ao aF aK)) (ai 1 rfl) (by omega) (by omega) (by show 1<=100;decide) (by simp)) (k:=EV (bu m .share)) (by rw[EZ];unfold EV;rw[List.map_replicate,eJ];rfl)) (ao (VE.to (VO.ve (gR (ai 0 rfl) (.yes ax) .no)) (k:=dP (sh.map dE)) (by show yA (L2.cutD (_::_) _ _)=_;rw[Ab];rfl)) aK)) ⟨bu m .share,sh.map dE,rfl,by rw[dM];omega,by rw[aj];omega,λx hx=>?_,ev.symm⟩) nd) (aS (bV (xA (k:=false) (VT.to (fU iK kD (ai 2 rfl) eB (fA _)) rfl) (λz=>by cases z) (λ_=>VE.to (fe (ao aF (ao (ai 2 rfl) aK))) rfl)))))) rfl
   obtain⟨z,hz',rfl⟩:=aI.mp hx;have:=hz z hz';exact oM (by omega) (by omega)
  ·have Dh:∀sh,r≠.turns sh:=λsh z=>ht ⟨sh,z⟩
   obtain⟨v1,v2⟩:=EY hg Dh;have Nf:di r=pZ r::(tE r).map eI:=by
    cases r with
    |turns sh=>exact absurd rfl (Dh sh)
    |_=>rfl
   have hw:pZ r≠"turns":=by
    cases r with
    |turns sh=>exact absurd rfl (Dh sh)
    |_=>dsimp only[pZ];decide +kernel
   have oR:mj (pZ r):=by cases r<;>dsimp only[pZ,mj]<;>decide +kernel
   have hk:kB wz (pZ r)=some ((tM r).map Sh.tx):=by
    cases r with
    |turns sh=>exact absurd rfl (Dh sh)
    |meet=>decide +kernel
    |eldest=>decide +kernel
    |rank b=>show kB wz "rank"=some ([Sh.mP].map Sh.tx);decide +kernel
    |many m=>show kB wz "many"=some ([Sh.count].map Sh.tx);decide +kernel
    |gather m a=>show kB wz "gather"=some ([Sh.count,Sh.number].map Sh.tx);decide +kernel
   have hme:decide (pZ r="meet")=true->¬(m:Int)<2:=by
    cases r with
    |meet=>intro _;have:2<=m:=hg;omega
    |turns sh=>exact absurd rfl (Dh sh)
    |eldest=>intro z;exact absurd z (by decide +kernel)
    |rank b=>intro z;exact absurd z (show ¬decide (("rank":Str)="meet")=true by decide +kernel)
    |many m=>intro z;exact absurd z (show ¬decide (("many":Str)="meet")=true by decide +kernel)
    |gather m a=>intro z;exact absurd z (show ¬decide (("gather":Str)="meet")=true by decide +kernel)
   have hal:(tE r).length<=2:=by cases r<;>simp[tE]
   have hok:=z_ Dh UG;have Tb:(tM r).length<=2:=by cases r<;>simp[tM]
   have ev:jW (tM r) ((tE r).map eI)=.tuple (tE r):=by unfold jW;rw[v1,v2];rfl
   rw[Nf];unfold Kn
   generalize hA:tE r=ra at *
   generalize hW:pZ r=rY at *
   obtain⟨g1,q1,q2⟩:=n.ru;have a0:qQ ((rY::ra.map eI).map aH) 0=some (.str rY):=a9 (j:=0) rfl;refine ay (bN (VT.to (b_ hr (bq oR) aY (dJ (ai 0 rfl) ax a0) aF) (by rw[bS];exact decide_eq_false hw)) bp) ?_
   refine ay (bN (VT.to (iU (k1:=false) (k2:=decide (rY="meet")&&decide ((m:Int)<2)) (VT.to (BG q1 q2 (dJ (ai 0 rfl) ax a0)) (by rw[hk];rfl)) (λ_=>jw (VT.to (b_ hr (bq oR) aY (dJ (ai 0 rfl) ax a0) aF) (by rw[bS])) (λ_=>rN (ai 1 rfl) ax))) ?_) bp) ?_
   ·cases hd:decide (rY="meet") with
    |false=>rfl
    |true=>rw[decide_eq_false (hme hd)];rfl
   refine ay (c6 3 (d:=.tuple ra) (bw C hr (ao (VE.to (IV q1 q2 (dJ (ai 0 rfl) ax a0) hk) (k:=EV (tM r)) (by unfold EV;rw[bC];rfl)) (ao (VE.to (VO.ve (gR (ai 0 rfl) (.yes ax) .no)) (k:=dP (ra.map eI)) (by show yA (L2.cutD (_::_) _ _)=_;rw[Ab];rfl)) aK)) ⟨tM r,ra.map eI,rfl,by omega,by rw[aj];omega,λx hx=>?_,ev.symm⟩) nd) ?_
   ·obtain⟨z,hz,rfl⟩:=aI.mp hx
    have:=hok z hz;cases z with
    |none=>exact⟨by decide,by show cn (.str ("-":Str))=true;decide +kernel⟩
    |int i=>exact oM this.1 this.2
    |str x=>
     show pH (if x="" then "-" else x)
     split
     ·exact⟨by decide,by show cn (.str ("-":Str))=true;decide +kernel⟩
     ·rename_i hx
      exact(this.resolve_left hx).ok
    |_=>exact this.elim
   ·exact aS (bV (xA (k:=false) (VT.to (fU iK kD (ai 3 rfl) eB (fA _)) rfl) (λz=>by cases z) (λ_=>VE.to (yV (fe (ao (dJ (ai 0 rfl) ax a0) aK)) (ai 3 rfl) (by simp) (small (by simp only[bh,cv];omega))) rfl)))
theorem Xh:cG ["names"] ["names"] (bJ (top 37)):=⟨rfl,rfl,rfl,by decide +kernel,rfl,by decide +kernel,by decide +kernel⟩
def Nk(l:List Str):Prop:=1<=l.length/\l.length<=6/\l.Nodup/\∀x∈l,dH x
def Rap(ds:List aq)(d:aq):Prop:=∃l:List Str,ds=[.tuple (l.map .str)]/\Nk l/\d=.bool true
def Rf:aq->Option aq
 | .str x=>some (.bool (isName x))
 |_=>none
theorem Kx(l:List Str):(l.map aH).filterMap Rf=(l.map isName).map .bool:=by
 rw[cW,bC];exact filterMap_some λk _=>rfl
theorem zbv(F:kM K "are_places" "are_places" (top 37) f fd)(n:Np mg w.params K)(C:bG P w K mg base 2 "is_name" ["word"] (gX K N9)):eQ P w K mg base jE 3 f fd ["names"] (gX K Rap):=
 jA F Xh (λ_ _ h=>by obtain⟨_,rfl,_⟩:=h;rfl) λ_ _ h=>by
  obtain⟨l,rfl,⟨l1,l6,lnd,Xi⟩,rfl⟩:=h;intro gy A outer s H E hr;obtain⟨t,m6⟩:=n.mp;have nc:(["name"]:List Str).Nodup:=by decide +kernel
  have hdd:dd [] l=l:=Ej (by simpa using lnd)
  have yE:m_ (l.map isName)=true:=by
   unfold m_;rw[oW,eV];intro x hx;exact(Xi x hx).is
  refine aS (bV (VE.to (kZ (k1:=true) (VE.to (EC pA pA (rZ 1 l.length) (rZ l.length 6) ax (VE.to (lE (ai 0 rfl) n.len) (by rw[aj])) (λ_=>Jd m6)) (by rw[decide_eq_true (by omega),decide_eq_true (by omega)];rfl)) (λ_=>kZ (k1:=true) (VE.to (h7 (kN rfl) uL (ao (VO.ve (VO.to (fw (own:=["name"]) (cap:=[]) (N:=["name"]) (cl:=[]) (tgt:=.one 0) (F:=Rf) (ds:=l.map aH) rfl ⟨rfl,by decide +kernel,by decide +kernel,rfl,rfl,by simp⟩ (zE (ai 0 rfl)) (λf s3 H3=>bD (i:=0) nc rfl (aV rfl)) rfl
   (small (by rw[aj];omega)) (λd hd=>?_)) (Kx _))) aK) n.all rfl) (by rw[yE])) (λ_=>jg (pE hr (cx 20 _) (cx 20 _) (En (ai 0 rfl) (by omega) rfl n.len n.set) (lE (ai 0 rfl) n.len))))) ?_))
  ·obtain⟨z,hz,rfl⟩:=aI.mp hd
   refine⟨_,rfl,λf s3 H3=>fu,λr jC f s3 H3=>?_⟩
   cases jC;exact bw C hr (ao (ai 0 rfl) aK) ⟨z,rfl,(Xi z hz).ok.1,rfl⟩
  ·rw[jU,hdd,aj,decide_eq_true rfl];rfl
end
inductive Ent where
 |kind (n:Str) (k:Option Int)
 |gate (n:Str)
 |line (n:Str) (r:Int)
 |desk (d:Dk)
 |time (d k:Str) (w:Int)
 |hour (d:Str) (a b:Int)
variable{e:Ent}
def Ent.form:Ent->Str
 | .kind _ _=>"kind"
 | .gate _=>"gate"
 | .line _ _=>"line"
 | .desk _=>"desk"
 | .time _ _ _=>"time"
 | .hour _ _ _=>"open"
def Ent.rest:Ent->List aq
 | .kind n k=>[.str n,o7 k]
 | .gate n=>[.str n]
 | .line n r=>[.str n,.int r]
 | .desk d=>[.str d.name,.str d.to,Kn d.rule,.tuple (d.places.map .str)]
 | .time d k w=>[.str d,.str k,.int w]
 | .hour d a b=>[.str d,.int a,.int b]
def G8(e:Ent):aq:=.tuple (.str e.form::e.rest)
def jX(d:Dk):List Str:=[("desk":Str),d.name,"to",eI (.str d.to),"by"]++di d.rule ++ [("from":Str)]++d.places
def G9:Ent->List Str
 | .kind n k=>[("kind":Str),n,eI (o7 k)]
 | .gate n=>[("gate":Str),n]
 | .line n r=>[("line":Str),n,dE r]
 | .desk d=>jX d
 | .time d k w=>[("time":Str),d,k,dE w]
 | .hour d a b=>[("open":Str),d,dE a,dE b]
def G_(d:Dk):Prop:=dH d.name/\(d.to=""\/dH d.to)/\tL d.rule d.places.length/\Nk d.places
def uP:Ent->Prop
 | .kind n k=>dH n/\∀i,k=some i->1<=i/\dG i
 | .gate n=>dH n
 | .line n r=>dH n/\1<=r/\dG r
 | .desk d=>G_ d
 | .time d k w=>dH d/\dH k/\1<=w/\dG w
 | .hour d a b=>dH d/\dG a/\dG b/\a<b
theorem wA(h:dH x):x≠"-":=λz=>by
 have hd:45∈x.cps.toList:=by rw[z];decide +kernel
 have:=h.2.2 _ hd;omega
theorem xW(h:dH x):eI (.str x)=x:=by
 show(if x="" then("-":Str)else x)=x
 rw[if_neg (fH h).1]
theorem tN(h:GR d):pH (eI d):=by
 have h0:pH "-":=⟨by decide,by show cn (.str ("-":Str))=true;decide +kernel⟩
 cases d with
 |none=>exact h0
 |int i=>exact oM h.1 h.2
 |str x=>
  show pH (if x="" then "-" else x)
  split
  ·exact h0
  ·rename_i hx
   exact(h.resolve_left hx).ok
 |_=>exact h.elim
theorem E1(h:z8 r):∀x∈di r,pH x:=by
 intro x hx;by_cases ht:∃sh,r=.turns sh
 ·obtain⟨sh,rfl⟩:=ht
  rcases aJ.mp hx with rfl|hx
  ·exact⟨by decide,by show cn (.str ("turns":Str))=true;decide +kernel⟩
  ·obtain⟨z,hz,rfl⟩:=aI.mp hx
   exact oM (h.2 z hz).1 (h.2 z hz).2
 ·have Dh:∀sh,r≠.turns sh:=λsh z=>ht ⟨sh,z⟩
  have Nf:di r=pZ r::(tE r).map eI:=by
   cases r with
   |turns sh=>exact absurd rfl (Dh sh)
   |_=>rfl
  rw[Nf]at hx;rcases aJ.mp hx with rfl|hx
  ·cases r<;>(refine⟨?_,?_⟩<;>dsimp only[pZ,mj]<;>decide +kernel)
  ·obtain⟨z,hz,rfl⟩:=aI.mp hx
   exact tN (z_ Dh h z hz)
theorem Nn{n:Nat}(hn:n<=6)(h:tL r n):1<=(di r).length/\(di r).length<=7:=by
 cases r with
 |turns s=>have:=h.1;simp[di];omega
 |_=>simp[di,tE]
theorem Dl(h:z8 r):∀x∈(di r).drop 1,x≠"from":=by
 have hd:∀d,GR d->(∀x,d≠.str x)->eI d≠"from":=by
  intro d hd hs;cases d with
  |none=>decide +kernel
  |int i=>
   intro z;have:102∈(dE i).cps.toList:=by
    have z:dE i="from":=z;rw[z];decide +kernel
   have:=mG hd.1 this;omega
  |str x=>exact absurd rfl (hs x)
  |_=>exact hd.elim
 intro x hx;cases r with
 |turns s=>
  obtain⟨z,hz,rfl⟩:=aI.mp (show x∈s.map dE from hx)
  exact hd (.int z) (h.2 z hz) (by intro x z;cases z)
 |meet=>cases hx
 |eldest=>cases hx
 |gather m a=>
  simp only[di,tE,aR,iA,vF,lX,aJ,b7,or_false]at hx;rcases hx with rfl|rfl
  ·exact hd (.int m) h.1 (by intro x z;cases z)
  ·exact hd (.int a) h.2 (by intro x z;cases z)
 |many m=>
  simp only[di,tE,aR,iA,vF,lX,aJ,b7,or_false]at hx;rw[hx];exact hd (.int m) h (by intro x z;cases z)
 |rank b=>
  simp only[di,tE,aR,iA,vF,lX,aJ,b7,or_false]at hx;rw[hx];cases b with
  |none=>exact hd .none trivial (by intro x z;cases z)
  |some b=>exact hd (.int b) h (by intro x z;cases z)
section
variable{P:bM}{w:cy}{K:av}{mg:Str->Option aD}{base:dq}{f:aN}{k:Nat}
abbrev Nde:List Str:=["words","end","head","places","rule"]
theorem Rg:cG Nde ["words"] (bJ (top 35)):=⟨rfl,rfl,rfl,by decide +kernel,rfl,by decide +kernel,by decide +kernel⟩
def Rde(ds:List aq)(d:aq):Prop:=∃q:Dk,ds=[dP (jX q)]/\G_ q/\d=G8 (.desk q)
theorem zbw{α:Type}(l:List α)(a b:Nat)(ha:a<=b)(hb:b<=l.length):L2.cutD l (some (a:Int)) (some (b:Int))=(l.drop a).take (b-a):=by
 unfold L2.cutD;rw[HT.nW,HT.nW,oy hb,oy (show a<=l.length by omega)]
theorem Dm(h:∀x∈l,pH x):Lay 20 (dP l):=yT (n:=19) λd hd=>by
 obtain⟨x,hx,rfl⟩:=aI.mp hd;exact bq (h x hx).2
theorem fP(x:Str)(l:List Str):v9 (.str x) (.list (l.map aH))=decide (x∈l):=by
 show((l.map aH).any λy=>cU y (.str x))=_
 rw[List.any_map]
 induction l with
 |nil=>rfl
 |cons y l ih=>
  rw[vM,ih]
  show(cU (.str y) (.str x)||decide (x∈l))=_
  rw[bS,ic];simp only[AF,decide_eq_true_eq,aJ]
  constructor
  ·rintro(h|h)
   ·exact .inl h.symm
   ·exact .inr h
  ·rintro(h|h)
   ·exact .inl h.symm
   ·exact .inr h
theorem zbx(F:kM K "desk_entry" "desk_entry" (top 35) f fd)(n:Np mg w.params K)(C1:bG P w K mg base 5 "values_of" UL (gX K Y_))(C2:bG P w K mg base 6 "rule_of" ["words","many"] (gX K Xf))(C3:bG P w K mg base 3 "are_places" ["names"] (gX K Rap)):eQ P w K mg base jE 7 f fd ["words"] (gX K Rde):=
 jA F Rg (λ_ _ h=>by obtain⟨_,rfl,_⟩:=h;rfl) λ_ _ h=>by
  obtain⟨q,rfl,⟨hn,Y6,Q6,QQ⟩,rfl⟩:=h;intro gy A outer s H E hr;have nd:Nde.Nodup:=Rg.nd;have zby:=QQ;obtain⟨p1,p6,pnd,pnm⟩:=zby;have UG:=Q6.ok (by omega)
  obtain⟨r1,r7⟩:=Nn p6 Q6;have rok:=E1 UG;have rnf:=Dl UG;have Xj:pH (eI (.str q.to)):=tN (d:=.str q.to) Y6;obtain⟨rw0,rest,UM⟩:∃a l,di q.rule=a::l:=by
   cases e:di q.rule with
   |nil=>rw[e]at r1;simp at r1
   |cons a l=>exact⟨a,l,rfl⟩
  have Xk:pH "from":=⟨by decide,by show cn (.str ("from":Str))=true;decide +kernel⟩
  have hW:jX q=("desk":Str)::q.name::"to"::eI (.str q.to)::"by"::rw0::(rest++("from":Str)::q.places):=by
   unfold jX;rw[UM];simp
  have zbB:∀x∈rest,pH x:=λx hx=>rok x (by rw[UM];exact aU _ hx)
  have zbC:∀x∈rest,x≠"from":=λx hx=>rnf x (by rw[UM];exact hx)
  have zhf:rest.length<=6:=by rw[UM]at r7;simp at r7;omega
  have lit:∀x:Str,cn (.str x)=true->x.length<=100000->pH x:=λx h1 h2=>⟨h2,h1⟩
  have hok:∀x∈jX q,pH x:=by
   intro x hx;rw[hW]at hx;simp only[aJ,bX]at hx;rcases hx with rfl|rfl|rfl|rfl|rfl|rfl|hx|rfl|hx
   ·exact lit _ (by decide +kernel) (by decide)
   ·exact hn.ok
   ·exact lit _ (by decide +kernel) (by decide)
   ·exact Xj
   ·exact lit _ (by decide +kernel) (by decide)
   ·exact rok _ (by rw[UM];exact aO)
   ·exact zbB x hx
   ·exact Xk
   ·exact(pnm x hx).ok
  have hlay:=Dm hok;have hlen:(jX q).length=7+rest.length+q.places.length:=by rw[hW];simp;omega
  have Xl:(jX q).drop 6=rest++("from":Str)::q.places:=by rw[hW];rfl
  have Xm:L2.cutD ((jX q).map aH) (some 6) none=(rest++("from":Str)::q.places).map aH:=by rw[<-Xl,k7];exact jI _ 6
  have Xn:Lay 20 (.list ((rest++("from":Str)::q.places).map aH)):=Dm λx hx=>by
   refine hok x ?_
   rw[<-Xl]at hx;exact eM hx
  have Rh:Lay 20 (.str "from"):=aY;have Ky:∀(j:Nat)(x:Str),(jX q)[j]?=some x->qQ ((jX q).map aH) (j:Int)=some (.str x):=λj x h=>a9 (by rw[aP,h];rfl)
  have g1:(jX q)[1]?=some q.name:=by rw[hW];rfl
  have g2:(jX q)[2]?=some ("to":Str):=by rw[hW];rfl
  have g3:(jX q)[3]?=some (eI (.str q.to)):=by rw[hW];rfl
  have g4:(jX q)[4]?=some ("by":Str):=by rw[hW];rfl
  have O_:(jX q)[6+rest.length]?=some ("from":Str):=by
   have:(jX q)[6+rest.length]?=((jX q).drop 6)[rest.length]?:=by rw[List.getElem?_drop]
   rw[this,Xl,cD (aA _),FJ];rfl
  have yC:∀j (h:j<(jX q).length),6<=j->j<6+rest.length->(jX q)[j]≠"from":=by
   intro j h j6 jr;have:(jX q)[j]?=((jX q).drop 6)[j-6]?:=by rw[List.getElem?_drop];congr 1;omega
   rw[Xl,cL (by omega),aw h,aw (by omega)]at this
   rw[c9 this];exact zbC _ (cK _)
  have P8:L2.cutD ((jX q).map aH) (some ((6+rest.length:Nat)+1:Int)) none=q.places.map aH:=by
   rw[show((6+rest.length:Nat)+1:Int)=((6+rest.length+1:Nat):Int)from by omega,jI,<-k7]
   congr 1
   rw[show 6+rest.length+1=6+(rest.length+1)from by omega,<-List.drop_drop,Xl,List.drop_append,sr (by omega),show rest.length+1-rest.length=1 from by omega]
   rfl
  have Xo:L2.cutD ((jX q).map aH) (some 5) (some ((6+rest.length:Nat):Int))=(di q.rule).map aH:=by
   rw[show(5:Int)=((5:Nat):Int)from rfl,zbw _ 5 (6+rest.length) (by omega) (by rw[aj];omega),<-k7,<-nI]
   congr 1
   rw[hW,UM]
   show((rw0::(rest++("from":Str)::q.places))).take (6+rest.length-5)=rw0::rest
   rw[show 6+rest.length-5=rest.length+1 from by omega,List.take_succ_cons,List.take_left' rfl]
  refine ay (bN (VT.to (CP (k1:=false) (k2:=false) (k3:=false) (VT.to (jF hr rfl Rh Xn aF (VE.to (VO.ve (gR (ai 0 rfl) (.yes ax) .no)) (by rw[Xm]))) (by rw[fP,decide_eq_true (by simp)];rfl)) (λ_=>VT.to (g7 hr aY aY (dJ (ai 0 rfl) ax (Ky 2 _ g2)) aF) (by rw[bS,decide_eq_true rfl];rfl)) (λ_ _=>VT.to (g7 hr aY aY (dJ (ai 0 rfl) ax (Ky 4 _ g4)) aF) (by rw[bS,decide_eq_true rfl];rfl))) rfl) bp) ?_
  refine ay (c6 1 (d:=.int ((6+rest.length:Nat):Int)) (Kd (i:=6) (j:=6+rest.length) hr (ai 0 rfl) aF ax hlay Rh (by omega) ⟨by rw[aj];omega,?_⟩ (λj h j6 jr=>?_)) nd) ?_
  ·have:(jX q)[6+rest.length]'(by omega)="from":=by
    rw[aw (by omega)]at O_
    exact c9 O_
   rw[rL,bS,this];exact decide_eq_true rfl
  ·rw[aj]at h
   rw[rL,bS];exact decide_eq_false (yC j h j6 jr)
  have oE:jW [.name,.ny] [q.name,eI (.str q.to)]=.tuple [.str q.name,.str q.to]:=by
   have f2:mn .ny (eI (.str q.to))=true/\iZ .ny (eI (.str q.to))=.str q.to:=by
    rcases Y6 with h|h
    ·rw[h];exact⟨by decide +kernel,rfl⟩
    ·rw[xW h]
     refine⟨?_,?_⟩
     ·show(decide (q.to="-")||isName q.to)=true
      rw[h.is,sk]
     ·show aH (if q.to="-" then "" else q.to)=_
      rw[if_neg (wA h)]
   unfold jW tJ pK
   show(if(true&&(isName q.name&&(mn .ny (eI (.str q.to))&&true)))=true then gK [.str q.name,iZ .ny (eI (.str q.to))]else .none)=_
   rw[hn.is,f2.1,f2.2];rfl
  refine ay (c6 2 (d:=.tuple [.str q.name,.str q.to]) (bw C1 (hr.mono (by omega)) (ao (VE.to (fe (ao aF (ao aF aK))) (k:=EV [.name,.ny]) rfl) (ao (VE.to (VO.ve (dR (ao (dJ (ai 0 rfl) ax (Ky 1 _ g1)) (ao (dJ (ai 0 rfl) ax (Ky 3 _ g3)) aK)))) (k:=dP [q.name,eI (.str q.to)]) rfl) aK)) ⟨_,_,rfl,by show 2<=1000;decide,by show 2<=100002;decide,λx hx=>?_,oE.symm⟩) nd) ?_
  ·simp only[aJ,b7,or_false]at hx
   rcases hx with rfl|rfl
   ·exact hn.ok
   ·exact Xj
  refine ay (c6 3 (d:=.tuple (q.places.map .str)) (k9 mN yR (ao (VE.to (VO.ve (gR (ai 0 rfl) (.yes (eU (ai 1 rfl) ax)) .no)) (by rw[P8])) aK) n.tup rfl) nd) ?_
  refine ay (c6 4 (d:=Kn q.rule) (bw C2 hr (ao (VE.to (VO.ve (gR (ai 0 rfl) (.yes ax) (.yes (ai 1 rfl)))) (k:=dP (di q.rule)) (by rw[Xo];rfl)) (ao (VE.to (lE (ai 3 rfl) n.len) (by rw[aj])) aK)) ⟨q.rule,q.places.length,rfl,p1,p6,Q6,rfl⟩) nd) ?_
  refine ay (bN (VT.to (CP (k1:=false) (k2:=false) (k3:=false) (VT.to (fU iK kD (ai 2 rfl) eB (fA _)) rfl) (λ_=>VT.to (fU iK kD (ai 4 rfl) eB (fA _)) rfl) (λ_ _=>VT.to (gQ (e9 (bw C3 (hr.mono (by omega)) (ao (ai 3 rfl) aK) ⟨q.places,rfl,QQ,rfl⟩) rfl)) rfl)) rfl) bp) ?_
  exact aS (bV (VE.to (fe (ao aF (ao (bZ (ai 2 rfl) ax (a9 (j:=0) rfl)) (ao (bZ (ai 2 rfl) ax (a9 (j:=1) rfl)) (ao (ai 4 rfl) (ao (ai 3 rfl) aK)))))) rfl))
abbrev Neo:List Str:=["words","form","values"]
theorem Ri:cG Neo ["words"] (bJ (top 34)):=⟨rfl,rfl,rfl,by decide +kernel,rfl,by decide +kernel,by decide +kernel⟩
def Reo(ds:List aq)(d:aq):Prop:=∃e:Ent,ds=[dP (G9 e)]/\uP e/\d=G8 e
def BX:Ent->List Sh
 | .kind _ _=>[.name,.mI]
 | .gate _=>[.name]
 | .line _ _=>[.name,.count]
 | .desk _=>[]
 | .time _ _ _=>[.name,.name,.count]
 | .hour _ _ _=>[.name,.number,.number]
theorem G'(h:uP e)(hd:∀q,e≠.desk q):∃ws,G9 e=e.form::ws/\ws.length<=3/\(∀x∈ws,pH x)/\jW (BX e) ws=.tuple e.rest/\kB rD e.form=some ((BX e).map Sh.tx)/\e.form≠"desk"/\mj e.form:=by
 cases e with
 |desk q=>exact absurd rfl (hd q)
 |kind n k=>
  obtain⟨hn,hk⟩:=h;have ok2:pH (eI (o7 k))/\mn .mI (eI (o7 k))=true/\iZ .mI (eI (o7 k))=o7 k:=by
   cases k with
   |none=>exact⟨tN (d:=.none) trivial,by decide +kernel,rfl⟩
   |some i=>
    obtain⟨h1,h2⟩:=hk i rfl;refine⟨oM h2.1 h2.2,?_,mQ h2 (by intro z;cases z) (by intro z;cases z)⟩
    show(decide (dE i="-")||kS (dE i))=true
    rw[om h2 h1,sk]
  refine⟨[n,eI (o7 k)],rfl,by show 2<=3;decide,λx hx=>?_,?_,(show kB rD "kind"=some ([Sh.name,Sh.mI].map Sh.tx) by decide +kernel),(show("kind":Str)≠"desk" by decide +kernel),(show cn (.str ("kind":Str))=true by decide +kernel)⟩
  ·simp only[aJ,b7,or_false]at hx
   rcases hx with rfl|rfl
   ·exact hn.ok
   ·exact ok2.1
  ·show(if(true&&(isName n&&(mn .mI (eI (o7 k))&&true)))=true then gK [.str n,iZ .mI (eI (o7 k))]else .none)=_
   rw[hn.is,ok2.2.1,ok2.2.2];rfl
 |gate n=>
  refine⟨[n],rfl,by show 1<=3;decide,λx hx=>?_,?_,(show kB rD "gate"=some ([Sh.name].map Sh.tx) by decide +kernel),(show("gate":Str)≠"desk" by decide +kernel),(show cn (.str ("gate":Str))=true by decide +kernel)⟩
  ·rw[a_.mp hx];exact(show dH n from h).ok
  ·show(if(true&&(isName n&&true))=true then gK [.str n]else .none)=_
   rw[(show dH n from h).is];rfl
 |line n r=>
  obtain⟨hn,h1,h2⟩:=h;refine⟨[n,dE r],rfl,by show 2<=3;decide,λx hx=>?_,?_,(show kB rD "line"=some ([Sh.name,Sh.count].map Sh.tx) by decide +kernel),(show("line":Str)≠"desk" by decide +kernel),(show cn (.str ("line":Str))=true by decide +kernel)⟩
  ·simp only[aJ,b7,or_false]at hx
   rcases hx with rfl|rfl
   ·exact hn.ok
   ·exact oM h2.1 h2.2
  ·show(if(true&&(isName n&&(kS (dE r)&&true)))=true then gK [.str n,iZ .count (dE r)]else .none)=_
   rw[hn.is,om h2 h1,mQ h2 (by intro z;cases z) (by intro z;cases z)];rfl
 |time d k w=>
  obtain⟨hn,hk,h1,h2⟩:=h;refine⟨[d,k,dE w],rfl,by show 3<=3;decide,λx hx=>?_,?_,(show kB rD "time"=some ([Sh.name,Sh.name,Sh.count].map Sh.tx) by decide +kernel),(show("time":Str)≠"desk" by decide +kernel),(show cn (.str ("time":Str))=true by decide +kernel)⟩
  ·simp only[aJ,b7,or_false]at hx
   rcases hx with rfl|rfl|rfl
   ·exact hn.ok
   ·exact hk.ok
   ·exact oM h2.1 h2.2
  ·show(if(true&&(isName d&&(isName k&&(kS (dE w)&&true))))=true then gK [.str d,.str k,iZ .count (dE w)]else .none)=_
   rw[hn.is,hk.is,om h2 h1,mQ h2 (by intro z;cases z) (by intro z;cases z)];rfl
 |hour d a b=>
  obtain⟨hn,h1,h2,_⟩:=h;refine⟨[d,dE a,dE b],rfl,by show 3<=3;decide,λx hx=>?_,?_,(show kB rD "open"=some ([Sh.name,Sh.number,Sh.number].map Sh.tx) by decide +kernel),(show("open":Str)≠"desk" by decide +kernel),(show cn (.str ("open":Str))=true by decide +kernel)⟩
  ·simp only[aJ,b7,or_false]at hx
   rcases hx with rfl|rfl|rfl
   ·exact hn.ok
   ·exact oM h1.1 h1.2
   ·exact oM h2.1 h2.2
  ·show(if(true&&(isName d&&(isNumber (dE a)&&(isNumber (dE b)&&true))))=true then gK [.str d,iZ .number (dE a),iZ .number (dE b)]else .none)=_
   rw[hn.is,xV h1.1 h1.2,xV h2.1 h2.2,mQ h1 (by intro z;cases z) (by intro z;cases z),mQ h2 (by intro z;cases z) (by intro z;cases z)];rfl
theorem zbE(F:kM K "entry_of" "entry_of" (top 34) f fd)(n:Np mg w.params K)(C1:bG P w K mg base 5 "values_of" UL (gX K Y_))(C2:bG P w K mg base 7 "desk_entry" ["words"] (gX K Rde)):eQ P w K mg base jE 8 f fd ["words"] (gX K Reo):=
 jA F Ri (λ_ _ h=>by obtain⟨_,rfl,_⟩:=h;rfl) λ_ _ h=>by
  obtain⟨e,rfl,ok,rfl⟩:=h;intro gy A outer s H E hr;have nd:Neo.Nodup:=Ri.nd;by_cases hd:∃q,e=.desk q
  ·obtain⟨q,rfl⟩:=hd
   refine ay (c6 1 (d:=.str "desk") (dJ (ai 0 rfl) ax (a9 (j:=0) rfl)) nd) ?_
   exact cH (cR (VT.to (b_ hr aY aY (ai 1 rfl) aF) (by rw[bS];exact decide_eq_true rfl)) (aS (bV (bw C2 hr (ao (ai 0 rfl) aK) ⟨q,rfl,ok,rfl⟩)))) rfl
  ·have YB:∀q,e≠.desk q:=λq z=>hd ⟨q,z⟩
   obtain⟨ws,w1,w2,w3,w4,w5,w6,w7⟩:=G' ok YB;obtain⟨g1,q1,q2⟩:=n.fo;rw[w1];have Tb:(BX e).length<=3:=by cases e<;>simp[BX]
   refine ay (c6 1 (d:=.str e.form) (dJ (ai 0 rfl) ax (a9 (j:=0) rfl)) nd) ?_
   refine ay (bN (VT.to (b_ hr (bq w7) aY (ai 1 rfl) aF) (by rw[bS];exact decide_eq_false w6)) bp) ?_
   refine ay (bN (VT.to (BG q1 q2 (ai 1 rfl)) (by rw[w5];rfl)) bp) ?_
   refine ay (c6 2 (d:=.tuple e.rest) (bw C1 (hr.mono (by omega)) (ao (VE.to (IV q1 q2 (ai 1 rfl) w5) (k:=EV (BX e)) (by unfold EV;rw[bC];rfl)) (ao (VE.to (VO.ve (gR (ai 0 rfl) (.yes ax) .no)) (k:=dP ws) (by show yA (L2.cutD (_::_) _ _)=_;rw[Ab];rfl)) aK)) ⟨BX e,ws,rfl,by omega,by omega,w3,w4.symm⟩) nd) ?_
   have Q6:e.rest.length<=4:=by cases e<;>simp[Ent.rest]
   refine ay (bN ?_ bp) (aS (bV (VE.to (yV (fe (ao (ai 1 rfl) aK)) (ai 2 rfl) (by simp) (small (by simp only[bh,cv];omega))) rfl)))
   cases e with
   |hour d a b=>
    exact VT.to (iU (k1:=false) (k2:=false) (VT.to (fU iK kD (ai 2 rfl) eB (fA _)) rfl) (λ_=>VT.to (jw (k1:=true) (k2:=false) (VT.to (b_ hr (bq w7) aY (ai 1 rfl) aF) (by rw[bS];exact decide_eq_true rfl)) (λ_=>VT.to (QN (bZ (ai 2 rfl) ax (a9 (j:=1) rfl)) (bZ (ai 2 rfl) ax (a9 (j:=2) rfl))) (decide_eq_false (by have:=ok.2.2.2;omega)))) rfl)) rfl
   |_=>
    exact VT.to (iU (k1:=false) (k2:=false) (VT.to (fU iK kD (ai 2 rfl) eB (fA _)) rfl) (λ_=>VT.to (jw (k1:=false) (k2:=false) (VT.to (b_ hr (bq w7) aY (ai 1 rfl) aF) (by rw[bS];dsimp only[Ent.form];exact decide_eq_false (by decide +kernel))) (λz=>by cases z)) rfl)) rfl
end
def r9:List (Str×List (Int×Int))->Str->Int×Int->List (Str×List (Int×Int))
 | [],n,z=>[(n,[z])]
 |q::l,n,z=>if q.1=n then(q.1,q.2 ++ [z])::l else q::r9 l n z
def gB(l:List (Str×Int×Int)):List (Str×List (Int×Int)):=l.foldl (λacc q=>r9 acc q.1 q.2) []
def pairD(z:Int×Int):aq:=.tuple [.int z.1,.int z.2]
def pL(p:Pl):List (Str×aq):=p.kinds.map λq=>(q.1,o7 q.2)
def pM(p:Pl):List (Str×aq):=p.lines.map λq=>(q.1,.int q.2)
def um(p:Pl):List ((Str×Str)×aq):=p.times.map λq=>((q.1,q.2.1),.int q.2.2)
def y0(p:Pl):List (Str×aq):=(gB p.hours).map λq=>(q.1,.list (q.2.map pairD))
def uo(p:Pl):List (Str×aq):=[("kinds",va (pL p)),("gates",dP p.gates),("lines",va (pM p)),("desks",.list (p.desks.map gk)),("times",Mf (um p)),("hours",va (y0 p)),("paces",va [])]
def eZ(p:Pl):aq:=O8 (uo p)
theorem wB(p:Pl):kO (uo p) "kinds"=some (va (pL p)):=gU rfl
theorem Ac(p:Pl):kO (uo p) "gates"=some (dP p.gates):=(dw (show ¬(("kinds":Str)="gates") by decide +kernel)).trans (gU rfl)
theorem Ad(p:Pl):kO (uo p) "lines"=some (va (pM p)):=(dw (show ¬(("kinds":Str)="lines") by decide +kernel)).trans ((dw (show ¬(("gates":Str)="lines") by decide +kernel)).trans (gU rfl))
theorem E2(p:Pl):kO (uo p) "desks"=some (.list (p.desks.map gk)):=(dw (show ¬(("kinds":Str)="desks") by decide +kernel)).trans ((dw (show ¬(("gates":Str)="desks") by decide +kernel)).trans ((dw (show ¬(("lines":Str)="desks") by decide +kernel)).trans (gU rfl)))
theorem Nq(p:Pl):kO (uo p) "times"=some (Mf (um p)):=(dw (show ¬(("kinds":Str)="times") by decide +kernel)).trans ((dw (show ¬(("gates":Str)="times") by decide +kernel)).trans ((dw (show ¬(("lines":Str)="times") by decide +kernel)).trans ((dw (show ¬(("desks":Str)="times") by decide +kernel)).trans (gU rfl))))
theorem ku{κ:Type}[DecidableEq κ]:∀(kvs:List (κ×aq))(x:κ),(kO kvs x).isSome=decide (x∈kvs.map (·.1))
 | [],x=>by simp[kO]
 |q::l,x=>by
  by_cases h:q.1=x
  ·rw[gU h,decide_eq_true (by simp[h])];rfl
  ·rw[dw h,ku l x,ic,decide_eq_true_iff,decide_eq_true_iff,aR,aJ]
   exact⟨.inr,λz=>z.resolve_left λe=>h e.symm⟩
theorem wC(p:Pl):(pL p).map (·.1)=p.kinds.map (·.1):=by unfold pL;rw[bC];rfl
theorem oh(p:Pl):(pM p).map (·.1)=p.lines.map (·.1):=by unfold pM;rw[bC];rfl
theorem Dn(p:Pl):(um p).map (·.1)=p.times.map λq=>(q.1,q.2.1):=by unfold um;rw[bC];rfl
def qw(p:Pl)(x:Str):Prop:=x∈p.gates\/x∈p.lines.map (·.1)
instance (p : Pl) (x : Str) : Decidable (qw p x) := by unfold qw; infer_instance
def rE(p:Pl)(x:Str):Prop:=x∈p.desks.map (·.name)
instance (p : Pl) (x : Str) : Decidable (rE p x) := by unfold rE; infer_instance
def E3(p:Pl)(x:Str):Prop:=∃q∈p.desks,x∈q.places
def Ae(p:Pl):Ent->Prop
 | .kind n _=>n∉p.kinds.map (·.1)
 | .gate n=>¬qw p n
 | .line n _=>¬qw p n
 | .desk d=>¬rE p d.name/\(∀x∈d.places,¬E3 p x)/\(∀x∈d.places,qw p x)/\(d.to=""\/∃r:Int,kO (pM p) d.to=some (.int r)/\iX d.rule d.places.length<=r)
 | .time d k _=>(d,k)∉p.times.map (λq=>(q.1,q.2.1))/\rE p d/\k∈p.kinds.map (·.1)
 | .hour d _ _=>rE p d
section
variable{P:bM}{w:cy}{K:av}{mg:Str->Option aD}{base:dq}{f:aN}{k:Nat}
abbrev N_:List Str:=["plant","name"]
abbrev Y':List Str:=["plant","place"]
theorem Xp:cG N_ N_ (bJ (top 43)):=⟨rfl,rfl,rfl,by decide +kernel,rfl,by decide +kernel,by decide +kernel⟩
theorem Xq:cG N_ N_ (bJ (top 44)):=⟨rfl,rfl,rfl,by decide +kernel,rfl,by decide +kernel,by decide +kernel⟩
theorem Xr:cG Y' Y' (bJ (top 45)):=⟨rfl,rfl,rfl,by decide +kernel,rfl,by decide +kernel,by decide +kernel⟩
def Rip(ds:List aq)(d:aq):Prop:=∃(p:Pl)(x:Str),ds=[eZ p,.str x]/\ji p/\mj x/\d=.bool (decide (qw p x))
def Rid(ds:List aq)(d:aq):Prop:=∃(p:Pl)(x:Str),ds=[eZ p,.str x]/\ji p/\mj x/\d=.bool (decide (rE p x))
def Af(p:Pl)(x:Str):List Dk:=p.desks.filter λq=>decide (x∈q.places)
def Rit(ds es:List aq):Prop:=∃(p:Pl)(x:Str),ds=[eZ p,.str x]/\ji p/\mj x/\es=(Af p x).map gk
theorem Hi{p:Pl}(h:¬E3 p x):Af p x=[]:=by
 unfold Af;rw[List.filter_eq_nil_iff];intro q hq z;exact h ⟨q,hq,of_decide_eq_true z⟩
theorem jN(h:∀x∈l,dH x):Lay 20 (.list (l.map aH)):=Dm λx hx=>(h x hx).ok
theorem zbH(F:kM K "is_place" "is_place" (top 43) f fd):eQ P w K mg base jE 1 f fd N_ (gX K Rip):=
 jA F Xp (λ_ _ h=>by obtain⟨_,_,rfl,_⟩:=h;rfl) λ_ _ h=>by
  obtain⟨p,x,rfl,ok,ox,rfl⟩:=h;intro gy A outer s H E hr;refine aS (bV (VE.to (uK (QR hr rfl (bq ox) (jN ok.gates) (ai 1 rfl) (my (ai 0 rfl) (Ac p))) (λ_=>jg (Gj hr (ai 1 rfl) (my (ai 0 rfl) (Ad p))))) ?_))
  rw[fP,ku,oh]
  congr 1
  rw[ic];simp only[AF,decide_eq_true_eq];exact Iff.rfl
def Fdn:aq->Option aq
 | .tuple (x::_)=>some x
 |_=>none
theorem P9(l:List Dk):(l.map gk).filterMap Fdn=(l.map (·.name)).map .str:=by
 rw[cW,bC];exact filterMap_some λk _=>rfl
theorem zbI(F:kM K "is_desk" "is_desk" (top 44) f fd):eQ P w K mg base jE 1 f fd N_ (gX K Rid):=
 jA F Xq (λ_ _ h=>by obtain⟨_,_,rfl,_⟩:=h;rfl) λ_ _ h=>by
  obtain⟨p,x,rfl,ok,ox,rfl⟩:=h;intro gy A outer s H E hr;have nc:(["desk"]:List Str).Nodup:=by decide +kernel
  have hn:=ok.dn;refine aS (bV (VE.to (QR hr rfl (bq ox) (jN (l:=p.desks.map (·.name)) λy hy=>?_) (ai 1 rfl) (VO.ve (VO.to (fw (own:=["desk"]) (cap:=[]) (N:=["desk"]) (cl:=[]) (tgt:=.one 0) (F:=Fdn) (ds:=p.desks.map gk) rfl ⟨rfl,by decide +kernel,by decide +kernel,rfl,rfl,by simp⟩ (gu (my (ai 0 rfl) (E2 p))) (λf s3 H3=>bD (i:=0) nc rfl (aV rfl)) rfl
   (small (by rw[aj];omega)) (λd hd=>?_)) (P9 _)))) ?_))
  ·obtain⟨q,hq,rfl⟩:=aI.mp hy
   exact(ok.desks q hq).1
  ·obtain⟨z,hz,rfl⟩:=aI.mp hd
   refine⟨_,rfl,λf s3 H3=>fu,λr jC f s3 H3=>?_⟩
   cases jC;exact bZ (ai 0 rfl) ax (a9 (j:=0) rfl)
  ·rw[fP];rfl
theorem ym(x:Str)(l:List Str):v9 (.str x) (.tuple (l.map aH))=decide (x∈l):=fP x l
def Nr(x:Str):aq->Bool
 | .tuple [_,_,_,.tuple l]=>l.any λy=>cU y (.str x)
 |_=>false
def Fin(x:Str)(d:aq):Option aq:=if Nr x d=true then some d else none
theorem tP(x:Str)(q:Dk):Nr x (gk q)=decide (x∈q.places):=ym x q.places
theorem P_(x:Str)(l:List Dk):(l.map gk).filterMap (Fin x)=(l.filter λq=>decide (x∈q.places)).map gk:=by
 induction l with
 |nil=>rfl
 |cons q l ih=>
  rw[aR,jq];by_cases h:x∈q.places
  ·rw[c7 (f:=Fin x) (b:=gk q) (by unfold Fin;rw[tP,if_pos (decide_eq_true h)]),ih,if_pos (decide_eq_true h),aR]
  ·rw[ei (f:=Fin x) (by unfold Fin;rw[tP,if_neg (by rw[decide_eq_false h];decide)]),ih,if_neg (by rw[decide_eq_false h];decide)]
theorem zbJ(F:kM K "takers_of" "takers_of" (top 45) f fd):eQ P w K mg base jE 1 f fd Y' (AO K Rit):=
 Ef F Xr (λ_ _ h=>by obtain⟨_,_,rfl,_⟩:=h;rfl) λ_ _ h=>by
  obtain⟨p,x,rfl,ok,ox,rfl⟩:=h;intro gy A outer s H E hr;have nc:(["desk","place"]:List Str).Nodup:=by decide +kernel
  have hn:=ok.dn;refine aS (yS (VO.to (fw (own:=["desk"]) (cap:=[1]) (N:=["desk","place"]) (tgt:=.one 0) (F:=Fin x) (ds:=p.desks.map gk) rfl ⟨rfl,by decide +kernel,by decide +kernel,rfl,rfl,?_⟩ (gu (my (ai 0 rfl) (E2 p))) (λf s3 H3=>bD (i:=0) nc rfl (aV rfl)) rfl
   (small (by rw[aj];omega)) (λd hd=>?_)) (P_ x _)))
  ·intro j hj
   rcases aJ.mp hj with rfl|hj
   ·exact⟨(by show(1:Nat)<2;decide),aV rfl,rfl⟩
   ·cases hj
  ·obtain⟨z,hz,rfl⟩:=aI.mp hd
   refine⟨_,rfl,λf s3 H3=>?_,λr jC f s3 H3=>?_⟩
   ·refine wa (VT.to (V5 hr rfl (bq ox) (IH (n:=19) λd hd=>by obtain⟨y,hy,rfl⟩:=aI.mp hd;exact bq ((ok.desks z hz).2.2.2.2 y hy).ok.2) (ai 1 rfl) (bZ (d:=.tuple (z.places.map .str)) (ai 0 rfl) ax (a9 (j:=3) rfl))) ?_)
    unfold Fin;rw[tP,ym];by_cases h:x∈z.places
    ·rw[decide_eq_true h];rfl
    ·rw[decide_eq_false h];rfl
   ·unfold Fin at jC
    split at jC
    ·cases jC;exact ai 0 rfl
    ·cases jC
def Xs:Rl->Bool
 | .many _=>true
 | .gather _ _=>true
 |_=>false
theorem Xt:cG ["rule","many"] ["rule","many"] (bJ (top 24)):=⟨rfl,rfl,rfl,by decide +kernel,rfl,by decide +kernel,by decide +kernel⟩
theorem zbK(F:kM K "greatest_load" "greatest_load" (top 24) f fd):eQ P w K mg base jE 1 f fd ["rule","many"] (gX K Y4):=
 jA F Xt (λ_ _ h=>by obtain⟨_,_,rfl,_⟩:=h;rfl) λ_ _ h=>by
  obtain⟨r,m,rfl,rfl⟩:=h;intro gy A outer s H E hr;have oR:mj (pZ r):=by cases r<;>dsimp only[pZ,mj]<;>decide +kernel
  have h0:qQ (aH (pZ r)::tE r) 0=some (.str (pZ r)):=a9 (j:=0) rfl;have N4:(decide (pZ r="many")||decide (pZ r="gather"))=Xs r:=by
   cases r with
   |meet=>decide +kernel
   |eldest=>decide +kernel
   |many m=>exact(show(decide (("many":Str)="many")||decide (("many":Str)="gather"))=true by decide +kernel)
   |gather m a=>exact(show(decide (("gather":Str)="many")||decide (("gather":Str)="gather"))=true by decide +kernel)
   |rank b=>exact(show(decide (("rank":Str)="many")||decide (("rank":Str)="gather"))=false by decide +kernel)
   |turns l=>exact(show(decide (("turns":Str)="many")||decide (("turns":Str)="gather"))=false by decide +kernel)
  by_cases h1:Xs r=true
  ·refine cH (cR (VT.to (iU (b_ hr (bq oR) aY (bZ (ai 0 rfl) ax h0) aF) (λ_=>b_ hr (bq oR) aY (bZ (ai 0 rfl) ax h0) aF)) (by rw[bS,bS,N4,h1])) (aS (bV (bZ (ai 0 rfl) ax ?_)))) rfl
   cases r with
   |many m=>exact a9 (j:=1) rfl
   |gather m a=>exact a9 (j:=1) rfl
   |_=>cases h1
  ·have h1:=Bool.not_eq_true _▸h1
   refine ay (bN (VT.to (iU (b_ hr (bq oR) aY (bZ (ai 0 rfl) ax h0) aF) (λ_=>b_ hr (bq oR) aY (bZ (ai 0 rfl) ax h0) aF)) (by rw[bS,bS,N4,h1])) bp) ?_
   by_cases h2:pZ r="meet"
   ·refine cH (cR (VT.to (b_ hr (bq oR) aY (bZ (ai 0 rfl) ax h0) aF) (by rw[bS];exact decide_eq_true h2)) (aS (bV (VE.to (ai 1 rfl) ?_)))) rfl
    cases r with
    |meet=>rfl
    |many m=>cases h1
    |gather m a=>cases h1
    |eldest=>exact absurd h2 (by decide +kernel)
    |rank b=>exact absurd h2 (show ¬(("rank":Str)="meet") by decide +kernel)
    |turns l=>exact absurd h2 (show ¬(("turns":Str)="meet") by decide +kernel)
   ·refine ay (bN (VT.to (b_ hr (bq oR) aY (bZ (ai 0 rfl) ax h0) aF) (by rw[bS];exact decide_eq_false h2)) bp) ?_
    refine aS (bV (VE.to ax ?_))
    cases r with
    |meet=>exact absurd rfl h2
    |many m=>cases h1
    |gather m a=>cases h1
    |_=>rfl
end
theorem dN(e:Ent):mj e.form:=by cases e<;>(dsimp only[Ent.form,mj];decide +kernel)
theorem uq(e:Ent):qQ (aH e.form::e.rest) 0=some (.str e.form):=a9 (j:=0) rfl
def Ent.name:Ent->Str
 | .kind n _=>n
 | .gate n=>n
 | .line n _=>n
 | .desk d=>d.name
 | .time d _ _=>d
 | .hour d _ _=>d
theorem Jk(e:Ent):qQ (aH e.form::e.rest) 1=some (.str e.name):=by cases e<;>exact a9 (j:=1) rfl
theorem Jl(h:uP e):dH e.name:=by
 cases e with
 |gate n=>exact h
 |_=>exact h.1
theorem hV{a b:Str}(h:a≠b):cU (.str a) (.str b)=false:=by rw[bS];exact decide_eq_false h
theorem jD(a:Str):cU (.str a) (.str a)=true:=by rw[bS];exact decide_eq_true rfl
section
variable{P:bM}{w:cy}{K:av}{mg:Str->Option aD}{base:dq}{f:aN}{k:Nat}
abbrev E4:List Str:=["plant","entry"]
def UN(ds:List aq)(d:aq):Prop:=∃(p:Pl)(e:Ent),ds=[eZ p,G8 e]/\ji p/\uP e/\Ae p e/\d=.bool false
def Hj:aq->Option aq:=λ_=>some (.bool false)
theorem Ag:∀l:List aq,l.filterMap Hj=(bu l.length false).map .bool
 | []=>rfl
 |d::l=>by rw[c7 (f:=Hj) (b:=.bool false) rfl,Ag l];rfl
theorem Kz(n:Nat):zN (bu n false)=false:=by
 unfold zN;rw[x'];intro z;obtain⟨b,hb,h⟩:=yK.mp z;rw[(jL.mp hb).2]at h;cases h
abbrev Ntt:List Str:=["plant","entry","form","name"]
theorem Rj:cG Ntt E4 (bJ (top 40)):=⟨rfl,rfl,rfl,by decide +kernel,rfl,by decide +kernel,by decide +kernel⟩
theorem zbL(F:kM K "tells_twice" "tells_twice" (top 40) f fd)(n:Np mg w.params K)(C1:bG P w K mg base 1 "is_place" N_ (gX K Rip))(C2:bG P w K mg base 1 "is_desk" N_ (gX K Rid))(C3:bG P w K mg base 1 "takers_of" Y' (AO K Rit)):eQ P w K mg base jE 2 f fd E4 (gX K UN):=
 jA F Rj (λ_ _ h=>by obtain⟨_,_,rfl,_⟩:=h;rfl) λ_ _ h=>by
  obtain⟨p,e,rfl,ok,oe,oa,rfl⟩:=h;intro gy A outer s H E hr;have nd:Ntt.Nodup:=Rj.nd;have UO:=(Jl oe).ok.2;have ofm:=dN e;refine ay (c6 2 (d:=.str e.form) (bZ (ai 1 rfl) ax (uq e)) nd) ?_
  refine ay (c6 3 (d:=.str e.name) (bZ (ai 1 rfl) ax (Jk e)) nd) ?_
  cases e with
  |kind m k=>
   refine cH (cR (VT.to (b_ hr (bq (dN _)) aY (ai 2 rfl) aF) (jD _)) (aS (bV (VE.to (Gj hr (ai 3 rfl) (my (ai 0 rfl) (wB p))) ?_)))) rfl
   rw[ku,wC];exact congrArg lq (decide_eq_false oa)
  |gate m=>
   refine ay (bN (VT.to (b_ hr (bq (dN _)) aY (ai 2 rfl) aF) (hV (show("gate":Str)≠"kind" by decide +kernel))) bp) ?_
   exact cH (cR (VT.to (iU (k1:=true) (k2:=true) (VT.to (b_ hr (bq (dN _)) aY (ai 2 rfl) aF) (jD _)) (λz=>by cases z)) rfl) (aS (bV (bw C1 hr (ao (ai 0 rfl) (ao (ai 3 rfl) aK)) ⟨p,m,rfl,ok,UO,by rw[decide_eq_false oa]⟩)))) rfl
  |line m r=>
   refine ay (bN (VT.to (b_ hr (bq (dN _)) aY (ai 2 rfl) aF) (hV (show("line":Str)≠"kind" by decide +kernel))) bp) ?_
   exact cH (cR (VT.to (iU (k1:=false) (k2:=true) (VT.to (b_ hr (bq (dN _)) aY (ai 2 rfl) aF) (hV (show("line":Str)≠"gate" by decide +kernel))) (λ_=>VT.to (b_ hr (bq (dN _)) aY (ai 2 rfl) aF) (jD _))) rfl) (aS (bV (bw C1 hr (ao (ai 0 rfl) (ao (ai 3 rfl) aK)) ⟨p,m,rfl,ok,UO,by rw[decide_eq_false oa]⟩)))) rfl
  |desk q=>
   refine ay (bN (VT.to (b_ hr (bq (dN _)) aY (ai 2 rfl) aF) (hV (show("desk":Str)≠"kind" by decide +kernel))) bp) ?_
   refine ay (bN (VT.to (iU (k1:=false) (k2:=false) (VT.to (b_ hr (bq (dN _)) aY (ai 2 rfl) aF) (hV (show("desk":Str)≠"gate" by decide +kernel))) (λ_=>VT.to (b_ hr (bq (dN _)) aY (ai 2 rfl) aF) (hV (show("desk":Str)≠"line" by decide +kernel)))) rfl) bp) ?_
   have nc:(["place","plant"]:List Str).Nodup:=by decide +kernel
   obtain⟨a1,a2,a3,a4⟩:=oa;have l6:=oe.2.2.2.2.1;refine cH (cR (VT.to (b_ hr (bq (dN _)) aY (ai 2 rfl) aF) (jD _)) (aS (bV (VE.to (uK (bw C2 hr (ao (ai 0 rfl) (ao (ai 3 rfl) aK)) ⟨p,q.name,rfl,ok,UO,rfl⟩) (λ_=>jg (h7 (My rfl) Wt (ao (VO.ve (VO.to (fw (own:=["place"]) (cap:=[0]) (N:=["place","plant"]) (tgt:=.one 0) (F:=Hj) (ds:=q.places.map .str) rfl ⟨rfl,by decide +kernel,by decide +kernel,rfl,rfl,?_⟩ (zE (bZ (d:=.tuple (q.places.map .str)) (ai 1 rfl) ax (a9 (j:=4) rfl))) (λf s3 H3=>bD (i:=0) nc rfl (aV rfl)) rfl
    (small (by rw[aj];omega)) (λd hd=>?_)) (Ag _))) aK) n.any rfl))) ?_)))) rfl
   ·intro j hj
    rcases aJ.mp hj with rfl|hj
    ·exact⟨(by show(0:Nat)<4;decide),aV rfl,rfl⟩
    ·cases hj
   ·obtain⟨z,hz,rfl⟩:=aI.mp hd
    refine⟨_,rfl,λf s3 H3=>fu,λr jC f s3 H3=>?_⟩
    cases jC;exact VE.to (II hr nX nX (VE.to (VO.ve (i_ C3 hr (ao (ai 1 rfl) (ao (ai 0 rfl) aK)) ⟨p,z,rfl,ok,(oe.2.2.2.2.2.2 z hz).ok.2,rfl⟩)) (by rw[Hi (a2 z hz)];rfl)) (VO.ve (dR (ds:=[]) aK))) rfl
   ·rw[decide_eq_false a1,Kz];rfl
  |time d k wk=>
   refine ay (bN (VT.to (b_ hr (bq (dN _)) aY (ai 2 rfl) aF) (hV (show("time":Str)≠"kind" by decide +kernel))) bp) ?_
   refine ay (bN (VT.to (iU (k1:=false) (k2:=false) (VT.to (b_ hr (bq (dN _)) aY (ai 2 rfl) aF) (hV (show("time":Str)≠"gate" by decide +kernel))) (λ_=>VT.to (b_ hr (bq (dN _)) aY (ai 2 rfl) aF) (hV (show("time":Str)≠"line" by decide +kernel)))) rfl) bp) ?_
   refine ay (bN (VT.to (b_ hr (bq (dN _)) aY (ai 2 rfl) aF) (hV (show("time":Str)≠"desk" by decide +kernel))) bp) ?_
   refine cH (cR (VT.to (b_ hr (bq (dN _)) aY (ai 2 rfl) aF) (jD _)) (aS (bV (VE.to (O9 hr (ai 3 rfl) (bZ (ai 1 rfl) ax (a9 (j:=2) rfl)) (my (ai 0 rfl) (Nq p))) ?_)))) rfl
   refine congrArg lq ?_
   rw[ku,Dn];rw[x'];intro z;exact oa.1 (@of_decide_eq_true _ (_) z)
  |hour d a b=>
   refine ay (bN (VT.to (b_ hr (bq (dN _)) aY (ai 2 rfl) aF) (hV (show("open":Str)≠"kind" by decide +kernel))) bp) ?_
   refine ay (bN (VT.to (iU (k1:=false) (k2:=false) (VT.to (b_ hr (bq (dN _)) aY (ai 2 rfl) aF) (hV (show("open":Str)≠"gate" by decide +kernel))) (λ_=>VT.to (b_ hr (bq (dN _)) aY (ai 2 rfl) aF) (hV (show("open":Str)≠"line" by decide +kernel)))) rfl) bp) ?_
   refine ay (bN (VT.to (b_ hr (bq (dN _)) aY (ai 2 rfl) aF) (hV (show("open":Str)≠"desk" by decide +kernel))) bp) ?_
   refine ay (bN (VT.to (b_ hr (bq (dN _)) aY (ai 2 rfl) aF) (hV (show("open":Str)≠"time" by decide +kernel))) bp) ?_
   exact aS (bV (VE.to (kZ (k1:=false) (k2:=false) (VE.to (pE hr (bq (dN _)) aY (ai 2 rfl) aF) (congrArg lq (hV (show("open":Str)≠"pace" by decide +kernel)))) (λz=>by cases z)) rfl))
abbrev Nln:List Str:=["plant","entry","form","into_line"]
theorem Rk:cG Nln E4 (bJ (top 41)):=⟨rfl,rfl,rfl,by decide +kernel,rfl,by decide +kernel,by decide +kernel⟩
theorem zbM(F:kM K "lacks_name" "lacks_name" (top 41) f fd)(n:Np mg w.params K)(C1:bG P w K mg base 1 "is_place" N_ (gX K Rip))(C2:bG P w K mg base 1 "is_desk" N_ (gX K Rid)):eQ P w K mg base jE 2 f fd E4 (gX K UN):=
 jA F Rk (λ_ _ h=>by obtain⟨_,_,rfl,_⟩:=h;rfl) λ_ _ h=>by
  obtain⟨p,e,rfl,ok,oe,oa,rfl⟩:=h;intro gy A outer s H E hr;have nd:Nln.Nodup:=Rk.nd;have UO:=(Jl oe).ok.2;refine ay (c6 2 (d:=.str e.form) (bZ (ai 1 rfl) ax (uq e)) nd) ?_
  have pac:∀(e:Ent),e.form≠"pace":=λe=>by cases e<;>(dsimp only[Ent.form];decide +kernel)
  cases e with
  |desk q=>
   obtain⟨a1,a2,a3,a4⟩:=oa;have nc:(["place","plant"]:List Str).Nodup:=by decide +kernel
   have Za:mj q.to:=by
    rcases oe.2.1 with h|h
    ·rw[h];show cn (.str ("":Str))=true;decide +kernel
    ·exact h.ok.2
   have l6:=oe.2.2.2.2.1;refine cH (cR (VT.to (b_ hr (bq (dN _)) aY (ai 2 rfl) aF) (jD _)) (ay (c6 3 (d:=.bool true) (VE.to (uK (pE hr (bq Za) aY (bZ (ai 1 rfl) ax (a9 (j:=2) rfl)) aF) (λ_=>jg (Gj hr (bZ (ai 1 rfl) ax (a9 (j:=2) rfl)) (my (ai 0 rfl) (Ad p))))) ?_) nd) (aS (bV (VE.to (uK (k1:=false) (k2:=false) (VE.to (ud (ai 3 rfl)) rfl) (λ_=>jg (VE.to (ud (h7 (kN rfl) uL (ao (VO.ve (VO.to (fw (own:=["place"]) (cap:=[0]) (N:=["place","plant"]) (tgt:=.one 0) (F:=W4) (ds:=q.places.map .str) rfl ⟨rfl,by decide +kernel,by decide +kernel,rfl,rfl,?_⟩ (zE (bZ (d:=.tuple (q.places.map .str)) (ai 1 rfl) ax (a9 (j:=4) rfl))) (λf s3 H3=>bD (i:=0) nc rfl (aV rfl)) rfl
    (small (by rw[aj];omega)) (λd hd=>?_)) (yX _))) aK) n.all rfl)) (by rw[xP];rfl)))) rfl))))) rfl
   ·rw[bS,ku,oh]
    congr 1
    rcases a4 with h|⟨r,h,_⟩
    ·rw[decide_eq_true h];rfl
    ·have:(kO (pM p) q.to).isSome=true:=by rw[h];rfl
     rw[ku,oh]at this;rw[this,sk]
   ·intro j hj
    rcases aJ.mp hj with rfl|hj
    ·exact⟨(by show(0:Nat)<4;decide),aV rfl,rfl⟩
    ·cases hj
   ·obtain⟨z,hz,rfl⟩:=aI.mp hd
    refine⟨_,rfl,λf s3 H3=>fu,λr jC f s3 H3=>?_⟩
    cases jC;exact bw C1 hr (ao (ai 1 rfl) (ao (ai 0 rfl) aK)) ⟨p,z,rfl,ok,(oe.2.2.2.2.2.2 z hz).ok.2,by rw[decide_eq_true (a3 z hz)]⟩
  |time d k wk=>
   refine ay (bN (VT.to (b_ hr (bq (dN _)) aY (ai 2 rfl) aF) (hV (show("time":Str)≠"desk" by decide +kernel))) bp) ?_
   refine cH (cR (VT.to (b_ hr (bq (dN _)) aY (ai 2 rfl) aF) (jD _)) (aS (bV (VE.to (uK (k1:=false) (VE.to (ud (bw C2 hr (ao (ai 0 rfl) (ao (bZ (ai 1 rfl) ax (a9 (j:=1) rfl)) aK)) ⟨p,d,rfl,ok,UO,rfl⟩)) (by rw[decide_eq_true oa.2.1];rfl)) (λ_=>jg (J7 hr (bZ (ai 1 rfl) ax (a9 (j:=2) rfl)) (my (ai 0 rfl) (wB p))))) ?_)))) rfl
   rw[ku,wC,decide_eq_true oa.2.2];rfl
  |hour d a b=>
   refine ay (bN (VT.to (b_ hr (bq (dN _)) aY (ai 2 rfl) aF) (hV (show("open":Str)≠"desk" by decide +kernel))) bp) ?_
   refine ay (bN (VT.to (b_ hr (bq (dN _)) aY (ai 2 rfl) aF) (hV (show("open":Str)≠"time" by decide +kernel))) bp) ?_
   exact cH (cR (VT.to (b_ hr (bq (dN _)) aY (ai 2 rfl) aF) (jD _)) (aS (bV (VE.to (ud (bw C2 hr (ao (ai 0 rfl) (ao (bZ (ai 1 rfl) ax (a9 (j:=1) rfl)) aK)) ⟨p,d,rfl,ok,UO,rfl⟩)) (by rw[decide_eq_true (show rE p d from oa)];rfl))))) rfl
  |_=>
   refine ay (bN (VT.to (b_ hr (bq (dN _)) aY (ai 2 rfl) aF) (by rw[bS];dsimp only[Ent.form];exact decide_eq_false (by decide +kernel))) bp) ?_
   refine ay (bN (VT.to (b_ hr (bq (dN _)) aY (ai 2 rfl) aF) (by rw[bS];dsimp only[Ent.form];exact decide_eq_false (by decide +kernel))) bp) ?_
   refine ay (bN (VT.to (b_ hr (bq (dN _)) aY (ai 2 rfl) aF) (by rw[bS];dsimp only[Ent.form];exact decide_eq_false (by decide +kernel))) bp) ?_
   exact aS (bV (VE.to (kZ (k1:=false) (k2:=false) (VE.to (pE hr (bq (dN _)) aY (ai 2 rfl) aF) (by rw[bS];exact congrArg lq (decide_eq_false (pac _)))) (λz=>by cases z)) rfl))
theorem TR:cG E4 E4 (bJ (top 42)):=⟨rfl,rfl,rfl,by decide +kernel,rfl,by decide +kernel,by decide +kernel⟩
theorem Xu(F:kM K "lacks_room" "lacks_room" (top 42) f fd)(n:Np mg w.params K)(C1:bG P w K mg base 1 "greatest_load" ["rule","many"] (gX K Y4)):eQ P w K mg base jE 2 f fd E4 (gX K UN):=
 jA F TR (λ_ _ h=>by obtain⟨_,_,rfl,_⟩:=h;rfl) λ_ _ h=>by
  obtain⟨p,e,rfl,ok,oe,oa,rfl⟩:=h;intro gy A outer s H E hr;by_cases hd:∃q,e=.desk q
  ·obtain⟨q,rfl⟩:=hd
   obtain⟨a1,a2,a3,a4⟩:=oa;have Za:mj q.to:=by
    rcases oe.2.1 with h|h
    ·rw[h];show cn (.str ("":Str))=true;decide +kernel
    ·exact h.ok.2
   by_cases ht:q.to=""
   ·exact cH (cR (VT.to (iU (k1:=false) (k2:=true) (VT.to (g7 hr (bq (dN _)) aY (bZ (ai 1 rfl) ax (uq _)) aF) (congrArg (λb=>!b) (jD _))) (λ_=>VT.to (b_ hr (bq Za) aY (bZ (ai 1 rfl) ax (a9 (j:=2) rfl)) aF) (by rw[bS];exact decide_eq_true ht))) rfl) (aS (bV BD))) rfl
   ·obtain⟨r,h1,h2⟩:=a4.resolve_left ht
    refine ay (bN (VT.to (iU (k1:=false) (k2:=false) (VT.to (g7 hr (bq (dN _)) aY (bZ (ai 1 rfl) ax (uq _)) aF) (congrArg (λb=>!b) (jD _))) (λ_=>VT.to (b_ hr (bq Za) aY (bZ (ai 1 rfl) ax (a9 (j:=2) rfl)) aF) (by rw[bS];exact decide_eq_false ht))) rfl) bp) ?_
    exact aS (bV (VE.to (V4 (bw C1 hr (ao (bZ (d:=Kn q.rule) (ai 1 rfl) ax (a9 (j:=3) rfl)) (ao (VE.to (lE (ds:=q.places.map .str) (bZ (ai 1 rfl) ax (a9 (j:=4) rfl)) n.len) (by rw[aj])) aK)) ⟨q.rule,q.places.length,rfl,rfl⟩) (il hr (my (ai 0 rfl) (Ad p)) (bZ (ai 1 rfl) ax (a9 (j:=2) rfl)) h1)) (congrArg lq (decide_eq_false (by omega)))))
  ·have hf:e.form≠"desk":=by
    cases e with
    |desk q=>exact absurd ⟨q,rfl⟩ hd
    |_=>dsimp only[Ent.form];decide +kernel
   exact cH (cR (VT.to (iU (k1:=true) (k2:=true) (VT.to (g7 hr (bq (dN e)) aY (bZ (ai 1 rfl) ax (uq _)) aF) (by rw[bS,decide_eq_false hf];rfl)) (λz=>by cases z)) rfl) (aS (bV BD))) rfl
theorem Xv:cG E4 E4 (bJ (top 38)):=⟨rfl,rfl,rfl,by decide +kernel,rfl,by decide +kernel,by decide +kernel⟩
def Rfo(ds:List aq)(d:aq):Prop:=∃(p:Pl)(e:Ent),ds=[eZ p,G8 e]/\ji p/\uP e/\Ae p e/\d=.str ""
theorem zbN(F:kM K "fault_of" "fault_of" (top 38) f fd)(C1:bG P w K mg base 2 "tells_twice" E4 (gX K UN))(C2:bG P w K mg base 2 "lacks_name" E4 (gX K UN))(C3:bG P w K mg base 2 "lacks_room" E4 (gX K UN)):eQ P w K mg base jE 3 f fd E4 (gX K Rfo):=
 jA F Xv (λ_ _ h=>by obtain⟨_,_,rfl,_⟩:=h;rfl) λ_ _ h=>by
  obtain⟨p,e,rfl,ok,oe,oa,rfl⟩:=h;intro gy A outer s H E hr;refine ay (bN (VT.to (fU iK kD (ai 1 rfl) eB (fA _)) rfl) bp) ?_
  refine ay (bN (e9 (bw C1 hr (ao (ai 0 rfl) (ao (ai 1 rfl) aK)) ⟨p,e,rfl,ok,oe,oa,rfl⟩) rfl) bp) ?_
  refine ay (bN (e9 (bw C2 hr (ao (ai 0 rfl) (ao (ai 1 rfl) aK)) ⟨p,e,rfl,ok,oe,oa,rfl⟩) rfl) bp) ?_
  refine ay (bN (e9 (bw C3 hr (ao (ai 0 rfl) (ao (ai 1 rfl) aK)) ⟨p,e,rfl,ok,oe,oa,rfl⟩) rfl) bp) ?_
  exact aS (bV aF)
end
def P':Option Int->V
 |none=>.non
 |some i=>.int i
theorem Nt(o:Option Int):Rep K H (P' o) (o7 o):=by
 cases o with
 |none=>exact .non
 |some i=>exact .int i
theorem Rep.Qa{v:V}{o:Option Int}(r:Rep K H v (o7 o)):v=P' o:=by
 cases o with
 |none=>cases r;rfl
 |some i=>cases r;rfl
def vp(p:Pl):List (Key×V):=p.kinds.map λq=>(cz q.1,P' q.2)
def vq(p:Pl):List (Key×V):=p.lines.map λq=>(cz q.1,V.int q.2)
def vt(p:Pl):List (List Key×V):=p.times.map λq=>(xE (q.1,q.2.1),V.int q.2.2)
def ip(h:List (Str×List (Int×Int)))(cs:List aN):List (Key×V):=(h.zip cs).map λz=>(cz z.1.1,V.ref z.2)
abbrev Zb:List Str:=["kinds","gates","lines","desks","times","hours","paces"]
def Qb(ak ag al ad at_ ah ap:aN):List (Str×V):=[("kinds",.ref ak),("gates",.ref ag),("lines",.ref al),("desks",.ref ad),("times",.ref at_),("hours",.ref ah),("paces",.ref ap)]
structure PlW(K:av)(p:aN)(st:Pl)(H0 H:Hp)(C dx ak ag al ad at_ ah ap:aN)(cs:List aN)(xd:List V):Prop where
 ins:H p=some (.ins C dx (Qb ak ag al ad at_ ah ap))
 cls:D3 K C
 uC:∀f∈Zb,fY K C f
 ki:H ak=some (.dK (vp st))
 ga:H ag=some (.lst (st.gates.map V.str))
 li:H al=some (.dK (vq st))
 de:H ad=some (.lst xd)
 dr:dz K H0 xd (st.desks.map gk)
 ti:H at_=some (.dT (vt st))
 ho:H ah=some (.dK (ip (gB st.hours) cs))
 hl:cs.length=(gB st.hours).length
 pa:H ap=some (.dK [])
 ce:∀(i:Nat)c q,cs[i]?=some c->(gB st.hours)[i]?=some q->∃xs,H c=some (.lst xs)/\dz K H0 xs (q.2.map pairD)
def Dp(K:av)(p:aN)(st:Pl):OR:=λH0 H as=>∃C dx ak ag al ad at_ ah ap cs xd,as=p::ak::ag::al::ad::at_::ah::ap::cs/\as.Nodup/\PlW K p st H0 H C dx ak ag al ad at_ ah ap cs xd
theorem Dp.mono{st:Pl}:zR (Dp K p st):=by
 rintro H0 H Ha Hb as ⟨C,dx,ak,ag,al,ad,at_,ah,ap,cs,xd,rfl,nd,W⟩ s e
 refine⟨C,dx,ak,ag,al,ad,at_,ah,ap,cs,xd,rfl,nd,?_⟩
 exact⟨by rw[e p (by simp)];exact W.ins,W.cls,W.uC,by rw[e ak (by simp)];exact W.ki,by rw[e ag (by simp)];exact W.ga,by rw[e al (by simp)];exact W.li,by rw[e ad (by simp)];exact W.de,W.dr.mono s,by rw[e at_ (by simp)];exact W.ti,by rw[e ah (by simp)];exact W.ho,W.hl,by rw[e ap (by simp)];exact W.pa,λi c q e1 e2=>by
  obtain⟨xs,h1,h2⟩:=W.ce i c q e1 e2;refine⟨xs,?_,h2.mono s⟩
  rw[e c (by simp[bF e1])]
  exact h1⟩
theorem wD{α:Type}{f:α->V}{g:α->aq}:∀{l:List α},(∀x∈l,Rep K H (f x) (g x))->dz K H (l.map f) (l.map g)
 | [],_=>.nil
 |x::l,h=>.cons (h x aO) (wD λy hy=>h y (aU _ hy))
theorem E5{α:Type}{g:α->aq}:∀{l:List α}{cs:List aN},cs.length=l.length->(∀(i:Nat)c q,cs[i]?=some c->l[i]?=some q->Rep K H (.ref c) (g q))->dz K H (cs.map V.ref) (l.map g)
 | [],[],_,_=>.nil
 | [],_::_,h,_=>by cases h
 |_::_,[],h,_=>by cases h
 |q::l,c::cs,h,k=>.cons (k 0 c q rfl rfl) (E5 (by simpa using h) λi c' q' e1 e2=>k (i+1) c' q' (by simpa using e1) (by simpa using e2))
theorem yn:∀{h:List (Str×List (Int×Int))}{cs:List aN},cs.length=h.length->(ip h cs).map (·.1)=h.map λq=>(cz q.1:Key)
 | [],[],_=>rfl
 | [],_::_,e=>by cases e
 |_::_,[],e=>by cases e
 |q::h,c::cs,e=>by
  have:=yn (h:=h) (cs:=cs) (by simpa using e)
  unfold ip at this ⊢;rw[lu,aR,aR,this];rfl
theorem yo:∀{h:List (Str×List (Int×Int))}{cs:List aN},cs.length=h.length->(ip h cs).map (·.2)=cs.map V.ref
 | [],[],_=>rfl
 | [],_::_,e=>by cases e
 |_::_,[],e=>by cases e
 |q::h,c::cs,e=>by
  have:=yo (h:=h) (cs:=cs) (by simpa using e)
  unfold ip at this ⊢;rw[lu,aR,aR,this];rfl
theorem Dp.rep{st:Pl}(Ha Hb:Hp)(as:List aN)(sb:er Ha Hb)(h:Dp K p st Ha Hb as):Rep K (xH as Hb Ha) (.ref p) (eZ st):=by
 obtain⟨C,dx,ak,ag,al,ad,at_,ah,ap,cs,xd,rfl,nd,W⟩:=h;have sm:=zS (as:=p::ak::ag::al::ad::at_::ah::ap::cs) sb
 generalize hM:xH (p::ak::ag::al::ad::at_::ah::ap::cs) Hb Ha=M at *
 have mm:∀a∈p::ak::ag::al::ad::at_::ah::ap::cs,M a=Hb a:=λa ha=>by rw[<-hM];exact C5 ha
 refine Rep.obj (fs:=Qb ak ag al ad at_ ah ap) (by rw[mm p (by simp)];exact W.ins) W.cls W.uC rfl ?_
 refine .cons ?_ (.cons ?_ (.cons ?_ (.cons ?_ (.cons ?_ (.cons ?_ (.cons ?_ .nil))))))
 ·refine .dct (by rw[mm ak (by simp)];exact W.ki) ?_ ?_
  ·unfold pL vp;simp only[bC];rfl
  ·unfold pL vp;simp only[bC];exact wD λq _=>Nt q.2
 ·exact .lst (lW.of (by rw[mm ag (by simp)];exact W.ga)) (xF _)
 ·refine .dct (by rw[mm al (by simp)];exact W.li) ?_ ?_
  ·unfold pM vq;simp only[bC];rfl
  ·unfold pM vq;simp only[bC];exact wD λq _=>.int q.2
 ·exact .lst (lW.of (by rw[mm ad (by simp)];exact W.de)) (W.dr.mono sm)
 ·refine .Us (by rw[mm at_ (by simp)];exact W.ti) ?_ ?_
  ·unfold um vt;simp only[bC];rfl
  ·unfold um vt;simp only[bC];exact wD λq _=>.int q.2.2
 ·refine .dct (by rw[mm ah (by simp)];exact W.ho) ?_ ?_
  ·have:=yn W.hl
   have e:(ip (gB st.hours) cs).map (λq=>CN q.1)=((ip (gB st.hours) cs).map (·.1)).map CN:=by rw[bC];rfl
   rw[e,this];unfold y0;simp only[bC];rfl
  ·rw[yo W.hl]
   have e:((y0 st).map λq=>(aH q.1,q.2)).map (·.2)=(gB st.hours).map λq=>yA (q.2.map pairD):=by
    unfold y0;simp only[bC];rfl
   rw[e];exact E5 W.hl λi c q e1 e2=>by
    obtain⟨xs,h1,h2⟩:=W.ce i c q e1 e2;exact .lst (lW.of (by rw[mm c (by simp[bF e1])];exact h1)) (h2.mono sm)
 ·exact .dct (kvs:=[]) (by rw[mm ap (by simp)];exact W.pa) rfl .nil
structure Xw(H H1:Hp)(p C dx:aN)(fs:List (Str×V))(os:List (aN×HO)):Prop where
 ins:H1 p=some (.ins C dx fs)
 ob:∀q∈os,H1 q.1=some q.2
 nd:(p::os.map (·.1)).Nodup
 fresh:∀q∈os,H q.1=none
 old:∀b o,H b=some o->b≠p->H1 b=some o
theorem Xw.step{H1: Hp}{C dx d: aN}{fs fs':List (Str×V)}{os:List (aN×HO)}{o:HO}(m:Xw H H1 p C dx fs os)(hd:H1 d=none):Xw H (upd (upd H1 d o) p (.ins C dx fs')) p C dx fs' (os ++ [(d,o)]):=by
 have Zc:d≠p:=λz=>by subst z;rw[m.ins]at hd;cases hd
 have Oq:d∉os.map (·.1):=λz=>by
  obtain⟨q,hq,rfl⟩:=aI.mp z;rw[m.ob q hq]at hd;cases hd
 have QQ:p∉os.map (·.1):=(ia.mp m.nd).1
 refine⟨b0,λq hq=>?_,?_,λq hq=>?_,λb o' e hb=>?_⟩
 ·rcases bX.mp hq with hq|hq
  ·have h1:q.1≠p:=λz=>QQ (by rw[<-z];exact aI.mpr ⟨q,hq,rfl⟩)
   have h2:q.1≠d:=λz=>Oq (by rw[<-z];exact aI.mpr ⟨q,hq,rfl⟩)
   rw[aT h1,aT h2];exact m.ob q hq
  ·rw[a_.mp hq,aT Zc];exact b0
 ·rw[aX,<-List.cons_append,e8]
  refine⟨m.nd,by simp,λx hx y hy=>?_⟩
  rw[pf,a_]at hy;subst hy;rcases aJ.mp hx with rfl|hx
  ·exact bU Zc
  ·exact λz=>Oq (by rw[<-z];exact hx)
 ·rcases bX.mp hq with hq|hq
  ·exact m.fresh q hq
  ·rw[a_.mp hq]
   cases e:H d with
   |none=>rfl
   |some o'=>have:=m.old d o' e Zc;rw[hd]at this;cases this
 ·have h2:b≠d:=λz=>by subst z;have:=m.old b o' e hb;rw[hd]at this;cases this
  rw[aT hb,aT h2];exact m.old b o' e hb
theorem nz{f:Str}{v:V}:∀{fs:List (Str×V)},f∉fs.map (·.1)->lr f v fs=fs ++ [(f,v)]
 | [],_=>rfl
 |(g,x)::fs,h=>by
  have h1:g≠f:=λz=>h (by rw[z];simp)
  show(if g=f then(g,v)::fs else(g,x)::lr f v fs)=_
  rw[if_neg h1,nz λz=>h (by simp[z])]
  rfl
abbrev Ah:iH:=inClass (top 29) 0
def Nu(C:aN):Sp:=λvs H Q _=>∃p dx,vs=[.ref p]/\H p=some (.ins C dx [])/\∀ak ag al ad at_ ah ap H',Xw H H' p C dx (Qb ak ag al ad at_ ah ap) [(ak,.dK []),(ag,.lst []),(al,.dK []),(ad,.lst []),(at_,.dT []),(ah,.dK []),(ap,.dK [])]->Q .non H'
section
variable{P:bM}{w:cy}{K:av}{mg:Str->Option aD}{base:dq}{f:aN}{k:Nat}
theorem Xx:cG ["self"] ["self"] (bJ Ah):=⟨rfl,rfl,rfl,by decide +kernel,rfl,by decide +kernel,by decide +kernel⟩
theorem zbO{C:aN}(F:kM K "__init__" "Plant.__init__" Ah f fd)(cl:D3 K C)(na:∀f∈Zb,fY K C f):eQ P w K mg base jE 1 f fd ["self"] (Nu C):=by
 refine F.ok Xx (λvs H Q E h=>?_) (λgy A outer s H vs Q E hr h=>?_)
 ·obtain⟨p,dx,rfl,_⟩:=h
  rfl
 ·obtain⟨p,dx,rfl,hp,q⟩:=h
  refine⟨_,lB (u5 (pv 0) vY rfl) (lB (u5 (pv 0) (CB fB) rfl) (lB (u5 (pv 0) vY rfl) (lB (u5 (pv 0) (CB fB) rfl) (lB (u5 (pv 0) LK rfl) (lB (u5 (pv 0) vY rfl) (yM (u5 (pv 0) vY rfl))))))),?_⟩
  have m0:Xw H H p C dx [] []:=⟨hp,λq hq=>(by cases hq),by simp,λq hq=>(by cases hq),λb o e _=>e⟩
  intro ak hak;have p1:(upd H ak (.dK [])) p=some (.ins C dx []):=by rw[aT (bE hp hak)];exact hp
  refine⟨_,rfl,p,C,dx,_,rfl,p1,cl,na _ (by decide +kernel),by show 0<1000;decide,?_⟩
  have e1:lr "kinds" (.ref ak) ([]:List (Str×V))=[(("kinds":Str),V.ref ak)]:=nz (show("kinds":Str)∉([]:List Str) by decide +kernel)
  have m1:=m0.step (o:=.dK []) (fs':=[(("kinds":Str),V.ref ak)]) hak;rw[e1];refine⟨bK _,λag hag=>?_⟩
  refine⟨_,rfl,p,C,dx,_,rfl,by rw[aT (bE m1.ins hag)];exact m1.ins,cl,na _ (by decide +kernel),by show 1<1000;decide,?_⟩
  have e2:lr "gates" (.ref ag) ([(("kinds":Str),V.ref ak)]:List (Str×V))=[(("kinds":Str),V.ref ak),("gates",V.ref ag)]:=nz (show("gates":Str)∉(["kinds"]:List Str) by decide +kernel)
  have m2:=m1.step (o:=.lst []) (fs':=[(("kinds":Str),V.ref ak),("gates",V.ref ag)]) hag;rw[e2];intro al hal;refine⟨_,rfl,p,C,dx,_,rfl,by rw[aT (bE m2.ins hal)];exact m2.ins,cl,na _ (by decide +kernel),by show 2<1000;decide,?_⟩
  have e3:lr "lines" (.ref al) ([(("kinds":Str),V.ref ak),("gates",V.ref ag)]:List (Str×V))=[(("kinds":Str),V.ref ak),("gates",V.ref ag),("lines",V.ref al)]:=nz (show("lines":Str)∉(["kinds","gates"]:List Str) by decide +kernel)
  have m3:=m2.step (o:=.dK []) (fs':=[(("kinds":Str),V.ref ak),("gates",V.ref ag),("lines",V.ref al)]) hal;rw[e3];refine⟨bK _,λad had=>?_⟩
  refine⟨_,rfl,p,C,dx,_,rfl,by rw[aT (bE m3.ins had)];exact m3.ins,cl,na _ (by decide +kernel),by show 3<1000;decide,?_⟩
  have e4:lr "desks" (.ref ad) ([(("kinds":Str),V.ref ak),("gates",V.ref ag),("lines",V.ref al)]:List (Str×V))=[(("kinds":Str),V.ref ak),("gates",V.ref ag),("lines",V.ref al),("desks",V.ref ad)]:=nz (show("desks":Str)∉(["kinds","gates","lines"]:List Str) by decide +kernel)
  have m4:=m3.step (o:=.lst []) (fs':=[(("kinds":Str),V.ref ak),("gates",V.ref ag),("lines",V.ref al),("desks",V.ref ad)]) had;rw[e4];intro at_ FC;refine⟨_,rfl,p,C,dx,_,rfl,by rw[aT (bE m4.ins FC)];exact m4.ins,cl,na _ (by decide +kernel),by show 4<1000;decide,?_⟩
  have e5:lr "times" (.ref at_) ([(("kinds":Str),V.ref ak),("gates",V.ref ag),("lines",V.ref al),("desks",V.ref ad)]:List (Str×V))=[(("kinds":Str),V.ref ak),("gates",V.ref ag),("lines",V.ref al),("desks",V.ref ad),("times",V.ref at_)]:=nz (show("times":Str)∉(["kinds","gates","lines","desks"]:List Str) by decide +kernel)
  have m5:=m4.step (o:=.dT []) (fs':=[(("kinds":Str),V.ref ak),("gates",V.ref ag),("lines",V.ref al),("desks",V.ref ad),("times",V.ref at_)]) FC;rw[e5];intro ah hah;refine⟨_,rfl,p,C,dx,_,rfl,by rw[aT (bE m5.ins hah)];exact m5.ins,cl,na _ (by decide +kernel),by show 5<1000;decide,?_⟩
  have e6:lr "hours" (.ref ah) ([(("kinds":Str),V.ref ak),("gates",V.ref ag),("lines",V.ref al),("desks",V.ref ad),("times",V.ref at_)]:List (Str×V))=[(("kinds":Str),V.ref ak),("gates",V.ref ag),("lines",V.ref al),("desks",V.ref ad),("times",V.ref at_),("hours",V.ref ah)]:=nz (show("hours":Str)∉(["kinds","gates","lines","desks","times"]:List Str) by decide +kernel)
  have m6:=m5.step (o:=.dK []) (fs':=[(("kinds":Str),V.ref ak),("gates",V.ref ag),("lines",V.ref al),("desks",V.ref ad),("times",V.ref at_),("hours",V.ref ah)]) hah;rw[e6];intro ap hap;refine⟨_,rfl,p,C,dx,_,rfl,by rw[aT (bE m6.ins hap)];exact m6.ins,cl,na _ (by decide +kernel),by show 6<1000;decide,?_⟩
  have e7:lr "paces" (.ref ap) ([(("kinds":Str),V.ref ak),("gates",V.ref ag),("lines",V.ref al),("desks",V.ref ad),("times",V.ref at_),("hours",V.ref ah)]:List (Str×V))=[(("kinds":Str),V.ref ak),("gates",V.ref ag),("lines",V.ref al),("desks",V.ref ad),("times",V.ref at_),("hours",V.ref ah),("paces",V.ref ap)]:=nz (show("paces":Str)∉(["kinds","gates","lines","desks","times","hours"]:List Str) by decide +kernel)
  have m7:=m6.step (o:=.dK []) (fs':=[(("kinds":Str),V.ref ak),("gates",V.ref ag),("lines",V.ref al),("desks",V.ref ad),("times",V.ref at_),("hours",V.ref ah),("paces",V.ref ap)]) hap;rw[e7];exact q ak ag al ad at_ ah ap _ m7
end
def tQ(p:Pl):Ent->Pl
 | .kind n k=>{ p with kinds:=p.kinds ++ [(n,k)] }
 | .gate n=>{ p with gates:=p.gates ++ [n] }
 | .line n r=>{ p with lines:=p.lines ++ [(n,r)] }
 | .desk d=>{ p with desks:=p.desks ++ [d] }
 | .time d k w=>{ p with times:=p.times ++ [(d,k,w)] }
 | .hour d a b=>{ p with hours:=p.hours ++ [(d,a,b)] }
def Rm(st:Pl)(d:aq)(A4:Pl):Prop:=∃e,d=G8 e/\ji st/\uP e/\Ae st e/\A4=tQ st e
theorem wF{κ:Type}[DecidableEq κ]:∀{kvs:List (κ×V)}{k:κ},(∀q∈kvs,q.1≠k)->jQ kvs k=none
 | [],_,_=>rfl
 |q::l,k,h=>by rw[mY (h q aO)];exact wF λx hx=>h x (aU _ hx)
theorem Ai(z:Int×Int)(n:Str):∀{h:List (Str×List (Int×Int))}{cs:List aN},cs.length=h.length->
  (jQ (ip h cs) (cz n)=none/\r9 h n z=h ++ [(n,[z])])\/∃i c q,h[i]?=some q/\cs[i]?=some c/\jQ (ip h cs) (cz n)=some (.ref c)/\r9 h n z=h.set i (q.1,q.2 ++ [z])
 | [],[],_=>.inl ⟨rfl,rfl⟩
 | [],_::_,e=>by cases e
 |_::_,[],e=>by cases e
 |q::h,c::cs,e=>by
  have hv:ip (q::h) (c::cs)=(cz q.1,V.ref c)::ip h cs:=rfl;by_cases hn:q.1=n
  ·refine .inr ⟨0,c,q,rfl,rfl,?_,?_⟩
   ·rw[hv];exact qe (by show(cz q.1:Key)=cz n;rw[hn])
   ·show(if q.1=n then(q.1,q.2 ++ [z])::h else q::r9 h n z)=_
    rw[if_pos hn];rfl
  ·have ne:¬(cz q.1:Key)=cz n:=λw=>hn (by injection w)
   have ea:r9 (q::h) n z=q::r9 h n z:=by
    show(if q.1=n then(q.1,q.2 ++ [z])::h else q::r9 h n z)=_
    rw[if_neg hn]
   rcases Ai z n (h:=h) (cs:=cs) (by simpa using e) with⟨h1,h2⟩|⟨i,c',q',h1,h2,h3,h4⟩
   ·exact .inl ⟨by rw[hv,mY ne];exact h1,by rw[ea,h2];rfl⟩
   ·exact .inr ⟨i+1,c',q',by simpa using h1,by simpa using h2,by rw[hv,mY ne];exact h3,by rw[ea,h4];rfl⟩
theorem yp:∀{h h':List (Str×List (Int×Int))}{cs:List aN},h'.map (·.1)=h.map (·.1)->ip h' cs=ip h cs
 | [],[],_,_=>rfl
 | [],_::_,_,e=>by cases e
 |_::_,[],_,e=>by cases e
 |q::h,q'::h',cs,e=>by
  obtain⟨e1,e2⟩:=kF e;cases cs with
  |nil=>rfl
  |cons c cs=>
   show(cz q'.1,V.ref c)::ip h' cs=(cz q.1,V.ref c)::ip h cs
   rw[show q'.1=q.1 from e1,yp e2]
theorem Hn{h:List (Str×List (Int×Int))}{cs:List aN}(e:cs.length=h.length)(q:Str×List (Int×Int))(c:aN):ip (h ++ [q]) (cs ++ [c])=ip h cs ++ [(cz q.1,V.ref c)]:=by
 unfold ip;rw[List.zip_append (by omega),aX]
 rfl
theorem Ho(l:List (Str×Int×Int))(q:Str×Int×Int):gB (l ++ [q])=r9 (gB l) q.1 q.2:=by
 unfold gB;rw[hX];rfl
theorem E6(z:Int×Int)(n:Str):∀h,(r9 h n z).length<=h.length+1
 | []=>aA _
 |q::h=>by
  show(if q.1=n then(q.1,q.2 ++ [z])::h else q::r9 h n z).length<=_
  split
  ·simp
  ·have:=E6 z n h
   simp only[bh];omega
theorem Hq(l:List (Str×Int×Int)):(gB l).length<=l.length:=by
 have go:∀(l:List (Str×Int×Int))(acc:List (Str×List (Int×Int))),(l.foldl (λacc q=>r9 acc q.1 q.2) acc).length<=acc.length+l.length:=by
  intro l
  induction l with
  |nil=>intro acc;exact aA _
  |cons q l ih=>
   intro acc;have h1:=ih (r9 acc q.1 q.2);have h2:=E6 q.2 q.1 acc;rw[oj,bh];omega
 have:=go l [];rw[cv,sG]at this;exact this
theorem Aj(z:Int×Int)(n:Str):∀(h:List (Str×List (Int×Int)))(b:Nat),(∀q∈h,q.2.length<=b)->∀q∈r9 h n z,q.2.length<=b+1
 | [],b,_,q,hq=>by rw[a_.mp hq];simp
 |p::h,b,hb,q,hq=>by
  have hq:q∈(if p.1=n then(p.1,p.2 ++ [z])::h else p::r9 h n z):=hq
  split at hq
  ·rcases aJ.mp hq with rfl|hq
   ·have:=hb p aO
    rw[a8];simp;omega
   ·have:=hb q (aU _ hq);omega
  ·rcases aJ.mp hq with rfl|hq
   ·have:=hb q aO;omega
   ·exact Aj z n h b (λx hx=>hb x (aU _ hx)) q hq
theorem E7(l:List (Str×Int×Int)):∀q∈gB l,q.2.length<=l.length:=by
 have go:∀(l:List (Str×Int×Int))(acc:List (Str×List (Int×Int)))(b:Nat),(∀q∈acc,q.2.length<=b)->∀q∈l.foldl (λacc q=>r9 acc q.1 q.2) acc,q.2.length<=b+l.length:=by
  intro l
  induction l with
  |nil=>intro acc b hb q hq;exact hb q hq
  |cons q0 l ih=>
   intro acc b hb q hq;have:=ih (r9 acc q0.1 q0.2) (b+1) (Aj q0.2 q0.1 acc b hb) q hq;rw[bh];omega
 intro q hq;have:=go l [] 0 (λq hq=>by cases hq) q hq
 omega
section
variable{P:bM}{w:cy}{K:av}{mg:Str->Option aD}{base:dq}{f:aN}{k:Nat}
abbrev Nae:List Str:=["plant","entry","form","name"]
theorem Rn:cG Nae E4 (bJ (top 46)):=⟨rfl,rfl,rfl,by decide +kernel,rfl,by decide +kernel,by decide +kernel⟩
theorem Xy{ak ag al ad at_ ah ap:aN}:(Qb ak ag al ad at_ ah ap).lookup ("kinds":Str)=some (.ref ak)/\(Qb ak ag al ad at_ ah ap).lookup ("gates":Str)=some (.ref ag)/\(Qb ak ag al ad at_ ah ap).lookup ("lines":Str)=some (.ref al)/\(Qb ak ag al ad at_ ah ap).lookup ("desks":Str)=some (.ref ad)/\(Qb ak ag al ad at_ ah ap).lookup ("times":Str)=some (.ref at_)/\(Qb ak ag al ad at_ ah ap).lookup ("hours":Str)=some (.ref ah):=⟨rfl,rfl,rfl,rfl,rfl,rfl⟩
theorem zbQ(F:kM K "add_entry" "add_entry" (top 46) f fd):eQ P w K mg base jE 1 f fd E4 (MA K Pl (Dp K) Rm):=by
 refine F.ok Rn (λvs H Q E h=>?_) (λgy A outer s H vs Q E hr h=>?_)
 ·obtain⟨_,_,_,_,_,_,_,rfl,_⟩:=h
  rfl
 ·obtain⟨H0,p,v,as,st,A4,d,rfl,sm,rv,own,W0,⟨e,rfl,ok,oe,oa,rfl⟩,q⟩:=h
  refine⟨_,mh,?_⟩
  have nd:Nae.Nodup:=Rn.nd;have f0:gW K H0 H H0 H (start Nae [.ref p,v]) [.ref p,.val (G8 e),.un,.un]:=by
   refine⟨.refl sm,rfl,λi sl hi=>?_,λi j a b p' _ h1=>?_⟩
   ·match i,hi with
    |0,hi=>cases hi;exact rfl
    |1,hi=>cases hi;exact⟨v,rfl,rv⟩
    |2,hi=>cases hi;exact trivial
    |3,hi=>cases hi;exact trivial
    |i+4,hi=>simp at hi
   ·match i,h1 with
    |0,h1=>cases h1
    |1,h1=>cases h1
    |2,h1=>cases h1
    |3,h1=>cases h1
    |i+4,h1=>simp at h1
  refine dS (Eo f0 (c6 2 (d:=.str e.form) (bZ (ai 1 rfl) ax (uq e)) nd) λσ1 H1 dX s1 f1=>?_)
  refine dS (Eo f1 (c6 3 (d:=.str e.name) (bZ (ai 1 rfl) ax (Jk e)) nd) λσ2 H2 iL s2 f2=>?_)
  have W2:=Dp.mono _ _ _ _ _ W0 f2.ent.gL (λa ha=>f2.ent.big.eq (own a ha).2)
  obtain⟨C,dx,ak,ag,al,ad,at_,ah,ap,cs,xd,rfl,Qc,W⟩:=W2;have o2:∀a∈p::ak::ag::al::ad::at_::ah::ap::cs,∃o,H a=some o/\H0 a=none:=λa ha=>by
   obtain⟨z1,z2⟩:=own a ha;cases e:H a with
   |none=>exact absurd e z2
   |some o=>exact⟨o,rfl,z1⟩
  have Xz:=Qc;simp only[ia,aJ,not_or]at Xz;obtain⟨⟨pk,pg,pl,pd,pt,ph,pp,pc⟩,⟨kg,kl,kd,kt,kh,kp,kc⟩,⟨gl,gd,gt,gh,gp,gc⟩,⟨ld,lt,lh,lp,lc⟩,⟨dt,dh,dp,dc⟩,⟨th,tp,tc⟩,⟨hp,hc⟩,apc,ncs⟩:=Xz;have fin:∀(Ha Hb:Hp)(a:aN)(o:HO),dW H0 H Ha Hb->a∈p::ak::ag::al::ad::at_::ah::ap::cs->(∀xd',xd'=xd->Dp K p (tQ st e) Ha (upd Hb a o) (p::ak::ag::al::ad::at_::ah::ap::cs))->Q .non (upd Hb a o):=λHa Hb a o g ha hW=>by
   have fr:∀b∈p::ak::ag::al::ad::at_::ah::ap::cs,Ha b=none/\Hb b≠none:=λb hb=>by
    obtain⟨ob,e1,e2⟩:=o2 b hb;exact⟨g.still e2 e1,by rw[g.big _ _ e1];simp⟩
   refine q Ha (upd Hb a o) _ g.gL (λb u e=>?_) g.new (λb hb=>⟨(fr b hb).1,?_,.inl hb⟩) (λb u e hb=>?_) (hW xd rfl)
   ·rw[aT (bE e (fr a ha).1)];exact g.sub b u e
   ·by_cases hba:b=a
    ·subst hba;rw[b0];simp
    ·rw[aT hba];exact(fr b hb).2
   ·rw[aT (λz=>hb (by rw[z];exact ha))];exact g.big b u e
  have Wg:∀Ha Hb,dW H2 iL Ha Hb->PlW K p st Ha Hb C dx ak ag al ad at_ ah ap cs xd:=λHa Hb g=>by
   have M:=Dp.mono (K:=K) (p:=p) (st:=st) H2 iL Ha Hb (p::ak::ag::al::ad::at_::ah::ap::cs) ⟨C,dx,ak,ag,al,ad,at_,ah,ap,cs,xd,rfl,Qc,W⟩ g.gL (λa ha=>by
    obtain⟨o,e1,_⟩:=o2 a ha;exact g.big.eq (by rw[f2.ent.big _ _ e1];simp))
   exact⟨g.big _ _ W.ins,W.cls,W.uC,g.big _ _ W.ki,g.big _ _ W.ga,g.big _ _ W.li,g.big _ _ W.de,W.dr.mono g.gL,g.big _ _ W.ti,g.big _ _ W.ho,W.hl,g.big _ _ W.pa,λi c q e1 e2=>by
    obtain⟨xs,h1,h2⟩:=W.ce i c q e1 e2;exact⟨xs,g.big _ _ h1,h2.mono g.gL⟩⟩
  obtain⟨lk1,lk2,lk3,lk4,lk5,lk6⟩:=Xy (ak:=ak) (ag:=ag) (al:=al) (ad:=ad) (at_:=at_) (ah:=ah) (ap:=ap);have lf:=bq (n:=20) (dN e);cases e with
  |kind m kk=>
   refine d_ (yi f2 (VT.to (b_ hr lf aY (ai 2 rfl) aF) (jD _)) λHa Hb g=>?_)
   have Wa:=Wg Ha Hb g;have hz:(vp st).length<sizeLine:=iN (by unfold vp;rw[aj];have:=ok.kn;omega)
   refine d_ (QV (f2.grow g) hr 0 rfl Wa.ins Wa.cls (Wa.uC _ (by decide +kernel)) lk1 Wa.ki (ai 3 rfl) (bZ (ai 1 rfl) ax (a9 (j:=2) rfl)) hz λv Hc Hd g2 r=>?_)
   have Wd:=Wg Hc Hd (g.trans g2);have hv:=Rep.Qa r;subst hv;refine fin Hc Hd ak _ (f2.ent.trans (g.trans g2)) (by simp) λ_ _=>⟨C,dx,ak,ag,al,ad,at_,ah,ap,cs,xd,rfl,Qc,?_⟩
   have hn:jQ (vp st) (cz m)=none:=wF λq' D4=>by
    obtain⟨q0,h0,rfl⟩:=aI.mp D4;intro z
    injection z with z
    exact oa (by rw[<-z];exact aI.mpr ⟨q0,h0,rfl⟩)
   refine⟨by rw[aT pk];exact Wd.ins,Wd.cls,Wd.uC,?_,by rw[aT (bU kg)];exact Wd.ga,by rw[aT (bU kl)];exact Wd.li,by rw[aT (bU kd)];exact Wd.de,Wd.dr,by rw[aT (bU kt)];exact Wd.ti,by rw[aT (bU kh)];exact Wd.ho,Wd.hl,by rw[aT (bU kp)];exact Wd.pa,λi c q' e1 e2=>?_⟩
   ·rw[b0]
    show some (HO.dK (putK (vp st) (cz m) (P' kk)))=some (.dK ((st.kinds ++ [(m,kk)]).map _));rw[vX _ hn,aX];rfl
   ·obtain⟨xs,h1,h2⟩:=Wd.ce i c q' e1 e2
    exact⟨xs,by rw[aT (λz=>kc (by rw[<-z];exact bF e1))];exact h1,h2⟩
  |gate m=>
   refine d_ (oF f2 (VT.to (b_ hr lf aY (ai 2 rfl) aF) (hV (show("gate":Str)≠"kind" by decide +kernel))) λXA XB g1=>?_)
   have Jm:=f2.grow g1;have Qd:=g1;refine d_ (yi Jm (VT.to (b_ hr lf aY (ai 2 rfl) aF) (jD _)) λTV TX g2=>?_)
   have KC:=Jm.grow g2;have Nv:=Qd.trans g2;have Wa:=Wg TV TX Nv;have hz:(st.gates.map V.str).length<sizeLine:=iN (by rw[aj];have:=ok.gn;omega)
   refine d_ (Ep KC 0 rfl Wa.ins Wa.cls (Wa.uC _ (by decide +kernel)) lk2 Wa.ga (ai 3 rfl) hz λv Hc Hd g9 r=>?_)
   have Wd:=Wg Hc Hd (Nv.trans g9);cases r;refine fin Hc Hd ag _ (f2.ent.trans (Nv.trans g9)) (by simp) λ_ _=>⟨C,dx,ak,ag,al,ad,at_,ah,ap,cs,xd,rfl,Qc,?_⟩
   refine⟨by rw[aT (pg)];exact Wd.ins,Wd.cls,Wd.uC,by rw[aT (kg)];exact Wd.ki,?_,by rw[aT (bU gl)];exact Wd.li,by rw[aT (bU gd)];exact Wd.de,Wd.dr,by rw[aT (bU gt)];exact Wd.ti,by rw[aT (bU gh)];exact Wd.ho,Wd.hl,by rw[aT (bU gp)];exact Wd.pa,λi c q' e1 e2=>?_⟩
   ·rw[b0]
    show some (HO.lst (st.gates.map V.str ++ [V.str m]))=some (.lst ((st.gates ++ [m]).map V.str));rw[aX];rfl
   ·obtain⟨xs,h1,h2⟩:=Wd.ce i c q' e1 e2
    exact⟨xs,by rw[aT (λz=>gc (by rw[<-z];exact bF e1))];exact h1,h2⟩
  |line m rr=>
   refine d_ (oF f2 (VT.to (b_ hr lf aY (ai 2 rfl) aF) (hV (show("line":Str)≠"kind" by decide +kernel))) λXA XB g1=>?_)
   have Jm:=f2.grow g1;have Qd:=g1;refine d_ (oF Jm (VT.to (b_ hr lf aY (ai 2 rfl) aF) (hV (show("line":Str)≠"gate" by decide +kernel))) λTV TX g2=>?_)
   have KC:=Jm.grow g2;have Nv:=Qd.trans g2;refine d_ (yi KC (VT.to (b_ hr lf aY (ai 2 rfl) aF) (jD _)) λXC XD g3=>?_)
   have Oa:=KC.grow g3;have Qe:=Nv.trans g3;have Wa:=Wg XC XD Qe;have hz:(vq st).length<sizeLine:=iN (by unfold vq;rw[aj];have:=ok.ln;omega)
   refine d_ (QV Oa hr 0 rfl Wa.ins Wa.cls (Wa.uC _ (by decide +kernel)) lk3 Wa.li (ai 3 rfl) (bZ (ai 1 rfl) ax (a9 (j:=2) rfl)) hz λv Hc Hd g9 r=>?_)
   have Wd:=Wg Hc Hd (Qe.trans g9);cases r;refine fin Hc Hd al _ (f2.ent.trans (Qe.trans g9)) (by simp) λ_ _=>⟨C,dx,ak,ag,al,ad,at_,ah,ap,cs,xd,rfl,Qc,?_⟩
   have hn:jQ (vq st) (cz m)=none:=wF λq' D4=>by
    obtain⟨q0,h0,rfl⟩:=aI.mp D4;intro z
    injection z with z
    exact oa (.inr (by rw[<-z];exact aI.mpr ⟨q0,h0,rfl⟩))
   refine⟨by rw[aT (pl)];exact Wd.ins,Wd.cls,Wd.uC,by rw[aT (kl)];exact Wd.ki,by rw[aT (gl)];exact Wd.ga,?_,by rw[aT (bU ld)];exact Wd.de,Wd.dr,by rw[aT (bU lt)];exact Wd.ti,by rw[aT (bU lh)];exact Wd.ho,Wd.hl,by rw[aT (bU lp)];exact Wd.pa,λi c q' e1 e2=>?_⟩
   ·rw[b0]
    show some (HO.dK (putK (vq st) (cz m) (V.int rr)))=some (.dK ((st.lines ++ [(m,rr)]).map _));rw[vX _ hn,aX];rfl
   ·obtain⟨xs,h1,h2⟩:=Wd.ce i c q' e1 e2
    exact⟨xs,by rw[aT (λz=>lc (by rw[<-z];exact bF e1))];exact h1,h2⟩
  |desk q0=>
   refine d_ (oF f2 (VT.to (b_ hr lf aY (ai 2 rfl) aF) (hV (show("desk":Str)≠"kind" by decide +kernel))) λXA XB g1=>?_)
   have Jm:=f2.grow g1;have Qd:=g1;refine d_ (oF Jm (VT.to (b_ hr lf aY (ai 2 rfl) aF) (hV (show("desk":Str)≠"gate" by decide +kernel))) λTV TX g2=>?_)
   have KC:=Jm.grow g2;have Nv:=Qd.trans g2;refine d_ (oF KC (VT.to (b_ hr lf aY (ai 2 rfl) aF) (hV (show("desk":Str)≠"line" by decide +kernel))) λXC XD g3=>?_)
   have Oa:=KC.grow g3;have Qe:=Nv.trans g3;refine d_ (yi Oa (VT.to (b_ hr lf aY (ai 2 rfl) aF) (jD _)) λZd Ze g4=>?_)
   have TY:=Oa.grow g4;have T2:=Qe.trans g4;have Wa:=Wg Zd Ze T2;have hxl:=Wa.dr.length;rw[aj]at hxl;have hz:xd.length<sizeLine:=iN (by have:=ok.dn;omega)
   have GU:L2.cutD (aH "desk"::Ent.rest (.desk q0)) (some 1) none=Ent.rest (.desk q0):=(jI (aH "desk"::Ent.rest (.desk q0)) 1).trans rfl;refine d_ (Ep (d:=gk q0) TY 0 rfl Wa.ins Wa.cls (Wa.uC _ (by decide +kernel)) lk4 Wa.de (VE.to (xB (ai 1 rfl) (.yes ax) .no ?_) (by show gK (L2.cutD (aH "desk"::Ent.rest (.desk q0)) (some 1) none)=_;rw[GU];rfl)) hz λv Hc Hd g9 r=>?_)
   ·intro z
    have:=z.1;rw[show(1:Int)=((1:Nat):Int)from rfl,HT.nW]at this
    exact absurd this (by show ¬(min 1 5=0);decide)
   have Wd:=Wg Hc Hd (T2.trans g9);refine fin Hc Hd ad _ (f2.ent.trans (T2.trans g9)) (by simp) λ_ _=>⟨C,dx,ak,ag,al,ad,at_,ah,ap,cs,xd ++ [v],rfl,Qc,?_⟩
   refine⟨by rw[aT (pd)];exact Wd.ins,Wd.cls,Wd.uC,by rw[aT (kd)];exact Wd.ki,by rw[aT (gd)];exact Wd.ga,by rw[aT (ld)];exact Wd.li,b0,?_,by rw[aT (bU dt)];exact Wd.ti,by rw[aT (bU dh)];exact Wd.ho,Wd.hl,by rw[aT (bU dp)];exact Wd.pa,λi c q' e1 e2=>?_⟩
   ·show dz K Hc (xd ++ [v]) ((st.desks ++ [q0]).map gk)
    rw[aX];exact Wd.dr.append (.cons r .nil)
   ·obtain⟨xs,h1,h2⟩:=Wd.ce i c q' e1 e2
    exact⟨xs,by rw[aT (λz=>dc (by rw[<-z];exact bF e1))];exact h1,h2⟩
  |time dk Zf wk=>
   refine d_ (oF f2 (VT.to (b_ hr lf aY (ai 2 rfl) aF) (hV (show("time":Str)≠"kind" by decide +kernel))) λXA XB g1=>?_)
   have Jm:=f2.grow g1;have Qd:=g1;refine d_ (oF Jm (VT.to (b_ hr lf aY (ai 2 rfl) aF) (hV (show("time":Str)≠"gate" by decide +kernel))) λTV TX g2=>?_)
   have KC:=Jm.grow g2;have Nv:=Qd.trans g2;refine d_ (oF KC (VT.to (b_ hr lf aY (ai 2 rfl) aF) (hV (show("time":Str)≠"line" by decide +kernel))) λXC XD g3=>?_)
   have Oa:=KC.grow g3;have Qe:=Nv.trans g3;refine d_ (oF Oa (VT.to (b_ hr lf aY (ai 2 rfl) aF) (hV (show("time":Str)≠"desk" by decide +kernel))) λZd Ze g4=>?_)
   have TY:=Oa.grow g4;have T2:=Qe.trans g4;refine d_ (yi TY (VT.to (b_ hr lf aY (ai 2 rfl) aF) (jD _)) λHa5 Hb5 g5=>?_)
   have Zg:=TY.grow g5;have Zh:=T2.trans g5;have Wa:=Wg Ha5 Hb5 Zh;have hz:(vt st).length<sizeLine:=iN (by unfold vt;rw[aj];have:=ok.tn;omega)
   refine d_ (Te Zg hr 0 rfl Wa.ins Wa.cls (Wa.uC _ (by decide +kernel)) lk5 Wa.ti (ai 3 rfl) (bZ (ai 1 rfl) ax (a9 (j:=2) rfl)) (bZ (ai 1 rfl) ax (a9 (j:=3) rfl)) hz λv t Hc Hd g9 ht r=>?_)
   have gt9:dW H2 iL Hc (upd Hd t (.tup [.str dk,.str Zf])):=(Zh.trans g9).trans (.loose g9.sub ht);have Wd:=Wg Hc _ gt9;cases r;refine fin Hc _ at_ _ (f2.ent.trans gt9) (by simp) λ_ _=>⟨C,dx,ak,ag,al,ad,at_,ah,ap,cs,xd,rfl,Qc,?_⟩
   have hn:jQ (vt st) (xE (dk,Zf))=none:=wF λq' D4=>by
    obtain⟨q0,h0,rfl⟩:=aI.mp D4;intro z;have:=El z;exact oa.1 (by rw[<-this];exact aI.mpr ⟨q0,h0,rfl⟩)
   refine⟨by rw[aT (pt)];exact Wd.ins,Wd.cls,Wd.uC,by rw[aT (kt)];exact Wd.ki,by rw[aT (gt)];exact Wd.ga,by rw[aT (lt)];exact Wd.li,by rw[aT (dt)];exact Wd.de,Wd.dr,?_,by rw[aT (bU th)];exact Wd.ho,Wd.hl,by rw[aT (bU tp)];exact Wd.pa,λi c q' e1 e2=>?_⟩
   ·rw[b0]
    show some (HO.dT (putK (vt st) (xE (dk,Zf)) (V.int wk)))=some (.dT ((st.times ++ [(dk,Zf,wk)]).map _));rw[vX _ hn,aX];rfl
   ·obtain⟨xs,h1,h2⟩:=Wd.ce i c q' e1 e2
    exact⟨xs,by rw[aT (λz=>tc (by rw[<-z];exact bF e1))];exact h1,h2⟩
  |hour dk ha hb=>
   refine d_ (oF f2 (VT.to (b_ hr lf aY (ai 2 rfl) aF) (hV (show("open":Str)≠"kind" by decide +kernel))) λXA XB g1=>?_)
   have Jm:=f2.grow g1;have Qd:=g1;refine d_ (oF Jm (VT.to (b_ hr lf aY (ai 2 rfl) aF) (hV (show("open":Str)≠"gate" by decide +kernel))) λTV TX g2=>?_)
   have KC:=Jm.grow g2;have Nv:=Qd.trans g2;refine d_ (oF KC (VT.to (b_ hr lf aY (ai 2 rfl) aF) (hV (show("open":Str)≠"line" by decide +kernel))) λXC XD g3=>?_)
   have Oa:=KC.grow g3;have Qe:=Nv.trans g3;refine d_ (oF Oa (VT.to (b_ hr lf aY (ai 2 rfl) aF) (hV (show("open":Str)≠"desk" by decide +kernel))) λZd Ze g4=>?_)
   have TY:=Oa.grow g4;have T2:=Qe.trans g4;refine d_ (oF TY (VT.to (b_ hr lf aY (ai 2 rfl) aF) (hV (show("open":Str)≠"time" by decide +kernel))) λHa5 Hb5 g5=>?_)
   have Zg:=TY.grow g5;have Zh:=T2.trans g5;refine d_ (yi Zg (VT.to (b_ hr lf aY (ai 2 rfl) aF) (jD _)) λHa6 Hb6 g6=>?_)
   have ff6:=Zg.grow g6;have XE:=Zh.trans g6;have Wa:=Wg Ha6 Hb6 XE;have hll:=Hq st.hours;have J8:=E7 st.hours;have okh:=ok.hn;have hz:(ip (gB st.hours) cs).length<sizeLine:=iN (by unfold ip;rw[aj,List.length_zip];omega)
   have GU:L2.cutD (aH "open"::Ent.rest (.hour dk ha hb)) (some 2) none=[.int ha,.int hb]:=(jI (aH "open"::Ent.rest (.hour dk ha hb)) 2).trans rfl;have ha0:Ha6 ah=none:=by
    obtain⟨o,e1,e2⟩:=o2 ah (by simp)
    exact(f2.ent.trans XE).still e2 e1
   have Qf:gB (st.hours ++ [(dk,ha,hb)])=r9 (gB st.hours) dk (ha,hb):=Ho _ _;have Nx:=Ai (ha,hb) dk W.hl;refine d_ (MC (d:=pairD (ha,hb)) ff6 0 rfl Wa.ins Wa.cls (Wa.uC _ (by decide +kernel)) lk6 Wa.ho (ai 3 rfl) (VE.to (xB (ai 1 rfl) (.yes ax) .no ?_) (by show gK (L2.cutD (aH "open"::Ent.rest (.hour dk ha hb)) (some 2) none)=_;rw[GU];rfl)) hz rfl ha0 (λv hv=>?_) (λc xs v t Hc Hd Gr Yl htt g9 ht0 r=>?_) (λv c Hc Hd Gr UD s9 s10 nw old Ux hdc YH ha9 r=>?_))
   ·intro z
    have:=z.1;rw[show(2:Int)=((2:Nat):Int)from rfl,HT.nW]at this
    exact absurd this (by show ¬(min 2 4=0);decide)
   ·rcases Nx with⟨h1,_⟩|⟨i,c,q',h1,h2,h3,h4⟩
    ·have hv:jQ (ip (gB st.hours) cs) (cz dk)=some v:=hv
     rw[h1]at hv;cases hv
    ·have hv:some v=some (V.ref c):=hv.symm.trans h3
     cases hv;obtain⟨xs,x1,x2⟩:=Wa.ce i c q' h2 h1;refine⟨c,xs,rfl,x1,iN ?_⟩
     have:=x2.length;rw[aj]at this;have:=J8 q' (bF h1);omega
   ·rcases Nx with⟨h1,_⟩|⟨i,c',q',h1,h2,h3,h4⟩
    ·have Gr:jQ (ip (gB st.hours) cs) (cz dk)=some (V.ref c):=Gr
     rw[h1]at Gr;cases Gr
    ·have Gr:some (V.ref c')=some (V.ref c):=h3.symm.trans Gr
     cases Gr;have Wd:=Wg Hc Hd (XE.trans g9);have Vq:c∈cs:=bF h2;obtain⟨LZ,x1,x2⟩:=Wd.ce i c q' h2 h1;have ex:LZ=xs:=by
      have:=g9.big _ _ Yl;rw[this]at x1;cases x1;rfl
     subst ex;have T3:i<(gB st.hours).length:=(aL.mp h1).1;have Hr:gB (tQ st (.hour dk ha hb)).hours=(gB st.hours).set i (q'.1,q'.2 ++ [(ha,hb)]):=by
      show gB (st.hours ++ [(dk,ha,hb)])=_;rw[Qf,h4]
     refine fin Hc Hd c _ (f2.ent.trans (XE.trans g9)) (by simp[Vq]) λ_ _=>⟨C,dx,ak,ag,al,ad,at_,ah,ap,cs,xd,rfl,Qc,?_⟩
     have nc:∀x,x∉cs->x≠c:=λx hx z=>hx (by rw[z];exact Vq)
     refine⟨by rw[aT (nc _ pc)];exact Wd.ins,Wd.cls,Wd.uC,by rw[aT (nc _ kc)];exact Wd.ki,by rw[aT (nc _ gc)];exact Wd.ga,by rw[aT (nc _ lc)];exact Wd.li,by rw[aT (nc _ dc)];exact Wd.de,Wd.dr,by rw[aT (nc _ tc)];exact Wd.ti,?_,?_,by rw[aT (nc _ apc)];exact Wd.pa,λj c2 q2 e1 e2=>?_⟩
     ·rw[aT (nc _ hc),Wd.ho,Hr]
      congr 2
      refine(yp ?_).symm
      rw[l'];refine lY λn=>?_
      by_cases hn:n=i
      ·subst hn;rw[bf (by rw[aj];exact T3),aP,h1];rfl
      ·rw[a7 (bU hn)]
     ·rw[Hr,oi];exact Wd.hl
     ·rw[Hr]at e2
      by_cases hj:j=i
      ·subst hj
       rw[h2]at e1;cases e1;rw[bf T3]at e2;cases e2;refine⟨LZ ++ [v],b0,?_⟩
       show dz K Hc (LZ ++ [v]) ((q'.2 ++ [(ha,hb)]).map pairD);rw[aX];exact x2.append (.cons r .nil)
      ·rw[a7 (bU hj)]at e2
       obtain⟨ys,y1,y2⟩:=Wd.ce j c2 q2 e1 e2;have lR:c2≠c:=λz=>by
        subst z;have l1:=aL.mp e1;have l2:=aL.mp h2;obtain⟨l1a,l1b⟩:=l1;obtain⟨l2a,l2b⟩:=l2;rcases Nat.lt_or_gt_of_ne hj with qI|qI
        ·exact pX.mp ncs j i l1a l2a qI (by rw[l1b,l2b])
        ·exact pX.mp ncs i j l2a l1a qI (by rw[l1b,l2b])
       exact⟨ys,by rw[aT lR];exact y1,y2⟩
   ·rcases Nx with⟨h1,h4⟩|⟨i,c',q',h1,h2,h3,h4⟩
    ·have gH:=f2.ent.trans XE
     have hcH:H c=none:=gH.big.free UD;have Qg:c∉p::ak::ag::al::ad::at_::ah::ap::cs:=λz=>by
      obtain⟨o,e1,_⟩:=o2 c z;rw[hcH]at e1;cases e1
     have Hr:gB (tQ st (.hour dk ha hb)).hours=gB st.hours ++ [(dk,[(ha,hb)])]:=by
      show gB (st.hours ++ [(dk,ha,hb)])=_;rw[Qf,h4]
     have zbT:∀x∈p::ak::ag::al::ad::at_::ah::ap::cs,Hc x=none:=λx hx=>by
      obtain⟨o,e1,e2⟩:=o2 x hx;have:Ha6 x=none:=gH.still e2 e1;cases e:Hc x with
      |none=>rfl
      |some u=>
       rcases nw x (by rw[e];simp)with z|z
       ·exact absurd this z
       ·rw[gH.big _ _ e1]at z;cases z
     have K_:∀x∈p::ak::ag::al::ad::at_::ah::ap::cs,x≠ah->∀u,Hb6 x=some u->(upd Hd c (.lst [v])) x=some u:=λx hx Zi u e=>by
      rw[aT (λz=>Qg (by rw[<-z];exact hx))];exact old x u e Zi
     refine q Hc (upd Hd c (.lst [v])) (p::ak::ag::al::ad::at_::ah::ap::(cs ++ [c])) (gH.gL.trans s9) (λb u e=>?_) (λb z=>?_) (λx hx=>?_) (λb u e Wq=>?_) ⟨C,dx,ak,ag,al,ad,at_,ah,ap,cs ++ [c],xd,rfl,?_,?_⟩
     ·rw[aT (bE e YH)];exact s10 b u e
     ·rcases nw b z with z|z
      ·exact gH.new b z
      ·exact .inr (gH.big.free z)
     ·have hx:x∈(p::ak::ag::al::ad::at_::ah::ap::cs) ++ [c]:=by simpa using hx
      rcases bX.mp hx with hx|hx
      ·refine⟨zbT x hx,?_,.inl hx⟩
       rw[aT (λz=>Qg (by rw[<-z];exact hx))]
       obtain⟨o,e1,_⟩:=o2 x hx;by_cases Zi:x=ah
       ·rw[Zi,Ux];simp
       ·rw[old x o (gH.big _ _ e1) Zi];simp
      ·rw[a_.mp hx]
       exact⟨YH,by rw[b0];simp,.inr hcH⟩
     ·have hbc:b≠c:=λz=>by rw[z,hcH]at e;cases e
      rw[aT hbc];exact old b u (gH.big _ _ e) (λz=>Wq (by rw[z];simp))
     ·have:(p::ak::ag::al::ad::at_::ah::ap::(cs ++ [c]))=(p::ak::ag::al::ad::at_::ah::ap::cs) ++ [c]:=by simp
      rw[this,e8];exact⟨Qc,by simp,λx hx y hy z=>Qg (by rw[<-a_.mp hy,<-z];exact hx)⟩
     ·refine⟨K_ p (by simp) ph _ Wa.ins,Wa.cls,Wa.uC,K_ ak (by simp) kh _ Wa.ki,K_ ag (by simp) gh _ Wa.ga,K_ al (by simp) lh _ Wa.li,K_ ad (by simp) dh _ Wa.de,Wa.dr.mono s9,K_ at_ (by simp) th _ Wa.ti,?_,?_,K_ ap (by simp) (bU hp) _ Wa.pa,λj c2 q2 e1 e2=>?_⟩
      ·have Ux:Hd ah=some (.dK (putK (ip (gB st.hours) cs) (cz dk) (.ref c))):=Ux
       rw[aT (λz=>Qg (by rw[<-z];simp)),Ux,Hr,vX _ h1,Hn W.hl]
      ·rw[Hr,a8,a8,W.hl];rfl
      ·rw[Hr]at e2
       by_cases hj:j<cs.length
       ·rw[cL hj]at e1
        rw[cL (by rw[<-W.hl];exact hj)]at e2
        obtain⟨ys,y1,y2⟩:=Wa.ce j c2 q2 e1 e2;have hm:c2∈cs:=bF e1;exact⟨ys,K_ c2 (by simp[hm]) (λz=>hc (by rw[<-z];exact hm)) _ y1,y2.mono s9⟩
       ·have hl:=W.hl
        have hj2:j=cs.length:=by
         have:=(aL.mp e1).1;rw[a8,jZ]at this;omega
        subst hj2;rw[cD (aA _),FJ]at e1;rw[cD (by omega),show cs.length-(gB st.hours).length=0 from by omega]at e2
        cases e1;cases e2;exact⟨[v],b0,.cons r .nil⟩
    ·have Gr:jQ (ip (gB st.hours) cs) (cz dk)=none:=Gr
     rw[h3]at Gr;cases Gr
end
def Hs:Pl:=⟨[],[],[],[],[],[]⟩
def xX(es:List Ent)(i:Nat):Pl:=(es.take i).foldl tQ Hs
theorem KD{es:List Ent}{i:Nat}(h:es[i]?=some e):xX es (i+1)=tQ (xX es i) e:=by
 unfold xX;rw[dv,h,hX];rfl
theorem Ny(es:List Ent):xX es es.length=es.foldl tQ Hs:=by unfold xX;rw[eW]
structure XF(es:List Ent):Prop where
 ent:∀e∈es,uP e
 pl:∀i,i<=es.length->ji (xX es i)
 add:∀(i:Nat)e,es[i]?=some e->Ae (xX es i) e
section
variable{P:bM}{w:cy}{K:av}{mg:Str->Option aD}{base:dq}{f:aN}{k:Nat}
structure PlC(P:bM)(w:cy)(K:av)(mg:Str->Option aD)(base:dq):Prop where
 ex:∃C fi fd,mg "Plant"=some (.ref C)/\D3 K C/\(∀f∈Zb,fY K C f)/\Mk K C fi/\eQ P w K mg base jE 1 fi fd ["self"] (Nu C)/\Binds K fd ["self"] []
abbrev Nrp:List Str:=["text","plant","number","words","entry","word"]
theorem Ro:cG Nrp ["text"] (bJ (top 30)):=⟨rfl,rfl,rfl,by decide +kernel,rfl,by decide +kernel,by decide +kernel⟩
def Rrp(ds:List aq)(d:aq):Prop:=∃(x:Str)(es:List Ent),ds=[.str x]/\pH x/\(rowsOf x).map (·.2)=es.map G9/\XF es/\d=eZ (es.foldl tQ Hs)
theorem zbU(F:kM K "read_plant" "read_plant" (top 30) f fd)(n:Np mg w.params K)(T:PlC P w K mg base)(C1:bG P w K mg base 2 "rows_of" ["text"] (AO K Y2))(C2:bG P w K mg base 8 "entry_of" ["words"] (gX K Reo))(C3:bG P w K mg base 3 "fault_of_plants" E4 (gX K Rfo))(C4:bG P w K mg base 1 "add_entry" E4 (MA K Pl (Dp K) Rm)):eQ P w K mg base jE 9 f fd ["text"] (gX K Rrp):=
 jA F Ro (λ_ _ h=>by obtain⟨_,_,rfl,_⟩:=h;rfl) λ_ _ h=>by
  obtain⟨x,es,rfl,ox,Rp,T4,rfl⟩:=h;intro gy A outer s H E hr;have nd:Nrp.Nodup:=Ro.nd;obtain⟨C,fi,fdi,mC,cl,na,M,FI,bI⟩:=T.ex;have hlen:(rowsOf x).length=es.length:=by have:=congrArg i5 Rp;simpa using this
  refine wm λB0 B σ H0 Hh D fr XG=>?_
  refine dS (Td 1 M FI (hr.mono (by omega)) mC bI (λp dx E' hp hdx Zc=>?_) nd)
  refine⟨p,dx,rfl,b0,λak ag al ad at_ ah ap H' mid=>⟨rfl,?_⟩⟩
  have K9:∀b,(upd (upd Hh dx (.own p)) p (.ins C dx [])) b=none->Hh b=none:=λb hb=>by
   have h1:b≠p:=λz=>by rw[z,b0]at hb;cases hb
   rw[aT h1]at hb;have h2:b≠dx:=λz=>by rw[z,b0]at hb;cases hb
   rw[aT h2]at hb;exact hb
  have Rq:∀b o,Hh b=some o->H' b=some o:=λb o e=>by
   have h1:b≠p:=bE e hp;refine mid.old b o ?_ h1
   rw[aT h1,aT (bE e hdx)];exact e
  have G0:OF K B0 B (Dp K p (xX es 0)) H0 H' (σ.set 1 (some (.ref p))) [.val (.str x),.ref p,.un,.un,.un,.un]:=by
   have g:dW H0 Hh H0 H':=⟨Rq,er.refl _,λb u e=>Rq b u (fr.sub b u e),λ_ z=>.inl z⟩
   refine⟨(fr.grow g).Gi (i:=1) (v:=.ref p) (sl:=.ref p) rfl rfl,rfl,[p,ak,ag,al,ad,at_,ah,ap],λa ha=>?_,C,dx,ak,ag,al,ad,at_,ah,ap,[],[],rfl,by simpa using mid.nd,?_⟩
   ·have Nz:Hh a=none/\H' a≠none:=by
     rcases aJ.mp ha with rfl|ha
     ·exact⟨hp,by rw[mid.ins];simp⟩
     ·have ha':∃q∈[(ak,HO.dK []),(ag,.lst []),(al,.dK []),(ad,.lst []),(at_,.dT []),(ah,.dK []),(ap,.dK [])],q.1=a:=by
       simp only[aJ,b7,or_false]at ha;rcases ha with rfl|rfl|rfl|rfl|rfl|rfl|rfl<;>simp
      obtain⟨q,hq,rfl⟩:=ha';exact⟨K9 _ (mid.fresh q hq),by rw[mid.ob q hq];simp⟩
    exact⟨fr.sub.free Nz.1,fr.ent.big.free Nz.1,Nz.2⟩
   ·exact⟨mid.ins,cl,na,mid.ob (ak,.dK []) (by simp),mid.ob (ag,.lst []) (by simp),mid.ob (al,.dK []) (by simp),mid.ob (ad,.lst []) (by simp),.nil,mid.ob (at_,.dT []) (by simp),mid.ob (ah,.dK []) (by simp),rfl,mid.ob (ap,.dK []) (by simp),λi c q e1=>by simp at e1⟩
  refine dS (Wx (tgt:=.tup [2,3]) (ds:=(rowsOf x).map rQ) (λi=>Dp K p (xX es i)) (λi=>Dp.mono) G0 cZ rfl (gu (VO.ve (i_ C1 (hr.mono (by omega)) (ao (ai 0 rfl) aK) ⟨x,rfl,ox,rfl⟩)))
   (fz rfl (bO (bD (i:=2) nd rfl (aV rfl)) (bO (bD (i:=3) nd rfl (aV rfl)) eu))) (λi d hd=>?_) (λσ2 Ha Hb G=>?_))
  ·obtain⟨r,Ht,rfl⟩:∃r,(rowsOf x)[i]?=some r/\d=rQ r:=by
    rw[aP]at hd;cases e:(rowsOf x)[i]? with
    |none=>rw[e]at hd;cases hd
    |some r=>rw[e]at hd;cases hd;exact⟨r,rfl,rfl⟩
   have T3:i<(rowsOf x).length:=(aL.mp Ht).1;have Ur:es[i]?=some es[i]:=aw (by omega)
   have hw:r.2=G9 es[i]:=by
    have h1:((rowsOf x).map (·.2))[i]?=some r.2:=by rw[aP,Ht];rfl
    rw[Rp,aP,Ur]at h1;exact(c9 h1).symm
   have oe:=T4.ent _ (cK (by omega:i<es.length))
   have oa:=T4.add i _ Ur;have op:=T4.pl i (by omega)
   have XH:=KD Ur
   generalize es[i]=e at *
   refine⟨[.val (.str x),.ref p,.val (.int (r.1:Nat)),.val (.list (r.2.map .str)),.un,.un],rfl,rfl,λD C0 σ' fq dX G q=>?_⟩
   refine dS (Mz Dp.mono G (c6 4 (d:=G8 e) (bw C2 hr (ao (ai 3 rfl) aK) ⟨e,by rw[hw];rfl,oe,rfl⟩) nd) rfl λσ1 XA XB G1=>?_)
   refine dS (Tc Dp.mono G1 1 5 (d:=.str "") rfl Dp.rep (bw C3 (hr.mono (by omega)) (ao (ai 1 rfl) (ao (ai 4 rfl) aK)) ⟨xX es i,e,rfl,op,oe,oa,rfl⟩) rfl rfl (λσ2 TV TX G2=>?_) nd)
   refine dS (Mz Dp.mono G2 (bN (VT.to (g7 hr aY aY (ai 5 rfl) aF) (congrArg (λb=>!b) (jD _))) bp) rfl λσ3 XC XD G3=>?_)
   refine d_ (Wz (s:=xX es i) (s':=xX es (i+1)) C4 (hr.mono (by omega)) G3 Dp.mono 1 rfl (ai 4 rfl) ⟨e,rfl,op,oe,oa,XH⟩ λZd Ze G4=>?_)
   exact q _ _ _ (G4.forget Dp.mono ⟨.inr rfl,.inr rfl,.inl rfl,.inl rfl,.inl rfl,.inl rfl,trivial⟩ rfl)
  ·have e:xX es ((rowsOf x).map rQ).length=es.foldl tQ Hs:=by rw[aj,hlen,Ny]
   rw[e]at G;exact d_ (Wy G 1 rfl Dp.rep XG)
end
end Mg
namespace Mg
open L2 PySem PyProof.Rows
variable{many nn:Nat}{p:Pl}
structure Hu(p:Pl):Prop where
 kn:(p.kinds.map (·.1)).Nodup
 pn:(p.gates++p.lines.map (·.1)).Nodup
 dn:(p.desks.map (·.name)).Nodup
 dk:∀d∈p.desks,G_ d/\(∀x∈d.places,x∈p.gates++p.lines.map (·.1))/\(d.to=""\/∃r,(d.to,r)∈p.lines/\iX d.rule d.places.length<=r)
 dj:(p.desks.map (·.places)).flatten.Nodup
 tn:(p.times.map λq=>(q.1,q.2.1)).Nodup
 tm:∀q∈p.times,q.1∈p.desks.map (·.name)/\q.2.1∈p.kinds.map (·.1)/\1<=q.2.2
 hr:∀q∈p.hours,q.1∈p.desks.map (·.name)/\q.2.1<q.2.2
 kk:∀q∈p.kinds,∀i,q.2=some i->1<=i/\dG i
 ll:∀q∈p.lines,1<=q.2
def E8(p:Pl):List Ent:=p.kinds.map (λq=>Ent.kind q.1 q.2)++p.gates.map Ent.gate++p.lines.map (λq=>Ent.line q.1 q.2)++p.desks.map Ent.desk++p.times.map (λq=>Ent.time q.1 q.2.1 q.2.2)++p.hours.map (λq=>Ent.hour q.1 q.2.1 q.2.2)
def uQ:Pl->List Ent->Prop
 |st,[]=>ji st
 |st,e::es=>ji st/\uP e/\Ae st e/\uQ (tQ st e) es
theorem uQ.app:∀{A B:List Ent}{st:Pl},uQ st A->uQ (A.foldl tQ st) B->uQ st (A++B)
 | [],_,_,_,h=>h
 |_::_,_,_,⟨h1,h2,h3,h4⟩,h=>⟨h1,h2,h3,h4.app h⟩
theorem uQ.es:∀{es:List Ent}{st:Pl},uQ st es->(∀e∈es,uP e)/\(∀i,i<=es.length->ji ((es.take i).foldl tQ st))/\∀(i:Nat)e,es[i]?=some e->Ae ((es.take i).foldl tQ st) e
 | [],st,h=>⟨λe he=>(by cases he),λi hi=>by rw[List.take_nil];exact h,λi e he=>by simp at he⟩
 |e::es,st,⟨h1,h2,h3,h4⟩=>by
  obtain⟨a,b,c⟩:=h4.es;refine⟨λx hx=>?_,λi hi=>?_,λi x hx=>?_⟩
  ·rcases aJ.mp hx with rfl|hx
   ·exact h2
   ·exact a x hx
  ·cases i with
   |zero=>exact h1
   |succ i=>exact b i (by simpa using hi)
  ·cases i with
   |zero=>cases hx;exact h3
   |succ i=>exact c i x (by simpa using hx)
theorem seg{α:Type}(mk:α->Ent)(put:List α->Pl)(h1:∀l x,tQ (put l) (mk x)=put (l ++ [x]))(l:List α)(hok:∀pre x post,l=pre++x::post->ji (put pre)/\uP (mk x)/\Ae (put pre) (mk x))(zbV:ji (put l)):
  uQ (put []) (l.map mk)/\(l.map mk).foldl tQ (put [])=put l:=by
 have go:∀(rest pre:List α),l=pre++rest->uQ (put pre) (rest.map mk)/\(rest.map mk).foldl tQ (put pre)=put l:=by
  intro rest
  induction rest with
  |nil=>intro pre e;rw[dA]at e;subst e;exact⟨zbV,rfl⟩
  |cons x rest ih=>
   intro pre e;obtain⟨a,b,c⟩:=hok pre x rest e;obtain⟨i1,i2⟩:=ih (pre ++ [x]) (by rw[e];simp)
   rw[aR];refine⟨⟨a,b,c,?_⟩,?_⟩
   ·rw[h1];exact i1
   ·rw[oj,h1];exact i2
 exact go l [] rfl
theorem lK{q: Pl}(h:ji p)(k1:q.kinds.length<=p.kinds.length)(k2:∀x∈q.kinds,x∈p.kinds)(g1:q.gates.length<=p.gates.length)(g2:∀x∈q.gates,x∈p.gates)(l1:q.lines.length<=p.lines.length)(l2:∀x∈q.lines,x∈p.lines)(d1:q.desks.length<=p.desks.length)(d2:∀x∈q.desks,x∈p.desks)(t1:q.times.length<=p.times.length)(t2:∀x∈q.times,x∈p.times)(h1:q.hours.length<=p.hours.length)(h2:∀x∈q.hours,x∈p.hours):ji q:=
 ⟨b9 k1 h.kn,b9 g1 h.gn,b9 l1 h.ln,b9 d1 h.dn,b9 t1 h.tn,b9 h1 h.hn,λx hx=>h.kinds x (k2 x hx),λx hx=>h.gates x (g2 x hx),λx hx=>h.lines x (l2 x hx),λx hx=>h.desks x (d2 x hx),λx hx=>h.times x (t2 x hx),λx hx=>h.hours x (h2 x hx)⟩
theorem E9{κ:Type}[DecidableEq κ]:∀{kvs:List (κ×aq)}{k:κ}{v:aq},(kvs.map (·.1)).Nodup->(k,v)∈kvs->kO kvs k=some v
 | [],_,_,_,h=>by cases h
 |q::l,k,v,nd,h=>by
  rw[aR,ia]at nd;rcases aJ.mp h with rfl|h
  ·exact gU rfl
  ·rw[dw (λe=>nd.1 (by rw[e];exact aI.mpr ⟨(k,v),h,rfl⟩))]
   exact E9 nd.2 h
theorem xY{α:Type}{l pre post:List α}{x:α}(e:l=pre++x::post):pre.length<=l.length/\∀y∈pre,y∈l:=by
 subst e;exact⟨by rw[a8];omega,λy hy=>dg _ hy⟩
theorem mJ{α β:Type}{f:α->β}{l pre post:List α}{x:α}(nd:(l.map f).Nodup)(e:l=pre++x::post):f x∉pre.map f:=by
 subst e;rw[aX,aR,e8]at nd;intro z;exact nd.2.2 _ z _ aO rfl
theorem NB(ok:ji p)(g:Hu p):uQ Hs (E8 p)/\(E8 p).foldl tQ Hs=p:=by
 have n0:∀{α:Type}(x:α),x∈([]:List α)->False:=λx h=>by cases h
 have s1:=seg (λq:Str×Option Int=>Ent.kind q.1 q.2) (λl=>⟨l,[],[],[],[],[]⟩) (λ_ _=>rfl) p.kinds (λpre x post e=>by
  obtain⟨e1,e2⟩:=xY e;have hx:x∈p.kinds:=by rw[e];simp
  exact⟨lK ok e1 e2 (bK _) (λx h=>(n0 x h).elim) (bK _) (λx h=>(n0 x h).elim) (bK _) (λx h=>(n0 x h).elim) (bK _) (λx h=>(n0 x h).elim) (bK _) (λx h=>(n0 x h).elim),⟨(ok.kinds x hx).1,g.kk x hx⟩,mJ g.kn e⟩)
  (lK ok (aA _) (λ_ h=>h) (bK _) (λx h=>(n0 x h).elim) (bK _) (λx h=>(n0 x h).elim) (bK _) (λx h=>(n0 x h).elim) (bK _) (λx h=>(n0 x h).elim) (bK _) (λx h=>(n0 x h).elim))
 have pn:=g.pn;rw[e8]at pn;have s2:=seg Ent.gate (λl=>⟨p.kinds,l,[],[],[],[]⟩) (λ_ _=>rfl) p.gates (λpre x post e=>by
  obtain⟨e1,e2⟩:=xY e;have hx:x∈p.gates:=by rw[e];simp
  refine⟨lK ok (aA _) (λ_ h=>h) e1 e2 (bK _) (λx h=>(n0 x h).elim) (bK _) (λx h=>(n0 x h).elim) (bK _) (λx h=>(n0 x h).elim) (bK _) (λx h=>(n0 x h).elim),ok.gates x hx,?_⟩
  rintro(h|h)
  ·have:=mJ (f:=id) (by simpa using pn.1) e
   exact this (by simpa using h)
  ·cases h)
  (lK ok (aA _) (λ_ h=>h) (aA _) (λ_ h=>h) (bK _) (λx h=>(n0 x h).elim) (bK _) (λx h=>(n0 x h).elim) (bK _) (λx h=>(n0 x h).elim) (bK _) (λx h=>(n0 x h).elim))
 have s3:=seg (λq:Str×Int=>Ent.line q.1 q.2) (λl=>⟨p.kinds,p.gates,l,[],[],[]⟩) (λ_ _=>rfl) p.lines (λpre x post e=>by
  obtain⟨e1,e2⟩:=xY e;have hx:x∈p.lines:=by rw[e];simp
  refine⟨lK ok (aA _) (λ_ h=>h) (aA _) (λ_ h=>h) e1 e2 (bK _) (λx h=>(n0 x h).elim) (bK _) (λx h=>(n0 x h).elim) (bK _) (λx h=>(n0 x h).elim),⟨(ok.lines x hx).1,g.ll x hx,(ok.lines x hx).2⟩,?_⟩
  rintro(h|h)
  ·exact pn.2.2 _ h _ (aI.mpr ⟨x,hx,rfl⟩) rfl
  ·exact mJ pn.2.1 e h)
  (lK ok (aA _) (λ_ h=>h) (aA _) (λ_ h=>h) (aA _) (λ_ h=>h) (bK _) (λx h=>(n0 x h).elim) (bK _) (λx h=>(n0 x h).elim) (bK _) (λx h=>(n0 x h).elim))
 have s4:=seg Ent.desk (λl=>⟨p.kinds,p.gates,p.lines,l,[],[]⟩) (λ_ _=>rfl) p.desks (λpre x post e=>by
  obtain⟨e1,e2⟩:=xY e;have hx:x∈p.desks:=by rw[e];simp
  obtain⟨q1,q2,q3⟩:=g.dk x hx;refine⟨lK ok (aA _) (λ_ h=>h) (aA _) (λ_ h=>h) (aA _) (λ_ h=>h) e1 e2 (bK _) (λx h=>(n0 x h).elim) (bK _) (λx h=>(n0 x h).elim),q1,mJ g.dn e,λy hy hz=>?_,λy hy=>bX.mp (q2 y hy),?_⟩
  ·obtain⟨d,hd,hyd⟩:=hz
   have dj:=g.dj;rw[e,aX,List.flatten_append,e8]at dj;exact dj.2.2 y (List.mem_flatten.mpr ⟨d.places,aI.mpr ⟨d,hd,rfl⟩,hyd⟩) y (List.mem_flatten.mpr ⟨x.places,by simp,hy⟩) rfl
  ·rcases q3 with h|⟨r,h,hr⟩
   ·exact .inl h
   ·refine .inr ⟨r,E9 ?_ (aI.mpr ⟨(x.to,r),h,rfl⟩),hr⟩
    rw[oh];exact pn.2.1)
  (lK ok (aA _) (λ_ h=>h) (aA _) (λ_ h=>h) (aA _) (λ_ h=>h) (aA _) (λ_ h=>h) (bK _) (λx h=>(n0 x h).elim) (bK _) (λx h=>(n0 x h).elim))
 have s5:=seg (λq:Str×Str×Int=>Ent.time q.1 q.2.1 q.2.2) (λl=>⟨p.kinds,p.gates,p.lines,p.desks,l,[]⟩) (λ_ _=>rfl) p.times (λpre x post e=>by
  obtain⟨e1,e2⟩:=xY e;have hx:x∈p.times:=by rw[e];simp
  obtain⟨q1,q2,q3⟩:=g.tm x hx;obtain⟨r1,r2,r3⟩:=ok.times x hx;exact⟨lK ok (aA _) (λ_ h=>h) (aA _) (λ_ h=>h) (aA _) (λ_ h=>h) (aA _) (λ_ h=>h) e1 e2 (bK _) (λx h=>(n0 x h).elim),⟨r1,r2,q3,r3⟩,mJ (f:=λq:Str×Str×Int=>(q.1,q.2.1)) g.tn e,q1,q2⟩)
  (lK ok (aA _) (λ_ h=>h) (aA _) (λ_ h=>h) (aA _) (λ_ h=>h) (aA _) (λ_ h=>h) (aA _) (λ_ h=>h) (bK _) (λx h=>(n0 x h).elim))
 have s6:=seg (λq:Str×Int×Int=>Ent.hour q.1 q.2.1 q.2.2) (λl=>⟨p.kinds,p.gates,p.lines,p.desks,p.times,l⟩) (λ_ _=>rfl) p.hours (λpre x post e=>by
  obtain⟨e1,e2⟩:=xY e;have hx:x∈p.hours:=by rw[e];simp
  obtain⟨q1,q2⟩:=g.hr x hx;obtain⟨r1,r2,r3⟩:=ok.hours x hx;exact⟨lK ok (aA _) (λ_ h=>h) (aA _) (λ_ h=>h) (aA _) (λ_ h=>h) (aA _) (λ_ h=>h) (aA _) (λ_ h=>h) e1 e2,⟨r1,r2,r3,q2⟩,q1⟩)
  ok
 unfold E8;simp only[fJ];refine⟨s1.1.app ?_,?_⟩
 ·rw[s1.2]
  refine s2.1.app ?_
  rw[s2.2];refine s3.1.app ?_
  rw[s3.2];refine s4.1.app ?_
  rw[s4.2];refine s5.1.app ?_
  rw[s5.2];exact s6.1
 ·rw[hX,show Hs=⟨[],[],[],[],[],[]⟩from rfl,s1.2,hX,s2.2,hX,s3.2,hX,s4.2,hX,s5.2,s6.2]
theorem XI(ok:ji p)(g:Hu p):XF (E8 p):=by
 obtain⟨a,b,c⟩:=(NB ok g).1.es;exact⟨a,b,c⟩
theorem h_{x y:Str}{c:Nat}(h1:c∉x.cps.toList)(h2:c∉y.cps.toList):c∉(x++y).cps.toList:=by rw[add_list,bX];exact λz=>z.elim h1 h2
theorem wG{c:Nat}{y:Str}(hy:c∉y.cps.toList):∀{l:List Str},(∀x∈l,c∉x.cps.toList)->c∉(cj y l).cps.toList
 | [],_=>by show c∉([]:List Nat);simp
 | [x],h=>h x aO
 |x::z::l,h=>by
  show c∉(x++y++cj y (z::l)).cps.toList;exact h_ (h_ (h x aO) hy) (wG hy λu hu=>h u (aU _ hu))
theorem Hv(ok:ji p):(∀r∈eS p,10∉r.cps.toList)/\(eS p).map wordsOf=(E8 p).map G9:=by
 have nn:∀{x:Str},dH x->10∉x.cps.toList:=λh=>(fH h).2.2
 have dn:∀{d:aq},GR d->10∉(eI d).cps.toList:=λh=>(qu h).2.2
 have nm:∀{i:Int},dG i->10∉(dE i).cps.toList:=λh=>(nu h.1 h.2).2.2
 constructor
 ·intro r hr
  unfold eS oP at hr;simp only[bX,aI]at hr;rcases hr with((((⟨q,hq,rfl⟩|⟨q,hq,rfl⟩)|⟨q,hq,rfl⟩)|⟨q,hq,rfl⟩)|⟨q,hq,rfl⟩)|⟨q,hq,rfl⟩
  ·obtain⟨h1,h2⟩:=ok.kinds q hq
   exact h_ (h_ (h_ (by decide +kernel) (nn h1)) (by decide +kernel)) (dn h2)
  ·exact h_ (by decide +kernel) (nn (ok.gates q hq))
  ·obtain⟨h1,h2⟩:=ok.lines q hq
   exact h_ (h_ (h_ (by decide +kernel) (nn h1)) (by decide +kernel)) (nm h2)
  ·obtain⟨h1,h2,h3,h4,h5⟩:=ok.desks q hq
   refine h_ (h_ (h_ (h_ (h_ (h_ (h_ (by decide +kernel) (nn h1)) (by decide +kernel)) (dn (d:=.str q.to) h2)) (by decide +kernel)) (wG (by decide +kernel) λx hx=>(vn h3 x hx).2.2)) (by decide +kernel)) (wG (by decide +kernel) λx hx=>nn (h5 x hx))
  ·obtain⟨h1,h2,h3⟩:=ok.times q hq
   refine wG (by decide +kernel) λx hx=>?_
   simp only[aJ,b7,or_false]at hx;rcases hx with rfl|rfl|rfl|rfl
   ·decide +kernel
   ·exact nn h1
   ·exact nn h2
   ·exact nm h3
  ·obtain⟨h1,h2,h3⟩:=ok.hours q hq
   refine wG (by decide +kernel) λx hx=>?_
   simp only[aJ,b7,or_false]at hx;rcases hx with rfl|rfl|rfl|rfl
   ·decide +kernel
   ·exact nn h1
   ·exact nm h2
   ·exact nm h3
 ·unfold eS oP E8
  simp only[aX,bC]
  congr 1
  congr 1
  congr 1
  congr 1
  congr 1
  ·exact jm λq hq=>GV (ok.kinds q hq)
  ·exact jm λq hq=>GW (ok.gates q hq)
  ·exact jm λq hq=>GX (ok.lines q hq)
  ·exact jm λq hq=>GY (ok.desks q hq)
  ·exact jm λq hq=>GZ (ok.times q hq)
  ·exact jm λq hq=>G5 (ok.hours q hq)
theorem Qh(e:Ent):(G9 e).isEmpty=false:=by cases e<;>rfl
theorem KG(l:List Str):∀k,((l.zipIdx k).filterMap λp=>if(wordsOf p.1).isEmpty then none else some (p.2,wordsOf p.1)).map (·.2)=(l.map wordsOf).filter λws=>!ws.isEmpty:=by
 induction l with
 |nil=>intro k;rfl
 |cons x l ih=>
  intro k;rw[nE,aR,jq];cases hx:(wordsOf x).isEmpty with
  |true=>rw[ei (by simp only[hx];rfl),ih];rfl
  |false=>rw[c7 (b:=(k,wordsOf x)) (by simp only[hx];rfl),aR,ih];rfl
theorem E_(ok:ji p)(hk:p.kinds≠[]):(rowsOf (uk p)).map (·.2)=(E8 p).map G9:=by
 obtain⟨h1,h2⟩:=Hv ok;unfold uk;rw[xS (λz=>?_) h1,KG,h2,List.filter_eq_self.mpr]
 ·intro ws Nf
  obtain⟨e,_,rfl⟩:=aI.mp Nf;rw[Qh];rfl
 ·unfold eS oP at z
  cases XJ:p.kinds with
  |nil=>exact hk XJ
  |cons q l=>rw[XJ]at z;simp at z
theorem Hw(m:Int)(k:Nat):(uM m k).cps.toList=(stemOf m).cps.toList.take (m/624%(1+m/78%8)).toNat++(97+((m/3+5*k)%26).toNat)::(stemOf m).cps.toList.drop (m/624%(1+m/78%8)+1).toNat:=by
 have hs:=xK m;have hl:(stemOf m).cps.toList.length=(1+m/78%8).toNat:=by rw[hs,dM]
 have b1:0<=m/78%8:=bH _ (by decide)
 have b2:m/78%8<8:=bL _ (by decide)
 have p1:0<=m/624%(1+m/78%8):=bH _ (by omega)
 have p2:m/624%(1+m/78%8)<1+m/78%8:=bL _ (by omega)
 have e1:nH (stemOf m) none (some (m/624%(1+m/78%8)))=_:=DY (x:=stemOf m) ⟨p1,by rw[hl];omega⟩
 have e2:nH (stemOf m) (some (m/624%(1+m/78%8)+1)) none=_:=Cr (x:=stemOf m) ⟨by omega,by rw[hl];omega⟩
 unfold uM;rw[e1,e2]
 show((_++_++_:Array Nat)).toList=_
 simp only[HY,lX,Int.sub_zero,EG,one];rw[dF (l:=List.drop _ _) (by rw[cP];omega),fJ]
 rfl
theorem yq{β:Type}{f:Nat->β}:∀{n:Nat},(∀i j,i<n->j<n->f i=f j->i=j)->((cp n).map f).Nodup:=by
 intro n h;rw[List.Nodup,List.pairwise_map,pX];intro i j hi hj AI e;rw[dY]at hi hj;rw[List.getElem_range,List.getElem_range]at e;exact absurd (h i j hi hj e) (by omega)
theorem pV(cell:Int)(hm:many<=26):(namesOf cell many).Nodup:=by
 unfold namesOf
 split
 ·refine yq λi j hi hj e=>?_
  have e1:∀k,(nameA (cJ cell 3) many k).cps.toList=bu (many-k) (97+(cJ cell 3/3%26).toNat):=λk=>C_ _ _
  have:=congrArg (λx:Str=>x.cps.toList.length) e
  simp only[e1,dM]at this;omega
 ·refine yq λi j hi hj e=>?_
  have:=congrArg (λx:Str=>x.cps.toList) e
  simp only[Hw]at this;have:=List.append_cancel_left this;have:=(kF this).1
  generalize cJ cell 3/3=a at *
  omega
theorem vv(l:List Str):(cp l.length).map (λk=>l.getD k "")=l:=by
 refine lY λi=>?_
 rw[aP];by_cases h:i<l.length
 ·rw[ou h,aw h]
  show some (l.getD i "")=_;rw[aG,aw h];rfl
 ·rw[gD (by simpa using h),gD (by simpa using h)];rfl
theorem yr{α:Type}:∀(L:List (List α))(i:Nat)(j:Nat)(y:α),i<L.length->(L.set i (o6 (L.getD i []) j y)).flatten.Perm (y::L.flatten)
 | [],i,_,_,h=>by simp at h
 |r::L,0,j,y,_=>by
  show(o6 r j y++L.flatten).Perm (y::(r++L.flatten))
  have:(o6 r j y).Perm (y::r):=by
   unfold o6;exact List.perm_middle.trans (by rw[iJ])
  exact this.append_right _
 |r::L,i+1,j,y,h=>by
  have ih:=yr L i j y (by simpa using h)
  show(r++(L.set i (o6 (L.getD i []) j y)).flatten).Perm (y::(r++L.flatten))
  exact(ih.append_left r).trans List.perm_middle
theorem Ak(cell:Int)(h1:1<=nn)(places:List Str):∀k,k<=places.length->(ez cell nn places k).flatten.Perm (places.take k)
 |0,_=>by
  show(bu nn ([]:List Str)).flatten.Perm []
  rw[List.flatten_replicate_nil]
 |k+1,hk=>by
  have ih:=Ak cell h1 places k (by omega)
  have hl:gq cell nn k<(ez cell nn places k).length:=by rw[iC];exact BR cell h1 k
  have e:places.take (k+1)=places.take k ++ [places.getD k ""]:=by
   rw[dv,aw (by omega),aG,aw (by omega)];rfl
  rw[e];refine(yr _ _ _ _ hl).trans ?_
  refine(ih.cons _).trans ?_
  exact(List.perm_append_singleton _ _).symm
theorem wH(cell:Int)(h1:1<=nn)(places:List Str):∀k,∀j,j<k->j<nn->(ez cell nn places k).getD j []≠[]
 |0,_,h,_=>by omega
 |k+1,j,hj,hn=>by
  have hl:=iC cell nn places k;have ex:∀(L:List (List Str))(i:Nat)(r:List Str),L.length=nn->(L.set i r).getD j []=if i=j then r else L.getD j []:=λL i r e=>by
   rw[aG,List.getElem?_set]
   by_cases AI:i=j
   ·subst AI;rw[if_pos rfl,if_pos (by omega),if_pos rfl];rfl
   ·rw[if_neg AI,if_neg AI,aG]
  show((ez cell nn places k).set (gq cell nn k) (o6 _ _ _)).getD j []≠[]
  rw[ex _ _ _ hl]
  split
  ·intro z
   have:=congrArg i5 z;rw[yk]at this;simp at this
  ·rename_i lR
   by_cases DW:j<k
   ·exact wH cell h1 places k j DW hn
   ·exfalso
    apply lR;have:j=k:=by omega
    subst this;unfold gq;rw[if_pos hn]
theorem KH(m:Int):tL (lH m many) many:=by
 unfold lH
 split
 ·rename_i h;exact h.2
 ·split
  ·exact⟨by omega,iz _ 1 (by decide) (by decide) (by decide),oQ _ (by decide) (by decide)⟩
  ·split
   ·exact⟨by omega,iz _ 1 (by decide) (by decide) (by decide)⟩
   ·split
    ·split
     ·trivial
     ·exact oQ _ (by decide) (by decide)
    ·split
     ·refine⟨by simp,λz hz=>?_⟩
      obtain⟨k,_,rfl⟩:=aI.mp hz;unfold Dc;omega
     ·trivial
theorem Fb(cell:Int)(places lines:List Str):(cf cell places lines).map (·.name)=namesOf (cJ cell 31) (k_ cell places.length):=by
 unfold cf;rw[bC];have:=vv (namesOf (cJ cell 31) (k_ cell places.length));rw[fK]at this;exact this
theorem Dq(cell:Int)(places lines:List Str):(cf cell places lines).map (·.places)=ez cell (k_ cell places.length) places places.length:=by
 unfold cf;rw[bC];have hl:=iC cell (k_ cell places.length) places places.length;refine lY λi=>?_
 rw[aP];by_cases h:i<k_ cell places.length
 ·rw[ou h]
  show some ((ez cell (k_ cell places.length) places places.length).getD i [])=_;rw[aG,aw (by omega)];rfl
 ·rw[gD (by simpa using h),gD (by omega)];rfl
theorem Al(c:Int)(iS:List Dk)(kinds:List (Str×Option Int))(hk:(kinds.map (·.1)).Nodup)(hd:(iS.map (·.name)).Nodup):∀i,i<=iS.length->((hC c iS kinds i).map λq=>(q.1,q.2.1)).Nodup/\∀q∈hC c iS kinds i,q.1∈(iS.take i).map (·.name)/\q.2.1∈kinds.map (·.1)/\1<=q.2.2
 |0,_=>⟨by simp[hC],λq hq=>by simp[hC]at hq⟩
 |i+1,hi=>by
  obtain⟨a,b⟩:=Al c iS kinds hk hd i (by omega)
  have hg:iS[i]?=some iS[i]:=aw (by omega)
  rw[rh hg,dv,hg];have row:∀j,((gw (cJ c (110+i)) iS[i].name kinds j).map λq=>(q.1,q.2.1)).Nodup/\∀q∈gw (cJ c (110+i)) iS[i].name kinds j,q.1=iS[i].name/\q.2.1∈(kinds.take j).map (·.1)/\1<=q.2.2:=by
   intro j
   induction j with
   |zero=>exact⟨by simp[gw],λq hq=>by simp[gw]at hq⟩
   |succ j ih=>
    by_cases hj:j<kinds.length
    ·have hkj:kinds[j]?=some kinds[j]:=aw hj
     rw[uO hkj,dv,hkj];unfold vh
     split
     ·rw[aX]
      refine⟨?_,λq hq=>?_⟩
      ·rw[e8]
       refine⟨ih.1,by simp,λx hx y hy z=>?_⟩
       obtain⟨q,hq,rfl⟩:=aI.mp hx;have h2:=(ih.2 q hq).2.1;have hy:y=(iS[i].name,kinds[j].1):=by simpa using hy
       rw[hy]at z;have z2:q.2.1=kinds[j].1:=congrArg (λw:Str×Str=>w.2) z
       rw[z2]at h2;have:kinds=kinds.take j++kinds[j]::kinds.drop (j+1):=by rw[Fw,iJ]
       exact mJ hk this h2
      ·rcases bX.mp hq with hq|hq
       ·obtain⟨h1,h2,h3⟩:=ih.2 q hq
        exact⟨h1,by rw[aX];exact dg _ h2,h3⟩
       ·have hq:q=(iS[i].name,kinds[j].1,1+cJ c (110+i)/((j:Int)*j+2)%6):=by simpa using hq
        rw[hq];refine⟨rfl,by rw[aX];exact cu _ (aI.mpr ⟨kinds[j],a_.mpr rfl,rfl⟩),?_⟩
        have:=bH (cJ c (110+i)/((j:Int)*j+2)) (b:=6) (by decide)
        show 1<=1+cJ c (110+i)/((j:Int)*j+2)%6;omega
     ·refine⟨by simpa using ih.1,λq hq=>?_⟩
      obtain⟨h1,h2,h3⟩:=ih.2 q (by simpa using hq)
      exact⟨h1,by rw[aX];exact dg _ h2,h3⟩
    ·have e1:gw (cJ c (110+i)) iS[i].name kinds (j+1)=gw (cJ c (110+i)) iS[i].name kinds j:=by
      unfold gw;rw[dF (by simp;omega),dF (by simp;omega)]
     rw[e1,dF (by omega)]
     rw[dF (by omega)]at ih
     exact ih
  obtain⟨r1,r2⟩:=row kinds.length;rw[eW]at r2;have Qf:iS[i].name∉(iS.take i).map (·.name):=by
   have:iS=iS.take i++iS[i]::iS.drop (i+1):=by rw[Fw,iJ]
   exact mJ hd this
  refine⟨?_,λq hq=>?_⟩
  ·rw[aX,e8]
   refine⟨a,r1,λx hx y hy z=>?_⟩
   obtain⟨q,hq,rfl⟩:=aI.mp hx;obtain⟨q2,Gf,rfl⟩:=aI.mp hy;have z1:q.1=q2.1:=congrArg (λw:Str×Str=>w.1) z
   have:=(b q hq).1;rw[z1,(r2 q2 Gf).1]at this;exact Qf this
  ·rcases bX.mp hq with hq|hq
   ·obtain⟨h1,h2,h3⟩:=b q hq
    exact⟨by rw[aX];exact dg _ h1,h2,h3⟩
   ·obtain⟨h1,h2,h3⟩:=r2 q hq
    exact⟨by rw[h1,aX];exact cu _ (aI.mpr ⟨iS[i],a_.mpr rfl,rfl⟩),h2,h3⟩
theorem Am{α:Type}:∀{L:List (List α)},L.flatten.Nodup->∀r∈L,r.Nodup
 | [],_,r,h=>by cases h
 |x::L,nd,r,h=>by
  rw[gi,e8]at nd;rcases aJ.mp h with rfl|h
  ·exact nd.1
  ·exact Am nd.2.1 r h
theorem KJ(ns:List Int):Hu (hU ns):=by
 obtain⟨k1,k4⟩:=ni (h8 ns);obtain⟨g1,g3⟩:=km (b8 ns);obtain⟨p1,p6⟩:=lJ (b8 ns);have N8:(orderOf (b8 ns)).length=(placesOf (b8 ns)).length:=by
  unfold orderOf;rw[a8,cP,bW];have:=ui (b8 ns) (n:=(placesOf (b8 ns)).length) (by omega)
  omega
 have pY:=pU (b8 ns);have pnd:(placesOf (b8 ns)).Nodup:=pV _ (by omega)
 have hpm:(orderOf (b8 ns)).Perm (placesOf (b8 ns)):=by
  unfold orderOf;exact List.perm_append_comm.trans (by rw[iJ])
 have T5:(cO (h8 ns)).map (·.1)=namesOf (h8 ns) (jG (h8 ns)):=by
  unfold cO;rw[bC];have:=vv (namesOf (h8 ns) (jG (h8 ns)));rw[fK]at this;exact this
 have knd:((cO (h8 ns)).map (·.1)).Nodup:=by rw[T5];exact pV _ (by omega)
 obtain⟨m1,m4,mp⟩:=nh (f7 ns) (n:=(orderOf (b8 ns)).length) (by omega)
 have dnm:=Fb (f7 ns) (orderOf (b8 ns)) (linesOf (b8 ns));have dpl:=Dq (f7 ns) (orderOf (b8 ns)) (linesOf (b8 ns));have dnd:((cf (f7 ns) (orderOf (b8 ns)) (linesOf (b8 ns))).map (·.name)).Nodup:=by rw[dnm];exact pV _ (by omega)
 have tp:=Ak (f7 ns) m1 (orderOf (b8 ns)) _ (aA _);rw[eW]at tp;have dj:((cf (f7 ns) (orderOf (b8 ns)) (linesOf (b8 ns))).map (·.places)).flatten.Nodup:=by
  rw[dpl];exact(tp.trans hpm).nodup_iff.mpr pnd
 have Jg:∀d∈cf (f7 ns) (orderOf (b8 ns)) (linesOf (b8 ns)),_:=λd hd=>Ji (by omega) (by omega) hd
 have XM:∀d∈cf (f7 ns) (orderOf (b8 ns)) (linesOf (b8 ns)),d.places≠[]/\d.places.Nodup/\tL d.rule d.places.length:=λd hd=>by
  refine⟨?_,?_,?_⟩
  ·obtain⟨k,hk,rfl⟩:=aI.mp hd
   have hk:=cY.mp hk;exact wH (f7 ns) m1 (orderOf (b8 ns)) _ k (by omega) hk
  ·exact Am dj _ (aI.mpr ⟨d,hd,rfl⟩)
  ·obtain⟨k,hk,rfl⟩:=aI.mp hd
   exact KH _
 have TL:∀x∈linesOf (b8 ns),dH x:=λx hx=>kj (eM (show x∈(placesOf (b8 ns)).drop _ from hx))
 have tk:=Al (f7 ns) (cf (f7 ns) (orderOf (b8 ns)) (linesOf (b8 ns))) (cO (h8 ns)) knd dnd _ (aA _)
 generalize hD:cf (f7 ns) (orderOf (b8 ns)) (linesOf (b8 ns))=iS at *
 have e0:hU ns=⟨cO (h8 ns),lI (b8 ns),(cp (linesOf (b8 ns)).length).map (roomAt (b8 ns) iS (linesOf (b8 ns))),iS,hC (f7 ns) iS (cO (h8 ns)) iS.length,jb (f7 ns) iS iS.length⟩:=by rw[<-hD];rfl
 have Xi:((cp (linesOf (b8 ns)).length).map (roomAt (b8 ns) iS (linesOf (b8 ns)))).map (·.1)=linesOf (b8 ns):=by
  rw[bC];exact vv _
 have gl:lI (b8 ns)++linesOf (b8 ns)=placesOf (b8 ns):=iJ _ _;rw[e0];rw[eW]at tk;refine⟨knd,by rw[Xi,gl];exact pnd,dnd,λd hd=>?_,dj,tk.1,tk.2,λq hq=>?_,λq hq i hi=>?_,λq hq=>?_⟩
 ·obtain⟨a1,a2,a3,a4,a5,a6⟩:=Jg d hd
  obtain⟨f1,f2,f3⟩:=XM d hd;have hpx:∀x∈d.places,x∈placesOf (b8 ns):=λx hx=>hpm.mem_iff.mp (a5 x hx)
  refine⟨⟨a1,?_,f3,?_,by omega,f2,λx hx=>kj (hpx x hx)⟩,λx hx=>by rw[Xi,gl];exact hpx x hx,?_⟩
  ·rcases bX.mp a2 with h|h
   ·exact .inr (TL _ h)
   ·exact .inl (a_.mp h)
  ·cases hp:d.places with
   |nil=>exact absurd hp f1
   |cons _ _=>simp
  ·rcases bX.mp a2 with h|h
   ·obtain⟨k,hk,he⟩:=List.mem_iff_getElem.mp h
    have La:(linesOf (b8 ns)).getD k ""=d.to:=by rw[aG,aw hk,he];rfl
    refine .inr ⟨(roomAt (b8 ns) iS (linesOf (b8 ns)) k).2,aI.mpr ⟨k,cY.mpr hk,?_⟩,?_⟩
    ·show roomAt (b8 ns) iS (linesOf (b8 ns)) k=(d.to,_)
     rw[<-La];rfl
    ·show _<=maxOf (jH iS ((linesOf (b8 ns)).getD k ""))+cJ (b8 ns) (20+k)%3
     have:=(rg (jH iS ((linesOf (b8 ns)).getD k ""))).2 (iX d.rule d.places.length) (aU _ (jJ.mpr ⟨d,hd,by rw[La,decide_eq_true rfl];rfl⟩))
     have h2:=bH (cJ (b8 ns) (20+k)) (b:=3) (by decide)
     omega
   ·exact .inl (a_.mp h)
 ·obtain⟨⟨d,i⟩,hd,hq⟩:=yL.mp hq
  have UJ:d∈iS:=kA (eL hd);unfold kP at hq
  split at hq
  ·rcases aJ.mp hq with rfl|hq
   ·exact⟨aI.mpr ⟨d,UJ,rfl⟩,by show _%9<9+_%20;omega⟩
   ·rw[a_.mp hq]
    exact⟨aI.mpr ⟨d,UJ,rfl⟩,by show 25+_%20<50+_%40;omega⟩
  ·cases hq
 ·obtain⟨k,hk,rfl⟩:=aI.mp hq
  have hi:vg (cJ (h8 ns) (10+k))=some i:=hi;unfold vg at hi
  split at hi
  ·cases hi
   exact⟨by omega,iz _ 1 (by decide) (by decide) (by decide)⟩
  ·cases hi
 ·obtain⟨k,hk,rfl⟩:=aI.mp hq
  show 1<=maxOf _+_%3;have:=(rg (jH iS ((linesOf (b8 ns)).getD k ""))).2 1 aO;have h2:=bH (cJ (b8 ns) (20+k)) (b:=3) (by decide)
  omega
theorem Hz(ns:List Int):(hU ns).kinds≠[]/\(hU ns).gates≠[]:=by
 obtain⟨k1,k4⟩:=ni (h8 ns);obtain⟨g1,g3⟩:=km (b8 ns);obtain⟨p1,p6⟩:=lJ (b8 ns);refine⟨λz=>?_,λz=>?_⟩
 ·have:=congrArg i5 z
  have:(cO (h8 ns)).length=0:=this;simp only[cO,aj,dY]at this;omega
 ·have:=congrArg i5 z
  have:(lI (b8 ns)).length=0:=this;unfold lI at this;rw[bW]at this;omega
end Mg
namespace Mg
open L2 PySem PyProof.Rows
seal L2.VE L2.VS L2.rO L2.VT L2.VO L2.O2
theorem iW(x y:Str):(x++y).length=x.length+y.length:=by simp only[cF]
theorem jd{x y:Str}(h1:mj x)(h2:mj y):mj (x++y):=(jB _).mpr λc hc=>by
 rw[add_list]at hc;rcases bX.mp hc with hc|hc
 ·exact(jB _).mp h1 c hc
 ·exact(jB _).mp h2 c hc
theorem qx{y:Str}(hy:mj y):∀{l:List Str},(∀x∈l,mj x)->mj (cj y l)
 | [],_=>(jB _).mpr λc hc=>by cases hc
 | [x],h=>h x aO
 |x::z::l,h=>jd (jd (h x aO) hy) (qx hy λu hu=>h u (aU _ hu))
theorem je{x:Str}(h:cn (.str x)=true:=by decide +kernel):mj x:=h
theorem KL{p:Pl}(ok:ji p):∀r∈eS p,mj r/\r.length<=1400:=by
 intro r hr;have nn:∀{x:Str},dH x->mj x/\x.length<=8:=λh=>⟨h.ok.2,h.short⟩
 have dn:∀{d:aq},GR d->mj (eI d)/\(eI d).length<=8:=λh=>⟨(tN h).2,ko h⟩
 have nm:∀{i:Int},dG i->mj (dE i)/\(dE i).length<=6:=λh=>⟨(oM h.1 h.2).2,iy h⟩
 unfold eS oP at hr;simp only[bX,aI]at hr;rcases hr with((((⟨q,hq,rfl⟩|⟨q,hq,rfl⟩)|⟨q,hq,rfl⟩)|⟨q,hq,rfl⟩)|⟨q,hq,rfl⟩)|⟨q,hq,rfl⟩
 ·obtain⟨h1,h2⟩:=ok.kinds q hq
  refine⟨jd (jd (jd je (nn h1).1) je) (dn h2).1,?_⟩
  have a:=(nn h1).2;have b:=(dn h2).2;unfold rA;rw[iW,iW,iW,show("kind ":Str).length=5 from by decide,show(" ":Str).length=1 from by decide]
  omega
 ·have h1:=ok.gates q hq
  refine⟨jd je (nn h1).1,?_⟩
  have a:=(nn h1).2;unfold nZ;rw[iW,show("gate ":Str).length=5 from by decide]
  omega
 ·obtain⟨h1,h2⟩:=ok.lines q hq
  refine⟨jd (jd (jd je (nn h1).1) je) (nm h2).1,?_⟩
  have a:=(nn h1).2;have b:=(nm h2).2;unfold n_;rw[iW,iW,iW,show("line ":Str).length=5 from by decide,show(" ":Str).length=1 from by decide]
  omega
 ·obtain⟨h1,h2,h3,h4,h5⟩:=ok.desks q hq
  refine⟨jd (jd (jd (jd (jd (jd (jd je (nn h1).1) je) (dn (d:=.str q.to) h2).1) je) (qx je λx hx=>(E1 h3 x hx).2)) je) (qx je λx hx=>(nn (h5 x hx)).1),?_⟩
  have a:=(nn h1).2;have b:=(dn (d:=.str q.to) h2).2;have c:=oO h3;have d:=iD (y:=(" ":Str)) (by decide) (l:=q.places) (b:=8) λx hx=>(nn (h5 x hx)).2
  unfold mO oN;rw[iW,iW,iW,iW,iW,iW,iW,show("desk ":Str).length=5 from by decide,show(" to ":Str).length=4 from by decide,show(" by ":Str).length=4 from by decide,show(" from ":Str).length=6 from by decide]
  omega
 ·obtain⟨h1,h2,h3⟩:=ok.times q hq
  have XO:∀x∈[("time":Str),q.1,q.2.1,dE q.2.2],mj x/\x.length<=8:=λx hx=>by
   simp only[aJ,b7,or_false]at hx;rcases hx with rfl|rfl|rfl|rfl
   ·exact⟨je,by decide⟩
   ·exact nn h1
   ·exact nn h2
   ·exact⟨(nm h3).1,by have:=(nm h3).2;omega⟩
  refine⟨qx je λx hx=>(XO x hx).1,?_⟩
  have:=iD (y:=(" ":Str)) (by decide) λx hx=>(XO x hx).2
  unfold og;simp only[bh,cv]at this;omega
 ·obtain⟨h1,h2,h3⟩:=ok.hours q hq
  have XO:∀x∈[("open":Str),q.1,dE q.2.1,dE q.2.2],mj x/\x.length<=8:=λx hx=>by
   simp only[aJ,b7,or_false]at hx;rcases hx with rfl|rfl|rfl|rfl
   ·exact⟨je,by decide⟩
   ·exact nn h1
   ·exact⟨(nm h2).1,by have:=(nm h2).2;omega⟩
   ·exact⟨(nm h3).1,by have:=(nm h3).2;omega⟩
  refine⟨qx je λx hx=>(XO x hx).1,?_⟩
  have:=iD (y:=(" ":Str)) (by decide) λx hx=>(XO x hx).2
  unfold pJ;simp only[bh,cv]at this;omega
theorem KN(ns:List Int):(eS (hU ns)).length<=44:=by
 obtain⟨k1,k4⟩:=ni (h8 ns);obtain⟨p1,p6⟩:=lJ (b8 ns);have N8:(orderOf (b8 ns)).length=(placesOf (b8 ns)).length:=by
  unfold orderOf;rw[a8,cP,bW];have:=ui (b8 ns) (n:=(placesOf (b8 ns)).length) (by have:=(km (b8 ns)).1;omega)
  omega
 have g1:=(km (b8 ns)).1;have hkl:(cO (h8 ns)).length=jG (h8 ns):=by simp[cO]
 have Mm:(cf (f7 ns) (orderOf (b8 ns)) (linesOf (b8 ns))).length<=4:=by rw[rq];exact(nh (f7 ns) (by omega)).2.1
 have htl:=rj (f7 ns) (cf (f7 ns) (orderOf (b8 ns)) (linesOf (b8 ns))) (cO (h8 ns)) (by omega) _ (aA _)
 have hhl:=rm (f7 ns) (cf (f7 ns) (orderOf (b8 ns)) (linesOf (b8 ns))) _ (aA _)
 generalize hD:cf (f7 ns) (orderOf (b8 ns)) (linesOf (b8 ns))=iS at *
 have e0:hU ns=⟨cO (h8 ns),lI (b8 ns),(cp (linesOf (b8 ns)).length).map (roomAt (b8 ns) iS (linesOf (b8 ns))),iS,hC (f7 ns) iS (cO (h8 ns)) iS.length,jb (f7 ns) iS iS.length⟩:=by rw[<-hD];rfl
 have hg:(lI (b8 ns)).length+(linesOf (b8 ns)).length<=6:=by unfold lI linesOf;rw[bW,cP];omega
 rw[e0];unfold eS oP;simp only[a8,aj,dY];omega
theorem KP(ns:List Int):pH (uk (hU ns)):=by
 have hr:=KL (Jj ns);refine⟨?_,qx je λx hx=>(hr x hx).1⟩
 have:=iD (y:=("\n":Str)) (by decide) λx hx=>(hr x hx).2
 have h2:=KN ns;unfold uk;have:(eS (hU ns)).length*(1400+1)<=44*1401:=ju h2 (aA _);omega
end Mg
namespace Mg
open L2 PySem PyProof.Rows
variable{fd:fN}
structure XQ(K:av)(mg:Str->Option aD)(M:aN):Prop where
 mg:mg "MergeError"=some (.ref M)
 rd:yy K M (.type "type")=true
 fc:yz K (.ref M) (.type "type") "__init__"=some (.val (.builtin "ValueError.__init__"))
 sp:lz K (.ref M) "__getattribute__"=some (some (.builtin "type.__getattribute__"))
abbrev T6:iH:=inClass (top 3) 0
abbrev Qi:List Str:=["self","place","word"]
section
variable{P:bM}{w:cy}{K:av}{mg:Str->Option aD}{base:dq}{f C M:aN}{k:Nat}
theorem XR:cG Qi Qi (bJ T6):=⟨rfl,rfl,rfl,by decide +kernel,rfl,by decide +kernel,by decide +kernel⟩
theorem zbW(F:kM K "__init__" "BadDay.__init__" T6 f fd)(c:GA K C)(n1:fY K C "place")(n2:fY K C "word")(S:XQ K mg M):eQ P w K mg base jE 1 f fd Qi (yW C):=by
 refine F.ok XR (λvs H Q E h=>by obtain⟨_,_,_,rfl,_⟩:=h;rfl) (λgy A outer s H vs Q E hr h=>⟨_,mh,?_⟩)
 obtain⟨e,v1,x2,rfl,hl,ge,q⟩:=h;have hx:(eP++("bad day: ":Str)).length<=sizeLine:=by rw[du];decide +kernel
 have YM:∀y:Str,y.length<=1000->(eP++("bad day: ":Str)++y).length<=sizeLine:=λy hy=>by
  rw[du,cF];have:(eP++("bad day: ":Str)).length<=100:=by decide +kernel
  omega
 refine dS (λpins s1 I=>pw (Tp (pl:=_) (by rfl) S.mg S.rd S.fc S.sp (cV (gO (i:=0) rfl (aV rfl)) (cV (Pw (gO (i:=2) rfl (aV rfl)) hx) fB))) rfl pins s1 _ _ _ I ?_)
 refine⟨.ref e,rfl,.str x2,rfl,x2,rfl,b9 hl (by rw[du];decide),YM x2 hl,e,C,none,_,rfl,ge,c,?_⟩
 refine dS (λpins s1 I=>MD (gO (i:=0) rfl (aV rfl)) (gO (i:=1) rfl (aV rfl)) rfl pins s1 _ _ _ I ⟨v1,rfl,.ref e,rfl,e,C,rfl,ge,c,n1,λdx h1 h2=>?_⟩)
 exact d_ (λpins s1 I=>MF (gO (i:=0) rfl (aV rfl)) (gO (i:=2) rfl (aV rfl)) rfl pins s1 _ _ _ I ⟨.str x2,rfl,.ref e,rfl,e,C,dx,_,rfl,b0,by rw[aT h2,b0],h2,c,n2,(by show 1<50;decide),q dx h1 h2⟩)
end
structure XKd(K:av)(mg:Str->Option aD)(C:aN):Prop where
 own:mg "BadDay"=some (.ref C)
 oth:∃M1 M2 M3,mg "BadBook"=some (.ref M1)/\mg "BadPlant"=some (.ref M2)/\mg "NoBound"=some (.ref M3)/\zj K (.ref C) [.ref M1,.ref M2,.ref M3]=some false
 kc:dm K (.ref C) (.ref C)=some true
 kv:dm K (.ref C) (.type "ValueError")=some true
 ve:mg "ValueError"=none
 gt:GC K C
 np:fY K C "place"
 nw:fY K C "word"
def XS(K:av)(C:aN):Sp:=λvs H Q _=>∃H0 e p wd v,vs=[.ref e,v]/\er H0 H/\oH K H e C p wd/\Rep K H0 v (.tuple [.int p,.str wd])/\mj wd/\∀fq H',dW H0 H fq H'->Q (.bl true) H'
abbrev Zj:List Str:=["_law_caught","_law_due_here"]
section
variable{P:bM}{w:cy}{K:av}{mg:Str->Option aD}{base:dq}{f C M:aN}{k:Nat}
theorem XT:cG Zj Zj (bJ (top 63)):=⟨rfl,rfl,rfl,by decide +kernel,rfl,by decide +kernel,by decide +kernel⟩
theorem zbX(F:kM K "_law_is_refused" "_law_is_refused" (top 63) f fd)(n:Na mg)(kt:Ka K)(S:XKd K mg C):eQ P w K mg base jE 1 f fd Zj (XS K C):=by
 refine F.ok XT (λvs H Q E h=>by obtain⟨_,_,_,_,_,rfl,_⟩:=h;rfl) (λgy A outer s H vs Q E hr h=>⟨_,mh,?_⟩)
 obtain⟨H0,e,p,wd,v,rfl,sm,c,rv,ow,q⟩:=h;obtain⟨M1,M2,M3,o1,o2,o3,ka⟩:=S.oth;refine dS (λpins s1 I=>ya (PW.pt (pw_or (xn (u0 (lD PH (by rfl) n.wY rfl (cV (gO (i:=0) rfl (aV rfl)) (cV (pq (v:=.ref C) (by rfl) S.own rfl) fB))))) (pw_or1 (xn (u0 (lD Tw (by rfl) n.wY rfl (cV (gO (i:=0) rfl (aV rfl)) (cV (vQ (v:=.ty "ValueError") (by rfl) S.ve rfl rfl) fB)))))))) kz vR pins s1 _ _ _ I ?_)
 refine⟨.ref e,rfl,e,C,p,wd,C,true,rfl,c,S.kc,true,rfl,A6 ⟨.ref e,rfl,e,C,p,wd,"ValueError",true,rfl,c,S.kv,true,rfl,A6 ?_⟩⟩
 refine dS (λpins s1 I=>ya (u0 (lD PJ (by rfl) n.wY rfl (cV (gO (i:=0) rfl (aV rfl)) (cV (zu (cV (pq (v:=.ref M1) (by rfl) o1 rfl) (cV (pq (v:=.ref M2) (by rfl) o2 rfl) (cV (pq (v:=.ref M3) (by rfl) o3 rfl) fB)))) fB)))) kz vR pins s1 _ _ _ I ?_)
 refine⟨.ref e,rfl,(by show 3<=sizeLine;rw[du];decide),λt ht=>?_⟩
 have g1:dW H0 H H0 (upd H t (.tup [.ref M1,.ref M2,.ref M3])):=dW.loose sm ht;have c1:=c.mono g1.big;refine⟨e,C,p,wd,t,M1,M2,M3,false,rfl,c1,b0,ka,false,rfl,A6 ?_⟩
 generalize upd H t (.tup [.ref M1,.ref M2,.ref M3])=Hb at *
 have lp:(wq p wd).lookup ("place":Str)=some (.int p):=rfl;have lw:(wq p wd).lookup ("word":Str)=some (.str wd):=rfl;refine dS (λpins s1 I=>ya (PW.pt (pw_or (xn (u0 (lD (IG (d:=.int p) (tn:="int") rfl kt.ii) (by rfl) n.wY rfl (cV (wt (i:=0) rfl (aV rfl) rfl) (cV (vQ (v:=.ty "int") (by rfl) n.int rfl rfl) fB)))))
  (pw_or (u0 (lD (IG (d:=.int p) (tn:="bool") rfl kt.ib) (by rfl) n.wY rfl (cV (wt (i:=0) rfl (aV rfl) rfl) (cV (vQ (v:=.ty "bool") (by rfl) n.bool rfl rfl) fB))))
   (pw_or1 (xn (u0 (lD (IG (d:=.str wd) (tn:="str") rfl kt.ss) (by rfl) n.wY rfl (cV (wt (i:=0) rfl (aV rfl) rfl) (cV (vQ (v:=.ty "str") (by rfl) n.str rfl rfl) fB))))))))) kz vR pins s1 _ _ _ I ?_)
 refine⟨e,C,p,wd,.int p,rfl,c1,S.np,lp,.int p,rfl,.int p,true,rfl,A6 ⟨e,C,p,wd,.int p,rfl,c1,S.np,lp,.int p,rfl,.int p,false,rfl,A6 ⟨e,C,p,wd,.str wd,rfl,c1,S.nw,lw,.str wd,rfl,.str wd,true,rfl,A6 ?_⟩⟩⟩
 have hL:Lay 20 (.tuple [.int p,.str wd]):=IH (n:=19) λd hd=>by
  simp only[aJ,b7,or_false]at hd;rcases hd with rfl|rfl
  ·exact cx 19 _
  ·exact bq ow
 refine d_ (λpins s1 I=>zm (Ik (Ge (A7 hr)) (zu (cV (wt (i:=0) rfl (aV rfl) rfl) (cV (wt (i:=0) rfl (aV rfl) rfl) fB))) (gO (i:=1) rfl (aV rfl)) (fA _)) pins s1 _ _ _ I ?_)
 refine⟨e,C,p,wd,.int p,rfl,c1,S.np,lp,e,C,p,wd,.str wd,rfl,c1,S.nw,lw,(by show 2<=sizeLine;rw[du];decide),λt2 VY=>?_⟩
 have g2:=dW.laid g1.sub (o:=.tup [.int p,.str wd]) VY;refine⟨v,rfl,Ed hL hL (.ref t2) v _ _ _ g2.sub (.tup (qM.of b0) (.cons (.int p) (.cons (.str wd) .nil))) ((rv.mono g1.gL).mono g2.gL) λx Ha Hx g3 rx=>?_⟩
 rw[SeqAt.eqv_refl _ hL.1]at rx;cases rx;exact q Ha Hx ((g1.trans g2).trans g3)
end
end Mg
namespace Mg
open L2 PySem PyProof.Rows
seal L2.VE L2.VS L2.rO L2.VT L2.VO L2.O2
variable{fd:fN}{g:qJ}{day es:List qJ}{l rows ws:List Str}{i k n:Nat}{p:Pl}{r x:Str}
structure UQ(g:qJ):Prop where
 gt:mj g.2.1
 kd:mj g.2.2.1
 pa:mj g.2.2.2
 ln:g.2.2.2.length<=100000
def jR(p:Pl)(g:qJ)(t:Int):Str:=
 if g.1<t then "time" else if g.2.1∉p.gates then "gate" else if g.2.2.1∉p.kinds.map (·.1)then "kind" else if g.2.2.2≠""/\isName g.2.2.2=false then "parcel" else ""
theorem Fc(p:Pl)(g:qJ)(t:Int):jR p g t="time"\/jR p g t="gate"\/jR p g t="kind"\/jR p g t="parcel"\/jR p g t="":=by
 unfold jR
 split
 ·exact .inl rfl
 ·split
  ·exact .inr (.inl rfl)
  ·split
   ·exact .inr (.inr (.inl rfl))
   ·split
    ·exact .inr (.inr (.inr (.inl rfl)))
    ·exact .inr (.inr (.inr (.inr rfl)))
theorem Fd(p:Pl)(g:qJ)(t:Int):mj (jR p g t)/\(jR p g t).length<=1000:=by
 rcases Fc p g t with e|e|e|e|e<;>rw[e]<;>exact⟨by show cn _=true;decide +kernel,by decide +kernel⟩
section
variable{P:bM}{w:cy}{K:av}{mg:Str->Option aD}{base:dq}{f:aN}{k:Nat}
theorem XU:cG ["time"] ["time"] (bJ (top 21)):=⟨rfl,rfl,rfl,by decide +kernel,rfl,by decide +kernel,by decide +kernel⟩
def Riw(ds:List aq)(d:aq):Prop:=∃i:Int,ds=[.int i]/\d=.bool true
theorem zbY(F:kM K "is_whole" "is_whole" (top 21) f fd)(n:Na mg)(kt:Ka K):eQ P w K mg base jE 1 f fd ["time"] (gX K Riw):=
 jA F XU (λ_ _ h=>by obtain⟨_,rfl,_⟩:=h;rfl) λ_ _ h=>by
  obtain⟨i,rfl,rfl⟩:=h;intro gy A outer s H E hr;exact aS (bV (VE.to (kZ (iM (tn:="int") (ai 0 rfl) rfl kt.ii rfl n.wY n.int rfl) (λ_=>jg (ud (iM (tn:="bool") (ai 0 rfl) rfl kt.ib rfl n.wY n.bool rfl)))) rfl))
abbrev XW:List Str:=["plant","good","ahead"]
theorem XX:cG XW XW (bJ (top 19)):=⟨rfl,rfl,rfl,by decide +kernel,rfl,by decide +kernel,by decide +kernel⟩
def Rfd(ds:List aq)(d:aq):Prop:=∃(p:Pl)(g:qJ)(t:Int),ds=[eZ p,eN g,.int t]/\ji p/\UQ g/\d=.str (jR p g t)
theorem zb0(F:kM K "fault_of" "fault_of" (top 19) f fd)(n:Na mg)(kt:Ka K)(C1:bG P w K mg base 1 "is_whole" ["time"] (gX K Riw))(C2:bG P w K mg base 2 "is_name" ["word"] (gX K N9)):eQ P w K mg base jE 3 f fd XW (gX K Rfd):=
 jA F XX (λ_ _ h=>by obtain⟨_,_,_,rfl,_⟩:=h;rfl) λ_ _ h=>by
  obtain⟨p,g,t,rfl,hp,hg,rfl⟩:=h;intro gy A outer s H E hr;have XJ:(pL p).map (λq=>aH q.1)=(p.kinds.map (·.1)).map .str:=by unfold pL;simp only[bC];rfl
  have lk:Lay 20 (.list ((p.kinds.map (·.1)).map aH)):=jN (l:=p.kinds.map (·.1)) λx hx=>by
   obtain⟨q,hq,rfl⟩:=aI.mp hx;exact(hp.kinds q hq).1
  unfold jR;by_cases h1:g.1<t
  ·rw[if_pos h1]
   exact cH (cR (VT.to (VT.to (iU (k1:=false) (k2:=decide (g.1<t)) (VT.to (gQ (e9 (bw C1 (hr.mono (by omega)) (ao (bZ (ai 1 rfl) ax (a9 (j:=0) rfl)) aK) ⟨g.1,rfl,rfl⟩) rfl)) rfl) (λ_=>rN (bZ (ai 1 rfl) ax (a9 (j:=0) rfl)) (ai 2 rfl))) rfl) (by rw[decide_eq_true h1];rfl)) (aS (bV aF))) rfl
  rw[if_neg h1];refine ay (bN (VT.to (VT.to (iU (k1:=false) (k2:=decide (g.1<t)) (VT.to (gQ (e9 (bw C1 (hr.mono (by omega)) (ao (bZ (ai 1 rfl) ax (a9 (j:=0) rfl)) aK) ⟨g.1,rfl,rfl⟩) rfl)) rfl) (λ_=>rN (bZ (ai 1 rfl) ax (a9 (j:=0) rfl)) (ai 2 rfl))) rfl) (by rw[decide_eq_false h1];rfl)) bp) ?_
  by_cases h2:g.2.1∉p.gates
  ·rw[if_pos h2]
   exact cH (cR (VT.to (jF hr rfl (bq hg.gt) (jN hp.gates) (bZ (ai 1 rfl) ax (a9 (j:=1) rfl)) (my (ai 0 rfl) (Ac p))) (by rw[fP,decide_eq_false h2];rfl)) (aS (bV aF))) rfl
  rw[if_neg h2];have h2:g.2.1∈p.gates:=oX.mp h2;refine ay (bN (VT.to (jF hr rfl (bq hg.gt) (jN hp.gates) (bZ (ai 1 rfl) ax (a9 (j:=1) rfl)) (my (ai 0 rfl) (Ac p))) (by rw[fP,decide_eq_true h2];rfl)) bp) ?_
  by_cases h3:g.2.2.1∉p.kinds.map (·.1)
  ·rw[if_pos h3]
   exact cH (cR (VT.to (jF hr rfl (bq hg.kd) lk (bZ (ai 1 rfl) ax (a9 (j:=2) rfl)) (VE.to (VO.ve (ub (sZ rfl) IZ (ao (my (ai 0 rfl) (wB p)) aK) n.lst rfl)) (by rw[XJ]))) (by rw[fP,decide_eq_false h3];rfl)) (aS (bV aF))) rfl
  rw[if_neg h3];have h3:g.2.2.1∈p.kinds.map (·.1):=oX.mp h3
  refine ay (bN (VT.to (jF hr rfl (bq hg.kd) lk (bZ (ai 1 rfl) ax (a9 (j:=2) rfl)) (VE.to (VO.ve (ub (sZ rfl) IZ (ao (my (ai 0 rfl) (wB p)) aK) n.lst rfl)) (by rw[XJ]))) (by rw[fP,decide_eq_true h3];rfl)) bp) ?_
  by_cases h4:g.2.2.2≠""/\isName g.2.2.2=false
  ·rw[if_pos h4]
   exact cH (cR (VT.to (jw (k1:=!decide (g.2.2.2="")) (k2:=!(true&&isName g.2.2.2)) (VT.to (g7 hr (bq hg.pa) aY (bZ (ai 1 rfl) ax (a9 (j:=3) rfl)) aF) (by rw[bS])) (λ_=>gQ (jw (k1:=true) (k2:=isName g.2.2.2) (e9 (iM (tn:="str") (bZ (d:=.str g.2.2.2) (ai 1 rfl) ax (a9 (j:=3) rfl)) rfl kt.ss rfl n.wY n.str rfl) rfl) (λ_=>e9 (bw C2 (hr.mono (by omega)) (ao (bZ (d:=.str g.2.2.2) (ai 1 rfl) ax (a9 (j:=3) rfl)) aK) ⟨g.2.2.2,rfl,hg.ln,rfl⟩) rfl)))) (by rw[decide_eq_false h4.1,h4.2];rfl)) (aS (bV aF))) rfl
  ·rw[if_neg h4]
   refine ay (bN (VT.to (jw (k1:=!decide (g.2.2.2="")) (k2:=!(true&&isName g.2.2.2)) (VT.to (g7 hr (bq hg.pa) aY (bZ (ai 1 rfl) ax (a9 (j:=3) rfl)) aF) (by rw[bS])) (λ_=>gQ (jw (k1:=true) (k2:=isName g.2.2.2) (e9 (iM (tn:="str") (bZ (d:=.str g.2.2.2) (ai 1 rfl) ax (a9 (j:=3) rfl)) rfl kt.ss rfl n.wY n.str rfl) rfl) (λ_=>e9 (bw C2 (hr.mono (by omega)) (ao (bZ (d:=.str g.2.2.2) (ai 1 rfl) ax (a9 (j:=3) rfl)) aK) ⟨g.2.2.2,rfl,hg.ln,rfl⟩) rfl)))) ?_) bp) (aS (bV aF))
   by_cases h5:g.2.2.2=""
   ·rw[decide_eq_true h5];rfl
   ·have:isName g.2.2.2=true:=by
     cases h6:isName g.2.2.2 with
     |true=>rfl
     |false=>exact absurd ⟨h5,h6⟩ h4
    rw[decide_eq_false h5,this];rfl
end
def xZ:qJ:=(0,"","","")
def gI(day:List qJ):Nat->Int
 |0=>0
 |i+1=>(day.getD i xZ).1
def mR(p:Pl)(day:List qJ)(i:Nat):Str:=jR p (day.getD i xZ) (gI day i)
structure x3(p:Pl)(day:List qJ)(m:Nat)(wd:Str):Prop where
 lt:m<day.length
 pre:∀i,i<m->mR p day i=""
 at_:mR p day m=wd
 ne:wd≠""
def T7(p:Pl)(day:List qJ):Prop:=∀i,i<day.length->mR p day i=""
theorem NC(p:Pl)(day:List qJ):T7 p day\/∃m wd,x3 p day m wd:=by
 have go:∀n,n<=day.length->(∀i,i<n->mR p day i="")\/∃m wd,x3 p day m wd:=by
  intro n
  induction n with
  |zero=>intro _;exact .inl λi h=>absurd h (tZ _)
  |succ n ih=>
   intro hn;rcases ih (by omega)with h|h
   ·by_cases e:mR p day n=""
    ·refine .inl λi hi=>?_
     by_cases VJ:i=n
     ·rw[VJ];exact e
     ·exact h i (by omega)
    ·exact .inr ⟨n,_,by omega,h,rfl,e⟩
   ·exact .inr h
 rcases go day.length (aA _)with h|h
 ·exact .inl h
 ·exact .inr h
structure Bd(day:List qJ):Prop where
 len:day.length<=200
 ok:∀g∈day,UQ g
theorem Bd.at(h:Bd day)(hi:i<day.length):UQ (day.getD i xZ):=by
 rw[aG,aw hi];exact h.ok _ (cK hi)
theorem ur(hi:i<day.length):(day.map eN)[i]?=some (eN (day.getD i xZ)):=by
 rw[aP,aw hi,aG,aw hi];rfl
section
variable{P:bM}{w:cy}{K:av}{mg:Str->Option aD}{base:dq}{f C fI:aN}{k:Nat}
abbrev XY:List Str:=["plant","day","ahead","number","good","word"]
theorem Jn:cG XY ["plant","day"] (bJ (top 17)):=⟨rfl,rfl,rfl,by decide +kernel,rfl,by decide +kernel,by decide +kernel⟩
def Rld(ds:List aq)(d:aq):Prop:=∃(p:Pl)(day:List qJ),ds=[eZ p,.list (day.map eN)]/\ji p/\Bd day/\T7 p day/\d=.bool true
def XZ(ds:List aq)(pl:Int)(wd:Str):Prop:=∃(p:Pl)(day:List qJ)(m:Nat),ds=[eZ p,.list (day.map eN)]/\ji p/\Bd day/\x3 p day m wd/\pl=m
theorem zb1(F:kM K "look_day" "look_day" (top 17) f fd)(n:Na mg)(C1:bG P w K mg base 3 "fault_of_days" XW (gX K Rfd)):eQ P w K mg base jE 4 f fd ["plant","day"] (gX K Rld):=
 jA F Jn (λ_ _ h=>by obtain⟨_,_,rfl,_⟩:=h;rfl) λ_ _ h=>by
  obtain⟨p,day,rfl,hp,hd,yC,rfl⟩:=h;intro gy A outer s H E hr;have nd:XY.Nodup:=Jn.nd;refine ay (c6 2 ax nd) ?_
  refine ay (jz (tgt:=.tup [3,4]) (o:=.nx [.val (eZ p),.val (.list (day.map eN)),.val (.int (gI day day.length)),.un,.un,.un]) cZ rfl (jy (ds:=day.map eN) (ai 1 rfl) n.Fy)
   (fz rfl (bO (bD (i:=3) nd rfl (aV rfl)) (bO (bD (i:=4) nd rfl (aV rfl)) eu))) (λi=>[.val (eZ p),.val (.list (day.map eN)),.val (.int (gI day i)),.un,.un,.un]) day.length rfl (by rw[cC,aj];exact aA _) (λi d hi rX=>?_) (.inl ⟨by rw[cC,aj],rfl⟩)) (aS (bV BD))
  obtain⟨x,hx,rfl⟩:=fQ rX;have hf:=yC i hi;have hg:=hd.at hi;rw[ur hi]at hx;cases hx;have ea:gI day (i+1)=(day.getD i xZ).1:=rfl;unfold mR at hf;rw[ea]
  generalize day.getD i xZ=g at *
  refine⟨_,rfl,?_⟩
  refine ay (c6 5 (d:=.str "") (VE.to (bw C1 hr (ao (ai 0 rfl) (ao (ai 4 rfl) (ao (ai 2 rfl) aK))) ⟨p,g,gI day i,rfl,hp,hg,rfl⟩) (by rw[hf])) nd) ?_
  refine ay (bN (VT.to (g7 hr aY aY (ai 5 rfl) aF) (congrArg (λb=>!b) (jD _))) bp) ?_
  exact fF (aS (c6 2 (d:=.int g.1) (bZ (ai 4 rfl) ax (a9 (j:=0) rfl)) nd)) ⟨.inr rfl,.inr rfl,.inr rfl,.inl rfl,.inl rfl,.inl rfl,trivial⟩
theorem X1{X2: fN}(F:kM K "look_day" "look_day" (top 17) f fd)(n:Na mg)(C1:bG P w K mg base 3 "fault_of_days" XW (gX K Rfd))(mC:mg "BadDay"=some (.ref C))(M:WK K C fI)(FI:eQ P w K mg base jE 1 fI X2 Qi (yW C))(bI:Binds K X2 Qi []):
  eQ P w K mg base (Tq P w) 4 f fd ["plant","day"] (UC K C XZ):=by
 obtain⟨oc,od,kV,doc,pm,an,gy,ct,F4,rfl,lk,pT⟩:=F.ex;refine Lw lk pT Jn (λvs H Q E h=>?_) λA outer s H vs Q E hr h=>⟨_,mh,?_⟩
 ·obtain⟨H0,ds,pl,wd,_,r,⟨p,day,m,rfl,_⟩,_⟩:=h
  exact r.length
 obtain⟨H0,ds,pl,wd,sm,r,⟨p,day,m,rfl,hp,hd,hF,rfl⟩,q⟩:=h;have nd:XY.Nodup:=Jn.nd;have fr:gW K H0 H H0 H _ (sW XY [eZ p,.list (day.map eN)]):=.start sm r;refine dS (Eo (X:=BM P w K mg base XY "look_day" (bJ (top 17)) f gy A outer s H E) fr (c6 2 ax nd) λσ1 Ha Hb _ f1=>?_)
 have Ob:=hF.lt;refine dS (MJ (tgt:=.tup [3,4]) (m:=m) f1 uZ rfl (jy (ds:=day.map eN) (ai 1 rfl) n.Fy)
   (fz rfl (bO (bD (i:=3) nd rfl (aV rfl)) (bO (bD (i:=4) nd rfl (aV rfl)) eu))) (λi=>[.val (eZ p),.val (.list (day.map eN)),.val (.int (gI day i)),.un,.un,.un]) rfl (by rw[cC,aj];exact Ob) (λi d hi rX=>?_) (λd rX=>?_))
 ·obtain⟨x,hx,rfl⟩:=fQ rX
  have hf:=hF.pre i hi;have hg:=hd.at (i:=i) (by omega)
  rw[ur (by omega)]at hx
  cases hx;have ea:gI day (i+1)=(day.getD i xZ).1:=rfl;unfold mR at hf;rw[ea]
  generalize day.getD i xZ=g at *
  refine⟨_,rfl,?_⟩
  refine ay (c6 5 (d:=.str "") (VE.to (bw C1 hr (ao (ai 0 rfl) (ao (ai 4 rfl) (ao (ai 2 rfl) aK))) ⟨p,g,gI day i,rfl,hp,hg,rfl⟩) (by rw[hf])) nd) ?_
  refine ay (bN (VT.to (g7 hr aY aY (ai 5 rfl) aF) (congrArg (λb=>!b) (jD _))) bp) ?_
  exact fF (aS (c6 2 (d:=.int g.1) (bZ (ai 4 rfl) ax (a9 (j:=0) rfl)) nd)) ⟨.inr rfl,.inr rfl,.inr rfl,.inl rfl,.inl rfl,.inl rfl,trivial⟩
 ·obtain⟨x,hx,rfl⟩:=fQ rX
  have hf:=hF.at_;have hg:=hd.at Ob;rw[ur Ob]at hx;cases hx;unfold mR at hf;have hok:=Fd p (day.getD m xZ) (gI day m);rw[hf]at hok
  generalize day.getD m xZ=g at *
  refine⟨_,rfl,λD' σ' Hc Hd f2=>?_⟩
  refine dS (Eo f2 (c6 5 (d:=.str wd) (VE.to (bw C1 hr (ao (ai 0 rfl) (ao (ai 4 rfl) (ao (ai 2 rfl) aK))) ⟨p,g,gI day m,rfl,hp,hg,rfl⟩) (by rw[hf])) nd) λσ3 He Hf _ f3=>?_)
  refine dS (yi f3 (VT.to (g7 hr (bq hok.1) aY (ai 5 rfl) aF) (by rw[bS,decide_eq_false hF.ne];rfl)) λHg Hh g4=>?_)
  refine d_ (I_ (f3.grow g4) M FI (hr.mono (by omega)) bI (by rfl) mC (ai 3 rfl) (ai 5 rfl) hok.2 (λpins σ H2 s2 e dx I2 ge se wi=>?_) (λpins σ H2 s2 I2=>(oG I2).2.1) hr.hd)
  exact Ey I2 ge se λT nT ne=>q e T dx _ (wi.fly nT ne)
end
structure vw(p:Pl)(g:qJ):Prop where
 tm:dG g.1
 gt:g.2.1∈p.gates
 kd:g.2.2.1∈p.kinds.map (·.1)
 pa:g.2.2.2=""\/dH g.2.2.2
theorem vw.gn(hp:ji p)(h:vw p g):dH g.2.1:=hp.gates _ h.gt
theorem vw.kn(hp:ji p)(h:vw p g):dH g.2.2.1:=by
 obtain⟨q,hq,e⟩:=aI.mp h.kd;rw[<-e];exact(hp.kinds q hq).1
theorem vw.ps(h:vw p g):mj g.2.2.2:=by
 rcases h.pa with e|e
 ·rw[e];show cn (.str ("":Str))=true;decide +kernel
 ·exact e.ok.2
def rising:Int->List qJ->Prop
 |_,[]=>True
 |t,g::l=>t<=g.1/\rising g.1 l
structure ND(p:Pl)(day:List qJ):Prop where
 len:day.length<=100
 gd:∀g∈day,vw p g
 ri:rising 0 day
theorem x4:∀{day:List qJ}{t:Int},rising t day->∀(i:Nat)(h:i<day.length),(match i with | 0=>t|j+1=>(day.getD j xZ).1)<=day[i].1
 | [],_,_,i,h=>by simp at h
 |g::l,t,hr,0,_=>hr.1
 |g::l,t,hr,1,h=>by
  have:=x4 hr.2 0 (by simpa using h)
  exact this
 |g::l,t,hr,i+2,h=>by
  have:=x4 hr.2 (i+1) (by simp only[bh]at h;omega)
  exact this
theorem NF(h:rising 0 day)(hi:i<day.length):gI day i<=day[i].1:=by
 have:=x4 h i hi;cases i with
 |zero=>exact this
 |succ i=>exact this
abbrev Rr:List Str:=["","p","q","pp","r"]
def mK(x:Str):Nat:=if x="" then 0 else if x="p" then 1 else if x="q" then 2 else if x="pp" then 3 else 4
theorem KQ(h:x∈Rr):Rr[mK x]?=some x/\∀m,m<mK x->∀y,Rr[m]?=some y->y≠x:=by
 simp only[aJ,b7,or_false]at h;rcases h with rfl|rfl|rfl|rfl|rfl
 ·exact⟨by decide +kernel,λm hm=>absurd hm (by rw[show mK ""=0 from by decide +kernel];omega)⟩
 ·refine⟨by decide +kernel,λm hm y hy=>?_⟩
  rw[show mK "p"=1 from by decide +kernel]at hm
  match m,hm,hy with
  |0,_,hy=>cases hy;decide +kernel
 ·refine⟨by decide +kernel,λm hm y hy=>?_⟩
  rw[show mK "q"=2 from by decide +kernel]at hm
  match m,hm,hy with
  |0,_,hy=>cases hy;decide +kernel
  |1,_,hy=>cases hy;decide +kernel
 ·refine⟨by decide +kernel,λm hm y hy=>?_⟩
  rw[show mK "pp"=3 from by decide +kernel]at hm
  match m,hm,hy with
  |0,_,hy=>cases hy;decide +kernel
  |1,_,hy=>cases hy;decide +kernel
  |2,_,hy=>cases hy;decide +kernel
 ·refine⟨by decide +kernel,λm hm y hy=>?_⟩
  rw[show mK "r"=4 from by decide +kernel]at hm
  match m,hm,hy with
  |0,_,hy=>cases hy;decide +kernel
  |1,_,hy=>cases hy;decide +kernel
  |2,_,hy=>cases hy;decide +kernel
  |3,_,hy=>cases hy;decide +kernel
theorem BZ(x:Str):mK x<5:=by unfold mK;split<;>(try split)<;>(try split)<;>(try split)<;>omega
def oU(m:Int):List Str:=""::namesOf m 4
def oV(m:Int):Int:=if m%4=2 then 7 else if m%4=3 then 1+m/4%1400 else 1
theorem T8(m:Int):qQ [dO 1,.int 1,.int 7,.int (1+m/4%1400)] (m%4)=some (.int (oV m)):=by
 unfold oV;rcases(by omega:m%4=0\/m%4=1\/m%4=2\/m%4=3)with e|e|e|e<;>rw[e]<;>rfl
theorem B1(m:Int):1<=oV m/\oV m<=1400:=by unfold oV;split<;>(try split)<;>omega
def Jo(m:Int)(g:qJ):qJ:=(g.1*oV m,g.2.1,g.2.2.1,(oU m).getD (mK g.2.2.2) "")
def mS(p:Pl)(cells:List Int)(m:Int):List qJ:=(kQ p cells).map (Jo m)
theorem HB(m:Int):(oU m).length=5:=by unfold oU;rw[bh,fK]
theorem Qj(m:Int)(h:i<5):(oU m).getD i ""=""\/dH ((oU m).getD i ""):=by
 cases i with
 |zero=>exact .inl rfl
 |succ i=>
  refine .inr ?_
  show dH ((namesOf m 4).getD i "");exact kj (getD_mem (by rw[fK];omega))
theorem wI(m:Int):0<=mE m/\mE m<=11:=by unfold mE;split<;>(try split)<;>(try split)<;>omega
theorem rF(cells:List Int):∀k:Nat,0<=iY cells k/\iY cells k<=11*k
 |0=>⟨Int.le_refl _,Int.le_refl _⟩
 |k+1=>by
  obtain⟨a,b⟩:=rF cells k;obtain⟨c,d⟩:=wI (cJ (cells.getD k 0) k);show 0<=iY cells k+mE _/\iY cells k+mE _<=11*((k+1:Nat):Int);omega
theorem wJ(f:Nat->qJ)(hf:∀k,(f k).1<=(f (k+1)).1):∀(n s:Nat)(t:Int),t<=(f s).1->rising t ((List.range' s n).map f)
 |0,_,_,_=>trivial
 |n+1,s,t,h=>⟨h,wJ f hf n (s+1) (f s).1 (hf s)⟩
theorem KR(m:Int):oJ m∈Rr:=by
 unfold oJ;have a1:0<=m/10000%5:=bH _ (by omega)
 have a2:m/10000%5<5:=bL _ (by omega)
 exact getD_mem (by show _<5;omega)
theorem NK(ok:ji p)(hk:p.kinds≠[])(hg:p.gates≠[]){cells:List Int}(hc:cells.length<=59)(m:Int):ND p (mS p cells m):=by
 have k1:1<=p.kinds.length:=by cases h:p.kinds with|nil=>exact absurd h hk|cons _ _=>simp
 have g1:1<=p.gates.length:=by cases h:p.gates with|nil=>exact absurd h hg|cons _ _=>simp
 obtain⟨f1,f2⟩:=B1 m;refine⟨by unfold mS kQ;rw[aj,aj,dY];omega,λg hgm=>?_,?_⟩
 ·obtain⟨g0,h0,rfl⟩:=aI.mp hgm
  obtain⟨k,YG,rfl⟩:=aI.mp h0;have YG:=cY.mp YG;obtain⟨t1,t2⟩:=rF cells (k+1);have t3:iY cells (k+1)<=649:=by omega
  refine⟨⟨?_,?_⟩,(jV (d:=("":Str)) (F:=aH) g1 _).2,aI.mpr ⟨_,(jV (d:=(("",none):Str×Option Int)) (F:=kC) k1 (cJ (cells.getD k 0) k/1000)).2,rfl⟩,Qj m (BZ _)⟩
  ·show 0<=iY cells (k+1)*oV m
   exact uY t1 (by omega)
  ·show iY cells (k+1)*oV m<1000000
   have:=Ct t3 f2 (by omega) (by omega)
   omega
 ·unfold mS kQ
  rw[bC,List.range_eq_range'];refine wJ _ (λk=>?_) _ _ _ ?_
  ·show iY cells (k+1)*oV m<=iY cells (k+1+1)*oV m
   refine Int.mul_le_mul_of_nonneg_right ?_ (by omega)
   have:=(wI (cJ (cells.getD (k+1) 0) ((k+1:Nat):Int))).1;show iY cells (k+1)<=iY cells (k+1)+mE _;omega
  ·show 0<=iY cells (0+1)*oV m
   exact uY (rF cells 1).1 (by omega)
section
variable{P:bM}{w:cy}{K:av}{mg:Str->Option aD}{base:dq}{f:aN}{k:Nat}
abbrev Ngo:List Str:=["_law_h","_law_cells","_law_m","_law_some","_law_far","_law_day_here","_law_t","_law_gate","_law_kind","_law_parcel"]
theorem Rt:cG Ngo ["_law_h","_law_cells","_law_m"] (bJ (top 59)):=⟨rfl,rfl,rfl,by decide +kernel,rfl,by decide +kernel,by decide +kernel⟩
def Rgo(ds es:List aq):Prop:=∃(p:Pl)(cells:List Int)(m:Int),ds=[dI p,jh cells,.int m]/\1<=p.gates.length/\1<=p.kinds.length/\cells.length<=59/\es=(mS p cells m).map eN
theorem zb3(F:kM K "_law_goods" "_law_goods" (top 59) f fd)(n:Ng mg)(C1:bG P w K mg base 2 "_law_names" ["_law_cell","_law_many"] (AO K Y3))(C2:bG P w K mg base 2 "_law_day" ["_law_h","_law_cells"] (AO K Rdy)):eQ P w K mg base jE 3 f fd ["_law_h","_law_cells","_law_m"] (AO K Rgo):=
 Ef F Rt (λ_ _ h=>by obtain⟨_,_,_,rfl,_⟩:=h;rfl) λ_ _ h=>by
  obtain⟨p,cells,m,rfl,hg,hk,hc,rfl⟩:=h;intro gy A outer s H E hr;have nd:Ngo.Nodup:=Rt.nd;refine ay (c6 3 (d:=dP (oU m)) (VE.to (VO.ve (lF (VO.ve (dR (ao aF aK))) (VO.ve (i_ C1 hr (ao (ai 2 rfl) (ao ax aK)) ⟨m,4,rfl,by decide,rfl⟩)) (small (by simp only[aj,bh,cv,fK];omega)))) rfl) nd) ?_
  refine ay (c6 4 (d:=.int (oV m)) (dJ (VO.ve (dR (ao ax (ao ax (ao ax (ao (eU ax (cQ (fV (ai 2 rfl) ax ⟨by decide,by decide⟩) ax (by decide))) aK)))))) (cQ (ai 2 rfl) ax (by decide)) (T8 m)) nd) ?_
  refine ay (iE 5 (dR aK) nd) ?_
  have Mm:(kQ p cells).length=cells.length:=by unfold kQ;rw[aj,dY]
  refine ay (jz (tgt:=.tup [6,7,8,9]) (o:=.nx [.val (dI p),.val (jh cells),.val (.int m),.val (dP (oU m)),.val (.int (oV m)),.own ((mS p cells m).map eN),.un,.un,.un,.un]) cZ rfl (gu (ds:=(kQ p cells).map eN) (VO.ve (i_ C2 hr (ao (ai 0 rfl) (ao (ai 1 rfl) aK)) ⟨p,cells,rfl,hg,hk,by omega,rfl⟩)))
   (fz rfl (bO (bD (i:=6) nd rfl (aV rfl)) (bO (bD (i:=7) nd rfl (aV rfl)) (bO (bD (i:=8) nd rfl (aV rfl)) (bO (bD (i:=9) nd rfl (aV rfl)) eu))))) (λi=>[.val (dI p),.val (jh cells),.val (.int m),.val (dP (oU m)),.val (.int (oV m)),.own (((kQ p cells).take i).map λg=>eN (Jo m g)),.un,.un,.un,.un]) (kQ p cells).length rfl (by rw[aj];exact aA _) (λi d hi hd=>?_) (.inl ⟨by rw[aj],by rw[eW];unfold mS;rw[bC];rfl⟩)) (aS (wc 5 rfl))
  have hgi:(kQ p cells)[i]?=some (kQ p cells)[i]:=aw hi;have X3:(kQ p cells)[i].2.2.2∈Rr:=by
   have:=cK hi;obtain⟨k,_,e⟩:=aI.mp (show(kQ p cells)[i]∈(cp cells.length).map (Df p cells)from this)
   rw[<-e];exact KR _
  rw[aP,hgi]at hd;cases hd;have ht:(kQ p cells).take (i+1)=(kQ p cells).take i ++ [(kQ p cells)[i]]:=by rw[dv,hgi];rfl
  rw[ht,aX,pf];have qI:((kQ p cells).take i).length<=i:=by rw[bW];omega
  generalize(kQ p cells)[i]=g at *
  obtain⟨f1,f2⟩:=B1 m;obtain⟨i1,i2⟩:=KQ X3;have T3:=BZ g.2.2.2;have zb4:Lay 20 (.list (Rr.map aH)):=⟨by decide +kernel,by decide +kernel⟩
  have X4:mj g.2.2.2:=by
   have:∀x∈Rr,mj x:=λx hx=>by
    simp only[aJ,b7,or_false]at hx;rcases hx with rfl|rfl|rfl|rfl|rfl<;>(show cn (.str _)=true)<;>decide +kernel
   exact this _ X3
  have hgs:qQ ((oU m).map aH) ((mK g.2.2.2:Nat):Int)=some (.str ((oU m).getD (mK g.2.2.2) "")):=a9 (by
   rw[aP,aG,aw (by rw[HB];exact T3)];rfl)
  refine⟨[.val (dI p),.val (jh cells),.val (.int m),.val (dP (oU m)),.val (.int (oV m)),.own (((kQ p cells).take i).map λg=>eN (Jo m g)),.val (.int g.1),.val (.str g.2.1),.val (.str g.2.2.1),.val (.str g.2.2.2)],rfl,?_⟩
  refine fF (aS (g8 5 rfl (d:=eN (Jo m g)) (VE.to (fe (ao (sU (ai 6 rfl) (ai 4 rfl) (.inr ⟨by omega,by omega⟩)) (ao (ai 7 rfl) (ao (ai 8 rfl) (ao (dJ (ai 3 rfl) (L9 (j:=mK g.2.2.2) hr (VE.to (VO.ve (dR (ao aF (ao aF (ao aF (ao aF (ao aF aK))))))) (k:=.list (Rr.map aH)) rfl) (ai 9 rfl) zb4 (bq X4) ⟨by rw[aj];exact T3,?_⟩ (λj hj hjl=>?_)) hgs) aK))))) rfl) (iN (by rw[aj];omega)))) ⟨.inr rfl,.inr rfl,.inr rfl,.inr rfl,.inr rfl,.inr rfl,.inl rfl,.inl rfl,.inl rfl,.inl rfl,trivial⟩
  ·rw[rL,bS]
   rw[aw T3]at i1;exact decide_eq_true (c9 i1)
  ·rw[rL,bS]
   rw[aj]at hj;exact decide_eq_false (i2 j hjl _ (aw hj))
end
theorem ND.nof(h:ND p day):T7 p day:=λi hi=>by
 unfold mR;have ea:=NF h.ri hi;have eg:day.getD i xZ=day[i]:=by rw[aG,aw hi];rfl
 have ok:=h.gd _ (cK hi);rw[eg]
 generalize day[i]=g at *
 unfold jR;rw[if_neg (by omega),if_neg (λz=>z ok.gt),if_neg (λz=>z ok.kd),if_neg]
 rintro⟨z1,z2⟩
 rcases ok.pa with e|e
 ·exact z1 e
 ·rw[e.is]at z2;cases z2
def Zk:aq->Option aq
 | .tuple (x::_)=>some x
 |_=>none
theorem Dr(l:List (Str×Option Int)):(l.map kC).filterMap Zk=(l.map (·.1)).map .str:=by
 rw[cW,bC];exact filterMap_some λc _=>rfl
def Jp:iH->List iH
 | .For _ _ b _ _=>b
 |_=>[]
section
variable{P:bM}{w:cy}{K:av}{mg:Str->Option aD}{base:dq}{f:aN}{k:Nat}
theorem T9:cG ["_law_word"] ["_law_word"] (bJ (top 60)):=⟨rfl,rfl,rfl,by decide +kernel,rfl,by decide +kernel,by decide +kernel⟩
theorem X5(F:kM K "_law_is_name" "_law_is_name" (top 60) f fd)(n:Na mg):eQ P w K mg base jE 1 f fd ["_law_word"] (gX K N9):=
 jA F T9 (λ_ _ h=>by obtain⟨_,rfl,_⟩:=h;rfl) λ_ _ h=>by
  obtain⟨x,rfl,hx,rfl⟩:=h;intro gy A outer s H E hr;have nc:(["_law_sign"]:List Str).Nodup:=by decide +kernel
  have hl:(kG x).length<=100000:=by unfold kG;rw[aj,cq];exact hx
  cases hb:(decide (1<=(x.length:Int))&&decide ((x.length:Int)<=8)) with
  |false=>
   refine cH (cR (VT.to (gQ (sX pA pA (rZ 1 x.length) (rZ x.length 8) ax (qW (ai 0 rfl) (small (by omega)) n.len) (λ_=>ax))) (by rw[hb];rfl)) (aS (bV (VE.to BD ?_)))) rfl
   unfold isName lG;rw[hb];rfl
  |true=>
   refine ay (bN (VT.to (gQ (sX pA pA (rZ 1 x.length) (rZ x.length 8) ax (qW (ai 0 rfl) (small (by omega)) n.len) (λ_=>ax))) (by rw[hb];rfl)) bp) ?_
   refine aS (bV (VE.to (h7 (kN rfl) uL (ao (VO.ve (VO.to (fw (own:=["_law_sign"]) (cap:=[]) (N:=["_law_sign"]) (cl:=[]) (tgt:=.one 0) (F:=ED "abcdefghijklmnopqrstuvwxyz") (ds:=kG x) rfl ⟨rfl,by decide +kernel,by decide +kernel,rfl,rfl,by simp⟩ (CW (ai 0 rfl)) (λf s3 H3=>bD (i:=0) nc rfl (aV rfl)) rfl
    (small (by omega)) (λd hd=>?_)) (ug _ x))) aK) n.all rfl) ?_))
   ·obtain⟨c,_,rfl⟩:=aI.mp hd
    exact⟨_,rfl,λf s3 H3=>fu,λr jC f s3 H3=>by cases jC;exact CY (ai 0 rfl) aF⟩
   ·unfold isName lG m_
    rw[hb,oW];rfl
abbrev Zm:List Str:=["_law_h","_law_day_here","_law_last","_law_k","_law_one"]
theorem Ru:cG Zm ["_law_h","_law_day_here"] (bJ (top 61)):=⟨rfl,rfl,rfl,by decide +kernel,rfl,by decide +kernel,by decide +kernel⟩
def zb5(ds:List aq)(d:aq):Prop:=∃(p:Pl)(day:List qJ),ds=[dI p,.list (day.map eN)]/\ji p/\Bd day/\T7 p day/\d=.none
def zb6(ds:List aq)(d:aq):Prop:=∃(p:Pl)(day:List qJ)(m:Nat)(wd:Str),ds=[dI p,.list (day.map eN)]/\ji p/\Bd day/\x3 p day m wd/\d=.tuple [.int m,.str wd]
def Rdu(ds:List aq)(d:aq):Prop:=zb5 ds d\/zb6 ds d
theorem zb8(F:kM K "_law_due" "_law_due" (top 61) f fd)(n:Na mg)(C2:bG P w K mg base 1 "_law_is_name" ["_law_word"] (gX K N9)):eQ P w K mg base jE 2 f fd ["_law_h","_law_day_here"] (gX K Rdu):=
 jA F Ru (λ_ _ h=>by rcases h with⟨_,_,rfl,_⟩|⟨_,_,_,_,rfl,_⟩<;>rfl) λ_ _ h=>by
  intro gy A outer s H E hr;have nd:Zm.Nodup:=Ru.nd;have nc:(["_law_kind"]:List Str).Nodup:=by decide +kernel
  have turn:∀(p:Pl)(day:List qJ)(g:qJ)(t:Int)(i:Nat),ji p->UQ g->(jR p g t=""->rO (sP jE P w K mg base Zm "_law_due" (bJ (top 61)) f gy A outer s H E).Ig (Jp ((ik (top 61)).getD 1 (.Pass ⟨0,0,0,0⟩))) [.val (dI p),.val (.list (day.map eN)),.val (.int t),.val (.int i),.val (eN g)] (.nx [.val (dI p),.val (.list (day.map eN)),.val (.int g.1),.un,.un]))/\
    (jR p g t≠""->rO (sP jE P w K mg base Zm "_law_due" (bJ (top 61)) f gy A outer s H E).Ig (Jp ((ik (top 61)).getD 1 (.Pass ⟨0,0,0,0⟩))) [.val (dI p),.val (.list (day.map eN)),.val (.int t),.val (.int i),.val (eN g)] (.rt (.tuple [.int i,.str (jR p g t)]))):=by
   intro p day g t i hp hg;have lk:Lay 20 (.list ((p.kinds.map (·.1)).map aH)):=jN (l:=p.kinds.map (·.1)) λx hx=>by
    obtain⟨q,hq,rfl⟩:=aI.mp hx;exact(hp.kinds q hq).1
   have QX:=hp.kn;unfold jR;by_cases h1:g.1<t
   ·rw[if_pos h1]
    refine⟨λz=>absurd z (by decide +kernel),λ_=>?_⟩
    exact cH (cR (VT.to (rN (bZ (ai 4 rfl) ax (a9 (j:=0) rfl)) (ai 2 rfl)) (decide_eq_true h1)) (aS (bV (fe (ao (ai 3 rfl) (ao aF aK)))))) rfl
   rw[if_neg h1];by_cases h2:g.2.1∉p.gates
   ·rw[if_pos h2]
    refine⟨λz=>absurd z (by decide +kernel),λ_=>?_⟩
    refine ay (bN (VT.to (rN (bZ (ai 4 rfl) ax (a9 (j:=0) rfl)) (ai 2 rfl)) (decide_eq_false h1)) bp) ?_
    exact cH (cR (VT.to (jF hr rfl (bq hg.gt) (jN hp.gates) (bZ (ai 4 rfl) ax (a9 (j:=1) rfl)) (il hr (ai 0 rfl) aF (oI p))) (by rw[fP,decide_eq_false h2];rfl)) (aS (bV (fe (ao (ai 3 rfl) (ao aF aK)))))) rfl
   rw[if_neg h2];have h2:g.2.1∈p.gates:=oX.mp h2;by_cases h3:g.2.2.1∉p.kinds.map (·.1)
   ·rw[if_pos h3]
    refine⟨λz=>absurd z (by decide +kernel),λ_=>?_⟩
    refine ay (bN (VT.to (rN (bZ (ai 4 rfl) ax (a9 (j:=0) rfl)) (ai 2 rfl)) (decide_eq_false h1)) bp) ?_
    refine ay (bN (VT.to (jF hr rfl (bq hg.gt) (jN hp.gates) (bZ (ai 4 rfl) ax (a9 (j:=1) rfl)) (il hr (ai 0 rfl) aF (oI p))) (by rw[fP,decide_eq_true h2];rfl)) bp) ?_
    exact cH (cR (VT.to (jF hr rfl (bq hg.kd) lk (bZ (ai 4 rfl) ax (a9 (j:=2) rfl)) (VO.ve (VO.to (fw (own:=["_law_kind"]) (cap:=[]) (N:=["_law_kind"]) (cl:=[]) (tgt:=.one 0) (F:=Zk) (ds:=p.kinds.map kC) rfl ⟨rfl,by decide +kernel,by decide +kernel,rfl,rfl,by simp⟩ (gu (il hr (ai 0 rfl) aF (qo p))) (λf s3 H3=>bD (i:=0) nc rfl (aV rfl)) rfl (small (by rw[aj];omega)) (λd hd=>by obtain⟨q,_,rfl⟩:=aI.mp hd;exact⟨_,rfl,λf s3 H3=>fu,λr jC f s3 H3=>by cases jC;exact bZ (ai 0 rfl) ax (a9 (j:=0) rfl)⟩)) (Dr p.kinds)))) (by rw[fP,decide_eq_false h3];rfl)) (aS (bV (fe (ao (ai 3 rfl) (ao aF aK)))))) rfl
   rw[if_neg h3];have h3:g.2.2.1∈p.kinds.map (·.1):=oX.mp h3
   by_cases h4:g.2.2.2≠""/\isName g.2.2.2=false
   ·rw[if_pos h4]
    refine⟨λz=>absurd z (by decide +kernel),λ_=>?_⟩
    refine ay (bN (VT.to (rN (bZ (ai 4 rfl) ax (a9 (j:=0) rfl)) (ai 2 rfl)) (decide_eq_false h1)) bp) ?_
    refine ay (bN (VT.to (jF hr rfl (bq hg.gt) (jN hp.gates) (bZ (ai 4 rfl) ax (a9 (j:=1) rfl)) (il hr (ai 0 rfl) aF (oI p))) (by rw[fP,decide_eq_true h2];rfl)) bp) ?_
    refine ay (bN (VT.to (jF hr rfl (bq hg.kd) lk (bZ (ai 4 rfl) ax (a9 (j:=2) rfl)) (VO.ve (VO.to (fw (own:=["_law_kind"]) (cap:=[]) (N:=["_law_kind"]) (cl:=[]) (tgt:=.one 0) (F:=Zk) (ds:=p.kinds.map kC) rfl ⟨rfl,by decide +kernel,by decide +kernel,rfl,rfl,by simp⟩ (gu (il hr (ai 0 rfl) aF (qo p))) (λf s3 H3=>bD (i:=0) nc rfl (aV rfl)) rfl (small (by rw[aj];omega)) (λd hd=>by obtain⟨q,_,rfl⟩:=aI.mp hd;exact⟨_,rfl,λf s3 H3=>fu,λr jC f s3 H3=>by cases jC;exact bZ (ai 0 rfl) ax (a9 (j:=0) rfl)⟩)) (Dr p.kinds)))) (by rw[fP,decide_eq_true h3];rfl)) bp) ?_
    exact cH (cR (VT.to (jw (k1:=!decide (g.2.2.2="")) (k2:=!isName g.2.2.2) (VT.to (g7 hr (bq hg.pa) aY (bZ (ai 4 rfl) ax (a9 (j:=3) rfl)) aF) (by rw[bS])) (λ_=>gQ (e9 (bw C2 (hr.mono (by omega)) (ao (bZ (d:=.str g.2.2.2) (ai 4 rfl) ax (a9 (j:=3) rfl)) aK) ⟨g.2.2.2,rfl,hg.ln,rfl⟩) rfl))) (by rw[decide_eq_false h4.1,h4.2];rfl)) (aS (bV (fe (ao (ai 3 rfl) (ao aF aK)))))) rfl
   rw[if_neg h4];refine⟨λ_=>?_,λz=>absurd rfl z⟩
   refine ay (bN (VT.to (rN (bZ (ai 4 rfl) ax (a9 (j:=0) rfl)) (ai 2 rfl)) (decide_eq_false h1)) bp) ?_
   refine ay (bN (VT.to (jF hr rfl (bq hg.gt) (jN hp.gates) (bZ (ai 4 rfl) ax (a9 (j:=1) rfl)) (il hr (ai 0 rfl) aF (oI p))) (by rw[fP,decide_eq_true h2];rfl)) bp) ?_
   refine ay (bN (VT.to (jF hr rfl (bq hg.kd) lk (bZ (ai 4 rfl) ax (a9 (j:=2) rfl)) (VO.ve (VO.to (fw (own:=["_law_kind"]) (cap:=[]) (N:=["_law_kind"]) (cl:=[]) (tgt:=.one 0) (F:=Zk) (ds:=p.kinds.map kC) rfl ⟨rfl,by decide +kernel,by decide +kernel,rfl,rfl,by simp⟩ (gu (il hr (ai 0 rfl) aF (qo p))) (λf s3 H3=>bD (i:=0) nc rfl (aV rfl)) rfl (small (by rw[aj];omega)) (λd hd=>by obtain⟨q,_,rfl⟩:=aI.mp hd;exact⟨_,rfl,λf s3 H3=>fu,λr jC f s3 H3=>by cases jC;exact bZ (ai 0 rfl) ax (a9 (j:=0) rfl)⟩)) (Dr p.kinds)))) (by rw[fP,decide_eq_true h3];rfl)) bp) ?_
   refine ay (bN (VT.to (jw (k1:=!decide (g.2.2.2="")) (k2:=!isName g.2.2.2) (VT.to (g7 hr (bq hg.pa) aY (bZ (ai 4 rfl) ax (a9 (j:=3) rfl)) aF) (by rw[bS])) (λ_=>gQ (e9 (bw C2 (hr.mono (by omega)) (ao (bZ (d:=.str g.2.2.2) (ai 4 rfl) ax (a9 (j:=3) rfl)) aK) ⟨g.2.2.2,rfl,hg.ln,rfl⟩) rfl))) ?_) bp) ?_
   ·by_cases h5:g.2.2.2=""
    ·rw[decide_eq_true h5];rfl
    ·have:isName g.2.2.2=true:=by
      cases h6:isName g.2.2.2 with
      |true=>rfl
      |false=>exact absurd ⟨h5,h6⟩ h4
     rw[decide_eq_false h5,this];rfl
   exact fF (aS (c6 2 (d:=.int g.1) (bZ (ai 4 rfl) ax (a9 (j:=0) rfl)) nd)) ⟨.inr rfl,.inr rfl,.inr rfl,.inl rfl,.inl rfl,trivial⟩
  rcases h with⟨p,day,rfl,hp,hd,yC,rfl⟩|⟨p,day,m,wd,rfl,hp,hd,hF,rfl⟩
  ·refine ay (c6 2 ax nd) ?_
   refine ay (jz (tgt:=.tup [3,4]) (o:=.nx [.val (dI p),.val (.list (day.map eN)),.val (.int (gI day day.length)),.un,.un]) cZ rfl (jy (ds:=day.map eN) (ai 1 rfl) n.Fy)
    (fz rfl (bO (bD (i:=3) nd rfl (aV rfl)) (bO (bD (i:=4) nd rfl (aV rfl)) eu))) (λi=>[.val (dI p),.val (.list (day.map eN)),.val (.int (gI day i)),.un,.un]) day.length rfl (by rw[cC,aj];exact aA _) (λi d hi rX=>?_) (.inl ⟨by rw[cC,aj],rfl⟩)) (aS (bV eB))
   obtain⟨x,hx,rfl⟩:=fQ rX;rw[ur hi]at hx;cases hx;exact⟨_,rfl,(turn p day (day.getD i xZ) (gI day i) i hp (hd.at hi)).1 (yC i hi)⟩
  ·refine ay (c6 2 ax nd) ?_
   have Ob:=hF.lt;refine cH (jz (tgt:=.tup [3,4]) (o:=.rt (.tuple [.int m,.str wd])) cZ rfl (jy (ds:=day.map eN) (ai 1 rfl) n.Fy)
    (fz rfl (bO (bD (i:=3) nd rfl (aV rfl)) (bO (bD (i:=4) nd rfl (aV rfl)) eu))) (λi=>[.val (dI p),.val (.list (day.map eN)),.val (.int (gI day i)),.un,.un]) m rfl (by rw[cC,aj];omega) (λi d hi rX=>?_) (.inr ⟨.tuple [.int m,eN (day.getD m xZ)],[.val (dI p),.val (.list (day.map eN)),.val (.int (gI day m)),.val (.int m),.val (eN (day.getD m xZ))],?_,rfl,rfl,?_⟩)) rfl
   ·obtain⟨x,hx,rfl⟩:=fQ rX
    rw[ur (by omega)]at hx
    cases hx;exact⟨_,rfl,(turn p day (day.getD i xZ) (gI day i) i hp (hd.at (by omega))).1 (hF.pre i hi)⟩
   ·rw[Ei (ur Ob)]
   ·have e:=hF.at_
    have:=(turn p day (day.getD m xZ) (gI day m) m hp (hd.at Ob)).2 (by show mR p day m≠"";rw[e];exact hF.ne)
    rw[show jR p (day.getD m xZ) (gI day m)=wd from e]at this
    exact this
end
def Fe(x:Str):Int:=(intText? x).getD 0
theorem rG(h:isNumber x=true):intText? x=some (Fe x):=by
 obtain⟨h1,h2,h3⟩:=oS h;have hd:HZ x.cps.toList:=λc hc=>h3 c hc
 have hl:x.cps.toList.length=x.length:=cq;have e:=intText_digits hd (λz=>by rw[z]at hl;simp only[cv]at hl;omega) (by omega)
 unfold Fe;rw[e];rfl
theorem Qk(h:1<=x.length)(ok:mj x):∃c,x.cps.toList.head?=some c/\qQ x.cps.toList 0=some c/\mj (one c):=by
 cases e:x.cps.toList with
 |nil=>
  exfalso
  have:x.length=0:=by
   have:=congrArg i5 e;rw[cq]at this;exact this
  omega
 |cons c l=>exact⟨c,rfl,a9 (j:=0) rfl,MR ok (by rw[e];exact aO)⟩
def Ql(x:Str):aq:=if isNumber x=true then .int (Fe x)else .none
theorem An(h:isNumber x=true):Ql x=.int (Fe x):=if_pos h
theorem y4(h:isNumber x=false):Ql x=.none:=if_neg (by rw[h];exact bP)
structure rH(n:Nat)(r:Str):Prop where
 nl:10∉r.cps.toList
 ok:mj r
 ln:r.length<=n
def nA(ws:List Str):Nat:=(ws.map (·.length)).sum+ws.length
theorem NM:nA []=0:=rfl
theorem mL(x:Str)(l:List Str):nA (x::l)=x.length+1+nA l:=by
 unfold nA;rw[aR,vP,bh];omega
theorem wK(a b:List Str):nA (a++b)=nA a+nA b:=by
 unfold nA;rw[aX,List.sum_append,a8];omega
theorem Ff(l:List Str)(n:Nat):nA (l.take n)+nA (l.drop n)=nA l:=by
 rw[<-wK,iJ]
theorem tS(w:Str):∀(l:List Str)(i:Nat),nA (l.set i w)<=nA l+(w.length+1)
 | [],_=>by simp[nA]
 |x::l,0=>by rw[List.set_cons_zero,mL,mL];omega
 |x::l,i+1=>by
  have:=tS w l i;rw[List.set_cons_succ,mL,mL];omega
theorem Ao:∀{l:List Str},l≠[]->(cj " " l).length+1=nA l
 | [],h=>absurd rfl h
 | [x],_=>by rw[mL];rfl
 |x::z::l,_=>by
  have h:=Ao (l:=z::l) (by simp)
  have e:(cj " " (x::z::l)).length=x.length+1+(cj " " (z::l)).length:=by
   show(x.cps++(" ":Str).cps++(cj " " (z::l)).cps).size=_
   rw[Array.size_append,Array.size_append];rfl
  rw[mL,e,<-h];omega
theorem join_le(l:List Str):(cj " " l).length<=nA l:=by
 cases l with
 |nil=>exact bK _
 |cons x l=>have:=Ao (l:=x::l) (by simp);omega
theorem uv(r:Str):nA (bR r " ")=r.length+1:=by
 have h:=Ao (qp r " ");rw[jv]at h;exact h.symm
theorem Fg{y:Str}(hy:mj y)(h:∀x∈l,mj x):mj (cj y l):=by
 rw[jB];intro c hc;have go:∀l:List Str,(∀x∈l,mj x)->c∈(cj y l).cps.toList->c<0x110000:=by
  intro l
  induction l with
  |nil=>intro _ hc;exact absurd hc (by show c∉([]:List Nat);simp)
  |cons x l ih=>
   intro h hc;cases l with
   |nil=>exact(jB x).mp (h x aO) c hc
   |cons z l=>
    have e:(cj y (x::z::l)).cps.toList=(x.cps.toList++y.cps.toList)++(cj y (z::l)).cps.toList:=by
     show(x++y++cj y (z::l)).cps.toList=_
     rw[add_list,add_list]
    rw[e]at hc;rcases bX.mp hc with hc|hc
    ·rcases bX.mp hc with hc|hc
     ·exact(jB x).mp (h x aO) c hc
     ·exact(jB y).mp hy c hc
    ·exact ih (λu hu=>h u (aU _ hu)) hc
 exact go l h hc
structure vy(x:Str):Prop where
 nl:10∉x.cps.toList
 ok:mj x
theorem Fh(h:rH n r)(hx:x∈bR r " "):vy x:=by
 have sub:∀c∈x.cps.toList,c∈r.cps.toList:=λc hc=>by
  have:=zU (y:=" ") hx hc;rw[jv]at this;exact this
 exact⟨λz=>h.nl (sub _ z),(jB x).mpr λc hc=>(jB r).mp h.ok c (sub c hc)⟩
theorem Jq(h:∀x∈l,vy x)(hl:nA l<=n):rH n (cj " " l):=
 ⟨BW (by decide +kernel) λx hx=>(h x hx).nl,Fg (by show cn _=true;decide +kernel) λx hx=>(h x hx).ok,b9 (join_le l) hl⟩
theorem NP(h:((!decide (10∈x.cps.toList))&&cn (.str x)&&decide (x.length<=9))=true):vy x/\x.length<=9:=by
 obtain⟨h1,h2⟩:=dC.mp h;obtain⟨h3,h4⟩:=dC.mp h1;refine⟨⟨λz=>?_,h4⟩,of_decide_eq_true h2⟩
 rw[decide_eq_true z]at h3;cases h3
theorem Ds{w:Str}(hw:vy w)(h:∀x∈l,vy x)(i:Nat):∀x∈l.set i w,vy x:=λx hx=>by
 rcases pW hx with hx|rfl
 ·exact h x hx
 ·exact hw
theorem lL(h:i<ws.length):ws[i]?=some (ws.getD i ""):=by
 rw[aG,aw h];rfl
theorem Ap(r:Str):1<=(bR r " ").length:=by
 cases h:bR r " " with
 |nil=>exact absurd h (qp r " ")
 |cons _ _=>simp
theorem B2(h:nA l<=100000):(l.map (·.length)).sum+l.length*(" ":Str).length<=16777216:=by
 have h4:(" ":Str).length=1:=by decide
 rw[h4];unfold nA at h;omega
structure Be(rows:List Str):Prop where
 len:rows.length<=150
 row:∀r∈rows,rH 200 r
theorem Be.at(h:Be rows)(hi:i<rows.length):rH 200 (rows.getD i ""):=h.row _ (bF (lL hi))
theorem rH.up{m: Nat}(h:rH n r)(hn:n<=m):rH m r:=⟨h.nl,h.ok,b9 h.ln hn⟩
theorem rH.t(h:rH 200 r):pH r:=⟨b9 h.ln (by decide),h.ok⟩
theorem B3(h:rH 200 r):(wordsOf r).length<=201/\∀x∈wordsOf r,pH x:=by
 refine⟨?_,λx hx=>EE h.t hx⟩
 have h1:=mV (λw:Str=>decide (w≠"")) (bR r " ")
 have h2:=uv r;have h3:=h.ln;unfold nA at h2
 show((bR r " ").filter _).length<=201
 omega
theorem text_ok(h:Be rows):pH (cj "\n" rows):=by
 refine⟨?_,Fg (by show cn _=true;decide +kernel) λx hx=>(h.row x hx).ok⟩
 have h1:=iD (y:=("\n":Str)) (by decide) (l:=rows) (b:=200) λx hx=>(h.row x hx).ln
 have h2:=h.len;omega
theorem text_fits(h:Be rows):(rows.map (·.length)).sum+rows.length*("\n":Str).length<=16777216:=by
 have h1:=mH (l:=rows) (b:=200) λx hx=>(h.row x hx).ln
 have h4:("\n":Str).length=1:=by decide
 have h2:=h.len;rw[h4];omega
section
variable{P:bM}{w:cy}{K:av}{mg:Str->Option aD}{base:dq}{f:aN}{k:Nat}
theorem T_:cG ["_law_word"] ["_law_word"] (bJ (top 65)):=⟨rfl,rfl,rfl,by decide +kernel,rfl,by decide +kernel,by decide +kernel⟩
def X6(ds:List aq)(d:aq):Prop:=∃x:Str,ds=[.str x]/\pH x/\d=Ql x
theorem X7(F:kM K "_law_number" "_law_number" (top 65) f fd)(n:Na mg):eQ P w K mg base jE 1 f fd ["_law_word"] (gX K X6):=
 jA F T_ (λ_ _ h=>by obtain⟨_,rfl,_⟩:=h;rfl) λ_ _ h=>by
  obtain⟨x,rfl,⟨hx,UE⟩,rfl⟩:=h;intro gy A outer s H E hr;have nc:(["_law_sign"]:List Str).Nodup:=by decide +kernel
  have hl:(kG x).length<=100000:=by unfold kG;rw[aj,cq];exact hx
  have o0:Lay 20 (.str "0"):=bq (by decide +kernel)
  cases hb:(decide (1<=(x.length:Int))&&decide ((x.length:Int)<=6)) with
  |false=>
   rw[y4 (show isNumber x=false by unfold isNumber lG;rw[hb];rfl)]
   exact cH (cR (VT.to (iU (k1:=true) (k2:=true) (VT.to (gQ (sX pA pA (rZ 1 x.length) (rZ x.length 6) ax (qW (ai 0 rfl) (small (by omega)) n.len) (λ_=>ax))) (by rw[hb];rfl)) (λz=>by cases z)) rfl) (aS (bV eB))) rfl
  |true=>
   obtain⟨Mx,hb2⟩:=dC.mp hb;have h1:1<=x.length:=by have:=of_decide_eq_true Mx;omega
   have h6:x.length<=6:=by have:=of_decide_eq_true hb2;omega
   obtain⟨c,hc,h0,Y1⟩:=Qk h1 UE;have en:isNumber x=((x.cps.toList.all λc=>zI (one c) "0123456789")&&(decide (x="0") || !decide (one c="0"))):=by
    unfold isNumber lG;rw[hb,hc,i9];rfl
   cases hk:(decide (one c="0") && !decide (x="0")) with
   |true=>
    obtain⟨k1,k2⟩:=dC.mp hk;have k2:decide (x="0")=false:=by cases h:decide (x="0")with|false=>rfl|true=>rw[h]at k2;cases k2
    rw[y4 (show isNumber x=false by rw[en,k1,k2];exact o_ _)]
    exact cH (cR (VT.to (iU (k1:=false) (k2:=decide (one c="0") && !decide (x="0")) (VT.to (gQ (sX pA pA (rZ 1 x.length) (rZ x.length 6) ax (qW (ai 0 rfl) (small (by omega)) n.len) (λ_=>ax))) (by rw[hb];rfl)) (λ_=>jw (VT.to (b_ hr (bq Y1) o0 (xD (ai 0 rfl) ax (small (by omega)) h0) aF) (by rw[bS])) (λ_=>VT.to (g7 hr (bq UE) o0 (ai 0 rfl) aF) (by rw[bS])))) (by rw[hk];rfl)) (aS (bV eB))) rfl
   |false=>
    refine ay (bN (VT.to (iU (k1:=false) (k2:=decide (one c="0") && !decide (x="0")) (VT.to (gQ (sX pA pA (rZ 1 x.length) (rZ x.length 6) ax (qW (ai 0 rfl) (small (by omega)) n.len) (λ_=>ax))) (by rw[hb];rfl)) (λ_=>jw (VT.to (b_ hr (bq Y1) o0 (xD (ai 0 rfl) ax (small (by omega)) h0) aF) (by rw[bS])) (λ_=>VT.to (g7 hr (bq UE) o0 (ai 0 rfl) aF) (by rw[bS])))) (by rw[hk];rfl)) bp) ?_
    have hz:(decide (x="0") || !decide (one c="0"))=true:=by
     cases h1:decide (x="0") with
     |true=>rfl
     |false=>
      cases h2:decide (one c="0") with
      |false=>rfl
      |true=>rw[h1,h2]at hk;cases hk
    rw[hz,Bool.and_true]at en;cases ha:(x.cps.toList.all λc=>zI (one c) "0123456789") with
    |false=>
     rw[ha]at en;rw[y4 en];refine cH (cR (VT.to (gQ (e9 (t:=false) (h7 (kN rfl) uL (ao (VO.ve (VO.to (fw (own:=["_law_sign"]) (cap:=[]) (N:=["_law_sign"]) (cl:=[]) (tgt:=.one 0) (F:=ED "0123456789") (ds:=kG x) rfl ⟨rfl,by decide +kernel,by decide +kernel,rfl,rfl,by simp⟩ (CW (ai 0 rfl)) (λf s3 H3=>bD (i:=0) nc rfl (aV rfl)) rfl
      (small (by omega)) (λd hd=>by obtain⟨c,_,rfl⟩:=aI.mp hd;exact⟨_,rfl,λf s3 H3=>fu,λr jC f s3 H3=>by cases jC;exact CY (ai 0 rfl) aF⟩)) (ug _ x))) aK) n.all rfl) ?_)) rfl) (aS (bV eB))) rfl
     show some (m_ _)=_;unfold m_;rw[oW];exact congrArg some ha
    |true=>
     rw[ha]at en;rw[An en];refine ay (bN (VT.to (gQ (e9 (t:=true) (h7 (kN rfl) uL (ao (VO.ve (VO.to (fw (own:=["_law_sign"]) (cap:=[]) (N:=["_law_sign"]) (cl:=[]) (tgt:=.one 0) (F:=ED "0123456789") (ds:=kG x) rfl ⟨rfl,by decide +kernel,by decide +kernel,rfl,rfl,by simp⟩ (CW (ai 0 rfl)) (λf s3 H3=>bD (i:=0) nc rfl (aV rfl)) rfl
      (small (by omega)) (λd hd=>by obtain⟨c,_,rfl⟩:=aI.mp hd;exact⟨_,rfl,λf s3 H3=>fu,λr jC f s3 H3=>by cases jC;exact CY (ai 0 rfl) aF⟩)) (ug _ x))) aK) n.all rfl) ?_)) rfl) bp) (aS (bV (yU (ai 0 rfl) (rG en) (by omega) n.int)))
     show some (m_ _)=_;unfold m_;rw[oW];exact congrArg some ha
end
def fM:List Str->Bool
 | [a,b,c,d]=>isNumber a&&(isName b&&(isName c&&(decide (d="-")||isName d)))
 |_=>false
def qy(d:Str):Str:=if d="-" then "" else d
def nB(ws:List Str):qJ:=(Fe (ws.getD 0 ""),ws.getD 1 "",ws.getD 2 "",qy (ws.getD 3 ""))
theorem Dt(ws:List Str):(∃a b c d,ws=[a,b,c,d])\/(ws.length≠4/\fM ws=false):=by
 match ws with
 | []=>exact .inr ⟨by simp,rfl⟩
 | [_]=>exact .inr ⟨by simp,rfl⟩
 | [_,_]=>exact .inr ⟨by simp,rfl⟩
 | [_,_,_]=>exact .inr ⟨by simp,rfl⟩
 | [a,b,c,d]=>exact .inl ⟨a,b,c,d,rfl⟩
 |_::_::_::_::_::_=>exact .inr ⟨by simp,rfl⟩
theorem nD(a b c d:Str):fM [a,b,c,d]=(isNumber a&&(isName b&&(isName c&&(decide (d="-")||isName d)))):=rfl
theorem B4(h:fM ws=true):∃a b c d,ws=[a,b,c,d]/\isNumber a=true:=by
 rcases Dt ws with⟨a,b,c,d,rfl⟩|⟨_,h2⟩
 ·exact⟨a,b,c,d,rfl,(dC.mp h).1⟩
 ·rw[h2]at h;cases h
def NQ(ws:List Str):aq:=if fM ws=true then eN (nB ws)else .none
theorem wL(h:fM ws=false):NQ ws=.none:=if_neg (by rw[h];exact bP)
theorem B5(h:fM ws=true):NQ ws=eN (nB ws):=if_pos h
def Aq(x:Str):List qJ:=(rowsOf x).map λr=>nB r.2
theorem rJ(h:pH x){r:Nat×List Str}(hr:r∈rowsOf x):r.2.length<=100002/\∀v∈r.2,pH v:=by
 unfold rowsOf at hr;obtain⟨p,hp,e⟩:=jJ.mp hr
 split at e
 ·cases e
 ·cases e
  have hm:p.1∈bR x "\n":=by
   have:=List.mem_zipIdx hp;rw[this.2.2];exact cK _
  have ok:=tD h hm;refine⟨?_,λv hv=>EE ok hv⟩
  show(wordsOf p.1).length<=100002
  unfold wordsOf;have h1:=mV (λw:Str=>decide (w≠"")) (bR p.1 " ")
  have h2:=pI (y:=" ") ok.1;omega
theorem vz(h:x.length<=100000):(rowsOf x).length<=100002:=by
 rw[<-zV];have h1:=zW x (bR x "\n").length;have h2:=pI (y:="\n") h;omega
section
variable{P:bM}{w:cy}{K:av}{mg:Str->Option aD}{base:dq}{f C fI:aN}{k:Nat}
theorem X8:cG ["words"] ["words"] (bJ (top 22)):=⟨rfl,rfl,rfl,by decide +kernel,rfl,by decide +kernel,by decide +kernel⟩
def Rig(ds:List aq)(d:aq):Prop:=∃ws:List Str,ds=[dP ws]/\(∀x∈ws,pH x)/\d=.bool (fM ws)
theorem zca(F:kM K "is_good_row" "is_good_row" (top 22) f fd)(n:Na mg)(C1:bG P w K mg base 2 "is_number" ["word"] (gX K WW))(C2:bG P w K mg base 2 "is_name" ["word"] (gX K N9)):eQ P w K mg base jE 3 f fd ["words"] (gX K Rig):=
 jA F X8 (λ_ _ h=>by obtain⟨_,rfl,_⟩:=h;rfl) λ_ _ h=>by
  obtain⟨ws,rfl,hok,rfl⟩:=h;intro gy A outer s H E hr;rcases Dt ws with⟨a,b,c,d,rfl⟩|⟨h4,hg⟩
  ·have oa:=hok a (by simp)
   have ob:=hok b (by simp)
   have oc:=hok c (by simp)
   have od:=hok d (by simp)
   have a3:qQ ([a,b,c,d].map aH) 3=some (.str d):=a9 (j:=3) rfl;refine C7 (MP (k1:=false) (k2:=!isNumber a) (k3:=!isName b) (k4:=!isName c) (VT.to (g7 hr (cx 20 _) (cx 20 _) (gS (ai 0 rfl) n.len) ax) rfl) (λ_=>gQ (e9 (bw C1 hr (ao (dJ (ai 0 rfl) ax (a9 (j:=0) rfl)) aK) ⟨a,rfl,oa,rfl⟩) rfl)) (λ_ _=>gQ (e9 (bw C2 hr (ao (dJ (ai 0 rfl) ax (a9 (j:=1) rfl)) aK) ⟨b,rfl,ob.1,rfl⟩) rfl)) (λ_ _ _=>gQ (e9 (bw C2 hr (ao (dJ (ai 0 rfl) ax (a9 (j:=2) rfl)) aK) ⟨c,rfl,oc.1,rfl⟩) rfl))) rfl (λhk=>?_) λhk=>?_
   ·rw[qD]at hk
    have e:fM [a,b,c,d]=false:=by
     rw[nD];cases h1:isNumber a with
     |false=>rfl
     |true=>
      cases h2:isName b with
      |false=>rfl
      |true=>
       cases h3:isName c with
       |false=>rfl
       |true=>rw[h1,h2,h3]at hk;cases hk
    rw[e];exact aS (bV BD)
   ·rw[qD]at hk
    refine aS (bV (VE.to (uK (pE hr (bq od.2) aY (dJ (ai 0 rfl) ax a3) aF) (λ_=>jg (bw C2 hr (ao (dJ (ai 0 rfl) ax a3) aK) ⟨d,rfl,od.1,rfl⟩))) ?_))
    rw[bS,nD];cases h1:isNumber a with
    |false=>rw[h1]at hk;cases hk
    |true=>
     cases h2:isName b with
     |false=>rw[h1,h2]at hk;cases hk
     |true=>
      cases h3:isName c with
      |false=>rw[h1,h2,h3]at hk;cases hk
      |true=>rfl
  ·rw[hg]
   exact cH (cR (VT.to (MP (k1:=true) (k2:=true) (k3:=true) (k4:=true) (VT.to (g7 hr (cx 20 _) (cx 20 _) (gS (ai 0 rfl) n.len) ax) (by rw[jU,aj,decide_eq_false (by omega)];rfl)) (λz=>by cases z) (λz=>by cases z) (λz=>by cases z)) rfl) (aS (bV BD))) rfl
theorem X9:cG ["_law_words"] ["_law_words"] (bJ (top 66)):=⟨rfl,rfl,rfl,by decide +kernel,rfl,by decide +kernel,by decide +kernel⟩
def Rtd(ds:List aq)(d:aq):Prop:=∃ws:List Str,ds=[dP ws]/\(∀x∈ws,pH x)/\d=NQ ws
theorem zcb(F:kM K "_law_told" "_law_told" (top 66) f fd)(n:Na mg)(C1:bG P w K mg base 1 "_law_number" ["_law_word"] (gX K X6))(C2:bG P w K mg base 1 "_law_is_name" ["_law_word"] (gX K N9)):eQ P w K mg base jE 2 f fd ["_law_words"] (gX K Rtd):=
 jA F X9 (λ_ _ h=>by obtain⟨_,rfl,_⟩:=h;rfl) λ_ _ h=>by
  obtain⟨ws,rfl,hok,rfl⟩:=h;intro gy A outer s H E hr;rcases Dt ws with⟨a,b,c,d,rfl⟩|⟨h4,hg⟩
  ·have oa:=hok a (by simp)
   have ob:=hok b (by simp)
   have oc:=hok c (by simp)
   have od:=hok d (by simp)
   have a3:qQ ([a,b,c,d].map aH) 3=some (.str d):=a9 (j:=3) rfl;have hnn:W3 (Ql a)=!isNumber a:=by
    cases h:isNumber a with
    |true=>rw[An h];rfl
    |false=>rw[y4 h];rfl
   refine C7 (CP (k1:=false) (k2:=!isNumber a) (k3:=!isName b) (VT.to (g7 hr (cx 20 _) (cx 20 _) (gS (ai 0 rfl) n.len) ax) rfl) (λ_=>VT.to (fU iK kD (bw C1 hr (ao (dJ (ai 0 rfl) ax (a9 (j:=0) rfl)) aK) ⟨a,rfl,oa,rfl⟩) eB (fA _)) hnn) (λ_ _=>gQ (e9 (bw C2 hr (ao (dJ (ai 0 rfl) ax (a9 (j:=1) rfl)) aK) ⟨b,rfl,ob.1,rfl⟩) rfl))) rfl (λhk=>?_) λhk=>?_
   ·rw[qD]at hk
    have e:fM [a,b,c,d]=false:=by
     rw[nD];cases h1:isNumber a with
     |false=>rfl
     |true=>
      cases h2:isName b with
      |false=>rfl
      |true=>rw[h1,h2]at hk;cases hk
    rw[wL e];exact aS (bV eB)
   rw[qD]at hk;obtain⟨k1,k2⟩:=Bool.or_eq_false_iff.mp hk;have h1:isNumber a=true:=by cases h:isNumber a with|true=>rfl|false=>rw[h]at k1;cases k1
   have h2:isName b=true:=by cases h:isName b with|true=>rfl|false=>rw[h]at k2;cases k2
   refine C7 (iU (k1:=!isName c) (k2:=!decide (d="-") && !isName d) (gQ (e9 (bw C2 hr (ao (dJ (ai 0 rfl) ax (a9 (j:=2) rfl)) aK) ⟨c,rfl,oc.1,rfl⟩) rfl)) (λ_=>jw (VT.to (g7 hr (bq od.2) aY (dJ (ai 0 rfl) ax a3) aF) (by rw[bS])) (λ_=>gQ (e9 (bw C2 hr (ao (dJ (ai 0 rfl) ax a3) aK) ⟨d,rfl,od.1,rfl⟩) rfl)))) rfl (λIX=>?_) λIX=>?_
   ·have e:fM [a,b,c,d]=false:=by
     rw[nD,h1,h2];cases h3:isName c with
     |false=>rfl
     |true=>
      rw[h3]at IX;cases h4:decide (d="-") with
      |true=>rw[h4]at IX;cases IX
      |false=>
       cases h5:isName d with
       |true=>rw[h4,h5]at IX;cases IX
       |false=>rfl
    rw[wL e];exact aS (bV eB)
   ·have e:fM [a,b,c,d]=true:=by
     rw[nD,h1,h2];cases h3:isName c with
     |false=>rw[h3]at IX;cases IX
     |true=>
      rw[h3]at IX;cases h4:decide (d="-") with
      |true=>rfl
      |false=>
       cases h5:isName d with
       |true=>rfl
       |false=>rw[h4,h5]at IX;cases IX
    rw[B5 e];have ap:qQ [aH "",.str d] (if(!decide (d="-"))=true then 1 else 0)=some (.str (qy d)):=by
     unfold qy;by_cases h:d="-"
     ·rw[if_pos h,decide_eq_true h];rfl
     ·rw[if_neg h,decide_eq_false h];rfl
    refine aS (bV (VE.to (fe (ao (bw C1 hr (ao (dJ (ai 0 rfl) ax (a9 (j:=0) rfl)) aK) ⟨a,rfl,oa,rfl⟩) (ao (dJ (d:=.str b) (ai 0 rfl) ax (a9 (j:=1) rfl)) (ao (dJ (d:=.str c) (ai 0 rfl) ax (a9 (j:=2) rfl)) (ao (dJ (VO.ve (dR (ao aF (ao (dJ (ai 0 rfl) ax a3) aK)))) (PK (VE.to (II hr (bq od.2) aY (dJ (ai 0 rfl) ax a3) aF) (by rw[bS])) n.int) ap) aK))))) ?_))
    rw[An h1];rfl
  ·rw[wL hg]
   exact cH (cR (VT.to (CP (k1:=true) (k2:=true) (k3:=true) (VT.to (g7 hr (cx 20 _) (cx 20 _) (gS (ai 0 rfl) n.len) ax) (by rw[jU,aj,decide_eq_false (by omega)];rfl)) (λz=>by cases z) (λz=>by cases z)) rfl) (aS (bV eB))) rfl
abbrev Fj:List Str:=["plant","text","day","number","words"]
theorem Du:cG Fj ["plant","text"] (bJ (top 18)):=⟨rfl,rfl,rfl,by decide +kernel,rfl,by decide +kernel,by decide +kernel⟩
def Ua(ds es:List aq):Prop:=∃(p:Pl)(x:Str),ds=[eZ p,.str x]/\ji p/\pH x/\(∀r∈rowsOf x,fM r.2=true)/\Bd (Aq x)/\T7 p (Aq x)/\es=(Aq x).map eN
def Ub(ds:List aq)(pl:Int)(wd:Str):Prop:=(∃(p:Pl)(x:Str)(pre:List (Nat×List Str))(m:Nat)(ws:List Str)(post:List (Nat×List Str)),ds=[eZ p,.str x]/\pH x/\rowsOf x=pre++(m,ws)::post/\(∀r∈pre,fM r.2=true)/\fM ws=false/\pl=m/\wd="row")\/
 (∃(p:Pl)(x:Str)(m:Nat),ds=[eZ p,.str x]/\ji p/\pH x/\(∀r∈rowsOf x,fM r.2=true)/\Bd (Aq x)/\x3 p (Aq x) m wd/\pl=m)
theorem Ar{r:Nat×List Str}(h:(rowsOf x)[i]?=some r):((rowsOf x).take (i+1)).map (λr=>eN (nB r.2))=((rowsOf x).take i).map (λr=>eN (nB r.2)) ++ [eN (nB r.2)]:=by
 rw[dv,h,aX];rfl
theorem Jr(x:Str):(rowsOf x).map (λr=>eN (nB r.2))=(Aq x).map eN:=by
 unfold Aq;rw[bC];rfl
theorem X_(F:kM K "read_day" "read_day" (top 18) f fd)(n:Na mg)(C1:bG P w K mg base 2 "rows_of" ["text"] (AO K Y2))(C2:bG P w K mg base 3 "is_good_row" ["words"] (gX K Rig))(C3:bG P w K mg base 4 "look_day" ["plant","day"] (gX K Rld)):eQ P w K mg base jE 5 f fd ["plant","text"] (AO K Ua):=
 Ef F Du (λ_ _ h=>by obtain⟨_,_,rfl,_⟩:=h;rfl) λ_ _ h=>by
  obtain⟨p,x,rfl,hp,ox,yE,hG,hN,rfl⟩:=h;intro gy A outer s H E hr;have nd:Fj.Nodup:=Du.nd;have UD:=vz ox.1;refine ay (iE 2 (dR aK) nd) ?_
  refine ay (jz (tgt:=.tup [3,4]) (o:=.nx [.val (eZ p),.val (.str x),.own ((rowsOf x).map λr=>eN (nB r.2)),.un,.un]) cZ rfl (gu (ds:=(rowsOf x).map rQ) (VO.ve (i_ C1 (hr.mono (by omega)) (ao (ai 1 rfl) aK) ⟨x,rfl,ox,rfl⟩)))
   (fz rfl (bO (bD (i:=3) nd rfl (aV rfl)) (bO (bD (i:=4) nd rfl (aV rfl)) eu))) (λi=>[.val (eZ p),.val (.str x),.own (((rowsOf x).take i).map λr=>eN (nB r.2)),.un,.un]) (rowsOf x).length rfl (by rw[aj];exact aA _) (λi d hi rX=>?_) (.inl ⟨by rw[aj],by rw[eW]⟩)) ?_
  ·have Ht:(rowsOf x)[i]?=some (rowsOf x)[i]:=aw hi
   have hm:=cK hi;have qI:((rowsOf x).take i).length<=i:=by rw[bW];omega
   rw[Ar Ht];rw[aP,Ht]at rX;cases rX;have La:=yE _ hm;have Qm:=rJ ox hm
   clear Ht hm
   generalize(rowsOf x)[i]=r at *
   obtain⟨a,b,c,d,e4,X'⟩:=B4 La;obtain⟨rn,rw⟩:=r;have e4:rw=[a,b,c,d]:=e4;subst e4;have od:=Qm.2 d (by simp)
   have hl6:=(oS X').2.1;refine⟨_,rfl,?_⟩
   refine ay (bN (VT.to (gQ (e9 (bw C2 (hr.mono (by omega)) (ao (ai 4 rfl) aK) ⟨[a,b,c,d],rfl,Qm.2,rfl⟩) (t:=true) (by rw[La];rfl))) rfl) bp) ?_
   refine fF (aS (g8 2 rfl (d:=eN (nB [a,b,c,d])) (VE.to (fe (ao (yU (dJ (ai 4 rfl) ax (a9 (j:=0) rfl)) (rG X') (by omega) n.int) (ao (dJ (d:=.str b) (ai 4 rfl) ax (a9 (j:=1) rfl)) (ao (dJ (d:=.str c) (ai 4 rfl) ax (a9 (j:=2) rfl)) (ao (xA (d:=.str (qy d)) (k:=decide (d="-")) (VT.to (b_ hr (bq od.2) aY (dJ (ai 4 rfl) ax (a9 (j:=3) rfl)) aF) (by rw[bS])) (λz=>VE.to aF (by unfold qy;rw[if_pos (of_decide_eq_true z)])) (λz=>VE.to (dJ (d:=.str d) (ai 4 rfl) ax (a9 (j:=3) rfl)) (by unfold qy;rw[if_neg (of_decide_eq_false z)]))) aK))))) rfl) (iN (by rw[aj];omega)))) ⟨.inr rfl,.inr rfl,.inr rfl,.inl rfl,.inl rfl,trivial⟩
  ·rw[Jr]
   refine ay (Pt (uc 2 rfl (bw C3 hr (ao (ai 0 rfl) (ao (ai 2 rfl) aK)) ⟨p,Aq x,rfl,hp,hG,hN,rfl⟩) rfl)) ?_
   exact aS (wc 2 rfl)
theorem Ya{X2: fN}(F:kM K "read_day" "read_day" (top 18) f fd)(n:Na mg)(C1:bG P w K mg base 2 "rows_of" ["text"] (AO K Y2))(C2:bG P w K mg base 3 "is_good_row" ["words"] (gX K Rig))(C3:uf P w K mg base 4 "look_day" ["plant","day"] C XZ)(mC:mg "BadDay"=some (.ref C))(M:WK K C fI)(FI:eQ P w K mg base jE 1 fI X2 Qi (yW C))(bI:Binds K X2 Qi []):
  eQ P w K mg base (Tq P w) 5 f fd ["plant","text"] (UC K C Ub):=by
 obtain⟨oc,od,kV,doc,pm,an,gy,ct,F4,rfl,lk,pT⟩:=F.ex;refine Lw lk pT Du (λvs H Q E h=>?_) λA outer s H vs Q E hr h=>⟨_,mh,?_⟩
 ·obtain⟨H0,ds,pl,wd,_,r,h,_⟩:=h
  rcases h with⟨p,x,pre,m,ws,post,rfl,_⟩|⟨p,x,m,rfl,_⟩
  ·exact r.length
  ·exact r.length
 obtain⟨H0,ds,pl,wd,sm,r,h,q⟩:=h;have nd:Fj.Nodup:=Du.nd;have turn:∀(p:Pl)(x:Str)(es:List aq)(r:Nat×List Str),fM r.2=true->(∀v∈r.2,pH v)->es.length<=200000->rO (BM P w K mg base Fj "read_day" (bJ (top 18)) f gy A outer s H E) (suite (ik (top 18)) 1) [.val (eZ p),.val (.str x),.own es,.val (.int r.1),.val (.list (r.2.map .str))] (.nx [.val (eZ p),.val (.str x),.own (es ++ [eN (nB r.2)]),.un,.un]):=by
  intro p x es r La Qm hes;obtain⟨a,b,c,d,e4,X'⟩:=B4 La;obtain⟨rn,rw⟩:=r;have e4:rw=[a,b,c,d]:=e4;subst e4;have od:=Qm d (by simp)
  have hl6:=(oS X').2.1;refine ay (bN (VT.to (gQ (e9 (bw C2 (hr.mono (by omega)) (ao (ai 4 rfl) aK) ⟨[a,b,c,d],rfl,Qm,rfl⟩) (t:=true) (by rw[La];rfl))) rfl) bp) ?_
  refine fF (aS (g8 2 rfl (d:=eN (nB [a,b,c,d])) (VE.to (fe (ao (yU (dJ (ai 4 rfl) ax (a9 (j:=0) rfl)) (rG X') (by omega) n.int) (ao (dJ (d:=.str b) (ai 4 rfl) ax (a9 (j:=1) rfl)) (ao (dJ (d:=.str c) (ai 4 rfl) ax (a9 (j:=2) rfl)) (ao (xA (d:=.str (qy d)) (k:=decide (d="-")) (VT.to (b_ hr (bq od.2) aY (dJ (ai 4 rfl) ax (a9 (j:=3) rfl)) aF) (by rw[bS])) (λz=>VE.to aF (by unfold qy;rw[if_pos (of_decide_eq_true z)])) (λz=>VE.to (dJ (d:=.str d) (ai 4 rfl) ax (a9 (j:=3) rfl)) (by unfold qy;rw[if_neg (of_decide_eq_false z)]))) aK))))) rfl) (iN (by omega)))) ⟨.inr rfl,.inr rfl,.inr rfl,.inl rfl,.inl rfl,trivial⟩
 rcases h with⟨p,x,pre,m,ws,post,rfl,ox,he,CJ,zcc,rfl,rfl⟩|⟨p,x,m,rfl,hp,ox,yE,hG,hF,rfl⟩
 ·have UD:=vz ox.1
  have fr:gW K H0 H H0 H _ (sW Fj [eZ p,.str x]):=.start sm r;refine dS (Eo (X:=BM P w K mg base Fj "read_day" (bJ (top 18)) f gy A outer s H E) fr (iE 2 (dR aK) nd) λσ1 Ha Hb _ f1=>?_)
  have hlen:(rowsOf x).length=pre.length+(post.length+1):=by rw[he,a8,bh]
  refine dS (MJ (tgt:=.tup [3,4]) (m:=pre.length) f1 uZ rfl (gu (ds:=(rowsOf x).map rQ) (VO.ve (i_ C1 (hr.mono (by omega)) (ao (ai 1 rfl) aK) ⟨x,rfl,ox,rfl⟩)))
   (fz rfl (bO (bD (i:=3) nd rfl (aV rfl)) (bO (bD (i:=4) nd rfl (aV rfl)) eu))) (λi=>[.val (eZ p),.val (.str x),.own (((rowsOf x).take i).map λr=>eN (nB r.2)),.un,.un]) rfl (by rw[aj];omega) (λi d hi rX=>?_) (λd hd=>?_))
  ·have Ht:(rowsOf x)[i]?=some ((rowsOf x)[i]'(by omega)):=aw _
   have hm:(rowsOf x)[i]'(by omega)∈rowsOf x:=cK _
   have hmp:(rowsOf x)[i]'(by omega)∈pre:=by
    have:(rowsOf x)[i]?=some pre[i]:=by rw[he,cL hi,aw hi]
    rw[Ht]at this;rw[c9 this];exact cK _
   have qI:((rowsOf x).take i).length<=i:=by rw[bW];omega
   rw[Ar Ht];rw[aP,Ht]at rX;cases rX;have La:=CJ _ hmp;have Qm:=rJ ox hm
   clear Ht hm hmp
   generalize(rowsOf x)[i]'(by omega)=r at *
   exact⟨_,rfl,turn p x _ r La Qm.2 (by rw[aj];omega)⟩
  ·have Ky:((rowsOf x).map rQ)[pre.length]?=some (rQ (m,ws)):=by rw[aP,he,cD (aA _),FJ];rfl
   rw[Ky]at hd;cases hd;obtain⟨w1,w2⟩:=rJ ox (r:=(m,ws)) (by rw[he];simp)
   refine⟨_,rfl,λD' σ' Hc Hd f2=>?_⟩
   refine dS (yi f2 (VT.to (gQ (e9 (bw C2 (hr.mono (by omega)) (ao (ai 4 rfl) aK) ⟨ws,rfl,w2,rfl⟩) (t:=false) (by rw[zcc];rfl))) rfl) λHg Hh g4=>?_)
   refine d_ (I_ (f2.grow g4) M FI (hr.mono (by omega)) bI (by rfl) mC (ai 3 rfl) aF (by decide +kernel) (λpins σ H2 s2 e dx I2 ge se wi=>?_) (λpins σ H2 s2 I2=>(oG I2).2.1) hr.hd)
   exact Ey I2 ge se λT nT ne=>q e T dx _ (wi.fly nT ne)
 ·have UD:=vz ox.1
  have fr:gW K H0 H H0 H _ (sW Fj [eZ p,.str x]):=.start sm r;refine dS (Eo (X:=BM P w K mg base Fj "read_day" (bJ (top 18)) f gy A outer s H E) fr (iE 2 (dR aK) nd) λσ1 Ha Hb _ f1=>?_)
  refine dS (Eo f1 (jz (tgt:=.tup [3,4]) (o:=.nx [.val (eZ p),.val (.str x),.own ((rowsOf x).map λr=>eN (nB r.2)),.un,.un]) uZ rfl (gu (ds:=(rowsOf x).map rQ) (VO.ve (i_ C1 (hr.mono (by omega)) (ao (ai 1 rfl) aK) ⟨x,rfl,ox,rfl⟩)))
   (fz rfl (bO (bD (i:=3) nd rfl (aV rfl)) (bO (bD (i:=4) nd rfl (aV rfl)) eu))) (λi=>[.val (eZ p),.val (.str x),.own (((rowsOf x).take i).map λr=>eN (nB r.2)),.un,.un]) (rowsOf x).length rfl (by rw[aj];exact aA _) (λi d hi rX=>?_) (.inl ⟨by rw[aj],by rw[eW]⟩)) λσ2 TV TX _ f2=>?_)
  ·have Ht:(rowsOf x)[i]?=some (rowsOf x)[i]:=aw hi
   have hm:=cK hi;have qI:((rowsOf x).take i).length<=i:=by rw[bW];omega
   rw[Ar Ht];rw[aP,Ht]at rX;cases rX;have La:=yE _ hm;have Qm:=rJ ox hm
   clear Ht hm
   generalize(rowsOf x)[i]=r at *
   exact⟨_,rfl,turn p x _ r La Qm.2 (by rw[aj];omega)⟩
  ·rw[Jr]at f2
   obtain⟨pp,xs,h1,h2,h3,h4,h5⟩:=f2.slot 2 _ rfl;obtain⟨f3,_⟩:=f2.freeze rfl h1 h2;obtain⟨fx,fdx,FX,mx,kx,bx⟩:=C3;exact dS (PN f3 FX hr bx mx kx (ao (ai 0 rfl) (ao (ai 2 rfl) aK)) ⟨p,Aq x,m,rfl,hp,hG,hF,rfl⟩ q)
end
def Dv:List Str:=["-1","01","1000000","x","+1","1.0","0","00"]
def Dw:List Str:=["A","abcdefghi","a1","-","Gate","zzzzzzz"]
def Dx:List Str:=["A","abcdefghi","a1","-","Kind","zzzzzzz"]
def Dy:List Str:=["P","--","abcdefghi","p,q","0","zzzzzzz"]
theorem y6:∀x∈Dv++Dw++Dx++Dy,vy x/\x.length<=9:=by
 intro x hx;have:(Dv++Dw++Dx++Dy).all (λx=>(!decide (10∈x.cps.toList))&&cn (.str x)&&decide (x.length<=9))=true:=by decide +kernel
 exact NP (eV.mp this x hx)
theorem Qn(j:Int):vy (pickOf Dv "" j)/\(pickOf Dv "" j).length<=9:=y6 _ (dg _ (dg _ (dg _ (jV (F:=aH) (by decide) j).2)))
theorem Qo(j:Int):vy (pickOf Dw "" j)/\(pickOf Dw "" j).length<=9:=y6 _ (dg _ (dg _ (cu _ (jV (F:=aH) (by decide) j).2)))
theorem Qp(j:Int):vy (pickOf Dx "" j)/\(pickOf Dx "" j).length<=9:=y6 _ (dg _ (cu _ (jV (F:=aH) (by decide) j).2))
theorem Qq(j:Int):vy (pickOf Dy "" j)/\(pickOf Dy "" j).length<=9:=y6 _ (cu _ (jV (F:=aH) (by decide) j).2)
def Oc(ws:List Str)(m:Int):Nat:=(m/6%(ws.length:Int)).toNat
theorem NR(h:1<=ws.length)(m:Int):Oc ws m<ws.length/\m/6%(ws.length:Int)=(Oc ws m:Nat):=by
 have a1:0<=m/6%(ws.length:Int):=bH _ (by omega)
 have a2:m/6%(ws.length:Int)<ws.length:=bL _ (by omega)
 unfold Oc;omega
def qz(ws:List Str)(m:Int):List Str:=
 if m%6=0 then ws.take (Oc ws m)++ws.drop (Oc ws m+1)
 else if m%6=1 then ws.take (Oc ws m) ++ [("p":Str)]++ws.drop (Oc ws m)
 else if m%6=2 then ws.set 0 (pickOf Dv "" (m/6))
 else if m%6=3 then ws.set 1 (pickOf Dw "" (m/6))
 else if m%6=4 then ws.set 2 (pickOf Dx "" (m/6))
 else ws.set 3 (pickOf Dy "" (m/6))
def otherOf(r:Str)(m:Int):Str:=cj " " (qz (bR r " ") m)
theorem zcd:vy "p":=(NP (x:="p") (by decide +kernel)).1
theorem B6(h:∀x∈ws,vy x)(h1:1<=ws.length)(m:Int):(∀x∈qz ws m,vy x)/\nA (qz ws m)<=nA ws+10:=by
 obtain⟨ha,_⟩:=NR h1 m;unfold qz
 generalize Oc ws m=a at *
 have hc:=Ff ws a
 split
 ·refine⟨λx hx=>?_,?_⟩
  ·rcases bX.mp hx with hx|hx
   ·exact h x (eL hx)
   ·exact h x (eM hx)
  ·have h2:=Ff (ws.drop a) 1
   rw[List.drop_drop]at h2;rw[wK];omega
 split
 ·refine⟨λx hx=>?_,?_⟩
  ·rcases bX.mp hx with hx|hx
   ·rcases bX.mp hx with hx|hx
    ·exact h x (eL hx)
    ·rw[a_.mp hx];exact zcd
   ·exact h x (eM hx)
  ·have hp:(("p":Str)).length=1:=by decide
   rw[wK,wK,mL,NM,hp];omega
 split
 ·obtain⟨n1,n2⟩:=Qn (m/6)
  have:=tS (pickOf Dv "" (m/6)) ws 0;exact⟨Ds n1 h _,by omega⟩
 split
 ·obtain⟨n1,n2⟩:=Qo (m/6)
  have:=tS (pickOf Dw "" (m/6)) ws 1;exact⟨Ds n1 h _,by omega⟩
 split
 ·obtain⟨n1,n2⟩:=Qp (m/6)
  have:=tS (pickOf Dx "" (m/6)) ws 2;exact⟨Ds n1 h _,by omega⟩
 ·obtain⟨n1,n2⟩:=Qq (m/6)
  have:=tS (pickOf Dy "" (m/6)) ws 3;exact⟨Ds n1 h _,by omega⟩
theorem NS(h:rH n r)(m:Int):rH (n+11) (otherOf r m):=by
 obtain⟨h1,h2⟩:=B6 (λx hx=>Fh h hx) (Ap r) m
 have h3:=h.ln;rw[uv]at h2;exact Jq h1 (by omega)
section
variable{P:bM}{w:cy}{K:av}{mg:Str->Option aD}{base:dq}{f:aN}{k:Nat}
abbrev Uc:List Str:=["_law_row","_law_m","_law_words","_law_some","_law_at"]
theorem Rv:cG Uc ["_law_row","_law_m"] (bJ (top 64)):=⟨rfl,rfl,rfl,by decide +kernel,rfl,by decide +kernel,by decide +kernel⟩
def Rot(ds:List aq)(d:aq):Prop:=∃(r:Str)(m:Int),ds=[.str r,.int m]/\rH 10000 r/\(bR r " ").length=4/\d=.str (otherOf r m)
theorem zce(F:kM K "_law_otherwise" "_law_otherwise" (top 64) f fd)(n:Na mg):eQ P w K mg base jE 1 f fd ["_law_row","_law_m"] (gX K Rot):=
 jA F Rv (λ_ _ h=>by obtain⟨_,_,rfl,_⟩:=h;rfl) λ_ _ h=>by
  obtain⟨r,m,rfl,ok,h2,rfl⟩:=h;intro gy A outer s H E hr;have nd:Uc.Nodup:=Rv.nd;have Q6:=ok.ln;refine ay (iE 2 (ng (ai 0 rfl) aF rfl (small (by omega))) nd) ?_
  have hw:=B6 (λx hx=>Fh ok hx) (Ap r) m
  have ht:=uv r;unfold otherOf
  generalize bR r " "=ws at *
  have oE:=B2 (l:=qz ws m) (by omega)
  clear hw
  obtain⟨ha,ea⟩:=NR (show 1<=ws.length by omega) m
  refine ay (c6 3 (d:=.int (m/6)) (fV (ai 1 rfl) ax ⟨by decide,by decide⟩) nd) ?_
  refine ay (c6 4 (d:=.int (Oc ws m:Nat)) (VE.to (cQ (ai 3 rfl) (uc 2 rfl (gS (ds:=ws.map aH) (ai 2 rfl) n.len) rfl) (by rw[aj];omega)) (by rw[aj,ea])) nd) ?_
  unfold qz at oE ⊢
  generalize Oc ws m=a at *
  have T:∀{δ:List Slot}{j:Int}{p1 p2 p3 p4 p5:Pos}{y z},δ[1]?=some (.val (.int m))->VT (sP jE P w K mg base Uc "_law_otherwise" (bJ (top 64)) f gy A outer s H E).Ig (.Compare (.BinOp (.Name "_law_m" p1) .Mod (.Constant (.int 6) y p2) p3) [.Eq] [.Constant (.int j) z p4] p5) δ (decide (m%6=j)):=λh=>VT.to (b_ hr (cx 20 _) (cx 20 _) (cQ (ai 1 h) ax (by decide)) ax) (jU _ _)
  by_cases c0:m%6=0
  ·rw[if_pos c0]at oE ⊢
   refine eK 2 rfl (cH (cR (VT.to (T rfl) (decide_eq_true c0)) (aS (bV (iV (zs:=ws.take a++ws.drop (a+1)) aF (VE.to (VO.ve (lF (VO.ve (gR (ds:=ws.map aH) (ai 2 rfl) .no (.yes (ai 4 rfl)))) (VO.ve (gR (ds:=ws.map aH) (ai 2 rfl) (.yes (VE.to (eU (ai 4 rfl) ax) (k:=.int ((a+1:Nat):Int)) rfl)) .no)) (small (by rw[m9,jI,bW,cP,aj];omega)))) (by rw[m9,jI,aX,nI,k7])) oE)))) rfl)
  rw[if_neg c0]at oE ⊢;refine ay (bN (VT.to (T rfl) (decide_eq_false c0)) bp) ?_
  by_cases c1:m%6=1
  ·rw[if_pos c1]at oE ⊢
   refine eK 2 rfl (cH (cR (VT.to (T rfl) (decide_eq_true c1)) (aS (bV (iV (zs:=ws.take a ++ [("p":Str)]++ws.drop a) aF (VE.to (VO.ve (lF (VO.ve (lF (VO.ve (gR (ds:=ws.map aH) (ai 2 rfl) .no (.yes (ai 4 rfl)))) (VO.ve (dR (ao aF aK))) (small (by rw[m9,bW,aj];simp only[bh,cv];omega)))) (VO.ve (gR (ds:=ws.map aH) (ai 2 rfl) (.yes (ai 4 rfl)) .no)) (small ?_))) ?_) oE)))) rfl)
   ·rw[m9,jI,a8,bW,cP,aj]
    simp only[bh,cv];omega
   ·rw[m9,jI,aX,aX,nI,k7]
    rfl
  rw[if_neg c1]at oE ⊢;refine ay (bN (VT.to (T rfl) (decide_eq_false c1)) bp) ?_
  by_cases c2:m%6=2
  ·rw[if_pos c2]at oE ⊢
   have pk:=(jV (l:=Dv) (d:=("":Str)) (F:=aH) (by decide) (m/6)).1
   refine ay (δ':=[.val (.str r),.val (.int m),.own ((ws.set 0 (pickOf Dv "" (m/6))).map aH),.val (.int (m/6)),.val (.int a)]) (cR (VT.to (T rfl) (decide_eq_true c2)) (fF (aS (tq (j:=0) 2 rfl (ax (i:=0)) (by rw[aj];omega) (dJ (VO.ve (dR (ao aF (ao aF (ao aF (ao aF (ao aF (ao aF (ao aF (ao aF aK)))))))))) (cQ (ai 3 rfl) ax (by decide)) pk))) ⟨.inr rfl,.inr rfl,.inr (by rw[l']),.inr rfl,.inr rfl,trivial⟩)) ?_
   exact aS (bV (uc 2 rfl (iV (zs:=ws.set 0 (pickOf Dv "" (m/6))) aF (ai 2 rfl) oE) rfl))
  rw[if_neg c2]at oE ⊢;by_cases c3:m%6=3
  ·rw[if_pos c3]at oE ⊢
   have pk:=(jV (l:=Dw) (d:=("":Str)) (F:=aH) (by decide) (m/6)).1
   refine ay (δ':=[.val (.str r),.val (.int m),.own ((ws.set 1 (pickOf Dw "" (m/6))).map aH),.val (.int (m/6)),.val (.int a)]) (bN (VT.to (T rfl) (decide_eq_false c2)) (aS (cR (VT.to (T rfl) (decide_eq_true c3)) (fF (aS (tq (j:=1) 2 rfl (ax (i:=1)) (by rw[aj];omega) (dJ (VO.ve (dR (ao aF (ao aF (ao aF (ao aF (ao aF (ao aF aK)))))))) (cQ (ai 3 rfl) ax (by decide)) pk))) ⟨.inr rfl,.inr rfl,.inr (by rw[l']),.inr rfl,.inr rfl,trivial⟩)))) ?_
   exact aS (bV (uc 2 rfl (iV (zs:=ws.set 1 (pickOf Dw "" (m/6))) aF (ai 2 rfl) oE) rfl))
  rw[if_neg c3]at oE ⊢;by_cases c4:m%6=4
  ·rw[if_pos c4]at oE ⊢
   have pk:=(jV (l:=Dx) (d:=("":Str)) (F:=aH) (by decide) (m/6)).1
   refine ay (δ':=[.val (.str r),.val (.int m),.own ((ws.set 2 (pickOf Dx "" (m/6))).map aH),.val (.int (m/6)),.val (.int a)]) (bN (VT.to (T rfl) (decide_eq_false c2)) (aS (bN (VT.to (T rfl) (decide_eq_false c3)) (aS (cR (VT.to (T rfl) (decide_eq_true c4)) (fF (aS (tq (j:=2) 2 rfl (ax (i:=2)) (by rw[aj];omega) (dJ (VO.ve (dR (ao aF (ao aF (ao aF (ao aF (ao aF (ao aF aK)))))))) (cQ (ai 3 rfl) ax (by decide)) pk))) ⟨.inr rfl,.inr rfl,.inr (by rw[l']),.inr rfl,.inr rfl,trivial⟩)))))) ?_
   exact aS (bV (uc 2 rfl (iV (zs:=ws.set 2 (pickOf Dx "" (m/6))) aF (ai 2 rfl) oE) rfl))
  ·rw[if_neg c4]at oE ⊢
   have pk:=(jV (l:=Dy) (d:=("":Str)) (F:=aH) (by decide) (m/6)).1
   refine ay (δ':=[.val (.str r),.val (.int m),.own ((ws.set 3 (pickOf Dy "" (m/6))).map aH),.val (.int (m/6)),.val (.int a)]) (bN (VT.to (T rfl) (decide_eq_false c2)) (aS (bN (VT.to (T rfl) (decide_eq_false c3)) (aS (bN (VT.to (T rfl) (decide_eq_false c4)) (fF (aS (tq (j:=3) 2 rfl (ax (i:=3)) (by rw[aj];omega) (dJ (VO.ve (dR (ao aF (ao aF (ao aF (ao aF (ao aF (ao aF aK)))))))) (cQ (ai 3 rfl) ax (by decide)) pk))) ⟨.inr rfl,.inr rfl,.inr (by rw[l']),.inr rfl,.inr rfl,trivial⟩)))))) ?_
   exact aS (bV (uc 2 rfl (iV (zs:=ws.set 3 (pickOf Dy "" (m/6))) aF (ai 2 rfl) oE) rfl))
end
def qA(r:Str):Bool:=!(wordsOf r).isEmpty && !fM (wordsOf r)
def fD(rows:List Str):List qJ:=((rows.map wordsOf).filter λws=>!ws.isEmpty).map nB
def nS(rows:List Str)(i:Nat):List qJ:=fD (rows.take i)
theorem As(h:rows[i]?=some r):nS rows (i+1)=nS rows i++(if(wordsOf r).isEmpty then []else [nB (wordsOf r)]):=by
 unfold nS fD;rw[dv,h,aX,wW,aX]
 congr 1
 show(H_ _ [wordsOf r]).map _=_
 rw[jq];cases e:(wordsOf r).isEmpty
 ·rfl
 ·rfl
theorem KS(rows:List Str):nS rows rows.length=fD rows:=by unfold nS;rw[eW]
theorem Au(rows:List Str):(fD rows).length<=rows.length:=by
 unfold fD;rw[aj];have:=mV (λws:List Str=>!ws.isEmpty) (rows.map wordsOf)
 rw[aj]at this;exact this
theorem x5(rows:List Str)(i:Nat):(nS rows i).length<=i:=by
 have:=Au (rows.take i);rw[bW]at this;unfold nS;omega
structure Dz(rows:List Str)(m:Nat):Prop where
 lt:m<rows.length
 pre:∀i,i<m->qA (rows.getD i "")=false
 at_:qA (rows.getD m "")=true
def UR(rows:List Str):Prop:=∀r∈rows,qA r=false
theorem KW(rows:List Str):UR rows\/∃m,Dz rows m:=by
 have go:∀n,n<=rows.length->(∀i,i<n->qA (rows.getD i "")=false)\/∃m,Dz rows m:=by
  intro n
  induction n with
  |zero=>intro _;exact .inl λi h=>absurd h (tZ _)
  |succ n ih=>
   intro hn;rcases ih (by omega)with h|h
   ·cases e:qA (rows.getD n "") with
    |false=>
     refine .inl λi hi=>?_
     by_cases VJ:i=n
     ·rw[VJ];exact e
     ·exact h i (by omega)
    |true=>exact .inr ⟨n,by omega,h,e⟩
   ·exact .inr h
 rcases go rows.length (aA _)with h|h
 ·refine .inl λr hr=>?_
  obtain⟨i,hi,e⟩:=List.getElem_of_mem hr;have:=h i hi;rw[aG,aw hi,e]at this;exact this
 ·exact .inr h
theorem KY:∀(l:List Str)(k m:Nat),(∀i,i<m->qA (l.getD i "")=false)->m<l.length->qA (l.getD m "")=true->
  ∃pre ws post,((l.zipIdx k).filterMap λp=>if(wordsOf p.1).isEmpty then none else some (p.2,wordsOf p.1))=pre++(k+m,ws)::post/\(∀r∈pre,fM r.2=true)/\fM ws=false:=by
 intro l
 induction l with
 |nil=>intro k m _ h;exact absurd h (tZ _)
 |cons x l ih=>
  intro k m CJ qI FC;rw[nE];cases m with
  |zero=>
   have hx:qA x=true:=FC;unfold qA at hx;obtain⟨h1,h2⟩:=dC.mp hx;have h1:(wordsOf x).isEmpty=false:=by cases h:(wordsOf x).isEmpty with|false=>rfl|true=>rw[h]at h1;cases h1
   have h2:fM (wordsOf x)=false:=by cases h:fM (wordsOf x)with|false=>rfl|true=>rw[h]at h2;cases h2
   rw[c7 (b:=(k,wordsOf x)) (by simp only[h1];rfl)]
   exact⟨[],wordsOf x,_,rfl,λr hr=>(by cases hr),h2⟩
  |succ m=>
   obtain⟨pre,ws,post,e,hp,hb⟩:=ih (k+1) m (λi hi=>CJ (i+1) (by omega)) (by simp only[bh]at qI;omega) FC
   have hx:qA x=false:=CJ 0 (by omega)
   cases h1:(wordsOf x).isEmpty with
   |true=>
    rw[ei (by simp only[h1];rfl),e]
    exact⟨pre,ws,post,by rw[show k+1+m=k+(m+1) by omega],hp,hb⟩
   |false=>
    have h2:fM (wordsOf x)=true:=by
     unfold qA at hx;rw[h1]at hx;cases h:fM (wordsOf x) with
     |true=>rfl
     |false=>rw[h]at hx;cases hx
    rw[c7 (b:=(k,wordsOf x)) (by simp only[h1];rfl),e]
    refine⟨(k,wordsOf x)::pre,ws,post,by rw[show k+1+m=k+(m+1) by omega];rfl,λr hr=>?_,hb⟩
    rcases aJ.mp hr with rfl|hr
    ·exact h2
    ·exact hp r hr
theorem HC(h:Be rows){m:Nat}(hF:Dz rows m):∃pre ws post,rowsOf (cj "\n" rows)=pre++(m,ws)::post/\(∀r∈pre,fM r.2=true)/\fM ws=false:=by
 have h0:rows≠[]:=λz=>by have:=hF.lt;rw[z]at this;exact absurd this (tZ _)
 rw[xS h0 λr hr=>(h.row r hr).nl]
 obtain⟨pre,ws,post,e,hp,hb⟩:=KY rows 0 m hF.pre hF.lt hF.at_;exact⟨pre,ws,post,by rw[e,sG],hp,hb⟩
theorem Fk(h:Be rows)(hN:UR rows):(∀r∈rowsOf (cj "\n" rows),fM r.2=true)/\Aq (cj "\n" rows)=fD rows:=by
 have e:=Di (l:=rows) λr hr=>(h.row r hr).nl
 constructor
 ·intro r hr
  have hm:r.2∈(rows.map wordsOf).filter λws=>!ws.isEmpty:=by rw[<-e];exact aI.mpr ⟨r,hr,rfl⟩
  obtain⟨h1,h2⟩:=lb.mp hm;obtain⟨x,hx,e2⟩:=aI.mp h1;have hb:=hN x hx;unfold qA at hb;rw[e2,h2,i9]at hb;cases h:fM r.2 with
  |true=>rfl
  |false=>rw[h]at hb;cases hb
 ·unfold fD Aq
  rw[<-e,bC];rfl
theorem Ud(h:∀x∈ws,pH x):UQ (nB ws):=by
 have oe:pH "":=⟨by decide,by show cn (.str ("":Str))=true;decide +kernel⟩
 have hd:∀i,pH (ws.getD i ""):=λi=>by
  by_cases hi:i<ws.length
  ·exact h _ (bF (lL hi))
  ·rw[aG,gD (by omega)];exact oe
 have hp:pH (qy (ws.getD 3 "")):=by
  unfold qy
  split
  ·exact oe
  ·exact hd 3
 exact⟨(hd 1).2,(hd 2).2,hp.2,hp.1⟩
theorem Qr(h:∀r∈rows,rH 200 r):∀g∈fD rows,UQ g:=by
 intro g hg;obtain⟨ws,hw,rfl⟩:=aI.mp hg;obtain⟨x,hx,rfl⟩:=aI.mp (lb.mp hw).1;exact Ud (B3 (h x hx)).2
theorem wM(h:Be rows):Bd (fD rows):=by
 have h1:=Au rows;have h2:=h.len;exact⟨by omega,Qr h.row⟩
theorem Js(h:Bd day):Y7 2 (.list (day.map eN)):=by
 have h2:=h.len;refine .inr ⟨_,.inr rfl,by rw[aj];omega,λd hd=>?_⟩
 obtain⟨g,hg,rfl⟩:=aI.mp hd;have ok:=h.ok g hg;refine .inr ⟨_,.inl rfl,by simp,λd hd=>?_⟩
 simp only[aJ,b7,or_false]at hd;rcases hd with rfl|rfl|rfl|rfl
 ·trivial
 ·exact ok.gt
 ·exact ok.kd
 ·exact ok.pa
section
variable{P:bM}{w:cy}{K:av}{mg:Str->Option aD}{base:dq}{f C fI:aN}{k:Nat}
abbrev Ue:List Str:=["_law_h","_law_rows","_law_day_here","_law_place","_law_row","_law_words","_law_one"]
theorem NT:cG Ue ["_law_h","_law_rows"] (bJ (top 67)):=⟨rfl,rfl,rfl,by decide +kernel,rfl,by decide +kernel,by decide +kernel⟩
def Qs(ds:List aq)(d:aq):Prop:=∃(p:Pl)(rows:List Str),ds=[dI p,dP rows]/\ji p/\Be rows/\((∃m:Nat,Dz rows m/\d=.tuple [.tuple [.int m,.str "row"],.list ((nS rows m).map eN)])\/(UR rows/\T7 p (fD rows)/\d=.tuple [.none,.list ((fD rows).map eN)])\/(UR rows/\∃(m:Nat)(wd:Str),x3 p (fD rows) m wd/\d=.tuple [.tuple [.int m,.str wd],.list ((fD rows).map eN)]))
theorem Yb(F:kM K "_law_read" "_law_read" (top 67) f fd)(n:Na mg)(C1:bG P w K mg base 2 "_law_told" ["_law_words"] (gX K Rtd))(C2:bG P w K mg base 2 "_law_due" ["_law_h","_law_day_here"] (gX K Rdu)):eQ P w K mg base jE 3 f fd ["_law_h","_law_rows"] (gX K Qs):=
 jA F NT (λ_ _ h=>by obtain⟨_,_,rfl,_⟩:=h;rfl) λ_ _ h=>by
  obtain⟨p,rows,rfl,hp,hR,h⟩:=h;intro gy A outer s H E hr;have nd:Ue.Nodup:=NT.nd;have nc:(["_law_word"]:List Str).Nodup:=by decide +kernel
  have hlen:=hR.len;have turn:∀(r:Str)(i:Nat)(es:List qJ),rH 200 r->es.length<=200->(qA r=false->rO (sP jE P w K mg base Ue "_law_read" (bJ (top 67)) f gy A outer s H E).Ig (suite (ik (top 67)) 1) [.val (dI p),.val (dP rows),.own (es.map eN),.val (.int i),.val (.str r),.un,.un] (.nx [.val (dI p),.val (dP rows),.own ((es++(if(wordsOf r).isEmpty then []else [nB (wordsOf r)])).map eN),.un,.un,.un,.un]))/\
    (qA r=true->rO (sP jE P w K mg base Ue "_law_read" (bJ (top 67)) f gy A outer s H E).Ig (suite (ik (top 67)) 1) [.val (dI p),.val (dP rows),.own (es.map eN),.val (.int i),.val (.str r),.un,.un] (.rt (.tuple [.tuple [.int i,.str "row"],.list (es.map eN)]))):=by
   intro r i es ok hes;obtain⟨w1,w2⟩:=B3 ok;have Q6:=ok.ln;have hL:Lay 20 (.list ((wordsOf r).map aH)):=yT (n:=19) λd hd=>by obtain⟨x,hx,rfl⟩:=aI.mp hd;exact bq (w2 x hx).2
   have ew:((bR r " ").map aH).filterMap BP=(wordsOf r).map .str:=BQ _;have yN:(bR r " ").length<=1000:=by
    have h2:=uv r;unfold nA at h2;omega
   have first:∀{o:Out},rO (sP jE P w K mg base Ue "_law_read" (bJ (top 67)) f gy A outer s H E).Ig ((suite (ik (top 67)) 1).drop 1) [.val (dI p),.val (dP rows),.own (es.map eN),.val (.int i),.val (.str r),.val (dP (wordsOf r)),.un] o->rO (sP jE P w K mg base Ue "_law_read" (bJ (top 67)) f gy A outer s H E).Ig (suite (ik (top 67)) 1) [.val (dI p),.val (dP rows),.own (es.map eN),.val (.int i),.val (.str r),.un,.un] o:=λYc=>by
    refine ay (CT 5 (own:=["_law_word"]) (cap:=[]) (N:=["_law_word"]) (cl:=[]) (tgt:=.one 0) (F:=BP) (ds:=(bR r " ").map aH) rfl ⟨rfl,by decide +kernel,by decide +kernel,rfl,rfl,by simp⟩ (gu (VO.ve (ng (ai 4 rfl) aF rfl (small (by omega))))) (λf s3 H3=>bD (i:=0) nc rfl (aV rfl)) rfl
     (small (by rw[aj];omega)) (λd hd=>?_) nd) ?_
    ·obtain⟨p,hp,rfl⟩:=aI.mp hd
     have C8:=tD ok.t hp;refine⟨_,rfl,λf s3 H3=>?_,λr jC f s3 H3=>?_⟩
     ·refine wa (VT.to (g7 (k:=0) (hr.mono (by omega)) (bq C8.2) (bq (x:="") (by decide +kernel)) (ai 0 rfl) aF) ?_)
      rw[bS]
      show(!decide (p=""))=(if decide (p≠"")=true then some (aH p)else none).isSome
      by_cases h:p=""
      ·subst h;rfl
      ·rw[if_pos (by simpa using h),decide_eq_false h];rfl
     ·have GK:(if decide (p≠"")=true then some (aH p)else none)=some r:=jC
      split at GK
      ·cases GK;exact ai 0 rfl
      ·cases GK
    rw[ew];exact eK 5 rfl Yc
   constructor
   ·intro hb
    refine first ?_
    cases he:(wordsOf r).isEmpty with
    |true=>
     have e0:wordsOf r=[]:=by cases h:wordsOf r with|nil=>rfl|cons _ _=>rw[h]at he;cases he
     rw[e0];exact fF (aS (bN (VT.to (g7 hr nX nX (ai 5 rfl) (VO.ve (dR aK))) rfl) bp)) ⟨.inr rfl,.inr rfl,.inr (by rw[if_pos rfl,dA]),.inl rfl,.inl rfl,.inl rfl,.inl rfl,trivial⟩
    |false=>
     have lR:cU (.list ((wordsOf r).map aH)) (.list [])=false:=by cases h:wordsOf r with|nil=>rw[h]at he;cases he|cons _ _=>rfl
     have hE:fM (wordsOf r)=true:=by
      unfold qA at hb;rw[he]at hb;cases h:fM (wordsOf r) with
      |true=>rfl
      |false=>rw[h]at hb;cases hb
     refine fF (δ':=[.val (dI p),.val (dP rows),.own (es.map eN ++ [eN (nB (wordsOf r))]),.val (.int i),.val (.str r),.val (dP (wordsOf r)),.val (eN (nB (wordsOf r)))]) (aS (cR (VT.to (g7 hr hL nX (ai 5 rfl) (VO.ve (dR aK))) (by rw[lR];rfl)) ?_)) ⟨.inr rfl,.inr rfl,.inr (by rw[if_neg bP,aX];rfl),.inl rfl,.inl rfl,.inl rfl,.inl rfl,trivial⟩
     refine ay (c6 6 (d:=eN (nB (wordsOf r))) (VE.to (bw C1 hr (ao (ai 5 rfl) aK) ⟨wordsOf r,rfl,w2,rfl⟩) (B5 hE)) nd) ?_
     refine ay (bN (VT.to (fU iK kD (ai 6 rfl) eB (fA _)) rfl) bp) ?_
     exact aS (g8 2 rfl (ai 6 rfl) (iN (by rw[aj];omega)))
   ·intro hb
    refine first ?_
    unfold qA at hb;obtain⟨b1,b2⟩:=dC.mp hb;have he:(wordsOf r).isEmpty=false:=by cases h:(wordsOf r).isEmpty with|false=>rfl|true=>rw[h]at b1;cases b1
    have hE:fM (wordsOf r)=false:=by cases h:fM (wordsOf r)with|false=>rfl|true=>rw[h]at b2;cases b2
    have lR:cU (.list ((wordsOf r).map aH)) (.list [])=false:=by cases h:wordsOf r with|nil=>rw[h]at he;cases he|cons _ _=>rfl
    refine aS (cR (VT.to (g7 hr hL nX (ai 5 rfl) (VO.ve (dR aK))) (by rw[lR];rfl)) ?_)
    refine ay (c6 6 (d:=.none) (VE.to (bw C1 hr (ao (ai 5 rfl) aK) ⟨wordsOf r,rfl,w2,rfl⟩) (wL hE)) nd) ?_
    exact cH (cR (VT.to (fU iK kD (ai 6 rfl) eB (fA _)) rfl) (eK 2 rfl (aS (bV (fe (ao (fe (ao (ai 3 rfl) (ao aF aK))) (ao (ai 2 rfl) aK))))))) rfl
  have KZ:∀{i:Nat},i<rows.length->(rows.map aH)[i]?=some (.str (rows.getD i "")):=λhi=>by rw[aP,lL hi];rfl
  refine ay (iE 2 (dR aK) nd) ?_
  have whole:∀{d:aq},UR rows->Rdu [dI p,.list ((fD rows).map eN)] d->rO (sP jE P w K mg base Ue "_law_read" (bJ (top 67)) f gy A outer s H E).Ig ((ik (top 67)).drop 1) [.val (dI p),.val (dP rows),.own [],.un,.un,.un,.un] (.rt (.tuple [d,.list ((fD rows).map eN)])):=λ{d}hN hdu=>by
   refine ay (jz (tgt:=.tup [3,4]) (o:=.nx [.val (dI p),.val (dP rows),.own ((nS rows rows.length).map eN),.un,.un,.un,.un]) cZ rfl (jy (ds:=rows.map aH) (ai 1 rfl) n.Fy)
    (fz rfl (bO (bD (i:=3) nd rfl (aV rfl)) (bO (bD (i:=4) nd rfl (aV rfl)) eu))) (λi=>[.val (dI p),.val (dP rows),.own ((nS rows i).map eN),.un,.un,.un,.un]) rows.length rfl (by rw[cC,aj];exact aA _) (λi d hi rX=>?_) (.inl ⟨by rw[cC,aj],rfl⟩)) ?_
   ·obtain⟨x,hx,rfl⟩:=fQ rX
    rw[KZ hi]at hx;cases hx;have hl:=x5 rows i;rw[As (lL hi)];exact⟨_,rfl,(turn (rows.getD i "") i (nS rows i) (hR.at hi) (by omega)).1 (hN _ (bF (lL hi)))⟩
   ·rw[KS]
    exact eK 2 rfl (aS (bV (fe (ao (bw C2 hr (ao (ai 0 rfl) (ao (ai 2 rfl) aK)) hdu) (ao (ai 2 rfl) aK)))))
  rcases h with⟨m,hF,rfl⟩|⟨hN,yC,rfl⟩|⟨hN,m,wd,hF,rfl⟩
  ·have Ob:=hF.lt
   have hl:=x5 rows m;refine cH (jz (tgt:=.tup [3,4]) (o:=.rt (.tuple [.tuple [.int m,.str "row"],.list ((nS rows m).map eN)])) cZ rfl (jy (ds:=rows.map aH) (ai 1 rfl) n.Fy)
    (fz rfl (bO (bD (i:=3) nd rfl (aV rfl)) (bO (bD (i:=4) nd rfl (aV rfl)) eu))) (λi=>[.val (dI p),.val (dP rows),.own ((nS rows i).map eN),.un,.un,.un,.un]) m rfl (by rw[cC,aj];omega) (λi d hi rX=>?_) (.inr ⟨.tuple [.int m,.str (rows.getD m "")],[.val (dI p),.val (dP rows),.own ((nS rows m).map eN),.val (.int m),.val (.str (rows.getD m "")),.un,.un],?_,rfl,rfl,?_⟩)) rfl
   ·obtain⟨x,hx,rfl⟩:=fQ rX
    have Y5:i<rows.length:=by omega
    rw[KZ Y5]at hx;cases hx;have hl:=x5 rows i;rw[As (lL Y5)];exact⟨_,rfl,(turn (rows.getD i "") i (nS rows i) (hR.at Y5) (by omega)).1 (hF.pre i hi)⟩
   ·rw[Ei (KZ Ob)]
   ·exact(turn (rows.getD m "") m (nS rows m) (hR.at Ob) (by omega)).2 hF.at_
  ·exact whole hN (.inl ⟨p,fD rows,rfl,hp,wM hR,yC,rfl⟩)
  ·exact whole hN (.inr ⟨p,fD rows,m,wd,rfl,hp,wM hR,hF,rfl⟩)
end
def kT(g:qJ):List Str:=[dE g.1,g.2.1,g.2.2.1,eI (.str g.2.2.2)]
def HD(g:qJ):Str:=cj " " (kT g)
theorem DB(hp:ji p)(h:vw p g):∀x∈kT g,vy x/\(x≠""/\32∉x.cps.toList)/\x.length<=8:=by
 have e1:=h.gn hp;have e2:=h.kn hp;have hd:=qu (d:=.str g.2.2.2) h.pa;have Oq:=ko (d:=.str g.2.2.2) h.pa;have hdo:=tN (d:=.str g.2.2.2) h.pa;intro x hx;simp only[kT,aJ,b7,or_false]at hx;rcases hx with rfl|rfl|rfl|rfl
 ·have hw:=nu h.tm.1 h.tm.2
  have:=iy h.tm;exact⟨⟨hw.2.2,(oM h.tm.1 h.tm.2).2⟩,⟨hw.1,hw.2.1⟩,by omega⟩
 ·exact⟨⟨(fH e1).2.2,e1.ok.2⟩,⟨(fH e1).1,(fH e1).2.1⟩,e1.short⟩
 ·exact⟨⟨(fH e2).2.2,e2.ok.2⟩,⟨(fH e2).1,(fH e2).2.1⟩,e2.short⟩
 ·exact⟨⟨hd.2.2,hdo.2⟩,⟨hd.1,hd.2.1⟩,Oq⟩
theorem NV(hp:ji p)(h:vw p g):nA (kT g)<=36:=by
 have:=mH (l:=kT g) (b:=8) λx hx=>(DB hp h x hx).2.2
 have e:(kT g).length=4:=rfl;unfold nA;omega
theorem Qt(hp:ji p)(h:vw p g):rH 117 (HD g):=Jq (λx hx=>(DB hp h x hx).1) (by have:=NV hp h;omega)
theorem Av(hp:ji p)(h:vw p g):wordsOf (HD g)=kT g:=nr λx hx=>(DB hp h x hx).2.1
theorem Jt(hp:ji p)(h:vw p g):fM (kT g)=true/\nB (kT g)=g:=by
 have e1:=h.gn hp;have e2:=h.kn hp;obtain⟨t,a,b,c⟩:=g
 constructor
 ·show(isNumber (dE t)&&(isName a&&(isName b&&(decide (eI (.str c)="-")||isName (eI (.str c))))))=true
  rw[xV h.tm.1 h.tm.2,e1.is,e2.is];rcases h.pa with e|e
  ·have e:c="":=e
   rw[e];decide +kernel
  ·have e:dH c:=e
   rw[xW e,e.is,sk];rfl
 ·show(Fe (dE t),a,b,qy (eI (.str c)))=(t,a,b,c)
  have ht:Fe (dE t)=t:=by unfold Fe;rw[num_reads h.tm.1 h.tm.2];rfl
  have hc:qy (eI (.str c))=c:=by
   rcases h.pa with e|e
   ·have e:c="":=e
    rw[e];decide +kernel
   ·have e:dH c:=e
    rw[xW e];exact if_neg (wA e)
  rw[ht,hc]
theorem K0(hp:ji p)(h:vw p g):qA (HD g)=false:=by
 unfold qA;rw[Av hp h,(Jt hp h).1];exact o_ _
def yF(m:Int)(k:Nat):List Str:=[("":Str)," "].take (cJ m ((k:Int)+5)%6/4).toNat
def mM(m:Int)(es:List qJ):Nat->List Str
 |0=>[]
 |k+1=>mM m es k++yF m k ++ [HD (es.getD k xZ)]
theorem Ju{m:Int}(h:r∈yF m k):r="":=by
 unfold yF at h;have:(cJ m ((k:Int)+5)%6/4).toNat<=1:=by omega
 generalize(cJ m ((k:Int)+5)%6/4).toNat=j at *
 rcases(by omega:j=0\/j=1)with e|e
 ·rw[e]at h;cases h
 ·rw[e]at h;exact a_.mp h
theorem Jv(m:Int)(k:Nat):(yF m k).length<=1:=by
 unfold yF;rw[bW];have:(cJ m ((k:Int)+5)%6/4).toNat<=1:=by omega
 omega
theorem Aw(m:Int)(es:List qJ):∀k,(mM m es k).length<=2*k
 |0=>aA _
 |k+1=>by
  have h1:=Aw m es k;have h2:=Jv m k
  show(mM m es k++yF m k ++ [_]).length<=_
  rw[a8,a8,jZ];omega
theorem wN(h:k<es.length):es[k]?=some (es.getD k xZ):=by
 rw[aG,aw h];rfl
theorem Jw(m:Int)(hp:ji p)(hok:∀e∈es,vw p e):∀k,k<=es.length->∀r∈mM m es k,rH 117 r/\qA r=false
 |0,_,r,hr=>by cases hr
 |k+1,hk,r,hr=>by
  rcases bX.mp hr with hr|hr
  ·rcases bX.mp hr with hr|hr
   ·exact Jw m hp hok k (by omega) r hr
   ·rw[Ju hr]
    refine⟨⟨by decide +kernel,by show cn _=true;decide +kernel,by decide +kernel⟩,?_⟩
    unfold qA;rw[oK];rfl
  ·rw[a_.mp hr]
   have he:=hok _ (bF (wN (es:=es) (k:=k) (by omega)))
   exact⟨Qt hp he,K0 hp he⟩
theorem DC(a b:List Str):fD (a++b)=fD a++fD b:=by
 unfold fD;rw[aX,wW,aX]
theorem Jx:∀(l:List Str),(∀r∈l,r="")->fD l=[]
 | [],_=>rfl
 |r::l,h=>by
  have e:=Jx l λx hx=>h x (aU _ hx)
  show fD ([r]++l)=[];rw[DC,e,h r aO];unfold fD
  show(H_ _ [wordsOf ""]).map nB ++ []=[]
  rw[oK];rfl
theorem Fm(m:Int)(hp:ji p)(hok:∀e∈es,vw p e):∀k,k<=es.length->fD (mM m es k)=es.take k
 |0,_=>rfl
 |k+1,hk=>by
  have he:=hok _ (bF (wN (es:=es) (k:=k) (by omega)))
  show fD (mM m es k++yF m k ++ [HD (es.getD k xZ)])=_;rw[DC,DC,Fm m hp hok k (by omega),Jx _ λr hr=>Ju hr,dA,dv,wN (show k<es.length by omega)]
  congr 1
  unfold fD
  show(H_ _ [wordsOf (HD (es.getD k xZ))]).map nB=_
  rw[Av hp he];show [nB (kT (es.getD k xZ))]=_;rw[(Jt hp he).2];rfl
def kH(rows:List Str):List Nat:=(cp rows.length).filter λk=>decide ((bR (rows.getD k "") " ").length=4)
def UT(rows:List Str):aq->Option aq
 | .int k=>if decide ((bR (rows.getD k.toNat "") " ").length=4)=true then some (.int k)else none
 |_=>none
theorem DE(rows:List Str)(k:Nat):UT rows (.int (k:Nat))=if decide ((bR (rows.getD k "") " ").length=4)=true then some (.int (k:Nat))else none:=by
 show(if decide ((bR (rows.getD ((k:Nat):Int).toNat "") " ").length=4)=true then _ else _)=_
 rw[eJ]
theorem Ug(rows:List Str)(l:List Nat):(l.map λ(k:Nat)=>dO k).filterMap (UT rows)=(l.filter λk=>decide ((bR (rows.getD k "") " ").length=4)).map λ(k:Nat)=>dO k:=by
 induction l with
 |nil=>rfl
 |cons k l ih=>
  rw[aR,jq];cases h:decide ((bR (rows.getD k "") " ").length=4) with
  |false=>rw[if_neg bP,ei (f:=UT rows) (by rw[DE,h,if_neg bP]),ih]
  |true=>rw[if_pos rfl,c7 (f:=UT rows) (b:=.int k) (by rw[DE,h,if_pos rfl]),ih];rfl
theorem Jy(rows:List Str):(jx rows.length).filterMap (UT rows)=(kH rows).map λ(k:Nat)=>dO k:=Ug rows _
theorem B7(h:k∈kH rows):k<rows.length/\(bR (rows.getD k "") " ").length=4:=by
 obtain⟨h1,h2⟩:=lb.mp h;exact⟨cY.mp h1,of_decide_eq_true h2⟩
theorem K1(rows:List Str):(kH rows).length<=rows.length:=by
 have:=mV (λk=>decide ((bR (rows.getD k "") " ").length=4)) (cp rows.length)
 rw[dY]at this;exact this
def Ax(rows:List Str)(x:Int):List Str:=if kH rows=[]then rows else rows.set (pickOf (kH rows) 0 (x/7)) (otherOf (rows.getD (pickOf (kH rows) 0 (x/7)) "") (x/640))
def la(rows:List Str)(ms:List Int):List Str:=ms.foldl Ax rows
def Zn(m n:Int):List Int:=L2.cutD [m,n] none (some (1+n/3%2))
theorem Qu(m n:Int):(Zn m n).length<=2:=by
 unfold Zn L2.cutD;rw[bW,cP];simp only[bh,cv];omega
structure NW(n:Nat)(rows:List Str):Prop where
 len:rows.length<=150
 row:∀r∈rows,rH n r
theorem B8{l:List Nat}(h:l≠[]):1<=l.length:=by cases l with|nil=>exact absurd rfl h|cons _ _=>simp
theorem K2(h:NW n rows)(x:Int):NW (n+11) (Ax rows x):=by
 unfold Ax
 split
 ·exact⟨h.len,λr hr=>(h.row r hr).up (by omega)⟩
 ·rename_i lR
  obtain⟨_,pm⟩:=jV (l:=kH rows) (d:=0) (F:=λ(k:Nat)=>dO k) (B8 lR) (x/7)
  obtain⟨h1,h2⟩:=B7 pm;refine⟨by rw[oi];exact h.len,λr hr=>?_⟩
  rcases pW hr with hr|rfl
  ·exact(h.row r hr).up (by omega)
  ·exact NS (h.row _ (bF (lL h1))) _
theorem vA:∀(ms:List Int){n:Nat}{rows:List Str},NW n rows->NW (n+11*ms.length) (la rows ms)
 | [],_,_,h=>h
 |x::ms,n,rows,h=>by
  have:=vA ms (K2 h x);rw[bh];exact⟨this.len,λr hr=>(this.row r hr).up (by omega)⟩
theorem DF(rows:List Str){ms:List Int}{x:Int}(h:ms[i]?=some x):la rows (ms.take (i+1))=Ax (la rows (ms.take i)) x:=by
 unfold la;rw[dv,h,hX];rfl
theorem K3(ns:List Int):(L2.cutD ns (some 5) (some 63)).length<=58:=by
 unfold L2.cutD;rw[bW,cP,show(5:Int)=((5:Nat):Int)from rfl,show(63:Int)=((63:Nat):Int)from rfl,HT.nW,HT.nW]
 omega
structure LawC(P:bM)(w:cy)(K:av)(mg:Str->Option aD)(base:dq)(C M:aN):Prop where
 n:Na mg
 ca:bG P w K mg base 1 "_law_cell_at" ["_law_script","_law_k"] (gX K Je)
 mx:bG P w K mg base 1 "_law_mix" ["_law_cell","_law_k"] (gX K GN)
 pl:bG P w K mg base 4 "_law_plant" ["_law_script"] (gX K Rpl)
 pt:bG P w K mg base 3 "_law_plant_text" ["_law_h"] (gX K Rpt)
 rp:bG P w K mg base 9 "read_plant" ["text"] (gX K Rrp)
 go:bG P w K mg base 3 "_law_goods" ["_law_h","_law_cells","_law_m"] (AO K Rgo)
 da:bG P w K mg base 1 "_law_dash" ["_law_thing"] (gX K Y8)
 ot:bG P w K mg base 1 "_law_otherwise" ["_law_row","_law_m"] (gX K Rot)
 rd:bG P w K mg base 3 "_law_read" ["_law_h","_law_rows"] (gX K Qs)
 al:bG P w K mg base 3 "_law_alike" PZ (gX K (W5 2))
 rb:bG P w K mg base 5 "read_day" ["plant","text"] (AO K Ua)
 rx:uf P w K mg base 5 "read_day" ["plant","text"] C Ub
 rf:bG P w K mg base 1 "_law_is_refused" Zj (XS K C)
 me:mg "MergeError"=some (.ref M)
 sub:Py K C M
 gt:GC K C
 np:fY K C "place"
 nw:fY K C "word"
section
variable{P:bM}{w:cy}{K:av}{mg:Str->Option aD}{base:dq}{f C M:aN}{k:Nat}
abbrev Qv:List Str:=["_law_script","_law_h","_law_m","_law_n","_law_plant_here","_law_good","_law_k","_law_one","_law_rows","_law_number_here","_law_some","_law_at","_law_due_here","_law_day_here","_law_told_here","_law_caught","error"]
theorem NX:cG Qv ["_law_script"] (bJ (top 68)):=⟨rfl,rfl,rfl,by decide +kernel,rfl,by decide +kernel,by decide +kernel⟩
theorem Yd(C0:LawC P w K mg base C M){ns:List Int}(hn:ns.length<=63):yg P w K mg base Qv "law" (top 68) f 9 [jh ns] (.rt (.bool true)):=by
 intro gy A outer s H E hr;have n:=C0.n;have nd:Qv.Nodup:=NX.nd;have nk:(["_law_k","_law_rows"]:List Str).Nodup:=by decide +kernel
 have o8:fZ 1 _:=hr.mono (by omega)
 have Qw:fZ 3 _:=hr.mono (by omega)
 have hr4:fZ 4 _:=hr.mono (by omega)
 have Zo:fZ 5 _:=hr.mono (by omega)
 refine ay (c6 1 (d:=dI (hU ns)) (bw C0.pl hr4 (ao (ai 0 rfl) aK) ⟨ns,rfl,rfl⟩) nd) ?_
 refine ay (L_ 2 3 (d1:=.int (cJ (ns.getD 3 0) 7)) (d2:=.int (cJ (ns.getD 4 0) 8)) (bw C0.mx o8 (ao (bw C0.ca o8 (ao (ai 0 rfl) (ao ax aK)) ⟨ns,3,rfl,rfl⟩) (ao ax aK)) ⟨ns.getD 3 0,7,rfl,by decide,by decide,rfl⟩) (bw C0.mx o8 (ao (bw C0.ca o8 (ao (ai 0 rfl) (ao ax aK)) ⟨ns,4,rfl,rfl⟩) (ao ax aK)) ⟨ns.getD 4 0,8,rfl,by decide,by decide,rfl⟩) rfl nd (by decide)) ?_
 have C8:=Jj ns;have gdp:=KJ ns;obtain⟨VM,hg0⟩:=Hz ns;have otx:=KP ns
 generalize cJ (ns.getD 3 0) 7=m at *
 generalize cJ (ns.getD 4 0) 8=m2 at *
 generalize hU ns=p at *
 have VX:1<=p.kinds.length:=by cases h:p.kinds with|nil=>exact absurd h VM|cons _ _=>simp
 have hg1:1<=p.gates.length:=by cases h:p.gates with|nil=>exact absurd h hg0|cons _ _=>simp
 refine ay (c6 4 (d:=eZ p) (bw C0.rp hr (ao (bw C0.pt Qw (ao (ai 1 rfl) aK) ⟨p,rfl,C8,rfl⟩) aK) ⟨uk p,E8 p,rfl,otx,E_ C8 VM,XI C8 gdp,by rw[(NB C8 gdp).2]⟩) nd) ?_
 refine ay (iE 5 (dR aK) nd) ?_
 have J8:=K3 ns;have hd:=NK C8 VM hg0 (by omega:(L2.cutD ns (some 5) (some 63)).length<=59) m
 have hel:(mS p (L2.cutD ns (some 5) (some 63)) m).length<=58:=by unfold mS kQ;rw[aj,aj,dY];exact J8
 have ren:Rgo [dI p,jh (L2.cutD ns (some 5) (some 63)),.int m] ((mS p (L2.cutD ns (some 5) (some 63)) m).map eN):=⟨p,_,m,rfl,hg1,VX,by omega,rfl⟩
 generalize mS p (L2.cutD ns (some 5) (some 63)) m=es at *
 refine ay (jz (tgt:=.tup [6,7]) (o:=.nx [.val (jh ns),.val (dI p),.val (.int m),.val (.int m2),.val (eZ p),.own ((mM m es es.length).map aH),.un,.un,.un,.un,.un,.un,.un,.un,.un,.un,.un]) cZ rfl (jy (ds:=es.map eN) (VO.ve (i_ C0.go Qw (ao (ai 1 rfl) (ao (VO.ve (VO.to (gR (ds:=ns.map dO) (ai 0 rfl) (.yes ax) (.yes ax)) (uj _ _ _ _))) (ao (ai 2 rfl) aK))) ren)) n.Fy)
  (fz rfl (bO (bD (i:=6) nd rfl (aV rfl)) (bO (bD (i:=7) nd rfl (aV rfl)) eu))) (λi=>[.val (jh ns),.val (dI p),.val (.int m),.val (.int m2),.val (eZ p),.own ((mM m es i).map aH),.un,.un,.un,.un,.un,.un,.un,.un,.un,.un,.un]) es.length rfl (by rw[cC,aj];exact aA _) (λi d hi rX=>?_) (.inl ⟨by rw[cC,aj],rfl⟩)) ?_
 ·obtain⟨x,hx,rfl⟩:=fQ rX
  rw[aP,wN hi]at hx;cases hx;have he:=hd.gd _ (bF (wN hi));have eg:mM m es (i+1)=mM m es i++yF m i ++ [HD (es.getD i xZ)]:=rfl;rw[eg]
  generalize es.getD i xZ=g at *
  have hgl:=Aw m es i;have hgp:=Jv m i;have GU:L2.cutD [aH "",.str " "] none (some (cJ m ((i:Int)+5)%6/4))=(yF m i).map .str:=by
   unfold yF;rw[show cJ m ((i:Int)+5)%6/4=((cJ m ((i:Int)+5)%6/4).toNat:Int) by omega,m9,eJ,nI]
   rfl
  have oE:=B2 (l:=kT g) (by have:=NV C8 he;omega)
  refine⟨_,rfl,eK 5 rfl ?_⟩
  refine ay (iE 5 (ds:=(mM m es i).map aH++(yF m i).map .str) (VO.to (lF (d1:=(mM m es i).map aH) (d2:=(yF m i).map .str) (ai 5 rfl) (VE.to (VO.ve (gR (ds:=[aH "",.str " "]) (VO.ve (dR (ao aF (ao aF aK)))) .no (.yes (fV (cQ (bw C0.mx o8 (ao (ai 2 rfl) (ao (eU (ai 6 rfl) ax) aK)) ⟨m,(i:Int)+5,rfl,by omega,by omega,rfl⟩) ax (by decide)) ax ⟨by decide,by decide⟩)))) (by rw[GU])) (small (by simp only[aj];omega))) rfl) nd) ?_
  refine fF (aS (g8 5 rfl (iV (zs:=kT g) aF (VE.to (VO.ve (dR (ao (qX (bZ (ai 7 rfl) ax (a9 (j:=0) rfl)) he.tm.log n.str) (ao (bZ (ai 7 rfl) ax (a9 (j:=1) rfl)) (ao (bZ (ai 7 rfl) ax (a9 (j:=2) rfl)) (ao (bw C0.da o8 (ao (bZ (d:=.str g.2.2.2) (ai 7 rfl) ax (a9 (j:=3) rfl)) aK) ⟨.str g.2.2.2,rfl,he.pa,rfl⟩) aK)))))) rfl) oE) (iN (by simp only[a8,aj];omega)))) ⟨.inr rfl,.inr rfl,.inr rfl,.inr rfl,.inr rfl,.inr ?_,.inl rfl,.inl rfl,.inl rfl,.inl rfl,.inl rfl,.inl rfl,.inl rfl,.inl rfl,.inl rfl,.inl rfl,.inl rfl,trivial⟩
  rw[aX,aX];rfl
 have NZ:=Jw m C8 hd.gd es.length (aA _);have Jz:=Fm m C8 hd.gd es.length (aA _);rw[eW]at Jz;have hgl:=Aw m es es.length
 generalize mM m es es.length=good at *
 have Ye:NW 117 good:=⟨by omega,λr hr=>(NZ r hr).1⟩
 have Yf:Be good:=⟨by omega,λr hr=>(NZ r hr).1.up (by omega)⟩
 have hgN:UR good:=λr hr=>(NZ r hr).2
 have yC:T7 p es:=hd.nof
 clear ren
 refine eK 5 rfl ?_
 refine ay (iE 8 (ub vW SN (ao (ai 5 rfl) aK) n.lst rfl) nd) ?_
 have Ob:=Qu m m2;have ems:L2.cutD [dO m,.int m2] none (some (1+m2/3%2))=(Zn m m2).map .int:=uj dO [m,m2] _ _
 generalize Zn m m2=ms at *
 refine ay (jz (tgt:=.one 9) (o:=.nx [.val (jh ns),.val (dI p),.val (.int m),.val (.int m2),.val (eZ p),.val (dP good),.un,.un,.own ((la good ms).map aH),.un,.un,.un,.un,.un,.un,.un,.un]) cZ rfl (gu (ds:=ms.map .int) (VE.to (VO.ve (gR (ds:=[dO m,.int m2]) (VO.ve (dR (ao (ai 2 rfl) (ao (ai 3 rfl) aK)))) .no (.yes (eU ax (cQ (fV (ai 3 rfl) ax ⟨by decide,by decide⟩) ax (by decide)))))) (by rw[ems])))
  (bD (i:=9) nd rfl (aV rfl)) (λi=>[.val (jh ns),.val (dI p),.val (.int m),.val (.int m2),.val (eZ p),.val (dP good),.un,.un,.own ((la good (ms.take i)).map aH),.un,.un,.un,.un,.un,.un,.un,.un]) ms.length rfl (by rw[aj];exact aA _) (λi d hi rX=>?_) (.inl ⟨by rw[aj],by rw[eW]⟩)) ?_
 ·obtain⟨x,hx,rfl⟩:∃x,ms[i]?=some x/\d=.int x:=by
   rw[aP,aw hi]at rX;cases rX;exact⟨_,aw hi,rfl⟩
  rw[DF good hx];have hR:=vA (ms.take i) Ye;have hti:(ms.take i).length<=2:=by rw[bW];omega
  generalize la good (ms.take i)=rows at *
  have Q6:=hR.len;have uB:∀k,k<rows.length->rH 200 (rows.getD k ""):=λk hk=>(hR.row _ (bF (lL hk))).up (by omega)
  have KZ:∀{i:Nat},i<rows.length->(rows.map aH)[i]?=some (.str (rows.getD i "")):=λhi=>by rw[aP,lL hi];rfl
  have Tb:=K1 rows;refine⟨_,rfl,?_⟩
  refine ay (MN 10 8 rfl (own:=["_law_k"]) (cap:=[8]) (N:=["_law_k","_law_rows"]) (tgt:=.one 0) (F:=UT rows) (ds:=jx rows.length) rfl ⟨rfl,by decide +kernel,by decide +kernel,rfl,rfl,?_⟩ (qj (n:=(rows.length:Int)) (VE.to (gS (ds:=rows.map aH) (ai 8 rfl) n.len) (by rw[aj])) n.rng (by omega) (by omega)) (λf s3 H3=>bD (i:=0) nk rfl (aV rfl)) rfl
   (small (by rw[jM];omega)) (λd hd=>?_) (λd hd=>?_) nd) ?_
  ·intro j hj
   rcases aJ.mp hj with rfl|hj
   ·exact⟨(by show(8:Nat)<17;decide),aV rfl,rfl⟩
   ·cases hj
  ·obtain⟨z,hz,rfl⟩:=aI.mp hd
   have hz:=cY.mp hz;have okz:=uB z hz;have okl:=okz.ln;refine⟨_,rfl,λf s3 H3=>?_,λr jC f s3 H3=>?_⟩
   ·refine wa (VT.to (b_ hr (cx 20 _) (cx 20 _) (gS (ds:=(bR (rows.getD z "") " ").map aH) (VO.ve (ng (dJ (ds:=rows.map aH) (ai 1 rfl) (ai 0 rfl) (a9 (KZ hz))) aF rfl (small (by omega)))) n.len) ax) ?_)
    rw[DE,aj,jU];cases h:decide ((bR (rows.getD z "") " ").length=4) with
    |true=>rw[if_pos rfl];exact decide_eq_true (by have:=of_decide_eq_true h;omega)
    |false=>rw[if_neg bP];exact decide_eq_false (by have:=of_decide_eq_false h;omega)
   ·rw[DE]at jC
    split at jC
    ·cases jC;exact ai 0 rfl
    ·cases jC
  ·rw[Jy]at hd
   obtain⟨z,_,rfl⟩:=aI.mp hd;rfl
  rw[Jy];refine eK 10 rfl ?_
  unfold Ax;have hL:Lay 20 (.list ((kH rows).map λ(k:Nat)=>dO k)):=yT (n:=19) λd hd=>by obtain⟨z,_,rfl⟩:=aI.mp hd;exact cx 19 _
  by_cases hs:kH rows=[]
  ·rw[if_pos hs,hs]
   exact fF (aS (bN (VT.to (g7 hr nX nX (ai 10 rfl) (VO.ve (dR aK))) rfl) bp)) ⟨.inr rfl,.inr rfl,.inr rfl,.inr rfl,.inr rfl,.inr rfl,.inl rfl,.inl rfl,.inr rfl,.inl rfl,.inl rfl,.inl rfl,.inl rfl,.inl rfl,.inl rfl,.inl rfl,.inl rfl,trivial⟩
  rw[if_neg hs];have lR:cU (.list ((kH rows).map λ(k:Nat)=>dO k)) (.list [])=false:=by cases h:kH rows with|nil=>exact absurd h hs|cons _ _=>rfl
  have Eh:=B8 hs;obtain⟨pk,pm⟩:=jV (l:=kH rows) (d:=0) (F:=λ(k:Nat)=>dO k) Eh (x/7)
  obtain⟨ha,h2⟩:=B7 pm
  generalize pickOf (kH rows) 0 (x/7)=a at *
  refine fF (δ':=[.val (jh ns),.val (dI p),.val (.int m),.val (.int m2),.val (eZ p),.val (dP good),.un,.un,.own ((rows.map aH).set a (.str (otherOf (rows.getD a "") (x/640)))),.val (.int x),.val (.list ((kH rows).map λ(k:Nat)=>dO k)),.val (.int a),.un,.un,.un,.un,.un]) (aS (cR (VT.to (g7 hr hL nX (ai 10 rfl) (VO.ve (dR aK))) (by rw[lR];rfl)) ?_)) ⟨.inr rfl,.inr rfl,.inr rfl,.inr rfl,.inr rfl,.inr rfl,.inl rfl,.inl rfl,.inr (by rw[l']),.inl rfl,.inl rfl,.inl rfl,.inl rfl,.inl rfl,.inl rfl,.inl rfl,.inl rfl,trivial⟩
  refine ay (c6 11 (d:=.int (a:Nat)) (dJ (ds:=(kH rows).map λ(k:Nat)=>dO k) (ai 10 rfl) (VE.to (cQ (fV (ai 9 rfl) ax ⟨by decide,by decide⟩) (gS (ds:=(kH rows).map λ(k:Nat)=>dO k) (ai 10 rfl) n.len) (by rw[aj];omega)) (by rw[aj])) pk) nd) ?_
  exact aS (tq 8 rfl (ai 11 rfl) (by rw[aj];exact ha) (bw C0.ot o8 (ao (Tx 8 rfl (ai 11 rfl) (KZ ha)) (ao (fV (ai 9 rfl) ax ⟨by decide,by decide⟩) aK)) ⟨_,_,rfl,(uB a ha).up (by omega),h2,rfl⟩))
 have hR0:=vA ms Ye
 generalize la good ms=rows at *
 have hR:Be rows:=⟨hR0.len,λr hr=>(hR0.row r hr).up (by omega)⟩
 clear hR0
 have tR:=text_ok hR;have tG:=text_ok Yf;have fR:=text_fits hR;have fG:=text_fits Yf;obtain⟨gR1,Zq⟩:=Fk Yf hgN;have gG:=wM Yf;rw[Jz]at Zq gG;have gA:=Js gG;have rdG:Qs [dI p,dP good] (.tuple [.none,.list (es.map eN)]):=⟨p,good,rfl,C8,Yf,.inr (.inl ⟨hgN,by rw[Jz];exact yC,by rw[Jz]⟩)⟩
 have rbG:Ua [eZ p,.str (cj "\n" good)] (es.map eN):=⟨p,_,rfl,C8,tG,gR1,by rw[Zq];exact gG,by rw[Zq];exact yC,by rw[Zq]⟩
 refine eK 8 rfl ?_
 have hGs:=wM hR;have hA:=Js hGs;have refused:∀(mf:Nat)(wd:Str)(dd:aq),mj wd->Qs [dI p,dP rows] (.tuple [.tuple [.int mf,.str wd],dd])->Ub [eZ p,.str (cj "\n" rows)] mf wd->rO (sP jE P w K mg base Qv "law" (bJ (top 68)) f gy A outer s H E).Ig ((ik (top 68)).drop 7) [.val (jh ns),.val (dI p),.val (.int m),.val (.int m2),.val (eZ p),.val (dP good),.un,.un,.val (dP rows),.un,.un,.un,.un,.un,.un,.un,.un] (.rt (.bool true)):=by
  intro mf wd dd okw rd rx;refine ay (CV (.tup [12,13]) (bw C0.rd Qw (ao (ai 1 rfl) (ao (ai 8 rfl) aK)) rd) (fz rfl (bO (bD (i:=12) nd rfl (aV rfl)) (bO (bD (i:=13) nd rfl (aV rfl)) eu))) rfl) ?_
  refine ay (CV (.tup [14,15]) (fe (ao eB (ao eB aK))) (fz rfl (bO (bD (i:=14) nd rfl (aV rfl)) (bO (bD (i:=15) nd rfl (aV rfl)) eu))) rfl) ?_
  refine wm λB0 B σ H0 Hh D fr XG=>?_
  obtain⟨fx,fdx,FX,mx,kx,bx⟩:=C0.rx;refine dS (Tv (jn:=16) (jc:=15) (M:=M) fr (λ_ _ z=>z) rfl rfl rfl (λ_=>hr.hd) FX Zo bx (by rfl) mx kx (ao (ai 4 rfl) (ao (iV (zs:=rows) aF (ai 8 rfl) fR) aK)) rx (by rfl) C0.me C0.sub nd rfl rfl rfl (aV rfl) (.inr rfl) (by decide) λe dx T σ9 Ha9 Hb9 f9 ge gd ae ad be bd lR=>?_)
  have c0:oH K Hb9 e C mf wd:=⟨⟨dx,T,ge,gd,lR⟩,C0.gt,C0.np,C0.nw⟩
  clear ge gd
  have f9:gW K B0 B Ha9 Hb9 σ9 [.val (jh ns),.val (dI p),.val (.int m),.val (.int m2),.val (eZ p),.val (dP good),.un,.un,.val (dP rows),.un,.un,.un,.val (.tuple [.int mf,.str wd]),.val dd,.val .none,.ref e,.un]:=f9;obtain⟨fr',fdr,FR,mr,kr,br⟩:=C0.rf;refine dS (Km 15 f9 (fU (k:=true) Ij (Jc rfl) (ai 12 rfl) eB (fA _)) (ai 12 rfl) FR o8 mr kr br rfl (λzci zhN v g12 rv Q hQ=>⟨zci,e,mf,wd,v,rfl,g12.sub,c0.mono g12.big,rv,okw,hQ⟩) (VT.to (jw (k1:=false) (k2:=false) (VT.to (fU iK kD (ai 12 rfl) eB (fA _)) rfl) (λz=>by cases z)) rfl) λzhO zhP Y0 f13=>?_)
  refine Gs ?_ f13 XG
  exact aS (bV (bw C0.al Qw (ao (VO.ve (i_ C0.rb Zo (ao (ai 4 rfl) (ao (iV (zs:=good) aF (ai 5 rfl) fG) aK)) rbG)) (ao (bZ (bw C0.rd Qw (ao (ai 1 rfl) (ao (ai 5 rfl) aK)) rdG) ax (a9 (j:=1) rfl)) aK)) ⟨_,rfl,gA,rfl⟩))
 rcases KW rows with hN|⟨mf,hF⟩
 ·obtain⟨r1,r2⟩:=Fk hR hN
  rcases NC p (fD rows)with Yg|⟨mf,wd,hF⟩
  ·refine ay (CV (.tup [12,13]) (bw C0.rd Qw (ao (ai 1 rfl) (ao (ai 8 rfl) aK)) ⟨p,rows,rfl,C8,hR,.inr (.inl ⟨hN,Yg,rfl⟩)⟩) (fz rfl (bO (bD (i:=12) nd rfl (aV rfl)) (bO (bD (i:=13) nd rfl (aV rfl)) eu))) rfl) ?_
   refine ay (CV (.tup [14,15]) (fe (ao eB (ao eB aK))) (fz rfl (bO (bD (i:=14) nd rfl (aV rfl)) (bO (bD (i:=15) nd rfl (aV rfl)) eu))) rfl) ?_
   refine wm λB0 B σ H0 Hh D fr XG=>?_
   refine dS (Tt (λ_ _ z=>z) (Eo fr (c6 14 (d:=.list ((fD rows).map eN)) (VE.to (VO.ve (i_ C0.rb Zo (ao (ai 4 rfl) (ao (iV (zs:=rows) aF (ai 8 rfl) fR) aK)) ⟨p,cj "\n" rows,rfl,C8,tR,r1,by rw[r2];exact hGs,by rw[r2];exact Yg,rfl⟩)) (by rw[r2])) nd) λσ9 Ha9 Hb9 _ f9=>?_))
   refine Gs ?_ f9 XG
   refine ay (bN (VT.to (iU (k1:=false) (k2:=false) (VT.to (jw (k1:=false) (k2:=false) (fU Ij (Jc rfl) (ai 12 rfl) eB (fA _)) (λz=>by cases z)) rfl) (λ_=>VT.to (jw (k1:=true) (k2:=false) (VT.to (fU iK kD (ai 12 rfl) eB (fA _)) rfl) (λ_=>VT.to (gQ (e9 (bw C0.al Qw (ao (ai 14 rfl) (ao (ai 13 rfl) aK)) ⟨_,rfl,hA,rfl⟩) rfl)) rfl)) rfl)) rfl) bp) ?_
   exact aS (bV (bw C0.al Qw (ao (VO.ve (i_ C0.rb Zo (ao (ai 4 rfl) (ao (iV (zs:=good) aF (ai 5 rfl) fG) aK)) rbG)) (ao (bZ (bw C0.rd Qw (ao (ai 1 rfl) (ao (ai 5 rfl) aK)) rdG) ax (a9 (j:=1) rfl)) aK)) ⟨_,rfl,gA,rfl⟩))
  ·have hwd:=Fd p ((fD rows).getD mf xZ) (gI (fD rows) mf)
   rw[show jR p ((fD rows).getD mf xZ) (gI (fD rows) mf)=wd from hF.at_]at hwd
   exact refused mf wd _ hwd.1 ⟨p,rows,rfl,C8,hR,.inr (.inr ⟨hN,mf,wd,hF,rfl⟩)⟩ (.inr ⟨p,_,mf,rfl,C8,tR,r1,by rw[r2];exact hGs,by rw[r2];exact hF,rfl⟩)
 ·obtain⟨pre,ws,post,e1,e2,e3⟩:=HC hR hF
  exact refused mf "row" _ (by show cn _=true;decide +kernel) ⟨p,rows,rfl,C8,hR,.inl ⟨mf,hF,rfl⟩⟩ (.inl ⟨p,_,pre,mf,ws,post,rfl,tR,e1,e2,e3,rfl,rfl⟩)
def Rw(K:av):Sp:=λvs H Q _=>∃(a:aN)(ns:List Int),vs=[.ref a]/\lW K H a (ns.map V.int)/\ns.length<=63/\∀H',Q (.bl true) H'
theorem B9{K:av}{H:Hp}:∀ns:List Int,dz K H (ns.map V.int) (ns.map dO)
 | []=>.nil
 |n::ns=>.cons (.int n) (B9 ns)
theorem Yh(F:kM K "law" "law" (top 68) f fd)(C0:LawC P w K mg base C M):eQ P w K mg base jE 10 f fd ["_law_script"] (Rw K):=by
 refine F.ok NX (λvs H Q E h=>?_) (λgy A outer s H vs Q E hr h=>?_)
 ·obtain⟨a,ns,rfl,_⟩:=h
  rfl
 ·obtain⟨a,ns,rfl,hS,hn,q⟩:=h
  exact⟨_,mh,Gs (Yd C0 hn gy A outer s H E hr) (.start (er.refl _) (.cons (.lst hS (B9 ns)) .nil)) λv fq H' g r=>by cases r;exact q H'⟩
end
end Mg
namespace Mg
open L2 PySem PyProof.Rows
variable{f g:aN}{F4:Array (Option aD)}{h:dq}{ps:List Str}{an od:Option aN}{st:iH}{oc:aD}
structure eR(K:av)(mg:Str->Option aD)(g x:Str)(st:iH)(ps:List Str):Prop where
 ex:∃f fd,kM K x x st f fd/\mg g=some (.ref f)/\∀us:List aD,us.length=ps.length->bindArgs fd ⟨us,[]⟩=pure (ps.zip us)
theorem HF{K:av}{mg:Str->Option aD}{g x:Str}{kV doc pm gy ct:aD}(X:K.In h)(G:h.Ns mainGlobals mg)
  (hb:∀(kV doc pm:aD)(an:Option aN)(gy ct:aD)(us:List aD),us.length=ps.length->bindArgs (iT x x (pC st) (ik st) (bJ st) .none kV doc pm an gy ct) ⟨us,[]⟩=pure (ps.zip us))
  (a:ky K mainGlobals g=some (some (.ref f)))(l:K.lookup f=some ⟨oc,od,.func (iT x x (pC st) (ik st) (bJ st) .none kV doc pm an gy ct),F4⟩)
  (c:lA K gy x=true)(k:eA K (.ref f)=true):eR K mg g x st ps:=
 ⟨f,_,F9 l c k,iu X G a,hb kV doc pm an gy ct⟩
section
variable{P:bM}{w:cy}{K:av}{mg:Str->Option aD}{base:dq}{f:aN}{k:Nat}
theorem eR.call{g x:Str}{sp:Sp}(D:eR K mg g x st ps)(h:∀f fd,kM K x x st f fd->eQ P w K mg base jE k f fd ps sp):bG P w K mg base k g ps sp:=by
 obtain⟨f,fd,F,hm,hb⟩:=D.ex;exact⟨f,fd,h f fd F,hm,F.kp,.all hb⟩
theorem lN{ws:List Str}{its:Array aD}{n:Nat}{sl:Array (Option aD)}(l:K.lookup g=some ⟨.type "tuple",od,.seq its n,sl⟩)(hs:its.size<=100)(hv:dZ (ws.map V.str) its.toList):Mu K g ws:=
 ⟨_,_,_,l,rfl,rfl,small (by omega),hv⟩
theorem Rx{pr:Ci}{kvs:List (Str×List Str)}{es:Array Cj}{ep:Nat}(nm:(g==sysModules)=false)(nd:(kvs.map (·.1)).Nodup)(l:K.lookup g=some ⟨.type "dict",none,.dict es ep,#[]⟩)(ge:GE pr K es.toList kvs):GD pr K g kvs:=
 ⟨nm,nd,_,es,ep,l,⟨rfl,rfl,rfl⟩,rfl,ge⟩
structure Qx(K:av)(mg:Str->Option aD):Prop where
 ex:∃C fi fd,mg "Plant"=some (.ref C)/\D3 K C/\(∀f∈Zb,fY K C f)/\Mk K C fi/\kM K "__init__" "Plant.__init__" Ah fi fd/\Binds K fd ["self"] []
theorem Yi{C: aN}{kV doc pm gy ct:aD}(X:K.In h)(G:h.Ns mainGlobals mg)(aC:ky K mainGlobals "Plant"=some (some (.ref C)))
  (a1:ck K (.ref C) "__init__"=some (some (.ref f)))(i1:vK K (.ref f)=true)(l:K.lookup f=some ⟨oc,od,.func (iT "__init__" "Plant.__init__" (pC Ah) (ik Ah) (bJ Ah) .none kV doc pm an gy ct),F4⟩)(c:lA K gy "Plant.__init__"=true)(k:eA K (.ref f)=true)
  (pg:p9 K C eP=true)(hd:gY K C=true)(po:vI K C=true)(sa:ck K (.ref C) "__setattr__"=some (some (.builtin "object.__setattr__")))(mk:yu K C=true)(kc:eA K (.ref C)=true)
  (z1:ck K (.ref C) "kinds"=some none)(z2:ck K (.ref C) "gates"=some none)(z3:ck K (.ref C) "lines"=some none)(z4:ck K (.ref C) "desks"=some none)(z5:ck K (.ref C) "times"=some none)(z6:ck K (.ref C) "hours"=some none)(z7:ck K (.ref C) "paces"=some none):Qx K mg:=by
 have F:=F9 (st:=Ah) l c k;refine⟨C,f,_,iu X G aC,⟨pg,hd,po,sa⟩,λf hf=>?_,⟨mk,a1,i1,kc⟩,F,F.binds (ps:=["self"]) λ_ _ _ _ _ _ us hl=>match us,hl with | [_],_=>rfl⟩
 simp only[aJ,b7,or_false]at hf;rcases hf with rfl|rfl|rfl|rfl|rfl|rfl|rfl
 ·exact z1
 ·exact z2
 ·exact z3
 ·exact z4
 ·exact z5
 ·exact z6
 ·exact z7
theorem Qx.pc(T:Qx K mg):PlC P w K mg base:=by
 obtain⟨C,fi,fd,h1,h2,h3,h4,h5,h6⟩:=T.ex;exact⟨C,fi,fd,h1,h2,h3,h4,zbO h5 h2 h3,h6⟩
structure XAt(K:av)(mg:Str->Option aD):Prop where
 ex:∃C M fi fd,WK K C fi/\kM K "__init__" "BadDay.__init__" T6 fi fd/\Binds K fd Qi []/\XQ K mg M/\XKd K mg C/\Py K C M
theorem Uh{C M M1 M2 M3: aN}{kV doc pm gy ct:aD}{nm q N bs bm hdct sn sub ab col dd k0 k1 k2 k3 k5 YN q' N' YQ UB Ja YR Pz YS PB Gc YT YV YW YX YY}(X:K.In h)(G:h.Ns mainGlobals mg)
  (aC:ky K mainGlobals "BadDay"=some (some (.ref C)))(aM:ky K mainGlobals "MergeError"=some (some (.ref M)))(b1:ky K mainGlobals "BadBook"=some (some (.ref M1)))(b2:ky K mainGlobals "BadPlant"=some (some (.ref M2)))(b3:ky K mainGlobals "NoBound"=some (some (.ref M3)))(bv:ky K mainGlobals "ValueError"=some none)
  (a1:ck K (.ref C) "__init__"=some (some (.ref f)))(i1:vK K (.ref f)=true)(l:K.lookup f=some ⟨oc,od,.func (iT "__init__" "BadDay.__init__" (pC T6) (ik T6) (bJ T6) .none kV doc pm an gy ct),F4⟩)(c:lA K gy "BadDay.__init__"=true)(k:eA K (.ref f)=true)
  (lC:K.lookup C=some (excClassObj nm q C N bs bm hdct sn sub ab col dd k0 k1 k2 k3 k5 "ValueError.__new__"))(lM:K.lookup M=some (excClassObj YN q' M N' YQ UB Ja YR Pz YS PB Gc YT YV YW YX YY "ValueError.__new__"))
  (e1:(bA C::bm).contains (.type "ValueError")=true)(e2:(bA C::bm).contains (.type "AttributeError")=false)(e3:(bA C::bm).contains (.type "NameError")=false)(e4:(bA C::bm).contains (.type "BaseException")=true)(e5:(bA C::bm).contains (.ref M)=true)(e6:(bA M::UB).contains (.type "BaseException")=true)
  (sa:ck K (.ref C) "__setattr__"=some (some (.builtin "object.__setattr__")))(po:tf bm=BJ)(hd:gY K C=true)(kp:eA K (.ref C)=true)(z1:ck K (.ref C) "place"=some none)(z2:ck K (.ref C) "word"=some none)
  (rd:yy K M (.type "type")=true)(fc:yz K (.ref M) (.type "type") "__init__"=some (.val (.builtin "ValueError.__init__")))(sp:lz K (.ref M) "__getattribute__"=some (some (.builtin "type.__getattribute__")))
  (ka:zj K (.ref C) [.ref M1,.ref M2,.ref M3]=some false)(kc:dm K (.ref C) (.ref C)=some true)(kv:dm K (.ref C) (.type "ValueError")=some true)
  (ga:ck K (.ref C) "__getattribute__"=some (some (.builtin "BaseException.__getattribute__")))(gh:ck K (.ref C) "__getattr__"=some none)(mb:uE K C (.type "BaseException")=some true)(cl:ck K (.ref C) "__class__"=some (some (.builtin "object.__class__")))(cg:lz K (.builtin "object.__class__") "__get__"=some (some (.builtin "getset_descriptor.__get__")))(ct':PySem.W.takesIn K (.builtin "object.__class__")=some true)(mo:uE K C (.type "object")=some true):XAt K mg:=by
 have F:=F9 (st:=T6) l c k;exact⟨C,M,f,_,⟨⟨⟨_,_,_,_,_,_,_,_,_,_,_,_,_,_,_,_,lC,e1,e2,e3,e4⟩,sa,⟨_,by unfold PySem.W.clsIn;rw[lC],po⟩,hd,kp⟩,a1,i1⟩,F,F.binds (ps:=Qi) (λ_ _ _ _ _ _ us hl=>match us,hl with | [_,_,_],_=>rfl),⟨iu X G aM,rd,fc,sp⟩,⟨iu X G aC,⟨M1,M2,M3,iu X G b1,iu X G b2,iu X G b3,ka⟩,kc,kv,FK X G bv,⟨ga,gh,mb,hd,cl,cg,ct',mo⟩,z1,z2⟩,
  ⟨_,_,_,_,_,_,_,_,_,_,_,_,_,_,_,_,_,_,_,_,_,_,_,_,_,_,_,_,_,_,_,_,lC,lM,e5,e6⟩⟩
structure Defs(K:av)(mg:Str->Option aD)(pr:Ci):Prop where
 n:Np mg pr K
 nw:Nw mg
 kt:Ka K
 pa:Qx K mg
 xa:XAt K mg
 d0:eR K mg "is_made_of" "is_made_of" (top 11) ["signs","longest","word"]
 d1:eR K mg "is_name" "is_name" (top 12) ["word"]
 d2:eR K mg "is_number" "is_number" (top 13) ["word"]
 d3:eR K mg "words_of" "words_of" (top 14) ["row"]
 d4:eR K mg "rows_of" "rows_of" (top 15) ["text"]
 d5:eR K mg "look_day" "look_day" (top 17) ["plant","day"]
 d6:eR K mg "read_day" "read_day" (top 18) ["plant","text"]
 d7:eR K mg "fault_of_days" "fault_of" (top 19) ["plant","good","ahead"]
 d8:eR K mg "is_whole" "is_whole" (top 21) ["time"]
 d9:eR K mg "is_good_row" "is_good_row" (top 22) ["words"]
 d10:eR K mg "greatest_load" "greatest_load" (top 24) ["rule","many"]
 d11:eR K mg "read_plant" "read_plant" (top 30) ["text"]
 Zr:eR K mg "fits" "fits" (top 31) ["shape","word"]
 d13:eR K mg "value_of" "value_of" (top 32) ["shape","word"]
 d14:eR K mg "values_of" "values_of" (top 33) ["shapes","words"]
 d15:eR K mg "entry_of" "entry_of" (top 34) ["words"]
 d16:eR K mg "desk_entry" "desk_entry" (top 35) ["words"]
 d17:eR K mg "rule_of" "rule_of" (top 36) ["words","many"]
 d18:eR K mg "are_places" "are_places" (top 37) ["names"]
 d19:eR K mg "fault_of_plants" "fault_of" (top 38) ["plant","entry"]
 d20:eR K mg "tells_twice" "tells_twice" (top 40) ["plant","entry"]
 d21:eR K mg "lacks_name" "lacks_name" (top 41) ["plant","entry"]
 d22:eR K mg "lacks_room" "lacks_room" (top 42) ["plant","entry"]
 d23:eR K mg "is_place" "is_place" (top 43) ["plant","name"]
 d24:eR K mg "is_desk" "is_desk" (top 44) ["plant","name"]
 d25:eR K mg "takers_of" "takers_of" (top 45) ["plant","place"]
 d26:eR K mg "add_entry" "add_entry" (top 46) ["plant","entry"]
 d27:eR K mg "_law_cell_at" "_law_cell_at" (top 48) ["_law_script","_law_k"]
 d28:eR K mg "_law_mix" "_law_mix" (top 49) ["_law_cell","_law_k"]
 d29:eR K mg "_law_names" "_law_names" (top 50) ["_law_cell","_law_many"]
 d30:eR K mg "_law_rule" "_law_rule" (top 51) ["_law_m","_law_many"]
 d31:eR K mg "_law_greatest" "_law_greatest" (top 52) ["_law_rule_here","_law_many"]
 d32:eR K mg "_law_desks" "_law_desks" (top 53) ["_law_cell","_law_places","_law_lines"]
 d33:eR K mg "_law_plant" "_law_plant" (top 54) ["_law_script"]
 d34:eR K mg "_law_dash" "_law_dash" (top 55) ["_law_thing"]
 d35:eR K mg "_law_rule_text" "_law_rule_text" (top 56) ["_law_rule_here"]
 d36:eR K mg "_law_plant_text" "_law_plant_text" (top 57) ["_law_h"]
 d37:eR K mg "_law_day" "_law_day" (top 58) ["_law_h","_law_cells"]
 d38:eR K mg "_law_goods" "_law_goods" (top 59) ["_law_h","_law_cells","_law_m"]
 d39:eR K mg "_law_is_name" "_law_is_name" (top 60) ["_law_word"]
 d40:eR K mg "_law_due" "_law_due" (top 61) ["_law_h","_law_day_here"]
 UU:eR K mg "_law_alike" "_law_alike" (top 62) ["_law_found","_law_due_here"]
 d42:eR K mg "_law_is_refused" "_law_is_refused" (top 63) ["_law_caught","_law_due_here"]
 d43:eR K mg "_law_otherwise" "_law_otherwise" (top 64) ["_law_row","_law_m"]
 d44:eR K mg "_law_number" "_law_number" (top 65) ["_law_word"]
 d45:eR K mg "_law_told" "_law_told" (top 66) ["_law_words"]
 d46:eR K mg "_law_read" "_law_read" (top 67) ["_law_h","_law_rows"]
theorem Defs.all(D:Defs K mg w.params):∃C M,LawC P w K mg base C M:=by
 have n:=D.n;have nw:=D.nw;have pc:=D.pa.pc (P:=P) (w:=w) (base:=base);obtain⟨C,M,fi,fdi,mk,Fi,bI,S,xk,sub⟩:=D.xa.ex;have FI:=zbW (P:=P) (w:=w) (base:=base) Fi mk.toGA xk.np xk.nw S;have wO:=D.d0.call (P:=P) (w:=w) (base:=base) λ_ _ F=>zba F nw
 have qB:=D.d1.call (P:=P) (w:=w) (base:=base) λ_ _ F=>zbb F nw wO
 have tT:=D.d2.call (P:=P) (w:=w) (base:=base) λ_ _ F=>zbc F nw wO
 have HG:=D.d3.call (P:=P) (w:=w) (base:=base) λ_ _ F=>zbd F
 have x6:=D.d4.call (P:=P) (w:=w) (base:=base) λ_ _ F=>zbe F nw HG
 have HJ:=D.d8.call (P:=P) (w:=w) (base:=base) λ_ _ F=>zbY F n.toNa D.kt
 have rS:=D.d7.call (P:=P) (w:=w) (base:=base) λ_ _ F=>zb0 F n.toNa D.kt HJ qB
 have HK:=D.d5.call (P:=P) (w:=w) (base:=base) λ_ _ F=>zb1 F n.toNa rS
 have uR:=D.d9.call (P:=P) (w:=w) (base:=base) λ_ _ F=>zca F n.toNa tT qB
 have HM:=D.d6.call (P:=P) (w:=w) (base:=base) λ_ _ F=>X_ F n.toNa x6 uR HK
 have yG:=D.d10.call (P:=P) (w:=w) (base:=base) λ_ _ F=>zbK F
 have Qy:=D.Zr.call (P:=P) (w:=w) (base:=base) λ_ _ F=>Xa F n.toNa qB tT
 have Ui:=D.Zr.call (P:=P) (w:=w) (base:=base) λ_ _ F=>zbr F n.toNa qB tT Qy
 have HN:=D.d13.call (P:=P) (w:=w) (base:=base) λ_ _ F=>zbs F n.toNa
 have tU:=D.d14.call (P:=P) (w:=w) (base:=base) λ_ _ F=>zbt F n.toNa n.zip Ui HN
 have K4:=D.d17.call (P:=P) (w:=w) (base:=base) λ_ _ F=>Xg F n tU
 have DG:=D.d18.call (P:=P) (w:=w) (base:=base) λ_ _ F=>zbv F n qB
 have DH:=D.d16.call (P:=P) (w:=w) (base:=base) λ_ _ F=>zbx F n tU K4 DG
 have HP:=D.d15.call (P:=P) (w:=w) (base:=base) λ_ _ F=>zbE F n tU DH
 have Ay:=D.d23.call (P:=P) (w:=w) (base:=base) λ_ _ F=>zbH F
 have B_:=D.d24.call (P:=P) (w:=w) (base:=base) λ_ _ F=>zbI F
 have Fn:=D.d25.call (P:=P) (w:=w) (base:=base) λ_ _ F=>zbJ F
 have Bf:=D.d20.call (P:=P) (w:=w) (base:=base) λ_ _ F=>zbL F n Ay B_ Fn
 have DI:=D.d21.call (P:=P) (w:=w) (base:=base) λ_ _ F=>zbM F n Ay B_
 have DJ:=D.d22.call (P:=P) (w:=w) (base:=base) λ_ _ F=>Xu F n yG
 have wQ:=D.d19.call (P:=P) (w:=w) (base:=base) λ_ _ F=>zbN F Bf DI DJ
 have Fo:=D.d26.call (P:=P) (w:=w) (base:=base) λ_ _ F=>zbQ F
 have DK:=D.d11.call (P:=P) (w:=w) (base:=base) λ_ _ F=>zbU F n pc x6 HP wQ Fo
 have uS:=D.d27.call (P:=P) (w:=w) (base:=base) λ_ _ F=>TF F n.len
 have qC:=D.d28.call (P:=P) (w:=w) (base:=base) λ_ _ F=>WZ F
 have tV:=D.d29.call (P:=P) (w:=w) (base:=base) λ_ _ F=>zbf F n.toNm qC
 have HQ:=D.d30.call (P:=P) (w:=w) (base:=base) λ_ _ F=>zbg F n.toNm
 have Az:=D.d31.call (P:=P) (w:=w) (base:=base) λ_ _ F=>zbh F
 have Fp:=D.d32.call (P:=P) (w:=w) (base:=base) λ_ _ F=>zbj F n.toNm qC tV HQ
 have Fq:=D.d33.call (P:=P) (w:=w) (base:=base) λ_ _ F=>zbl F n.toNm uS qC tV Az Fp
 have vB:=D.d34.call (P:=P) (w:=w) (base:=base) λ_ _ F=>zbo F n.toNa
 have yH:=D.d35.call (P:=P) (w:=w) (base:=base) λ_ _ F=>zbp F n.toNa vB
 have x8:=D.d36.call (P:=P) (w:=w) (base:=base) λ_ _ F=>zbq F n.toNa vB yH
 have K5:=D.d37.call (P:=P) (w:=w) (base:=base) λ_ _ F=>zbn F n.toNm qC
 have Fs:=D.d38.call (P:=P) (w:=w) (base:=base) λ_ _ F=>zb3 F n.toNm tV K5
 have uT:=D.d39.call (P:=P) (w:=w) (base:=base) λ_ _ F=>X5 F n.toNa
 have K6:=D.d40.call (P:=P) (w:=w) (base:=base) λ_ _ F=>zb8 F n.toNa uT
 have x9:=D.d42.call (P:=P) (w:=w) (base:=base) λ_ _ F=>zbX F n.toNa D.kt xk
 have yI:=D.d43.call (P:=P) (w:=w) (base:=base) λ_ _ F=>zce F n.toNa
 have DL:=D.d44.call (P:=P) (w:=w) (base:=base) λ_ _ F=>X7 F n.toNa
 have HR:=D.d45.call (P:=P) (w:=w) (base:=base) λ_ _ F=>zcb F n.toNa DL uT
 have HS:=D.d46.call (P:=P) (w:=w) (base:=base) λ_ _ F=>Yb F n.toNa HR K6
 have a0:=D.UU.call (P:=P) (w:=w) (base:=base) λ_ _ F=>W7 F n.toNa D.kt
 have a1:=D.UU.call (P:=P) (w:=w) (base:=base) λ_ _ F=>M9 F n.toNa D.kt a0
 have a2:=D.UU.call (P:=P) (w:=w) (base:=base) λ_ _ F=>M9 F n.toNa D.kt a1
 have a3:=D.UU.call (P:=P) (w:=w) (base:=base) λ_ _ F=>M9 F n.toNa D.kt a2
 obtain⟨flx,zhS,F,zcS,zcT⟩:=D.d5.ex;have lx:uf P w K mg base _ "look_day" ["plant","day"] C _:=⟨_,_,X1 F n.toNa rS xk.own mk FI bI,zcS,F.kp,.all zcT⟩;obtain⟨frx,zhT,F,zcU,zcV⟩:=D.d6.ex;have rx:uf P w K mg base _ "read_day" ["plant","text"] C _:=⟨_,_,Ya F n.toNa x6 uR lx xk.own mk FI bI,zcU,F.kp,.all zcV⟩;exact⟨C,M,n.toNa,uS,qC,Fq,x8,DK,Fs,vB,yI,HS,a2,HM,rx,x9,S.mg,sub,xk.gt,xk.np,xk.nw⟩
end
theorem walk{l:PySem.W.OpenLaw}{q:bM}{loose:List Str}{XP:(Str->Option aD)->dq->Prop}{YP:cy->dq->Prop}{d:DefRec}{K:Ci->av}(hn:l.most=some 63)(Vz:d.params.defaults=[])(hdn:d.name="law")
  (hY:∀(w:cy)(h:dq),YP w h->(K w.params).In h)
  (F:∀(w:cy)(mg:Str->Option aD)(h:dq),(K w.params).In h->h.Ns mainGlobals mg->Defs (K w.params) mg w.params/\eR (K w.params) mg "law" "law" (top 68) ["_law_script"]):
  PySem.W.WalkO q loose XP YP l.row.toRowW d [] (λf vs=>PySem.call f vs):=
 L2.OB (n:=63) (k:=10) (x:="_law_script") (CX:=λ_=>jE) (sp:=λw=>Rw (K w.params)) hn (by decide) Vz ⟨rfl,by decide,by decide⟩ hY (λw mg fa h X G N4=>by
  obtain⟨D,L⟩:=F w mg h X G;obtain⟨f,fd,Fl,hm,hb⟩:=L.ex;rw[hdn]at N4;rw[hm]at N4;cases N4;exact⟨fd,λs v=>.of_eq (hb [v] rfl),λbase _ _=>(by obtain⟨_,_,L0⟩:=D.all (base:=base);exact Yh Fl L0)⟩) (λ_ _ a ns hl _ hS=>⟨a,ns,rfl,hS,hl,λ_=>rfl⟩) λ_ _ _ _ _ z=>z
end Mg
namespace PySem.W.Fast
def tw18067055130347640009:=()
def tw6232038378072557906:=()
def tw3680774403263126244:=()
def tw11687058145822568871:=()
def tw4369660972493456472:=()
def tw395114044851502931:=()
def tw3249800662781779630:=()
def tw909694632717798591:=()
def tw3584582681281832020:=()
def tw10553093321697552226:=()
def tw9991553239063001416:=()
def tw12905750437963928466:=()
def tw5767749333566302967:=()
def tw5079238189477271271:=()
def tw10843237495534403130:=()
def tw1872164253080918047:=()
def tw3633262048076588491:=()
def tw17736534969132187842:=()
def tw14371710409618169716:=()
def tw5672957429312191209:=()
def tw2501279803000674897:=()
def tw9020312695356496951:=()
def tw9599821195597884569:=()
def tw16410099289899981363:=()
def tw465741649098494762:=()
def tw3623193043815485696:=()
def tw4961150303935678945:=()
def tw3543883350853479340:=()
def tw8204426104920238329:=()
def tw4788618593554293663:=()
def tw2771885778342423689:=()
def tw1948724677604820464:=()
def tw4615660347742758234:=()
def tw7225144436200177243:=()
def tw13223402554567141858:=()
def tw17194668688819834374:=()
def tw10248015049539086717:=()
def tw18130247865997644600:=()
def tw688226566472383798:=()
def tw222480568787357801:=()
def tw11167230366333507391:=()
def tw5258098861876859865:=()
def tw18351947579992499259:=()
def tw9153039102297457439:=()
def tw402593798970792608:=()
def tw13280444010750292648:=()
def tw14399835823527898502:=()
def tw16406675413036107839:=()
def tw17070684902207268792:=()
def tw17994048902684463004:=()
def tw6238400074859897109:=()
def tw3906071445969358479:=()
def tw13070520105532602285:=()
def tw5430706755470234945:=()
def tw9076600859016437608:=()
def tw11914456322332469716:=()
def tw9174568647039159463:=()
def tw17969068039086416575:=()
def tw7005935976739514708:=()
def tw9849015397116049922:=()
def tw13486316135022145918:=()
def tw8937462336076120127:=()
def tw487018279316319614:=()
def tw5151819167650683010:=()
def tw14854096918713518954:=()
def tw12104486118475969062:=()
def tw13238690479980111017:=()
def tw11537721275900933848:=()
def tw6477984529142817965:=()
def tw7647426308731019580:=()
def tw13450279313116093844:=()
def tw10154321588812959904:=()
def tw14762774007994460802:=()
def tw16077034979337978719:=()
def tw2092812991943681972:=()
def tw7767459453882125262:=()
def tw8748179285528980857:=()
def tw17215739869228308668:=()
def tw4733826902226354528:=()
def tw1211203197855846229:=()
end PySem.W.Fast
open PySem PySem.W PyProof.Rows
theorem PySem.Challenge.cw_mergeline_k13_rows_refused_holds : PySem.Challenge.rw_mergeline_k13_rows_refused.Holds := by
 w_on;o_law;k_head;(case hw=>w_witness2)
 k_fill
 refine Mg.walk (l:=PySem.Challenge.rw_mergeline_k13_rows_refused) rfl rfl rfl (λw h Y=>PySem.W.kIn_of Y) ?F
 case F=>
  intro w mg h KX G;refine⟨⟨⟨⟨⟨?n1,?n2,?n3,?n4,?n5,?n6,?n7,?n8,?n9,?n10,?n11,?n12⟩,?n13,?n14⟩,?y1,?y2,?y3,?ymp,?yfo,?yru⟩,⟨?w1,?w2,?w3,?xa,?xb,?xc,?xd⟩,⟨?t0,?t1,?t2,?t3,?t4,?t5,?t6,?t7,?t8,?t9,?t10,?t11⟩,?ypl,?yxa,?d0,?d1,?d2,?d3,?d4,?d5,?d6,?d7,?d8,?d9,?d10,?d11,?Zr,?d13,?d14,?d15,?d16,?d17,?d18,?d19,?d20,?d21,?d22,?d23,?d24,?d25,?d26,?d27,?d28,?d29,?d30,?d31,?d32,?d33,?d34,?d35,?d36,?d37,?d38,?d39,?d40,?UU,?d42,?d43,?d44,?d45,?d46⟩,?law⟩
  case n1|n2|n3|n4|n5|n6|n7|n8|n9|n10|n11|n12|n13|n14|y1|y2|y3|w1|w2|w3=>exact FK KX G (by k_is)
  case ymp|xa|xb|xc|xd=>exact⟨_,iu KX G (by k_is)⟩
  case yfo=>refine⟨_,iu KX G (by k_is),Mg.Rx (by decide) (by decide +kernel) (by k_is) (.cons rfl (Mg.lN (by k_is) (by decide) (.cons ⟨_,rfl⟩ (.cons ⟨_,rfl⟩ .nil))) (.cons rfl (Mg.lN (by k_is) (by decide) (.cons ⟨_,rfl⟩ .nil)) (.cons rfl (Mg.lN (by k_is) (by decide) (.cons ⟨_,rfl⟩ (.cons ⟨_,rfl⟩ .nil))) (.cons rfl (Mg.lN (by k_is) (by decide) (.cons ⟨_,rfl⟩ (.cons ⟨_,rfl⟩ (.cons ⟨_,rfl⟩ .nil)))) (.cons rfl (Mg.lN (by k_is) (by decide) (.cons ⟨_,rfl⟩ (.cons ⟨_,rfl⟩ (.cons ⟨_,rfl⟩ .nil)))) (.cons rfl (Mg.lN (by k_is) (by decide) (.cons ⟨_,rfl⟩ (.cons ⟨_,rfl⟩ (.cons ⟨_,rfl⟩ (.cons ⟨_,rfl⟩ .nil))))) .nil))))))⟩
  case yru=>refine⟨_,iu KX G (by k_is),Mg.Rx (by decide) (by decide +kernel) (by k_is) (.cons rfl (Mg.lN (by k_is) (by decide) .nil) (.cons rfl (Mg.lN (by k_is) (by decide) (.cons ⟨_,rfl⟩ .nil)) (.cons rfl (Mg.lN (by k_is) (by decide) (.cons ⟨_,rfl⟩ .nil)) (.cons rfl (Mg.lN (by k_is) (by decide) (.cons ⟨_,rfl⟩ (.cons ⟨_,rfl⟩ .nil))) (.cons rfl (Mg.lN (by k_is) (by decide) .nil) .nil)))))⟩
  case t0|t1|t2|t3|t4|t5|t6|t7|t8|t9|t10|t11=>kit_is
  case ypl=>refine' Mg.Yi KX G ?aC ?a1 ?i1 ?l ?c ?k ?pg ?hd ?po ?sa ?mk ?kc ?z1 ?z2 ?z3 ?z4 ?z5 ?z6 ?z7;(case aC|a1|i1|l|c|k|pg|hd|po|sa|mk|kc|z1|z2|z3|z4|z5|z6|z7=>k_is)
  case yxa=>refine' Mg.Uh KX G ?xaC ?xaM ?xb1 ?xb2 ?xb3 ?xbv ?xa1 ?xi1 ?xl ?xc ?xk ?xlC ?xlM ?xe1 ?xe2 ?xe3 ?xe4 ?xe5 ?xe6 ?xsa ?xpo ?xhd ?xkp ?xz1 ?xz2 ?xrd ?xfc ?xsp ?xka ?xkc ?xkv ?xga ?xgh ?xmb ?xcl ?xcg ?zcW ?xmo;(case xaC|xaM|xb1|xb2|xb3|xbv|xa1|xi1|xl|xc|xk|xlC|xlM=>k_is);(case xe1|xe2|xe3|xe4|xe5|xe6=>rfl);(case xsa=>k_is);(case xpo=>rfl);(case xhd|xkp|xz1|xz2|xrd|xfc|xsp=>k_is);(case xka|xkc|xkv=>kit_is);(case xga|xgh|xmb|xcl|xcg|zcW|xmo=>k_is)
  case d1|d2|d3|d4|d8|d9|d11|d15|d16|d18|d33|d34|d35|d36|d39|d44|d45|law=>refine' Mg.HF KX G (λ_ _ _ _ _ _ us hl=>match us,hl with | [_],_=>rfl) ?a ?l ?c ?k;(case a|l|c|k=>k_is)
  case d5|d6|d10|Zr|d13|d14|d17|d19|d20|d21|d22|d23|d24|d25|d26|d27|d28|d29|d30|d31|d37|d40|UU|d42|d43|d46=>refine' Mg.HF KX G (λ_ _ _ _ _ _ us hl=>match us,hl with | [_,_],_=>rfl) ?a ?l ?c ?k;(case a|l|c|k=>k_is)
  case d0|d7|d32|d38=>refine' Mg.HF KX G (λ_ _ _ _ _ _ us hl=>match us,hl with | [_,_,_],_=>rfl) ?a ?l ?c ?k;(case a|l|c|k=>k_is)
