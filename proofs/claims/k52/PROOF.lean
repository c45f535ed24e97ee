import PyProof.Rows.All
import Wide.All
import OpenK.AllK
import Wide.FinOn
import Lean
import PyProof.EqAt
import PyProof.EqKinds
import PyProof.TupleCall
import PyProof.Rows.SetFrom
import PyProof.TupleKey
import KE.KSortTup
import PyProof.ListRange
import PyProof.ConsumeS
import KE.KIntText
import PyProof.StrCalls2
import PyProof.StrOps2
import PyProof.SliceStr2
import PyProof.StrWalks
import PyProof.Rows.StrJoin2
import PyProof.ZipIter
import PyProof.TupleIter
import PyProof.ListMulRoad
import PyProof.WalksMore
import KE.KDictLaws
import KE.KDictList
import PyProof.IsiH_list
import PyProof.AttrMiss
import KE.KDictOf
import PyProof.StationsW
import PyProof.ExcInit
import PyProof.ExcClass2
import PyProof.ExcBaseAll.ValueError
import OpenK.KMake
import OpenK.KCls
import PyProof.Rows.FStr
import PyProof.LayNew
import PyProof.RulesAs
import PyProof.NsDelKeeps
import PyProof.ExcAttrAll.ValueError
import KE.KIsAll
import PyProof.CollectIter
import PyProof.TupleOfStr
import KE.KEqDict
import PyProof.DictWalks
import PySem.Challenge.RW_mergeline_k52_chains
set_option Elab.async false
set_option linter.all false
set_option maxRecDepth 100000
set_option maxHeartbeats 4000000
open Array renaming getElem?_toList→rJ,length_toList→c0,toList_append→ui
open Bool renaming and_eq_true_iff→eW,and_eq_true→qO,eq_iff_iff→gZ,false_ne_true→cz,false_or→Dh,or_eq_true→zZ,or_true→E2,true_and→j0
open False renaming elim→ix
open ForInStep renaming yield→p9
open Function renaming comp→z8
open Int renaming emod_lt_of_pos→bo,emod_nonneg→a8,eq_ofNat_of_zero_le→lK,sub_zero→Fg,toNat_natCast→fu
open List renaming all_eq_true→eO,all_map→EZ,any_cons→mW,any_eq_true→kE,append_assoc→cP,append_nil→eI,drop_eq_nil_of_le→rq,drop_succ_cons→uM,drop_zero→ku,eq_nil_of_length_eq_zero→jF,ext_getElem?→iW,filterMap_append→sO,filterMap_cons_none→eP,filterMap_cons_some→cX,filterMap_cons→nI,filterMap_map→cY,filter_cons→jv,filter_eq_nil_iff→E3,find?_cons→eY,flatten_cons→fU,foldl_append→gS,foldl_cons→nA,forIn_cons→zY,fst_mem_of_mem_zipIdx→kx,getD_eq_getElem?_getD→aD,getElem?_append_left→cU,getElem?_append_right→cM,getElem?_cons_succ→lu,getElem?_eq_getElem→aq,getElem?_eq_none→eR,getElem?_eq_some_iff→aO,getElem?_map→aI,getElem?_range→fk,getElem?_replicate→dm,getElem?_set_ne→aX,getElem?_set_self→bx,getElem?_zipIdx→iV,getElem_cons_drop→E4,getElem_map→qP,getElem_mem→dR,getElem_toArray→ng,length_append→aY,length_cons→bJ,length_drop→b_,length_filterMap_le→p_,length_map→ai,length_nil→cN,length_range→bW,length_replicate→dq,length_set→k7,length_singleton→iB,length_take→b9,length→fq,lookup_cons→eL,lookup→lg,map_append→aU,map_congr_left→hX,map_cons→aH,map_drop→qc,map_map→aS,map_nil→gF,map_set→E1,map_singleton→jL,map_take→Dn,map→oG,mem_append_left→dC,mem_append_right→b0,mem_append→bS,mem_cons_of_mem→aT,mem_cons_self→aL,mem_cons→aG,mem_filterMap→jJ,mem_filter→iQ,mem_flatMap→xW,mem_iff_getElem?→sP,mem_iff_getElem→tV,mem_map→av,mem_of_getElem?→bw,mem_of_mem_drop→dU,mem_of_mem_take→eA,mem_or_eq_of_mem_set→BK,mem_range→cL,mem_replicate→fB,mem_singleton→aV,nil_append→nB,nodup_append→cZ,nodup_cons→eX,nodup_nil→lO,not_mem_nil→bu,of_mem_zip→rF,pairwise_iff_getElem→iO,perm_append_comm→sS,range_eq_range'→GJ,range_succ→g7,range→aZ,replicate_succ→d_,replicate→bh,set_comm→uQ,size_toArray→bp,sum_cons→Dp,take_add_one→dH,take_append_drop→fw,take_length→ju,take_of_length_le→cO,zipIdx_cons→xU,zip_cons_cons→lb
open List.Pairwise renaming map→AV
open List.cons renaming inj→kA
open Nat renaming add_lt_add_left→jt,eq_zero_or_pos→vT,le_add_right→fc,le_of_lt→rD,le_of_not_lt→gA,le_refl→ay,le_succ→pZ,le_trans→cp,lt_add_of_pos_right→qX,lt_irrefl→j5,lt_of_lt_of_le→bY,lt_succ_of_lt→lW,lt_succ_self→kF,lt_trans→xB,min_eq_left→nL,mod_eq_of_lt→mX,mod_lt→rP,mul_le_mul→iC,ne_of_gt→gI,ne_of_lt→a9,not_lt_zero→Ai,succ_le_succ→qW,succ_mul→Fe,toDigits_of_lt_base→lL,toDigits→ja,zero_add→i_,zero_le→bF
open Ne renaming symm→bV
open Option renaming isSome_map→vN,map_some→jK,toList_some→uL
open Option.some renaming injEq→iy,inj→cR
open Or renaming inl→a7,inr→cj
open PyProof.Rows renaming AllBare→ud,IntsAre→Af,assignInOrder_cons→j7,assignInOrder_nil→Ac,callWith_type1→jx,slot_tuple_getitem→kU
open PyProof.Rows.F renaming entry_set_update_loop→GF,plain_set_update_loop→rG
open PyProof.Rows.IsTup renaming new→qd
open PySem renaming Addr→aR,Around→dQ,Builtin→rn,CmpOp→Fc,DictEntry→wO,Expr→bZ,FuncData→gJ,GenState→tM,Heap→dg,IsPair→rK,IsPart→BF,IsZip→Dl,Keyword→gR,NameKind→oy,Paired→Fb,Params→BG,PassesOwn→tN,Program→bK,PyData→aj,Result→ug,Scope→nz,Shared→aM,Spec→fQ,Stmt→ia,Value→aE,Within→Ds,World→cB,boot_len→tQ,call_meets→kR,codeAny_builtin→jq,codeAny_mono→pE,length_partsBetween→xC,mem_of_lookup→jo,plainId_quiet→rH,sizeLine_eq→dA,tupleKind_room_in1→lV,typeIs_str→uh,wpAny_Call_Name_kw→qf,wpAny_bindName→qe,wpAny_bind→aA,wpAny_callSpecial?_slot→jN,wpAny_call_entry→k6,wpAny_execs_nil→uK,wpAny_field→fS,wpAny_holding→jw,wpAny_ite_false→lP,wpAny_loadPart'→gx,wpAny_mono→iR,wpAny_newObj_type→eV,wpAny_onRaise→xV,wpAny_passesOwn→kj,wpAny_pure→bj,wpAny_pyIter_list→mU,wpAny_pyIter_tuple→yk,wpAny_rule→uf,wpAny_seqItems→iS,wpAny_setField_rec→j8,wpAny_standAt→rE,wpAny_truthy_bool→fx,wpAny_typeOf→Ae,wpAny_updateSeq_pair→vU
open PySem.Around renaming under_plainId→gG,under→Dg
open PySem.AutoSeq1 renaming idx_int→GH,sub_tuple_tuple→z0
open PySem.Builtin.Dict renaming updateFrom→xF
open PySem.Builtin.List renaming listFitsIndex→vO
open PySem.Builtin.Range renaming rangeSize→iI,small→lQ
open PySem.Builtin.Slice renaming sliceAdjust→mV,sliceApplied→uS,slicePlaces→jU
open PySem.Builtin.SmallTypes renaming nextOf→df,ownedTupleHandOut→oF,ownedTupleIsFree→gq
open PySem.Builtin.Tuple renaming tupleExact→fW,tupleTooMany→uU
open PySem.Calls renaming Name_function_global→Ab,callWith_builtin→qU,evalArgs_plain→tP,spliced_cons→kZ,spliced_nil→vR
open PySem.Code renaming isFrame→EX
open PySem.F renaming args_dict_get_3→AK,args_str_split_2→xD,args_tuple_add_2→Ad,args_tuple_iterator_next_1→BJ,called_set→kS,entry_dict_get→BH,entry_str_split→ym,entry_tuple_add→AJ,entry_tuple_iterator_next→Dj,plainAttrs_dict→AO,plainAttrs_list→fy,plainAttrs_str→BI,slot_dict_getitem→zX,slot_dict_get→qV,slot_dict_setdefault→xE,slot_list_append→kG,slot_list_getattribute→lj,slot_list_index→AQ,slot_str_split→Ag,slot_tuple_add→BD,slot_tuple_eq→Dm,slot_tuple_iterator_next→kI,slot_tuple_mul→rM,slot_zip_next→tU,type_list_append→kH,type_list_index→AU
open PySem.Flow renaming next→Dt
open PySem.Heap renaming NewAttrErr→rN,SameBut→iU,get?_push_of_some→aF,get?_push_size→bA,get?_update_other→EY,get?_update_self→Fd,lt_size→bf,size_push→iA
open PySem.Heap.SameBut renaming update→Ah
open PySem.MeetsSeq renaming plain_index_loop→rL
open PySem.NameKind renaming cell→kD,free→ef
open PySem.Obj renaming mapSeq→vS
open PySem.Paired renaming length→uc
open PySem.PassesOwn renaming never→cK
open PySem.PyData renaming bool→k8,canLay0→cx,canLayAll0→oU,eqv→cI,int→fN,list→sQ,str→aK,tuple→gy
open PySem.SeqAt renaming readOf→kz
open PySem.Str renaming empty→fY,join→c9,length_append→cD,ofString→oA
open PySem.StrLaws renaming found_one→uV,join_split→nM,occ_length_le→Di,sliceText_from→qg,sliceText_to→rO,split_free→nO
open PySem.Txt renaming slice_le→Ff,slice→kJ,split→cJ
open PySem.Value renaming int→De,isStrOf→uJ,none→iZ,ref→dw,str→Df,type→uO
open PySem.W renaming Frag→au,cellsFrom_some→Bz,codeIn→nJ,emptyDict→fH,findIn→dG,fnOf→jy,hasDictIn→oE,instObj→iE,keepIn→jg,kia_one→kO,kitOne→eC,lookIn→yl,makesIn→xA,methodObj→uP,mg_of→oV,plainGet→pD,plainOver→uR,takerIn→xx
open Sum renaming inl→xu,inr→bG
open Sum.inr renaming inj→rC
open True renaming intro→gw
def qQ0:=@decide_eq_false
def qQ1:=@decide_eq_true
def qQ2:=@if_neg
def qQ3:=@if_pos
def qQ4:=@of_decide_eq_true
def qQ5:=@of_decide_eq_false
def qQ6:=@congrArg
def qQ7:=@absurd
local macro_rules|`(tactic|symm)=>`(tactic|decide +kernel)
namespace L2
open PySem PySem.Spec PyProof.Rows
variable{C a it:aR}{A:dQ}{g':Array tM}{d':Drawn}{c e tg:bZ}{base h:dg}{g:Int->Int->Int}{pins:List (aR×Obj)}{kw:List (Str×aE)}{ch fp:List aR}{outer:List Env}{es:List bZ}{body:List ia}{N ps:List Str}{us:List aE}{M:Model}{k t':Nat}{o:Obj}{P:bK}{K:au}{scope:nz}{s s':aM}{kindOf:Str->Option oy}{mA mg:Str->Option aE}{u:aE}{E Q:aE->aM->Prop}{f:aE->aE->Sem aE}{w:cB}
abbrev Key:=Sum Int Str
def AW:Key->aE->Bool
 | .inl k,v=>aE.isInt k v
 | .inr x,v=>uJ x v
def YC(w:cB):Key->Int
 | .inl k=>hashInt k
 | .inr x=>hashStr w x
theorem hZ:∀{k:Key}{v:aE},AW k v=true->(∃i t,k=xu i/\v=De i t)\/(∃x t,k=bG x/\v=Df x t)
 | .inl i,v,h=>by
  obtain⟨t,e⟩:=aE.isInt_shape (k:=i) (v:=v) h;exact .inl ⟨i,t,rfl,e⟩
 | .inr x,v,h=>by
  obtain⟨t,e⟩:=aE.isStrOf_shape (x:=x) (v:=v) h;exact .inr ⟨x,t,rfl,e⟩
theorem Ia(i:Int)(t:Tok):AW (.inl i) (.int i t)=true:=by simp[AW,aE.isInt]
theorem Ib(x:Str)(t:Tok):AW (.inr x) (.str x t)=true:=by simp[AW,uJ]
theorem Rh(a b:Int):decide ((xu a:Key)=xu b)=(a==b):=by
 by_cases e:a=b
 ·subst e;simp
 ·have h:¬(xu a:Key)=xu b:=λq=>e (xu.inj q)
  rw[qQ0 h];exact(beq_eq_false_iff_ne.mpr e).symm
theorem Ri(a b:Str):decide ((bG a:Key)=bG b)=decide (a=b):=by
 by_cases e:a=b
 ·subst e;simp
 ·have h:¬(bG a:Key)=bG b:=λq=>e (rC q)
  rw[qQ0 h,qQ0 e]
theorem Rj(a:Int)(b:Str):decide ((xu a:Key)=bG b)=false:=qQ0 (λq=>nomatch q)
theorem Rk(a:Str)(b:Int):decide ((bG a:Key)=xu b)=false:=qQ0 (λq=>nomatch q)
def eZ(prog:bK)(w:cB):PySem.KeyKind prog w Key where
 is:=AW
 hash:=YC w
 inj:=λv a b ha hb=>by
  rcases hZ ha with⟨i,t,rfl,rfl⟩|⟨x,t,rfl,rfl⟩
  ·rcases hZ hb with⟨j,u,rfl,e⟩|⟨y,u,rfl,e⟩
   ·injection e with e1 _;rw[e1]
   ·exact nomatch e
  ·rcases hZ hb with⟨j,u,rfl,e⟩|⟨y,u,rfl,e⟩
   ·exact nomatch e
   ·injection e with e1 _;rw[e1]
 byValue:=λk v h=>by
  rcases hZ h with⟨i,t,rfl,rfl⟩|⟨x,t,rfl,rfl⟩<;>rfl
 pyHash:=λhv h=>by
  rcases hZ hv with⟨i,t,rfl,rfl⟩|⟨x,t,rfl,rfl⟩
  ·exact wpAny_pyHash_int h
  ·exact wpAny_pyHash_str h
 eqBool:=λhu hv h=>by
  rcases hZ hu with⟨i,t,rfl,rfl⟩|⟨x,t,rfl,rfl⟩
  ·rcases hZ hv with⟨j,u,rfl,rfl⟩|⟨y,u,rfl,rfl⟩
   ·rw[Rh]at h;exact wpAny_eqBool_int h
   ·rw[Rj]at h;exact SeqAt.EqAt.int_str i t y u _ _ _ _ h
  ·rcases hZ hv with⟨j,u,rfl,rfl⟩|⟨y,u,rfl,rfl⟩
   ·rw[Rk]at h;exact SeqAt.EqAt.str_int x t j u _ _ _ _ h
   ·rw[Ri]at h;exact wpAny_eqBool_str h
 «strs»:=λk x t v h=>by
  rcases hZ h with⟨i,u,rfl,e⟩|⟨y,u,rfl,e⟩
  ·exact nomatch e
  ·injection e with e1 _
   subst e1;cases v<;>rfl
theorem Du(prog:bK)(w:cB)(i:Int)(t:Tok):(eZ prog w).is (.inl i) (.int i t)=true:=Ia i t
theorem rQ(prog:bK)(w:cB)(x:Str)(t:Tok):(eZ prog w).is (.inr x) (.str x t)=true:=Ib x t
inductive V where
 |non|bl (b:Bool)|int (i:Int)|str (x:Str)|Ub (b:Array UInt8)|flt (b:UInt64)|ref (a:aR)|ty (n:String)
 deriving DecidableEq
variable{vs xs:List V}
def RelV:V->aE->Prop
 | .non,u=>u=iZ
 | .bl b,u=>u=aE.bool b
 | .int i,u=>∃t,u=De i t
 | .str x,u=>∃t,u=Df x t
 | .Ub b,u=>∃t,u=aE.bytes b t
 | .flt b,u=>∃t,u=aE.float b t
 | .ref a,u=>u=dw a
 | .ty n,u=>u=uO n
abbrev dX:List V->List aE->Prop:=Fb RelV
theorem dX.length(r:dX xs us):xs.length=us.length:=uc r
theorem dX.get:∀{xs:List V}{us:List aE}{i:Nat}{x:V},dX xs us->xs[i]?=some x->∃u,us[i]?=some u/\RelV x u
 |_,_,_,_,.nil,e=>by simp at e
 |_,_,0,_,.cons r _,e=>by simp at e;subst e;exact⟨_,rfl,r⟩
 |_,_,i+1,x,.cons _ t,e=>by
  obtain⟨u,h1,h2⟩:=dX.get (i:=i) (x:=x) t (by simpa using e)
  exact⟨u,by simpa using h1,h2⟩
theorem dX.set{x:V}(r:RelV x u):∀{xs:List V}{us:List aE}(i:Nat),dX xs us->dX (xs.set i x) (us.set i u)
 |_,_,_,.nil=>.nil
 |_,_,0,.cons _ t=>.cons r t
 |_,_,i+1,.cons q t=>.cons q (dX.set r i t)
theorem dX.append:∀{xs ys:List V}{us ws:List aE},dX xs us->dX ys ws->dX (xs++ys) (us++ws)
 |_,_,_,_,.nil,s=>s
 |_,_,_,_,.cons r t,s=>.cons r (dX.append t s)
theorem dX.take:∀{xs:List V}{us:List aE}(n:Nat),dX xs us->dX (xs.take n) (us.take n)
 |_,_,0,_=>.nil
 |_,_,_+1,.nil=>.nil
 |_,_,n+1,.cons r t=>.cons r (dX.take n t)
theorem dX.drop:∀{xs:List V}{us:List aE}(n:Nat),dX xs us->dX (xs.drop n) (us.drop n)
 |_,_,0,r=>r
 |_,_,_+1,.nil=>.nil
 |_,_,n+1,.cons _ t=>dX.drop n t
def uj:Option V->Option aE->Prop
 |some v,some u=>RelV v u
 |none,none=>True
 |_,_=>False
def KV{κ:Type}:List (κ×V)->List (κ×aE)->Prop:=Fb λ(p:κ×V)(q:κ×aE)=>p.1=q.1/\RelV p.2 q.2
def kV:Key->V
 | .inl i=>.int i
 | .inr x=>.str x
inductive HO where
 |lst (xs:List V)
 |tup (xs:List V)
 |dK (kvs:List (Key×V))|dT (kvs:List (List Key×V))
 |set (S:Int->Bool) (n:Nat)
 |ins (C dx:aR) (fs:List (Str×V))
 |own (x:aR)
 |xd (fs:List (Str×V))
 |met (f x:aR)
 |rng (lo hi:Int)
 |rA (o:Obj) (u:HO)
 |Rm (ps:Array aE)
 |ext (φ:dg->Prop)
abbrev Hp:=aR->Option HO
variable{H:Hp}{R:V->V->Hp->Prop}
def upd(H:Hp)(a:aR)(o:HO):Hp:=λb=>if b=a then some o else H b
theorem bq{o:HO}:upd H a o a=some o:=by unfold upd;rw[qQ3 rfl]
theorem aP{b: aR}{o:HO}(h:b≠a):upd H a o b=H b:=by unfold upd;rw[qQ2 h]
theorem UJ{b: aR}{o u:HO}(h:H a=some o)(h':H b=some u)(d:o≠u):a≠b:=by
 intro e;subst e;rw[h]at h';exact d (cR h')
theorem bN{b: aR}{o:HO}(h:H a=some o)(h':H b=none):a≠b:=by
 intro e;subst e;rw[h]at h';cases h'
section
variable(P:bK)(w:cB)
def gT(H:Hp)(h:dg)(a:aR):HO->Prop
 | .lst xs=>xs.length<=sizeLine/\∃(its:List aE)(n:Nat),dX xs its/\h.get? a=some { cls:=.type "list",data:=.seq its.toArray n }
 | .tup xs=>xs.length<=sizeLine/\∃its:List aE,dX xs its/\IsTup h a its.toArray
 | .dK kvs=>kvs.length<=sizeLine/\(a==sysModules)=false/\∃vs,KV kvs vs/\h.DictOf (eZ P w) a vs
 | .dT kvs=>kvs.length<=sizeLine/\(a==sysModules)=false/\∃xs:List (List Key×aR×aE),
   Fb (λ(p:List Key×V)(q:List Key×aR×aE)=>p.1=q.1/\H q.2.1=some (.tup (p.1.map kV))/\RelV p.2 q.2.2) kvs xs/\
   ∃o es ep,h.get? a=some o/\o.ExactDict/\o.data=.dict es ep/\es.toList=xs.map (entryOfKey (tupleKind (eZ P w)))/\(xs.map (·.1)).Nodup
 | .set S n=>h.SetOf (intKind P w) a S n
 | .ins C dx fs=>H dx=some (.own a)/\fs.length<=1000/\dx≠a/\h.get? a=some (iE C dx)/\
   ∃mA,h.Ns1 dx mA/\(∀f,uj (fs.lookup f) (mA f))/\Ds mA (fs.map (·.1))
 | .own _=>∃o,h.get? a=some o
 | .xd fs=>∃mA,h.Ns1 a mA/\∀f,uj (fs.lookup f) (mA f)
 | .rng lo hi=>∃t u v,h.get? a=some { cls:=.type "range",data:=.fields #[.int lo t,.int hi u,.int 1 v] }
 | .rA o u=>h.get? a=some o/\gT H h a u
 | .Rm ps=>h.get? a=some { cls:=.none,data:=.fields ps }
 | .met f x=>h.get? a=some (uP (.ref f) (.ref x))
 | .ext φ=>φ h/\(∃o,h.get? a=some o)/\∀h1 h2:dg,φ h1->(∀o,h1.get? a=some o->h2.get? a=some o)->φ h2
def uN(H:Hp)(h:dg):Prop:=∀a o,H a=some o->gT P w H h a o
end
section
variable{P:bK}{w:cB}{H H':Hp}{h h':dg}{a:aR}{o:HO}
theorem gT.lt(x:gT P w H h a o):a<h.objs.size:=by
 cases o with
 |lst xs=>obtain⟨_,_,_,_,e⟩:=x;exact bf e
 |tup xs=>obtain⟨_,_,_,p⟩:=x;exact p.lt
 |dK kvs=>obtain⟨_,_,_,_,o,_,_,e,_⟩:=x;exact bf e
 |dT kvs=>obtain⟨_,_,_,_,o,_,_,e,_⟩:=x;exact bf e
 |set S n=>obtain⟨o,_,_,_,e,_⟩:=x;exact bf e
 |ins C dx fs=>obtain⟨_,_,_,e,_⟩:=x;exact bf e
 |own y=>obtain⟨_,e⟩:=x;exact bf e
 |xd fs=>obtain⟨_,⟨_,_,_,e,_⟩,_⟩:=x;exact bf e
 |rng lo hi=>obtain⟨_,_,_,e⟩:=x;exact bf e
 |rA ob u=>obtain⟨e,_⟩:=x;exact bf e
 |Rm ps=>exact bf (show h.get? a=some _ from x)
 |met f y=>exact bf (show h.get? a=some _ from x)
 |ext φ=>obtain⟨_,⟨_,e⟩,_⟩:=x;exact bf e
theorem Fb.Rn{α β:Type}{F G:α->β->Prop}:∀{l₁:List α}{l₂:List β},Fb F l₁ l₂->(∀a b,F a b->G a b)->Fb G l₁ l₂
 |_,_,.nil,_=>.nil
 |_,_,.cons r t,f=>.cons (f _ _ r) (Fb.Rn t f)
theorem gT.stay(x:gT P w H h a o)(k:∀b u,(b=a\/H b=some (.own a))->h.get? b=some u->h'.get? b=some u)
  (ho:∀b,H b=some (.own a)->H' b=some (.own a))(ht:∀b xs,H b=some (.tup xs)->H' b=some (.tup xs)):gT P w H' h' a o:=by
 induction o with
 |lst xs=>obtain⟨z,its,n,r,e⟩:=x;exact⟨z,its,n,r,k _ _ (.inl rfl) e⟩
 |tup xs=>obtain⟨z,its,r,ob,e,c⟩:=x;exact⟨z,its,r,ob,k _ _ (.inl rfl) e,c⟩
 |dK kvs=>obtain⟨z,y,vs,r,ob,es,ep,e,c⟩:=x;exact⟨z,y,vs,r,ob,es,ep,k _ _ (.inl rfl) e,c⟩
 |dT kvs=>
  obtain⟨z,y,xs,r,ob,es,ep,e,c⟩:=x;exact⟨z,y,xs,Fb.Rn r λp q z=>⟨z.1,ht _ _ z.2.1,z.2.2⟩,ob,es,ep,k _ _ (.inl rfl) e,c⟩
 |set S n=>obtain⟨ob,es,ep,t,e,c⟩:=x;exact⟨ob,es,ep,t,k _ _ (.inl rfl) e,c⟩
 |ins C dx fs=>
  obtain⟨d,z,ne,e,mA,⟨od,es,ep,e2,c⟩,r⟩:=x;exact⟨ho _ d,z,ne,k _ _ (.inl rfl) e,mA,⟨od,es,ep,k _ _ (.inr d) e2,c⟩,r⟩
 |own y=>obtain⟨ob,e⟩:=x;exact⟨ob,k _ _ (.inl rfl) e⟩
 |xd fs=>obtain⟨mA,⟨od,es,ep,e,c⟩,r⟩:=x;exact⟨mA,⟨od,es,ep,k _ _ (.inl rfl) e,c⟩,r⟩
 |rng lo hi=>obtain⟨t,u,v,e⟩:=x;exact⟨t,u,v,k _ _ (.inl rfl) e⟩
 |rA ob u ih=>obtain⟨e,q⟩:=x;exact⟨k _ _ (.inl rfl) e,ih q⟩
 |Rm ps=>
  have e:h.get? a=some { cls:=.none,data:=.fields ps }:=x;show h'.get? a=some { cls:=.none,data:=.fields ps };exact k a _ (.inl rfl) e
 |met f y=>
  have e:h.get? a=some (uP (.ref f) (.ref y)):=x;show h'.get? a=some (uP (.ref f) (.ref y));exact k a _ (.inl rfl) e
 |ext φ=>obtain⟨p,⟨o,e⟩,st⟩:=x;exact⟨st _ _ p λo q=>k _ _ (.inl rfl) q,⟨o,k _ _ (.inl rfl) e⟩,st⟩
theorem uN.lt(x:uN P w H h)(e:H a=some o):a<h.objs.size:=(x a o e).lt
theorem uN.fresh(x:uN P w H h)(e:h.objs.size<=a):H a=none:=by
 cases q:H a with
 |none=>rfl
 |some u=>exact qQ7 (bY (x.lt q) e) (j5 _)
theorem uN.kept(x:uN P w H h)(k:∀b u,h.get? b=some u->h'.get? b=some u):uN P w H h':=λa o e=>
 (x a o e).stay (λb u _ q=>k b u q) (λ_ q=>q) λ_ _ q=>q
theorem uN.laid(x:uN P w H h)(k:∀b u,h.get? b=some u->h'.get? b=some u)(hp:h.objs.size<=a)(new:gT P w (upd H a o) h' a o):uN P w (upd H a o) h':=λb u e=>by
 have hn:=x.fresh hp;by_cases hb:b=a
 ·subst hb;rw[bq]at e;cases e;exact new
 ·rw[aP hb]at e
  exact(x b u e).stay (λc v _ q=>k c v q) (λc q=>by rw[aP (bN q hn)];exact q) λc xs q=>by rw[aP (bN q hn)];exact q
end
def Rd(H:Hp)(a:aR)(u:HO):Prop:=H a=some u\/∃o,H a=some (.rA o u)
theorem Rd.ok{u:HO}(r:Rd H a u)(x:uN P w H h):gT P w H h a u:=by
 rcases r with r|⟨o,r⟩
 ·exact x a u r
 ·obtain⟨_,q⟩:=x a _ r
  exact q
def UK:Option HO->Prop
 |some (.lst _)=>True
 |some (.dK _)=>True
 |some (.dT _)=>True
 |some (.set _ _)=>True
 |some (.ins _ _ _)=>True
 |some (.ext _)=>True
 |_=>False
section
variable{P:bK}{w:cB}{H:Hp}{h h':dg}{x e:aR}{o':HO}
theorem uN.write(ok:uN P w H h)(mu:UK (H x))(he:e=x\/H e=some (.own x))(k:∀b u,b≠e->h.get? b=some u->h'.get? b=some u)(P8:∃u,h'.get? e=some u)
  (new:gT P w (upd H x o') h' x o'):uN P w (upd H x o') h':=λb u q=>by
 have UL:∀c y,H c=some (.own y)->c≠x:=λc y r z=>by subst z;rw[r]at mu;exact mu
 have YD:∀c xs,H c=some (.tup xs)->c≠x:=λc xs r z=>by subst z;rw[r]at mu;exact mu
 by_cases hb:b=x
 ·subst hb;rw[bq]at q;cases q;exact new
 ·rw[aP hb]at q
  by_cases Ro:b=e
  ·have q':H b=some (.own x):=by
    rcases he with z|z
    ·exact qQ7 (Ro.trans z) hb
    ·rw[Ro];exact z
   rw[q]at q';cases q';obtain⟨v,hv⟩:=P8;exact⟨v,by rw[Ro];exact hv⟩
  ·refine(ok b u q).stay (λc v hc r=>k c v ?_ r) (λc r=>by rw[aP (UL c b r)];exact r) λc xs r=>by rw[aP (YD c xs r)];exact r
   rcases hc with rfl|hc
   ·exact Ro
   ·rintro rfl
    rcases he with z|z
    ·exact UL c b hc z
    ·rw[hc]at z;cases z;exact hb rfl
end
structure Un(fs ex:List aR)(H H':Hp)(h h':dg):Prop where
 keep:∀b o,h.get? b=some o->H b=none->b∉fs->b∉ex->h'.get? b=some o
 slot:∀b o,h.get? b=some o->H b=none->b∈fs->b∉ex->∃sl,h'.get? b=some { o with slots:=sl }
 free:∀b o,h.get? b=some o->H b=none->b∉ex->H' b=none
 there:∀b o,h.get? b=some o->b∉ex->∃o',h'.get? b=some o'
 tups:∀b xs,H b=some (.tup xs)->H' b=some (.tup xs)
 vV:∀b o u,H b=some (.rA o u)->H' b=some (.rA o u)
 yn:∀b ps,H b=some (.Rm ps)->∃more,H' b=some (.Rm (ps++more))
section
variable{fs fs' ex ex':List aR}{H H1 H2:Hp}{h h1 h2 h':dg}{a x e:aR}{o:HO}
theorem Un.any(u:Un fs ex H H1 h h1){b:aR}{ob:Obj}(q:h.get? b=some ob)(n:H b=none)(hx:b∉ex):∃sl,h1.get? b=some { ob with slots:=sl }:=by
 by_cases hb:b∈fs
 ·exact u.slot b ob q n hb hx
 ·exact⟨ob.slots,u.keep b ob q n hb hx⟩
theorem Un.kept(k:∀b u,h.get? b=some u->h'.get? b=some u):Un fs ex H H h h':=
 ⟨λb ob q _ _ _=>k b ob q,λb ob q _ _ _=>⟨ob.slots,k b ob q⟩,λ_ _ _ n _=>n,λb ob q _=>⟨ob,k b ob q⟩,λ_ _ q=>q,λ_ _ _ q=>q,λ_ ps q=>⟨#[],by rw[q];simp⟩⟩
theorem Un.refl:Un fs ex H H h h:=Un.kept λ_ _ q=>q
theorem Un.laid(k:∀b u,h.get? b=some u->h'.get? b=some u)(hp:h.objs.size<=a)(hn:H a=none):Un fs ex H (upd H a o) h h' where
 keep:=λb u q _ _ _=>k b u q
 slot:=λb u q _ _ _=>⟨u.slots,k b u q⟩
 free:=λb u q n _=>by rw[aP (a9 (bY (bf q) hp))];exact n
 there:=λb u q _=>⟨u,k b u q⟩
 tups:=λb xs q=>by rw[aP (bN q hn)];exact q
 vV:=λb u xs q=>by rw[aP (bN q hn)];exact q
 yn:=λb ps q=>⟨#[],by rw[aP (bN q hn),q];simp⟩
theorem Un.write(mu:UK (H x))(he:e=x\/H e=some (.own x))(k:∀b u,b≠e->h.get? b=some u->h'.get? b=some u)(P8:∃u,h'.get? e=some u):Un fs ex H (upd H x o) h h':=by
 have hx:∀b,H b=none->b≠x:=λb n z=>by subst z;rw[n]at mu;exact mu
 have hb:∀b,H b=none->b≠e:=λb n z=>by
  subst z;rcases he with r|r
  ·exact hx b n r
  ·rw[n]at r;cases r
 have hm:∀b u,H b=some u->¬UK (some u)->b≠x:=λb u q nm z=>by subst z;rw[q]at mu;exact nm mu
 refine⟨λb u q n _ _=>k b u (hb b n) q,λb u q n _ _=>⟨u.slots,k b u (hb b n) q⟩,λb u q n _=>by rw[aP (hx b n)];exact n,λb u q _=>?_,
  λb xs q=>by rw[aP (hm b _ q λz=>z)];exact q,λb u xs q=>by rw[aP (hm b _ q λz=>z)];exact q,λb ps q=>⟨#[],by rw[aP (hm b _ q λz=>z),q];simp⟩⟩
 by_cases Ro:b=e
 ·subst Ro;exact P8
 ·exact⟨u,k b u Ro q⟩
end
def XT(h:dg)(H:Hp):List aR:=(aZ h.objs.size).filter λa=>(H a).isSome
def BL(h:dg)(H:Hp):dg:=PySem.W.hideAll h (XT h H)
theorem Ie(h:dg)(H:Hp):(BL h H).objs.size=h.objs.size:=PySem.W.hideAll_size _ _
theorem J3{b:aR}(e:h.get? b=some o)(n:H b=none):(BL h H).get? b=some o:=
 PySem.W.hideAll_get _ e λhm=>by
  have q:(H b).isSome=true:=(iQ.mp hm).2;rw[n]at q;simp at q
theorem Nf{b:aR}(e:(BL h H).get? b=some o):h.get? b=some o/\H b=none:=by
 have e':h.get? b=some o:=PySem.W.of_hideAll (XT h H) e;refine⟨e',?_⟩
 cases q:H b with
 |none=>rfl
 |some x=>
  have hm:b∈XT h H:=iQ.mpr ⟨cL.mpr (bf e'),by simp[q]⟩
  have z:(BL h H).get? b=none:=PySem.W.hideAll_none (XT h H) hm;rw[z]at e;cases e
structure Mod(K:au)(mg:Str->Option aE)(base:dg):Prop where
 UM:K.In base
 glob:base.Ns mainGlobals mg
 blt:∃mb,base.Ns builtinsNs mb/\∀x:Str,x≠"__name__"->mb x=bootBuiltins x
 nolimit:base.NoLimit
structure Cx where
 prog:bK
 w:cB
 K:au
 mg:Str->Option aE
 base:dg
 A:dQ
 N:List Str
 s₀:aM
 H₀:Hp
 env:Env
 outer:List Env
 stack:List Env
 ex:List aR
 fn:Str->Bool
 calm:Bool
 pn:List (aR×Obj)
 xe:aE->aM->Prop
variable{X:Cx}
def JQ(l:List Env):List aR:=l.filterMap (·.frame)
abbrev Cx.fs(X:Cx):List aR:=JQ X.outer
def AX(sc:nz)(x:Str):Prop:=sc.names.lookup x=some .local\/sc.names.lookup x=some .cell\/sc.names.lookup x=some .free
def Loc(sc:nz)(x:Str):Prop:=sc.names.lookup x=some .local\/sc.names.lookup x=some .cell
def Look(env:Env)(h:dg)(m:Str->Option aE)(x:Str)(u:aE):Prop:=
 (env.kindOf x=some .local/\m x=some u)\/((env.kindOf x=some .cell\/env.kindOf x=some .free)/\∃c,env.cells.lookup x=some c/\h.IsCell c (some u))
structure Cx.Ok(X:Cx):Prop where
 mod:Mod X.K X.mg X.base
 kind:X.env.scope.kind=.function
 glob:X.env.globals=mainGlobals
 blt:X.env.builtins=builtinsNs
 above:X.s₀.heap.objs.size<=X.env.locals
 inj:∀x y c,X.env.cells.lookup x=some c->X.env.cells.lookup y=some c->x=y
 has:∀x,(X.env.kindOf x=some .cell\/X.env.kindOf x=some .free)->∃c,X.env.cells.lookup x=some c
 cab:∀x c,X.fn x=true->X.env.cells.lookup x=some c->X.s₀.heap.objs.size<=c
 hd:X.calm=true->X.A.handled=none
 frames:X.A.frames=some X.stack
 stk:X.stack=X.outer\/(X.stack=X.env::X.outer/\X.env.frame=some X.env.locals)
 exf:∀b∈X.ex,b≠X.env.locals/\∀x c,X.env.cells.lookup x=some c->c≠b
 bs:∀b o,X.base.get? b=some o->X.s₀.heap.get? b=some o/\X.H₀ b=none
 P9:X.base.objs.size<=X.s₀.heap.objs.size
 J4:∀b o,X.base.get? b=some o->b∉X.ex
 Nh:∀b∈X.ex,b∉X.fs
 xG:X.s₀.heap.FunFrames X.base X.outer
 Rp:∀b∈X.fs,X.H₀ b=none
structure Inv(X:Cx)(pins:List (aR×Obj))(σ:List (Option V))(H:Hp)(s:aM):Prop where
 ok:X.Ok
 os:s.os=X.s₀.os
 bare:ud s.gens
 base:Un X.fs X.ex X.H₀ H X.s₀.heap s.heap
 loc:∃m,s.heap.Ns X.env.locals m/\∀(i:Nat)(x:Str)(v:V),X.N[i]?=some x->σ[i]?=some (some v)->AX X.env.scope x->∃u,RelV v u/\Look X.env s.heap m x u
 cell:∀x c,X.env.cells.lookup x=some c->∃v,s.heap.IsCell c v
 free:H X.env.locals=none
 pF:∀x c,X.env.cells.lookup x=some c->H c=none
 pin:∀p∈X.pn++pins,s.heap.get? p.1=some p.2/\H p.1=none/\p.1≠X.env.locals/\p.1∉X.fs/\∀v,p.2.data≠.cell v
 hok:uN X.prog X.w H s.heap
 len:σ.length=X.N.length
section
variable{X:Cx}{pins:List (aR×Obj)}{σ:List (Option V)}{H H':Hp}{s:aM}{h':dg}
theorem Cx.Ok.YF(ok:X.Ok){b:aR}(e:X.base.get? b=some o):b∉X.fs:=λhb=>by
 have:=(ok.xG.mem hb).1;rw[e]at this;cases this
theorem Inv.bs(I:Inv X pins σ H s):∀b o,X.base.get? b=some o->s.heap.get? b=some o/\H b=none:=λb o e=>
 ⟨I.base.keep b o (I.ok.bs b o e).1 (I.ok.bs b o e).2 (I.ok.YF e) (I.ok.J4 b o e),I.base.free b o (I.ok.bs b o e).1 (I.ok.bs b o e).2 (I.ok.J4 b o e)⟩
theorem Inv.bk(I:Inv X pins σ H s):∀b o,X.base.get? b=some o->s.heap.get? b=some o:=λb o e=>(I.bs b o e).1
theorem Inv.mod(I:Inv X pins σ H s):Mod X.K X.mg X.base:=I.ok.mod
theorem Inv.BM(I:Inv X pins σ H s):X.K.In s.heap:=I.ok.mod.UM.keeps I.bk
theorem Inv.lt(I:Inv X pins σ H s):X.env.locals<s.heap.objs.size:=let⟨_,hn,_⟩:=I.loc;hn.lt
theorem Inv.sz(I:Inv X pins σ H s):X.s₀.heap.objs.size<=s.heap.objs.size:=cp I.ok.above (rD I.lt)
theorem Inv.YG(I:Inv X pins σ H s)(h:s.heap.objs.size<=a):a∉X.fs:=λhb=>by
 obtain⟨_,o,ho,_⟩:=I.ok.xG.mem hb;exact qQ7 (bY (bf ho) (cp I.sz h)) (j5 _)
theorem Inv.Rq(I:Inv X pins σ H s):∀x c,X.env.cells.lookup x=some c->c≠X.env.locals:=λx c e z=>by
 obtain⟨v,o,ho,hd⟩:=I.cell x c e;obtain⟨m,⟨o',es,ep,BO,Rr,_⟩,_⟩:=I.loc;rw[z,BO]at ho;cases ho;rw[Rr]at hd;cases hd
theorem Inv.xG(I:Inv X pins σ H s):s.heap.FunFrames X.base X.outer:=by
 have all:∀(l:List Env),(∀b∈JQ l,b∈X.fs)->X.s₀.heap.FunFrames X.base l->s.heap.FunFrames X.base l:=by
  intro l
  induction l with
  |nil=>intro _ _;trivial
  |cons env r ih=>
   intro hs hl;obtain⟨hk,⟨L,o,hf,hn,ho,hd⟩,hr⟩:=hl;have hL:L∈X.fs:=hs L (by unfold JQ;rw[nI,hf];exact aL)
   obtain⟨sl,e⟩:=I.base.slot L o ho (I.ok.Rp L hL) hL λz=>I.ok.Nh L z hL
   exact⟨hk,⟨L,_,hf,hn,e,hd⟩,ih (λb hb=>hs b (by unfold JQ;rw[nI,hf];exact aT _ hb)) hr⟩
 exact all X.outer (λ_ hb=>hb) I.ok.xG
theorem Inv.stack(I:Inv X pins σ H s):s.heap.FunFrames X.base X.stack:=by
 rcases I.ok.stk with e|⟨e,hf⟩
 ·rw[e];exact I.xG
 ·rw[e]
  obtain⟨m,hn,_⟩:=I.loc;refine .cons (by rw[I.ok.kind];decide) hf hn ?_ I.xG
  exact dg.get?_none_of_le (cp I.ok.P9 I.ok.above)
theorem Inv.BP(I:Inv X pins σ H s):∀b∈JQ X.stack,b∈X.env.locals::X.fs:=λb hb=>by
 rcases I.ok.stk with e|⟨e,hf⟩
 ·rw[e]at hb;exact aT _ hb
 ·rw[e]at hb
  unfold JQ at hb;rw[nI,hf]at hb;exact hb
theorem Inv.GK(I:Inv X pins σ H s):∀b∈JQ X.stack,H b=none:=λb hb=>by
 rcases aG.mp (I.BP b hb)with e|hb
 ·rw[e];exact I.free
 ·obtain⟨_,o,ho,_⟩:=I.ok.xG.mem hb
  exact I.base.free b o ho (I.ok.Rp b hb) λz=>I.ok.Nh b z hb
theorem Inv.step(I:Inv X pins σ H s)
  (Fh:∀b∈ch,(b∈X.ex\/X.s₀.heap.objs.size<=b)/\b≠X.env.locals/\(∀x c,X.env.cells.lookup x=some c->c≠b)/\∀p∈X.pn++pins,p.1≠b)
  (keep:∀b o,b≠X.env.locals->b∉X.fs->b∉ch->s.heap.get? b=some o->H b=none->h'.get? b=some o)
  (slot:∀b o,b≠X.env.locals->b∈X.fs->b∉ch->s.heap.get? b=some o->H b=none->∃sl,h'.get? b=some { o with slots:=sl })(free:∀b o,b∉ch->s.heap.get? b=some o->H b=none->H' b=none)
  (there:∀b o,b∉ch->s.heap.get? b=some o->∃o',h'.get? b=some o')
  (tups:∀b xs,H b=some (.tup xs)->H' b=some (.tup xs))(vV:∀b o u,H b=some (.rA o u)->H' b=some (.rA o u))(yn:∀b ps,H b=some (.Rm ps)->∃more,H' b=some (.Rm (ps++more)))
  (ns:∀m,s.heap.Ns X.env.locals m->h'.Ns X.env.locals m)(hok:uN X.prog X.w H' h')(hg:ud g'):
  Inv X pins σ H' { s with heap:=h',gens:=g',drawn:=d',toks:=t' }:=by
 have neL:∀b o,X.s₀.heap.get? b=some o->b≠X.env.locals:=λb o e=>a9 (bY (bf e) I.ok.above)
 have Uc:∀b o,X.s₀.heap.get? b=some o->b∉X.ex->b∉ch:=λb o e hx hb=>by
  rcases(Fh b hb).1 with z|z
  ·exact hx z
  ·exact qQ7 (bY (bf e) z) (j5 _)
 have cellK:∀x c,X.env.cells.lookup x=some c->∀v,s.heap.IsCell c v->h'.IsCell c v:=λx c e v ⟨o,ho,hd⟩=>by
  have UN:c∉ch:=λz=>(Fh c z).2.2.1 x c e rfl
  by_cases hc:c∈X.fs
  ·obtain⟨sl,q⟩:=slot c o (I.Rq x c e) hc UN ho (I.pF x c e)
   exact⟨_,q,hd⟩
  ·exact⟨o,keep c o (I.Rq x c e) hc UN ho (I.pF x c e),hd⟩
 refine⟨I.ok,I.os,hg,⟨λb o e n hb hx=>?_,λb o e n hb hx=>?_,λb o e n hx=>?_,λb o e hx=>?_,λb xs e=>tups b xs (I.base.tups b xs e),λb o xs e=>vV b o xs (I.base.vV b o xs e),λb ps e=>?_⟩,?_,λx c e=>?_,?_,λx c e=>?_,λp hp=>?_,hok,I.len⟩
 ·exact keep b o (neL b o e) hb (Uc b o e hx) (I.base.keep b o e n hb hx) (I.base.free b o e n hx)
 ·obtain⟨sl,e1⟩:=I.base.slot b o e n hb hx
  obtain⟨UO,e2⟩:=slot b _ (neL b o e) hb (Uc b o e hx) e1 (I.base.free b o e n hx);exact⟨UO,e2⟩
 ·obtain⟨o',e1⟩:=I.base.there b o e hx
  exact free b o' (Uc b o e hx) e1 (I.base.free b o e n hx)
 ·obtain⟨o',e1⟩:=I.base.there b o e hx
  exact there b o' (Uc b o e hx) e1
 ·obtain⟨m1,e1⟩:=I.base.yn b ps e
  obtain⟨m2,e2⟩:=yn b _ e1;exact⟨m1++m2,by rw[e2,Array.append_assoc]⟩
 ·obtain⟨m,hn,hl⟩:=I.loc
  refine⟨m,ns m hn,λi x v e1 e2 e3=>?_⟩
  obtain⟨u,r,l⟩:=hl i x v e1 e2 e3;refine⟨u,r,?_⟩
  rcases l with l|⟨k,c,e,z⟩
  ·exact .inl l
  ·exact .inr ⟨k,c,e,cellK x c e _ z⟩
 ·obtain⟨v,z⟩:=I.cell x c e
  exact⟨v,cellK x c e v z⟩
 ·obtain⟨m,⟨o,_,_,ho,_⟩,_⟩:=I.loc
  exact free _ o (λz=>(Fh _ z).2.1 rfl) ho I.free
 ·obtain⟨v,o,ho,hd⟩:=I.cell x c e
  exact free c o (λz=>(Fh c z).2.2.1 x c e rfl) ho (I.pF x c e)
 ·obtain⟨e,n,ne,nf,d⟩:=I.pin p hp
  have UN:p.1∉ch:=λz=>(Fh p.1 z).2.2.2 p hp rfl
  exact⟨keep p.1 p.2 ne nf UN e n,free p.1 p.2 UN e n,ne,nf,d⟩
theorem Inv.un(I:Inv X pins σ H s)(u:Un X.fs [] H H' s.heap h')(hok:uN X.prog X.w H' h'):Inv X pins σ H' { s with heap:=h',toks:=t' }:=by
 obtain⟨m,⟨o,es,ep,ho,r⟩,_⟩:=id I.loc;obtain⟨sl,hL⟩:=u.any ho I.free (by simp)
 exact I.step (g':=s.gens) (d':=s.drawn) (ch:=[]) (λ_ z=>nomatch z) (λb o _ hb _ e n=>u.keep b o e n hb (by simp)) (λb o _ hb _ e n=>u.slot b o e n hb (by simp)) (λb o _ e n=>u.free b o e n (by simp)) (λb o _ e=>u.there b o e (by simp)) u.tups u.vV u.yn (λm' hm=>by
  obtain⟨o',UQ,UT,BO,r'⟩:=hm;rw[ho]at BO;cases BO;exact⟨_,UQ,UT,hL,r'⟩) hok I.bare
theorem Inv.call(I:Inv X pins σ H s)(u:Un (JQ X.stack) ch H H' s.heap h')(hok:uN X.prog X.w H' h')(hg:ud g')
  (Fh:∀b∈ch,(b∈X.ex\/X.s₀.heap.objs.size<=b)/\b≠X.env.locals/\(∀x c,X.env.cells.lookup x=some c->c≠b)/\∀p∈X.pn++pins,p.1≠b):
  Inv X pins σ H' { s with heap:=h',gens:=g',drawn:=d',toks:=t' }:=by
 obtain⟨m,⟨o,es,ep,ho,r⟩,_⟩:=id I.loc;obtain⟨sl,hL⟩:=u.any ho I.free λz=>(Fh _ z).2.1 rfl
 exact I.step (ch:=ch) Fh (λb o hL hb hc e n=>u.keep b o e n (λz=>(aG.mp (I.BP b z)).elim hL hb) hc) (λb o _ _ hc e n=>u.any e n hc) (λb o hc e n=>u.free b o e n hc) (λb o hc e=>u.there b o e hc) u.tups u.vV u.yn (λm' hm=>by
  obtain⟨o',UQ,UT,BO,r'⟩:=hm;rw[ho]at BO;cases BO;exact⟨_,UQ,UT,hL,r'⟩) hok hg
theorem Inv.turned(I:Inv X pins σ H s)(k:∀b o,b≠it->s.heap.get? b=some o->h'.get? b=some o)(hn:H it=none)(hL:it≠X.env.locals)
  (h1:it∈X.ex\/X.s₀.heap.objs.size<=it)(h2:∀x c,X.env.cells.lookup x=some c->c≠it)(h3:∀p∈X.pn++pins,p.1≠it):Inv X pins σ H { s with heap:=h',toks:=t' }:=by
 have UU:∀b u,H b=some u->b≠it:=λb u e z=>by rw[z,hn]at e;cases e
 refine I.step (g':=s.gens) (d':=s.drawn) (ch:=[it]) (λb hb=>?_) (λb o _ _ hc e _=>k b o (λz=>hc (by simp[z])) e) (λb o _ _ hc e _=>⟨o.slots,k b o (λz=>hc (by simp[z])) e⟩) (λ_ _ _ _ n=>n)
  (λb o hc e=>⟨o,k b o (λz=>hc (by simp[z])) e⟩) (λ_ _ e=>e) (λ_ _ _ e=>e) (λb ps e=>⟨#[],by rw[e];simp⟩) (λm hm=>?_) (λb u e=>?_) I.bare
 ·have e:b=it:=by simpa using hb
  subst e;exact⟨h1,hL,h2,h3⟩
 ·obtain⟨o,es,ep,ho,r⟩:=hm
  exact⟨o,es,ep,k _ o (bV hL) ho,r⟩
 ·refine(I.hok b u e).stay (λc v hc q=>k c v ?_ q) (λ_ q=>q) λ_ _ q=>q
  rcases hc with z|z
  ·rw[z];exact UU b u e
  ·exact UU c _ z
theorem Inv.tok(I:Inv X pins σ H s)(t:Nat):Inv X pins σ H { s with toks:=t }:=I.un (h':=s.heap) (t':=t) Un.refl I.hok
theorem Inv.kept(I:Inv X pins σ H s)(k:∀b u,s.heap.get? b=some u->h'.get? b=some u):Inv X pins σ H { s with heap:=h',toks:=t' }:=I.un (Un.kept k) (I.hok.kept k)
theorem Inv.laid{o:HO}(I:Inv X pins σ H s)(k:∀b u,s.heap.get? b=some u->h'.get? b=some u)(hp:s.heap.objs.size<=a)(new:gT X.prog X.w (upd H a o) h' a o):
  Inv X pins σ (upd H a o) { s with heap:=h',toks:=t' }:=I.un (Un.laid k hp (I.hok.fresh hp)) (I.hok.laid k hp new)
theorem Inv.write{x e:aR}{o:HO}(I:Inv X pins σ H s)(mu:UK (H x))(he:e=x\/H e=some (.own x))(k:∀b u,b≠e->s.heap.get? b=some u->h'.get? b=some u)(P8:∃u,h'.get? e=some u)
  (new:gT X.prog X.w (upd H x o) h' x o):Inv X pins σ (upd H x o) { s with heap:=h',toks:=t' }:=I.un (Un.write mu he k P8) (I.hok.write mu he k P8 new)
theorem Inv.GL{P_:List (aR×Obj)}(I:Inv X pins σ H s)(h:∀p∈P_,s.heap.get? p.1=some p.2/\H p.1=none/\p.1≠X.env.locals/\p.1∉X.fs/\∀v,p.2.data≠.cell v):Inv X P_ σ H s:=
 ⟨I.ok,I.os,I.bare,I.base,I.loc,I.cell,I.free,I.pF,λp hp=>(bS.mp hp).elim (λz=>I.pin p (dC _ z)) (h p),I.hok,I.len⟩
theorem Dv(hN:N.Nodup){i j:Nat}{x:Str}(a:N[i]?=some x)(b:N[j]?=some x):i=j:=by
 obtain⟨h1,e1⟩:=aO.mp a;obtain⟨h2,e2⟩:=aO.mp b;exact(List.getElem_inj hN).mp (e1.trans e2.symm)
theorem AY{i:Nat}{x:Str}{v:V}{Q:Unit->aM->Prop}(I:Inv X pins σ H s)(hN:X.N.Nodup)(hi:X.N[i]?=some x)(hx:Loc X.env.scope x)(r:RelV v u)
  (h:∀s',Inv X pins (σ.set i (some v)) H s'->(∃a,iU a s.heap s'.heap/\(a=X.env.locals\/X.env.cells.lookup x=some a))->Q () s')(hf:X.fn x=true\/X.env.scope.names.lookup x=some .local:=by first|exact .inl rfl|exact .inr rfl|assumption):wpAny M A (storeName X.env x u) Q E s:=by
 obtain⟨m,hn,hl⟩:=id I.loc;have YH:(X.env.scope.kind == .class||(X.env.scope.kind == .module&&X.env.locals != X.env.globals))=false:=by rw[I.ok.kind];rfl
 have hiσ:i < σ.length:=by rw[I.len];exact(aO.mp hi).1
 have Rq:=I.Rq;have tracked:∀{a:aR}{h':dg},(∃o,s.heap.get? a=some o/\H a=none)->iU a s.heap h'->uN X.prog X.w H h':=λ{a h'}ha hs b ob e=>by
  obtain⟨_,_,P'⟩:=ha;refine(I.hok b ob e).stay (λc w' hc q=>(hs.2 c ?_).trans q) (λ_ q=>q) λ_ _ q=>q
  rintro rfl
  rcases hc with rfl|hc
  ·rw[P']at e;cases e
  ·rw[P']at hc;cases hc
 rcases hx with hk|hk
 ·refine wpAny_storeName_local hk hn (λh' YJ hs=>?_) YH
  obtain⟨oL,_,_,hoL,_⟩:=id hn;refine h _ ⟨I.ok,I.os,I.bare,⟨λb o e n hb hx=>?_,λb o e n hb hx=>?_,I.base.free,λb o e hx=>?_,I.base.tups,I.base.vV,I.base.yn⟩,⟨_,YJ,λj y v' e1 e2 e3=>?_⟩,λy c e=>?_,I.free,I.pF,λp hp=>?_,tracked ⟨oL,hoL,I.free⟩ hs,by simpa using I.len⟩ ⟨_,hs,.inl rfl⟩
  ·exact(hs.2 b (a9 (bY (bf e) I.ok.above))).trans (I.base.keep b o e n hb hx)
  ·obtain⟨sl,e1⟩:=I.base.slot b o e n hb hx
   exact⟨sl,(hs.2 b (a9 (bY (bf e) I.ok.above))).trans e1⟩
  ·obtain⟨o',e1⟩:=I.base.there b o e hx
   exact⟨o',(hs.2 b (a9 (bY (bf e) I.ok.above))).trans e1⟩
  ·by_cases hj:j=i
   ·subst hj
    rw[hi]at e1;cases e1;rw[bx hiσ]at e2;cases e2;exact⟨u,r,.inl ⟨hk,by simp⟩⟩
   ·rw[aX (bV hj)]at e2
    obtain⟨u',r',q⟩:=hl j y v' e1 e2 e3;refine⟨u',r',?_⟩
    rcases q with⟨k,e⟩|⟨k,c,e,z⟩
    ·refine .inl ⟨k,?_⟩
     have:y≠x:=λe=>hj (Dv hN e1 (e▸hi))
     simp[this,e]
    ·exact .inr ⟨k,c,e,z.sameBut hs (Rq y c e)⟩
  ·obtain⟨w',z⟩:=I.cell y c e
   exact⟨w',z.sameBut hs (Rq y c e)⟩
  ·obtain⟨e,n,ne,nf,d⟩:=I.pin p hp
   exact⟨(hs.2 p.1 ne).trans e,n,ne,nf,d⟩
 ·have YK:X.fn x=true:=by
   rcases hf with z|z
   ·exact z
   ·rw[z]at hk;cases hk
  obtain⟨c,hc⟩:=I.ok.has x (.inl hk);obtain⟨w',z⟩:=I.cell x c hc;refine wpAny_storeName_cell I.ok.kind hk hc z (λh' Ud hs=>?_)
  obtain⟨oc,hoc,YL⟩:=id z;refine h { s with heap:=h' } ⟨I.ok,I.os,I.bare,⟨λb o e n hb hx=>?_,λb o e n hb hx=>?_,I.base.free,λb o e hx=>?_,I.base.tups,I.base.vV,I.base.yn⟩,⟨m,hn.sameBut hs (bV (Rq x c hc)),λj y v' e1 e2 e3=>?_⟩,λy c' e=>?_,I.free,I.pF,λp hp=>?_,tracked ⟨oc,hoc,I.pF x c hc⟩ hs,by simpa using I.len⟩ ⟨c,hs,.inr hc⟩
  ·exact(hs.2 b (a9 (bY (bf e) (I.ok.cab x c YK hc)))).trans (I.base.keep b o e n hb hx)
  ·obtain⟨sl,e1⟩:=I.base.slot b o e n hb hx
   exact⟨sl,(hs.2 b (a9 (bY (bf e) (I.ok.cab x c YK hc)))).trans e1⟩
  ·obtain⟨o',e1⟩:=I.base.there b o e hx
   exact⟨o',(hs.2 b (a9 (bY (bf e) (I.ok.cab x c YK hc)))).trans e1⟩
  ·by_cases hj:j=i
   ·subst hj
    rw[hi]at e1;cases e1;rw[bx hiσ]at e2;cases e2;exact⟨u,r,.inr ⟨.inl hk,c,hc,Ud⟩⟩
   ·rw[aX (bV hj)]at e2
    obtain⟨u',r',q⟩:=hl j y v' e1 e2 e3;refine⟨u',r',?_⟩
    rcases q with q|⟨k,c',e,z'⟩
    ·exact .inl q
    ·refine .inr ⟨k,c',e,z'.sameBut hs ?_⟩
     rintro rfl
     exact hj (Dv hN e1 (I.ok.inj _ _ _ e hc▸hi))
  ·by_cases XU:c'=c
   ·subst XU;exact⟨_,Ud⟩
   ·obtain⟨w2,z2⟩:=I.cell y c' e
    exact⟨w2,z2.sameBut hs XU⟩
  ·obtain⟨e,n,ne,nf,d⟩:=I.pin p hp
   refine⟨(hs.2 p.1 ?_).trans e,n,ne,nf,d⟩
   intro q;rw[q,hoc]at e;have q':oc=p.2:=cR e;exact d w' (by rw[<-q'];exact YL)
theorem nP{i:Nat}{x:Str}{v:V}{Q:Unit->aM->Prop}(I:Inv X pins σ H s)(hN:X.N.Nodup)(hi:X.N[i]?=some x)(hx:Loc X.env.scope x)(r:RelV v u)
  (h:∀s',Inv X pins (σ.set i (some v)) H s'->Q () s')(hf:X.fn x=true\/X.env.scope.names.lookup x=some .local:=by first|exact .inl rfl|exact .inr rfl|assumption):wpAny M A (storeName X.env x u) Q E s:=
 AY I hN hi hx r (λs' I' _=>h s' I') hf
theorem Inv.call'(I:Inv X pins σ H s)(ho:s'.os=s.os)(u:Un (JQ X.stack) ch H H' s.heap s'.heap)(hok:uN X.prog X.w H' s'.heap)(hg:ud s'.gens)
  (Fh:∀b∈ch,(b∈X.ex\/X.s₀.heap.objs.size<=b)/\b≠X.env.locals/\(∀x c,X.env.cells.lookup x=some c->c≠b)/\∀p∈X.pn++pins,p.1≠b):Inv X pins σ H' s':=by
 obtain⟨h',g',d',t',o'⟩:=s';have e:o'=s.os:=ho;subst e;exact I.call (g':=g') (t':=t') (d':=d') u hok hg Fh
end
abbrev XK:=aE->Option aR->Hp->Prop
abbrev St:=List (Option V)
variable{σ:St}
abbrev VK:=V->Hp->Prop
abbrev TE:=St->Hp->VK->Prop
variable{t:TE}
abbrev TT:=St->Hp->(Bool->Hp->Prop)->Prop
abbrev TA:=St->Hp->(List V->Hp->Prop)->Prop
structure Ends where
 nx:St->Hp->Prop
 rt:VK
 bk:St->Hp->Prop:=λ_ _=>False
 ct:St->Hp->Prop:=λ_ _=>False
abbrev TS:=Ends->St->Hp->Prop
def EP(X:Cx)(pins:List (aR×Obj))(σ:St)(Q:VK)(u:aE)(s':aM):Prop:=∃v H',Inv X pins σ H' s'/\RelV v u/\Q v H'
def TP(X:Cx)(pins:List (aR×Obj))(σ:St)(Q:Bool->Hp->Prop)(b:Bool)(s':aM):Prop:=∃H',Inv X pins σ H' s'/\Q b H'
def AP(X:Cx)(pins:List (aR×Obj))(σ:St)(Q:List V->Hp->Prop)(us:List aE)(s':aM):Prop:=∃vs H',Inv X pins σ H' s'/\dX vs us/\Q vs H'
def SP(X:Cx)(pins:List (aR×Obj))(D:Ends)(f:Flow)(s':aM):Prop:=
 match f with
 | .next=>∃σ' H',Inv X pins σ' H' s'/\D.nx σ' H'
 | .brk=>∃σ' H',Inv X pins σ' H' s'/\D.bk σ' H'
 | .cont=>∃σ' H',Inv X pins σ' H' s'/\D.ct σ' H'
 | .ret u=>∃v σ' H',Inv X pins σ' H' s'/\RelV v u/\D.rt v H'
def PE(X:Cx)(e:bZ)(t:TE):Prop:=
 ∀(pins:List (aR×Obj))(s:aM)(σ:St)(H:Hp)(Q:VK),Inv X pins σ H s->t σ H Q->wpAny (model X.prog X.w) X.A (eval e X.env) (EP X pins σ Q) X.xe s
def PT(X:Cx)(e:bZ)(t:TT):Prop:=
 ∀(pins:List (aR×Obj))(s:aM)(σ:St)(H:Hp)(Q:Bool->Hp->Prop),Inv X pins σ H s->t σ H Q->wpAny (model X.prog X.w) X.A (isTrue e X.env (eval e X.env)) (TP X pins σ Q) X.xe s
def PW(X:Cx)(e:bZ)(t:TT):Prop:=
 ∀(whole:Sem aE)(pins:List (aR×Obj))(s:aM)(σ:St)(H:Hp)(Q:Bool->Hp->Prop),Inv X pins σ H s->t σ H Q->wpAny (model X.prog X.w) X.A (isTrue e X.env whole) (TP X pins σ Q) X.xe s
theorem PW.pt{t:TT}(h:PW X e t):PT X e t:=h _
def PA(X:Cx)(es:List bZ)(t:TA):Prop:=
 ∀(pos:Pos)(pins:List (aR×Obj))(s:aM)(σ:St)(H:Hp)(Q:List V->Hp->Prop),Inv X pins σ H s->t σ H Q->wpAny (model X.prog X.w) X.A (spliced (backTo pos (starEach es X.env))) (AP X pins σ Q) X.xe s
def PS(X:Cx)(st:ia)(t:TS):Prop:=
 ∀(pins:List (aR×Obj))(s:aM)(σ:St)(H:Hp)(D:Ends),Inv X pins σ H s->t D σ H->wpAny (model X.prog X.w) X.A (exec st X.env) (SP X pins D) X.xe s
def Fi(X:Cx)(st:List ia)(t:TS):Prop:=
 ∀(pins:List (aR×Obj))(s:aM)(σ:St)(H:Hp)(D:Ends),Inv X pins σ H s->t D σ H->wpAny (model X.prog X.w) X.A (execs st X.env) (SP X pins D) X.xe s
theorem gK{α:Type}{t:Sem α}{Q Q':α->aM->Prop}(h:wpAny M A t Q E s)(hQ:∀a s,Q a s->Q' a s):wpAny M A t Q' E s:=iR h hQ λ_ _ x=>x
section
variable{X:Cx}
theorem bin{a b:bZ}{ta tb:TE}(ha:PE X a ta)(hb:PE X b tb)(I:Inv X pins σ H s)(h:ta σ H λx H1=>tb σ H1 λy H2=>R x y H2)
  {α:Type}{Q:α->aM->Prop}{f:aE->aE->Sem α}
  (hf:∀v u s2 x y H2,Inv X pins σ H2 s2->RelV x v->RelV y u->R x y H2->wpAny (model X.prog X.w) X.A (f v u) Q X.xe s2):
  wpAny (model X.prog X.w) X.A (eval a X.env) (λv s₁=>wpAny (model X.prog X.w) X.A (eval b X.env) (λu s₂=>wpAny (model X.prog X.w) X.A (f v u) Q X.xe s₂) X.xe s₁) X.xe s:=by
 refine gK (ha pins s σ H _ I h) λv s1 ⟨x,H1,I1,r1,q1⟩=>?_
 refine gK (hb pins s1 σ H1 _ I1 q1) λu s2 ⟨y,H2,I2,r2,q2⟩=>?_
 exact hf v u s2 x y H2 I2 r1 r2 q2
def UW(i:Nat):TE:=λσ H Q=>∃v,σ[i]?=some (some v)/\Q v H
def tC(v:V):TE:=λ_ H Q=>Q v H
theorem jO{i:Nat}{x:Str}{pos:Pos}(hN:X.N[i]?=some x)(hv:AX X.env.scope x)(hd:(x==("__debug__":Str))=false:=by decide)(oB:(x==("__classdict__":Str))=false:=by decide):PE X (.Name x pos) (UW i):=by
 intro pins s σ H Q I h;obtain⟨v,e,h⟩:=h;obtain⟨m,hn,hl⟩:=I.loc;obtain⟨u,r,l⟩:=hl i x v hN e hv;have fin:EP X pins σ Q u s:=⟨v,H,I,r,h⟩;rcases l with⟨hk,hm⟩|⟨hk,c,hc,Qa⟩
 ·exact wpAny_Name (wpAny_loadName_local I.ok.kind hk hn hm fin) hd
 ·rcases hk with hk|hk
  ·exact wpAny_Name (wpAny_loadName_cell I.ok.kind hk hc Qa fin) hd
  ·exact wpAny_Name (wpAny_loadName_free I.ok.kind hk hc Qa fin oB) hd
theorem J5{i j pos}:PE X (.Constant (.int i) j pos) (tC (.int i)):=λ_ _ _ H _ I h=>wpAny_Constant_int ⟨.int i,H,I.tok _,⟨_,rfl⟩,h⟩
theorem UX{b j pos}:PE X (.Constant (.bool b) j pos) (tC (.bl b)):=λ_ _ _ H _ I h=>Constant_bool ⟨.bl b,H,I,rfl,h⟩
theorem Rt{j pos}:PE X (.Constant .none j pos) (tC .non):=λ_ _ _ H _ I h=>Constant_none ⟨.non,H,I,rfl,h⟩
theorem Ru{x j pos}:PE X (.Constant (.str x) j pos) (tC (.str x)):=λ_ _ _ H _ I h=>Calls.Constant_str ⟨.str x,H,I.tok _,⟨_,rfl⟩,h⟩
def Gl(X:Cx)(x:Str):Prop:=X.env.kindOf x=some .globalImplicit
theorem BQ{x:Str}{pos:Pos}(I:Inv X pins σ H s)(hg:Gl X x)(hm:X.mg x=some u)(h:Q u s)
  (hd:(x==("__debug__":Str))=false:=by decide):wpAny (model X.prog X.w) X.A (eval (.Name x pos) X.env) Q E s:=
 Ab I.ok.kind hg (Calls.loadGlobal_global (by rw[I.ok.glob];exact I.mod.glob.keeps I.bk) hm h) hd
theorem vW{x:Str}{pos:Pos}(I:Inv X pins σ H s)(hg:Gl X x)(hm:X.mg x=none)(hv:bootBuiltins x=some u)(h:Q u s)
  (hn:x≠"__name__":=by decide)(hd:(x==("__debug__":Str))=false:=by decide):wpAny (model X.prog X.w) X.A (eval (.Name x pos) X.env) Q E s:=by
 obtain⟨mb,h1,h2⟩:=I.mod.blt;exact Ab I.ok.kind hg (Calls.loadGlobal_builtin (by rw[I.ok.glob];exact I.mod.glob.keeps I.bk) hm (by rw[I.ok.blt];exact h1.keeps I.bk) ((h2 x hn).trans hv) h) hd
theorem xX{x:Str}{v:V}{pos:Pos}(hg:Gl X x)(hm:X.mg x=some u)(r:RelV v u)(hd:(x==("__debug__":Str))=false:=by decide):PE X (.Name x pos) (tC v):=
 λ_ _ _ H _ I h=>BQ I hg hm ⟨v,H,I,r,h⟩ hd
theorem Ni{x:Str}{v:V}{pos:Pos}(hg:Gl X x)(hm:X.mg x=none)(hv:bootBuiltins x=some u)(r:RelV v u)(hn:x≠"__name__":=by decide)(hd:(x==("__debug__":Str))=false:=by decide):PE X (.Name x pos) (tC v):=
 λ_ _ _ H _ I h=>vW I hg hm hv ⟨v,H,I,r,h⟩ hn hd
variable{a b:bZ}{ta tb:TE}{pos:Pos}
def PC(X:Cx)(op:Fc)(a b:bZ)(t:TE):Prop:=
 ∀(pins:List (aR×Obj))(s:aM)(σ:St)(H:Hp)(Q:VK),Inv X pins σ H s->t σ H Q->
  wpAny (model X.prog X.w) X.A (eval a X.env) (λv s₁=>wpAny (model X.prog X.w) X.A (eval b X.env) (λu s₂=>wpAny (model X.prog X.w) X.A (compareOp op v u) (EP X pins σ Q) X.xe s₂) X.xe s₁) X.xe s
def tB(t:TE):TT:=λσ H Q=>t σ H λx H1=>∃c,x=.bl c/\Q c H1
theorem Fj{op:Fc}(h:PC X op a b t)(h1:behindInMarks op b=false:=by first|exact J6 _ (by decide) (by decide)|rfl):PE X (.Compare a [op] [b] pos) t:=λpins s σ H Q I hw=>wpAny_Compare1 (h pins s σ H Q I hw) h1
theorem Rv{op:Fc}(h:PC X op a b t)(h1:behindInMarks op b=false:=by first|exact J6 _ (by decide) (by decide)|rfl):PT X (.Compare a [op] [b] pos) (tB t):=by
 intro pins s σ H Q I hw;refine wpAny_isTrue_Compare1 (gK (h pins s σ H _ I hw) λv s1 h1=>gK h1 λu s2 h2=>gK h2 λc s3 ⟨x,H1,I1,r1,q1⟩=>?_) h1
 obtain⟨d,rfl,q⟩:=q1;cases r1;exact fx ⟨H1,I1,q⟩
variable{tA XW:TT}{rest:List bZ}
def YM(t u:TT):TT:=λσ H Q=>t σ H λc H1=>if c=true then u σ H1 Q else Q false H1
def tOr(t u:TT):TT:=λσ H Q=>t σ H λc H1=>if c=true then Q true H1 else u σ H1 Q
def YN(t:TT):TT:=λσ H Q=>t σ H λc H1=>Q (!c) H1
theorem pw_and1(ha:PT X a tA):PW X (.BoolOp .And [a] pos) tA:=by
 intro wh pins s σ H Q I h;refine isTrue_and (gK (ha pins s σ H Q I h) λc s1 e=>?_)
 cases c with
 |true=>exact isTrue_and_nil e
 |false=>exact e
theorem pw_or1(ha:PT X a tA):PW X (.BoolOp .Or [a] pos) tA:=by
 intro wh pins s σ H Q I h;refine isTrue_or (gK (ha pins s σ H Q I h) λc s1 e=>?_)
 cases c with
 |false=>exact isTrue_or_nil e
 |true=>exact e
theorem pw_and(ha:PT X a tA)(hb:PW X (.BoolOp .And (b::rest) pos) XW):PW X (.BoolOp .And (a::b::rest) pos) (YM tA XW):=by
 intro wh pins s σ H Q I h;refine isTrue_and (gK (ha pins s σ H _ I h) λc s1 ⟨H1,I1,q1⟩=>?_)
 cases c with
 |true=>exact hb wh pins s1 σ H1 Q I1 q1
 |false=>exact⟨H1,I1,q1⟩
theorem pw_or(ha:PT X a tA)(hb:PW X (.BoolOp .Or (b::rest) pos) XW):PW X (.BoolOp .Or (a::b::rest) pos) (tOr tA XW):=by
 intro wh pins s σ H Q I h;refine isTrue_or (gK (ha pins s σ H _ I h) λc s1 ⟨H1,I1,q1⟩=>?_)
 cases c with
 |true=>exact⟨H1,I1,q1⟩
 |false=>exact hb wh pins s1 σ H1 Q I1 q1
theorem Rw(ha:PT X a tA):PT X (.UnaryOp .Not a pos) (YN tA):=by
 intro pins s σ H Q I h;exact isTrue_not (ha pins s σ H (λc H1=>Q (!c) H1) I h)
def UY(ta tb:TE):TE:=λσ H Q=>ta σ H λx H1=>∃c,x=.bl c/\if c=true then tb σ H1 Q else Q (.bl false) H1
def YQ(ta tb:TE):TE:=λσ H Q=>ta σ H λx H1=>∃c,x=.bl c/\if c=true then Q (.bl true) H1 else tb σ H1 Q
def UZ(ta:TE):TE:=λσ H Q=>ta σ H λx H1=>∃c,x=.bl c/\Q (.bl (!c)) H1
theorem Rx{op}(h:PE X a t):PE X (.BoolOp op [a] pos) t:=λpins s σ H Q I hw=>BoolOp_one (h pins s σ H Q I hw)
theorem J7(ha:PE X a ta)(hb:PE X (.BoolOp .And (b::rest) pos) tb):PE X (.BoolOp .And (a::b::rest) pos) (UY ta tb):=by
 intro pins s σ H Q I h;refine BoolOp_and (gK (ha pins s σ H _ I h) λv s1 ⟨x,H1,I1,r1,q1⟩=>?_)
 obtain⟨c,rfl,q1⟩:=q1;cases r1;refine fx ?_
 cases c with
 |true=>exact hb pins s1 σ H1 Q I1 q1
 |false=>exact⟨.bl false,H1,I1,rfl,q1⟩
theorem Qb(ha:PE X a ta)(hb:PE X (.BoolOp .Or (b::rest) pos) tb):PE X (.BoolOp .Or (a::b::rest) pos) (YQ ta tb):=by
 intro pins s σ H Q I h;refine BoolOp_or (gK (ha pins s σ H _ I h) λv s1 ⟨x,H1,I1,r1,q1⟩=>?_)
 obtain⟨c,rfl,q1⟩:=q1;cases r1;refine fx ?_
 cases c with
 |false=>exact hb pins s1 σ H1 Q I1 q1
 |true=>exact⟨.bl true,H1,I1,rfl,q1⟩
theorem Ry(ha:PE X a ta):PE X (.UnaryOp .Not a pos) (UZ ta):=by
 intro pins s σ H Q I h;refine UnaryOp_ (gK (ha pins s σ H _ I h) λv s1 ⟨x,H1,I1,r1,q1⟩=>?_)
 obtain⟨c,rfl,q1⟩:=q1;cases r1;exact not_of (fx ⟨.bl (!c),H1,I1,rfl,q1⟩)
def tIf(t:TT)(ta tb:TE):TE:=λσ H Q=>t σ H λc H1=>if c=true then ta σ H1 Q else tb σ H1 Q
theorem J8(hc:PT X c tA)(ha:PE X a ta)(hb:PE X b tb):PE X (.IfExp c a b pos) (tIf tA ta tb):=by
 intro pins s σ H Q I h;refine wpAny_IfExp (gK (hc pins s σ H _ I h) λd s1 ⟨H1,I1,q1⟩=>?_)
 cases d with
 |true=>exact ha pins s1 σ H1 Q I1 q1
 |false=>exact hb pins s1 σ H1 Q I1 q1
end
def kW(K:au)(H:Hp)(a:aR)(xs:List V):Prop:=
 Rd H a (.lst xs)\/
  ∃(o:Obj)(its:Array aE)(n:Nat),K.lookup a=some o/\o.cls=.type "list"/\o.dict=none/\o.data=.seq its n/\its.size<=sizeLine/\dX xs its.toList
def oH(K:au)(H:Hp)(a:aR)(xs:List V):Prop:=
 Rd H a (.tup xs)\/
  ∃(o:Obj)(its:Array aE)(n:Nat),K.lookup a=some o/\o.cls=.type "tuple"/\o.data=.seq its n/\its.size<=sizeLine/\dX xs its.toList
def YR:aE->Option V
 | .none=>some .non
 | .bool b=>some (.bl b)
 | .int i _=>some (.int i)
 | .str x _=>some (.str x)
 | .bytes b _=>some (.Ub b)
 | .float b _=>some (.flt b)
 | .ref a=>some (.ref a)
 | .type n=>some (.ty n)
 |_=>none
theorem RelV.abs{x:V}(r:RelV x u):YR u=some x:=by
 cases x with
 |non=>cases r;rfl
 |bl _=>cases r;rfl
 |int _=>obtain⟨t,rfl⟩:=r;rfl
 |str _=>obtain⟨t,rfl⟩:=r;rfl
 |Ub _=>obtain⟨t,rfl⟩:=r;rfl
 |flt _=>obtain⟨t,rfl⟩:=r;rfl
 |ref _=>cases r;rfl
 |ty _=>cases r;rfl
theorem RelV.inj{x y:V}(r:RelV x u)(q:RelV y u):x=y:=cR (r.abs.symm.trans q.abs)
theorem dX.inj:∀{xs ys:List V}{us:List aE},dX xs us->dX ys us->xs=ys
 |_,_,_,.nil,.nil=>rfl
 |_,_,_,.cons r t,.cons r' t'=>by rw[r.inj r',dX.inj t t']
section
variable{X:Cx}{pins:List (aR×Obj)}{σ:St}{H:Hp}{s:aM}{a:aR}{xs ys:List V}
theorem kW.of(h:H a=some (.lst xs)):kW K H a xs:=.inl (.inl h)
theorem oH.of(h:H a=some (.tup xs)):oH K H a xs:=.inl (.inl h)
theorem Inv.list(I:Inv X pins σ H s)(h:kW X.K H a xs):∃its:List aE,dX xs its/\PlainL s.heap a its.toArray/\xs.length<=sizeLine:=by
 rcases h with h|⟨o,its,n,hk,hc,hd,hs,hz,r⟩
 ·obtain⟨z,its,n,r,e⟩:=h.ok I.hok
  exact⟨its,r,⟨_,n,e,rfl,rfl,rfl⟩,z⟩
 ·refine⟨its.toList,r,⟨o,n,I.BM a o hk,hc,hd,by simpa using hs⟩,?_⟩
  have e:=r.length;simp only[c0]at e;omega
theorem Inv.tuple(I:Inv X pins σ H s)(h:oH X.K H a xs):∃its:List aE,dX xs its/\IsTup s.heap a its.toArray/\xs.length<=sizeLine:=by
 rcases h with h|⟨o,its,n,hk,hc,hs,hz,r⟩
 ·obtain⟨z,its,r,p⟩:=h.ok I.hok
  exact⟨its,r,p,z⟩
 ·refine⟨its.toList,r,⟨o,I.BM a o hk,hc,n,by simpa using hs⟩,?_⟩
  have e:=r.length;simp only[c0]at e;omega
theorem Inv.yo(I:Inv X pins σ H s)(h:kW X.K H a xs)(h':kW X.K H a ys):xs=ys:=by
 obtain⟨its,r,⟨o,n,e,_,_,d⟩,_⟩:=I.list h;obtain⟨its',r',⟨o',n',e',_,_,d'⟩,_⟩:=I.list h';rw[e]at e';cases e';rw[d]at d'
 injection d' with d1 _
 have:its=its':=by simpa using qQ6 Array.toList d1
 subst this;exact r.inj r'
theorem Inv.AZ(I:Inv X pins σ H s)(h:oH X.K H a xs)(h':oH X.K H a ys):xs=ys:=by
 obtain⟨its,r,⟨o,e,_,n,d⟩,_⟩:=I.tuple h;obtain⟨its',r',⟨o',e',_,n',d'⟩,_⟩:=I.tuple h';rw[e]at e';cases e';rw[d]at d'
 injection d' with d1 _
 have:its=its':=by simpa using qQ6 Array.toList d1
 subst this;exact r.inj r'
end
abbrev Cx.wish(X:Cx)(E:aE->aM->Prop):Cx:={ X with xe:=E }
abbrev Cx.Dq(X:Cx):Cx:=X.wish λ_ _=>False
theorem Cx.Ok.wish(ok:X.Ok)(E:aE->aM->Prop):(X.wish E).Ok:=
 ⟨ok.mod,ok.kind,ok.glob,ok.blt,ok.above,ok.inj,ok.has,ok.cab,ok.hd,ok.frames,ok.stk,ok.exf,ok.bs,ok.P9,ok.J4,ok.Nh,ok.xG,ok.Rp⟩
theorem Cx.Ok.rR(ok:(X.wish E).Ok):X.Ok:=
 ⟨ok.mod,ok.kind,ok.glob,ok.blt,ok.above,ok.inj,ok.has,ok.cab,ok.hd,ok.frames,ok.stk,ok.exf,ok.bs,ok.P9,ok.J4,ok.Nh,ok.xG,ok.Rp⟩
section
variable{X:Cx}{pins:List (aR×Obj)}{σ:St}{H:Hp}{s:aM}{E:aE->aM->Prop}
theorem Inv.wish(I:Inv X pins σ H s)(E:aE->aM->Prop):Inv (X.wish E) pins σ H s:=⟨I.ok.wish E,I.os,I.bare,I.base,I.loc,I.cell,I.free,I.pF,I.pin,I.hok,I.len⟩
theorem Inv.rR(I:Inv (X.wish E) pins σ H s):Inv X pins σ H s:=⟨I.ok.rR,I.os,I.bare,I.base,I.loc,I.cell,I.free,I.pF,I.pin,I.hok,I.len⟩
theorem SP.rR{D:Ends}{f:Flow}(h:SP (X.wish E) pins D f s'):SP X pins D f s':=by
 cases f with
 |next=>obtain⟨σ',H',I,q⟩:=h;exact⟨σ',H',I.rR,q⟩
 |brk=>obtain⟨σ',H',I,q⟩:=h;exact⟨σ',H',I.rR,q⟩
 |cont=>obtain⟨σ',H',I,q⟩:=h;exact⟨σ',H',I.rR,q⟩
 |ret u=>obtain⟨v,σ',H',I,r,q⟩:=h;exact⟨v,σ',H',I.rR,r,q⟩
theorem Fi.Dq{st:List ia}{t:TS}(h:Fi X.Dq st t):Fi X st t:=λpins s σ H D I hw=>
 iR (h pins s σ H D (I.wish _) hw) (λ_ _ q=>q.rR) λ_ _ z=>ix z
end
section
variable{X:Cx}{st:ia}{rest:List ia}{t u:TS}{e:bZ}{te:TE}{pos:Pos}
def U0:TS:=λD σ H=>D.nx σ H
def YS(t u:TS):TS:=λD σ H=>t { D with nx:=u D } σ H
theorem BR:Fi X [] U0:=λ_ _ σ H _ I h=>uK ⟨σ,H,I,h⟩
theorem ly(h1:PS X st t)(h2:Fi X rest u):Fi X (st::rest) (YS t u):=by
 intro pins s σ H D I h;refine wpAny_execs_cons (gK (h1 pins s σ H { D with nx:=u D } I h) λf s1 q=>?_)
 cases f with
 |next=>
  obtain⟨σ',H',I',q⟩:=q;exact h2 pins s1 σ' H' D I' q
 |ret v=>exact q
 |brk=>exact q
 |cont=>exact q
theorem BU(h1:PS X st t):Fi X [st] t:=by
 intro pins s σ H D I h;refine wpAny_execs_cons (gK (h1 pins s σ H D I h) λf s1 q=>?_)
 cases f with
 |next=>exact uK q
 |ret v=>exact q
 |brk=>exact q
 |cont=>exact q
theorem Inv.quiet(I:Inv X pins σ H s):interactive X.env=false:=by simp[interactive,I.ok.kind]
def U1(te:TE):TS:=λD σ H=>te σ H λ_ H1=>D.nx σ H1
theorem qj(he:PE X e te)(hs:swapsWith e none pos.line X.env=pure false:=by rfl):PS X (.Expr e pos) (U1 te):=by
 intro pins s σ H D I h;exact wpAny_Expr_any (gK (he pins s σ H _ I h) λv s1 ⟨x,H1,I1,r1,q1⟩=>⟨σ,H1,I1,q1⟩) I.quiet hs
def YT(te:TE):TS:=λD σ H=>te σ H D.rt
theorem vX(he:PE X e te):PS X (.Return (some e) pos) (YT te):=by
 intro pins s σ H D I h;exact wpAny_Return_some (gK (he pins s σ H _ I h) λv s1 ⟨x,H1,I1,r1,q1⟩=>⟨x,σ,H1,I1,r1,q1⟩)
def YV(c:TT)(t u:TS):TS:=λD σ H=>c σ H λb H1=>if b=true then t D σ H1 else u D σ H1
theorem Dw{a b:List ia}{tc:TT}(hc:PT X c tc)(ha:Fi X a t)(hb:Fi X b u):PS X (.If c a b pos) (YV tc t u):=by
 intro pins s σ H D I h;refine wpAny_If (gK (hc pins s σ H _ I h) λd s1 ⟨H1,I1,q1⟩=>?_)
 cases d with
 |true=>exact ha pins s1 σ H1 D I1 q1
 |false=>exact hb pins s1 σ H1 D I1 q1
def Rz:TS:=λ_ _ _=>False
theorem nD{sts:List ia}:Fi X sts Rz:=λ_ _ _ _ _ _ h=>h.elim
end
abbrev TG:=V->St->Hp->(St->Hp->Prop)->Prop
abbrev Qc:=List V->St->Hp->(St->Hp->Prop)->Prop
def PG(X:Cx)(target:bZ)(t:TG):Prop:=
 ∀(pins:List (aR×Obj))(s:aM)(σ:St)(H:Hp)(v:V)(u:aE)(Q:St->Hp->Prop),Inv X pins σ H s->RelV v u->t v σ H Q->
  wpAny (model X.prog X.w) X.A (assign target X.env u) (λ_ s'=>∃σ' H',Inv X pins σ' H' s'/\Q σ' H') X.xe s
def XX(X:Cx)(ts:List bZ)(t:Qc):Prop:=
 ∀(pins:List (aR×Obj))(s:aM)(σ:St)(H:Hp)(vs:List V)(us:List aE)(Q:St->Hp->Prop),Inv X pins σ H s->dX vs us->t vs σ H Q->
  wpAny (model X.prog X.w) X.A (assignInOrder ((assignEach ts X.env).map (·.2)) us) (λ_ s'=>∃σ' H',Inv X pins σ' H' s'/\Q σ' H') X.xe s
abbrev RA:=V->V->V->Hp->(Hp->Prop)->Prop
def U2(X:Cx)(t:RA):Prop:=
 ∀(pins:List (aR×Obj))(s:aM)(σ:St)(H:Hp)(o i v:V)(ov iv u:aE)(Q:Hp->Prop),Inv X pins σ H s->RelV o ov->RelV i iv->RelV v u->t o i v H Q->
  wpAny (model X.prog X.w) X.A (setItem ov iv u) (λ_ s'=>∃H',Inv X pins σ H' s'/\Q H') X.xe s
section
variable{X:Cx}{pos:Pos}
def A0(i:Nat):TG:=λv σ H Q=>Q (σ.set i (some v)) H
theorem bL{i:Nat}{x:Str}(hN:X.N.Nodup)(hi:X.N[i]?=some x)(hx:Loc X.env.scope x)(hf:X.fn x=true\/X.env.scope.names.lookup x=some .local:=by first|exact .inl rfl|exact .inr rfl|assumption):PG X (.Name x pos) (A0 i):=by
 intro pins s σ H v u Q I r h;exact wpAny_assign_Name (nP I hN hi hx r (λs' I'=>⟨_,H,I',h⟩) hf)
def U3:Qc:=λvs σ H Q=>vs=[]/\Q σ H
def Qd(t:TG)(u:Qc):Qc:=λvs σ H Q=>∃v r,vs=v::r/\t v σ H λσ' H'=>u r σ' H' Q
theorem fh:XX X [] U3:=by
 intro pins s σ H vs us Q I r h;obtain⟨e,h⟩:=h;subst e;cases r;exact Ac ⟨σ,H,I,h⟩
theorem bU{t:TG}{u:Qc}(h1:PG X e t)(h2:XX X es u)
  (hs:(assignEach (e::es) X.env).map (·.2)=assign e X.env::(assignEach es X.env).map (·.2):=by rfl):XX X (e::es) (Qd t u):=by
 intro pins s σ H vs us Q I r h;obtain⟨v,vr,e1,h⟩:=h;subst e1;cases r with
 |cons r rr=>
  rw[hs];refine j7 (gK (h1 pins s σ H _ _ _ I r h) λ_ s1 ⟨σ1,H1,I1,q1⟩=>?_)
  exact h2 pins s1 σ1 H1 _ _ Q I1 rr q1
def U4(K:au)(n:Nat)(t:Qc):TG:=λv σ H Q=>∃a xs,v=.ref a/\oH K H a xs/\xs.length=n/\t xs σ H Q
theorem gB{t:Qc}{n:Nat}(hc:X.calm=true)(h:XX X es t)
  (hn:(assignEach es X.env).length=n:=by rfl)(J9:(assignEach es X.env).findIdx? (·.1)=none:=by rfl):PG X (.Tuple es k pos) (U4 X.K n t):=by
 intro pins s σ H v u Q I r hw;obtain⟨a,xs,e1,hq,hl,hw⟩:=hw;subst e1;cases r;obtain⟨its,rv,ht,hz⟩:=I.tuple hq;refine assign_Tuple_tuple (I.ok.hd hc) ht (by simp[hn,<-hl,rv.length]) J9 λh' hx=>?_
 have I1:Inv X pins σ H { s with heap:=h' }:=I.kept (t':=s.toks) λb o e=>hx b o (a9 (bf e)) e
 exact h pins _ σ H xs _ Q I1 (by simpa using rv) hw
def YW(to ti:TE)(t:RA):TG:=λv σ H Q=>to σ H λo H1=>ti σ H1 λi H2=>t o i v H2 λH3=>Q σ H3
theorem RB{o i:bZ}{to ti:TE}{t:RA}(ho:PE X o to)(hi:PE X i ti)(hs:U2 X t)
  (ha:∀v,assign (.Subscript o i pos) X.env v=(do
   let ov <-holding [v] (eval o X.env)
   let iv <-holding [v,ov] (eval i X.env)
   standAt pos
   holding [v,ov,iv] (setItem ov iv v)
   release [v,ov,iv] []):=by intro _;rfl):PG X (.Subscript o i pos) (YW to ti t):=by
 intro pins s σ H v u Q I r h;rw[ha];refine aA (jw (gK (ho pins s σ H _ I h) λov s1 ⟨x,H1,I1,r1,q1⟩=>?_))
 refine aA (jw (gK (hi pins s1 σ H1 _ I1 q1) λiv s2 ⟨y,H2,I2,r2,q2⟩=>?_))
 refine aA (rE (aA (jw (gK (hs pins s2 σ H2 x y v ov iv u _ I2 r1 r2 r q2) λ_ s3 ⟨H3,I3,q3⟩=>?_))))
 exact wpAny_release ⟨σ,H3,I3,q3⟩
def RC(te:TE)(g:TG):TS:=λD σ H=>te σ H λx H1=>g x σ H1 D.nx
theorem Fk{te:TE}{g:TG}(he:PE X e te)(hg:PG X tg g)(hs:swapsWithSole [tg] e pos.line X.env=pure false:=by rfl)(hw:swappedStores [tg] e X.env=pure none:=by rfl)
  (h1:(assignEach [tg] X.env).map (·.2)=[assign tg X.env]:=by rfl):PS X (.Assign [tg] e pos) (RC te g):=by
 intro pins s σ H D I h;refine wpAny_Assign_stores (gK (he pins s σ H _ I h) λv s1 ⟨x,H1,I1,r1,q1⟩=>?_) hs hw
 rw[h1];exact gK (hg pins s1 σ H1 x v _ I1 r1 q1) λ_ s2 q=>q
theorem rS{i:Nat}{x:Str}{te:TE}{pos':Pos}(hN:X.N.Nodup)(hi:X.N[i]?=some x)(hx:Loc X.env.scope x)(he:PE X e te)(hs:swapsWith e (some (.Name x pos')) pos.line X.env=pure false:=by rfl)(hf:X.fn x=true\/X.env.scope.names.lookup x=some .local:=by first|exact .inl rfl|exact .inr rfl|assumption):
  PS X (.Assign [.Name x pos'] e pos) (RC te (A0 i)):=by
 intro pins s σ H D I h;refine wpAny_Assign_Name (gK (he pins s σ H _ I h) λv s1 ⟨y,H1,I1,r1,q1⟩=>?_) hs
 exact nP I1 hN hi hx r1 (λs2 I2=>⟨_,H1,I2,q1⟩) hf
def YX(i j:Nat)(ta:TA):TS:=λD σ H=>ta σ H λvs H1=>∃v w,vs=[v,w]/\D.nx ((σ.set i (some v)).set j (some w)) H1
theorem J_{i j:Nat}{x y:Str}{a b:bZ}{ta:TA}{px py pt:Pos}{kt k2 Fm}(hc:X.calm=true)(hN:X.N.Nodup)(hi:X.N[i]?=some x)(hj:X.N[j]?=some y)(z_:i≠j)
  (hx:X.env.scope.names.lookup x=some .local)(hy:X.env.scope.names.lookup y=some .local)(ha:PA X [a,b] ta)
  (hw:swappedStores [.Tuple [.Name x px,.Name y py] kt pt] (.Tuple [a,b] k2 Fm) X.env=pure (some [x,y]))
  (hs:swapsWithSole [.Tuple [.Name x px,.Name y py] kt pt] (.Tuple [a,b] k2 Fm) pos.line X.env=pure false:=by rfl):
  PS X (.Assign [.Tuple [.Name x px,.Name y py] kt pt] (.Tuple [a,b] k2 Fm) pos) (YX i j ta):=by
 intro pins s σ H D I h;rw[exec_Assign_arm];refine aA (rE ?_)
 rw[hs];refine aA (bj ?_)
 rw[qQ2 (by decide)]
 refine aA (Tuple_ (gK (ha _ pins s σ H _ I h) λus s1 ⟨vs,H1,I1,r1,q1⟩=>?_))
 obtain⟨v,w,e1,q1⟩:=q1;subst e1;obtain⟨u1,u2,rfl,rv,qk⟩:∃u1 u2,us=[u1,u2]/\RelV v u1/\RelV w u2:=by
  cases r1 with
  |cons p q=>
   cases q with
   |cons p' q'=>
    cases q';exact⟨_,_,rfl,p,p'⟩
 refine eV ?_ (by show 2<=sizeLine;decide)
 have I2:Inv X pins σ H1 { s1 with heap:=s1.heap.push { cls:=.type "tuple",data:=.seq [u1,u2].toArray } }:=I1.kept (t':=s1.toks) λb o e=>aF _ e
 rw[hw];refine aA (bj ?_)
 show wpAny (model X.prog X.w) X.A (do rule "assign.swapped-stores";let items <-unpackItems (.ref s1.heap.objs.size) 2 none;assignInOrder [λv=>bindName X.env y v,λv=>bindName X.env x v] items.reverse;pure Dt) _ _ _
 refine aA (uf (aA (unpackItems_tuple (items:=#[u1,u2]) (I.ok.hd hc) (qd s1.heap _) λh' YY=>?_)))
 have I3:=I2.kept (h':=h') (t':=s1.toks) λb o e=>YY b o (a9 (bf e)) e
 show wpAny _ _ (assignInOrder [λv=>bindName X.env y v,λv=>bindName X.env x v] [u2,u1] >>= λ_=>pure Dt) _ _ _
 refine aA (j7 (qe (nP I3 hN hj (.inl hy) qk (λs2 I4=>?_) (.inr hy))))
 refine j7 (qe (nP I4 hN hi (.inl hx) rv (λs3 I5=>Ac (bj ?_)) (.inr hx)))
 rw[uQ _ _ (bV z_)]at I5;exact⟨_,H1,I5,q1⟩
end
section
variable{X:Cx}{pos:Pos}
def RD(c:TT)(tb:TS):TS:=λD σ H=>∃W:Nat->St->Hp->Prop,(∃m,W m σ H)/\∀m σ H,W m σ H->
 c σ H λb H1=>if b=true then ∃N:St->Hp->Prop,(∀σ' H',N σ' H'->∃m',m'<m/\W m' σ' H')/\tb { D with nx:=N,ct:=N,bk:=D.nx } σ H1 else D.nx σ H1
theorem J'{tc:TT}{tb:TS}(hp:tN (model X.prog X.w) X.A X.env X.xe)(hc:PT X c tc)(hb:Fi X body tb):PS X (.While c body [] pos) (RD tc tb):=by
 intro pins s σ H D I h;obtain⟨W,⟨m0,w0⟩,turn⟩:=h;refine wpAny_While (codeAny_whileLoop (λn s'=>∃σ' H',Inv X pins σ' H' s'/\W n σ' H') ?_ m0 ⟨σ,H,I,w0⟩)
 rintro n s1 ⟨σ1,H1,I1,w1⟩
 refine kj hp (gK (hc pins s1 σ1 H1 _ I1 (turn n σ1 H1 w1)) λb s2 ⟨H2,I2,q2⟩=>?_)
 cases b with
 |true=>
  obtain⟨N,hN,q2⟩:=q2;rw[qQ3 rfl];refine kj hp (gK (hb pins s2 σ1 H2 _ I2 q2) λf s3 q3=>?_)
  cases f with
  |next=>
   obtain⟨σ3,H3,I3,n3⟩:=q3;obtain⟨m',hm,w3⟩:=hN σ3 H3 n3;exact⟨m',hm,σ3,H3,I3,w3⟩
  |cont=>
   obtain⟨σ3,H3,I3,n3⟩:=q3;obtain⟨m',hm,w3⟩:=hN σ3 H3 n3;exact⟨m',hm,σ3,H3,I3,w3⟩
  |brk=>exact q3
  |ret v=>exact q3
 |false=>
  rw[qQ2 cz];exact uK ⟨σ1,H2,I2,q2⟩
end
structure It where
 go:Nat->Hp->Prop
 U5:Nat->Hp->V->Hp->Prop
 stop:Nat->Hp->Prop
def uW(X:Cx)(pins:List (aR×Obj))(H:Hp)(b:aR):Prop:=
 H b=none/\b≠X.env.locals/\b∉X.fs/\(b∈X.ex\/X.s₀.heap.objs.size<=b)/\(∀x c,X.env.cells.lookup x=some c->c≠b)/\∀p∈X.pn++pins,p.1≠b
theorem Inv.yp{H': Hp}{b:aR}(I:Inv X pins σ H s)(hb:s.heap.objs.size<=b)(hn:H' b=none):uW X pins H' b:=by
 refine⟨hn,gI (bY I.lt hb),I.YG hb,.inr (cp I.sz hb),λx c e z=>?_,λp hp z=>?_⟩
 ·obtain⟨v,q⟩:=I.cell x c e
  exact qQ7 (bY q.lt (by rw[z];exact hb)) (j5 _)
 ·exact qQ7 (bY (bf (I.pin p hp).1) (by rw[z];exact hb)) (j5 _)
structure Turn(P:bK)(w:cB)(K:au)(tg:bZ)(J:It)(fp:List aR)(it:aR)(tn:Nat->dg->Prop):Prop where
 mem:it∈fp
 obj:∀i h,tn i h->∀b∈fp,∃o,h.get? b=some o/\∀v,o.data≠.cell v
 keep:∀i h h',tn i h->(∀b∈fp,∀o,h.get? b=some o->h'.get? b=some o)->tn i h'
 item:∀(X:Cx),X.prog=P->X.w=w->X.K=K->X.calm=true->∀(i:Nat)(pins:List (aR×Obj))(s:aM)(σ:St)(H:Hp)(E:aE->aM->Prop),Inv X pins σ H s->(∀b∈fp,uW X pins H b)->tn i s.heap->J.go i H->
  wpAny (model P w) X.A (pyNext (.ref it)) (λr s1=>∃u,r=some u/\
   wpAny (model P w) X.A (letOwnedTupleGo tg (.ref it) u) (λ_ s2=>∃x H',Inv X pins σ H' s2/\RelV x u/\J.U5 i H x H'/\tn (i+1) s2.heap/\∀b∈fp,H' b=none) E s1) E s
 done:∀(X:Cx),X.prog=P->X.w=w->X.K=K->X.calm=true->∀(i:Nat)(pins:List (aR×Obj))(s:aM)(σ:St)(H:Hp)(E:aE->aM->Prop),Inv X pins σ H s->(∀b∈fp,uW X pins H b)->tn i s.heap->J.stop i H->
  wpAny (model P w) X.A (pyNext (.ref it)) (λr s1=>r=none/\Inv X pins σ H s1) E s
 self:∀(A:dQ)(i:Nat)(s:aM)(Q:aE->aM->Prop)(E:aE->aM->Prop),tn i s.heap->Q (.ref it) s->wpAny (model P w) A (pyIter (.ref it)) Q E s
abbrev TI:=St->Hp->(It->Hp->Prop)->Prop
def YZ(X:Cx)(pins:List (aR×Obj))(σ:St)(tg:bZ)(R:It->Hp->Prop)(XY:aE)(s2:aM):Prop:=
 ∃(it:aR)(fp:List aR)(tn:Nat->dg->Prop)(J:It)(H':Hp),XY=.ref it/\Inv X pins σ H' s2/\Turn X.prog X.w X.K tg J fp it tn/\tn 0 s2.heap/\(∀b∈fp,uW X pins H' b)/\R J H'
def PI(X:Cx)(tg iter:bZ)(wi:TI):Prop:=
 ∀(pins:List (aR×Obj))(s:aM)(σ:St)(H:Hp)(R:It->Hp->Prop),Inv X pins σ H s->wi σ H R->
  wpAny (model X.prog X.w) X.A (eval iter X.env) (λv s1=>wpAny (model X.prog X.w) X.A (pyIter v) (YZ X pins σ tg R) X.xe s1) X.xe s
theorem Dx{n:String}{vs:Array aE}{Q:Unit->aM->Prop}(ho:s.heap.get? it=some o)(hc:o.cls=.type n)(hd:o.data=.fields vs)
    (hn:["enumerate","zip","dict_itemiterator","dict_reverseitemiterator","odict_iterator","itertools.zip_longest","itertools.pairwise"].contains n=false)(hQ:Q () s):wpAny M A (letOwnedTupleGo tg (.ref it) u) Q E s:=by
  unfold letOwnedTupleGo;cases tg<;>first
    | exact bj hQ
    | (cases u<;>first
        | exact bj hQ
        | (refine aA (wpAny_load ho ?_)
           rw[hc,hd];show wpAny M A (if(["enumerate","zip","dict_itemiterator","dict_reverseitemiterator","odict_iterator","itertools.zip_longest","itertools.pairwise"].contains n&&vs[0]?==some (rawInt _))=true then _ else _) Q E s
           rw[qQ2 (by intro h;rw[hn,Bool.false_and]at h;cases h)]
           exact bj hQ))
def Itl(K:au)(a:aR):It:=
 ⟨λi H=>∃xs x,kW K H a xs/\xs[i]?=some x,λi H x H'=>H'=H/\∀xs,kW K H a xs->xs[i]?=some x,λi H=>∃xs,kW K H a xs/\xs.length<=i⟩
def Itt(K:au)(a:aR):It:=
 ⟨λi H=>∃xs x,oH K H a xs/\xs[i]?=some x,λi H x H'=>H'=H/\∀xs,oH K H a xs->xs[i]?=some x,λi H=>∃xs,oH K H a xs/\xs.length<=i⟩
def Y0(lo:Int)(n:Nat):It:=⟨λi _=>i<n,λi H x H'=>H'=H/\x=.int (lo+i),λi _=>n<=i⟩
theorem Ig(a it:aR):Turn P w K tg (Itl K a) [it] it (λi h=>h.IsListIter it a i) where
 mem:=by simp
 obj:=λi h st b hb=>by
  have e:b=it:=by simpa using hb
  subst e;obtain⟨o,e,c,d⟩:=st;exact⟨o,e,λv z=>by rw[d]at z;cases z⟩
 keep:=λi h h' st k=>st.at λo e=>k it (by simp) o e
 item:=by
  intro X hP hw hK hc i pins s σ H E I hf st hg;subst hP hw hK;obtain⟨xs,x,hq,hx⟩:=hg;obtain⟨its,rv,p,hz⟩:=I.list hq;obtain⟨u,hu,ru⟩:=rv.get hx;obtain⟨f0,f1,f2,f3,f4,f5⟩:=hf it (by simp)
  refine wpAny_pyNext_list_item st p.isList (x:=u) (by simpa using hu) λh' xY sb=>?_
  have I1:Inv X pins σ H { s with heap:=h' }:=I.turned (t':=s.toks) (λb o hb e=>(sb.2 b hb).trans e) f0 f1 f3 f4 f5
  obtain⟨o,e,c,d⟩:=id xY;exact⟨u,rfl,Dx (s:={ s with heap:=h' }) e c d (by decide) ⟨x,H,I1,ru,⟨rfl,λys hy=>by rw[I.yo hy hq];exact hx⟩,xY,λb hb=>(hf b hb).1⟩⟩
 done:=by
  intro X hP hw hK hc i pins s σ H E I hf st hg;subst hP hw hK;obtain⟨xs,hq,hx⟩:=hg;obtain⟨its,rv,p,hz⟩:=I.list hq;obtain⟨f0,f1,f2,f3,f4,f5⟩:=hf it (by simp)
  have hl:=rv.length;exact wpAny_pyNext_list_end (I.ok.hd hc) st p.isList (by simp;omega) λh' eb=>⟨rfl,I.turned (t':=s.toks) (λb o hb e=>eb b o hb e) f0 f1 f3 f4 f5⟩
 self:=λ_ _ _ _ _ st h=>wpAny_pyIter_listiter st h
theorem Fn(a it:aR):Turn P w K tg (Itt K a) [it] it (λi h=>h.IsTupleIter it a i) where
 mem:=by simp
 obj:=λi h st b hb=>by
  have e:b=it:=by simpa using hb
  subst e;obtain⟨o,e,c,d⟩:=st;exact⟨o,e,λv z=>by rw[d]at z;cases z⟩
 keep:=λi h h' st k=>st.at λo e=>k it (by simp) o e
 item:=by
  intro X hP hw hK hc i pins s σ H E I hf st hg;subst hP hw hK;obtain⟨xs,x,hq,hx⟩:=hg;obtain⟨its,rv,p,hz⟩:=I.tuple hq;obtain⟨u,hu,ru⟩:=rv.get hx;obtain⟨f0,f1,f2,f3,f4,f5⟩:=hf it (by simp)
  refine wpAny_pyNext_tuple_item st (show s.heap.IsTuple a its.toArray from p) (x:=u) (by simpa using hu) λh' xY sb=>?_
  have I1:Inv X pins σ H { s with heap:=h' }:=I.turned (t':=s.toks) (λb o hb e=>(sb.2 b hb).trans e) f0 f1 f3 f4 f5
  obtain⟨o,e,c,d⟩:=id xY;exact⟨u,rfl,Dx (s:={ s with heap:=h' }) e c d (by decide) ⟨x,H,I1,ru,⟨rfl,λys hy=>by rw[I.AZ hy hq];exact hx⟩,xY,λb hb=>(hf b hb).1⟩⟩
 done:=by
  intro X hP hw hK hc i pins s σ H E I hf st hg;subst hP hw hK;obtain⟨xs,hq,hx⟩:=hg;obtain⟨its,rv,p,hz⟩:=I.tuple hq;obtain⟨f0,f1,f2,f3,f4,f5⟩:=hf it (by simp)
  have hl:=rv.length;exact wpAny_pyNext_tuple_end (I.ok.hd hc) st (show s.heap.IsTuple a its.toArray from p) (by simp;omega) λh' eb=>⟨rfl,I.turned (t':=s.toks) (λb o hb e=>eb b o hb e) f0 f1 f3 f4 f5⟩
 self:=λ_ _ _ _ _ st h=>wpAny_pyIter_tupleiter st h
theorem Fo(it:aR)(lo:Int)(n:Nat):Turn P w K tg (Y0 lo n) [it] it (λi h=>IsRangeIter h it (lo+(i:Nat)*1) ((n:Int)-(i:Nat)) 1) where
 mem:=by simp
 obj:=λi h st b hb=>by
  have e:b=it:=by simpa using hb
  subst e;exact⟨_,st,λv z=>by
   have z':Data.fields _=Data.cell v:=z;cases z'⟩
 keep:=λi h h' st k=>k it (by simp) _ st
 item:=by
  intro X hP hw hK hc i pins s σ H E I hf st hg;subst hP hw hK;obtain⟨f0,f1,f2,f3,f4,f5⟩:=hf it (by simp)
  have W:=Walks.range (prog:=X.prog) (w:=X.w) (I.ok.hd hc) it lo 1 n;refine W.item i s _ _ hg st λv h' tk hv xY kk=>?_
  obtain⟨t,rfl⟩:=hv;have I1:Inv X pins σ H { s with heap:=h',toks:=tk }:=I.turned (λb o hb e=>kk b o (by simpa using hb) e) f0 f1 f3 f4 f5
  refine⟨_,rfl,Dx (s:={ s with heap:=h',toks:=tk }) (n:="range_iterator") xY rfl rfl (by decide) ⟨.int (lo+i),H,I1,⟨t,?_⟩,⟨rfl,rfl⟩,xY,λb hb=>(hf b hb).1⟩⟩
  rw[Int.mul_one]
 done:=by
  intro X hP hw hK hc i pins s σ H E I hf st hg;subst hP hw hK;obtain⟨f0,f1,f2,f3,f4,f5⟩:=hf it (by simp)
  exact wpAny_pyNext_range_end (I.ok.hd hc) st (by have:n<=i:=hg;omega) λh' eb=>⟨rfl,I.turned (t':=s.toks) (λb o hb e=>eb b o hb e) f0 f1 f3 f4 f5⟩
 self:=λ_ _ _ _ _ st h=>wpAny_pyIter_rangeiter st h
section
variable{X:Cx}{tg:bZ}
def U6(K:au)(tl:TE):TI:=λσ H R=>tl σ H λx H1=>∃a,x=.ref a/\(∃xs,kW K H1 a xs)/\R (Itl K a) H1
def Y1(K:au)(tl:TE):TI:=λσ H R=>tl σ H λx H1=>∃a,x=.ref a/\(∃xs,oH K H1 a xs)/\R (Itt K a) H1
theorem Nj{l:bZ}{tl:TE}(hl:PE X l tl):PI X tg l (U6 X.K tl):=by
 intro pins s σ H R I h;refine gK (hl pins s σ H _ I h) λv s1 ⟨x,H1,I1,r1,q1⟩=>?_
 obtain⟨a,e,⟨xs,hq⟩,q⟩:=q1;subst e;cases r1;obtain⟨its,rv,p,hz⟩:=I1.list hq;refine mU p.isList ?_
 refine⟨s1.heap.objs.size,[s1.heap.objs.size],_,_,H1,rfl,I1.kept (t':=s1.toks) λb o e=>aF _ e,Ig a _,⟨_,bA _ rfl,rfl,rfl⟩,λb hb=>?_,q⟩
 have e:b=s1.heap.objs.size:=by simpa using hb
 subst e;exact I1.yp (ay _) (I1.hok.fresh (ay _))
theorem RG{l:bZ}{tl:TE}(hl:PE X l tl):PI X tg l (Y1 X.K tl):=by
 intro pins s σ H R I h;refine gK (hl pins s σ H _ I h) λv s1 ⟨x,H1,I1,r1,q1⟩=>?_
 obtain⟨a,e,⟨xs,hq⟩,q⟩:=q1;subst e;cases r1;obtain⟨its,rv,p,hz⟩:=I1.tuple hq;refine yk (show s1.heap.IsTuple a its.toArray from p) ?_
 refine⟨s1.heap.objs.size,[s1.heap.objs.size],_,_,H1,rfl,I1.kept (t':=s1.toks) λb o e=>aF _ e,Fn a _,⟨_,bA _ rfl,rfl,rfl⟩,λb hb=>?_,q⟩
 have e:b=s1.heap.objs.size:=by simpa using hb
 subst e;exact I1.yp (ay _) (I1.hok.fresh (ay _))
theorem Kc{R:It->Hp->Prop}{lo hi:Int}{t u v:Tok}{tk:Nat}(I:Inv X pins σ H s)(h1:-(2^62)<=lo)(h2:lo<2^62)(h3:-(2^62)<=hi)(h4:hi<2^62)
  (q:R (Y0 lo (hi-lo).toNat) H):wpAny (model X.prog X.w) X.A (pyIter (.ref s.heap.objs.size)) (YZ X pins σ tg R) E { s with heap:=s.heap.push { cls:=.type "range",data:=.fields #[.int lo t,.int hi u,.int 1 v] },toks:=tk }:=by
 refine wpAny_pyIter_range (IsRange.new ..) (small_one h1 h2 h3 h4) ?_
 have I1:Inv X pins σ H { s with heap:=s.heap.push { cls:=.type "range",data:=.fields #[.int lo t,.int hi u,.int 1 v] },toks:=tk }:=I.kept λb o e=>aF _ e
 refine⟨(s.heap.push { cls:=.type "range",data:=.fields #[.int lo t,.int hi u,.int 1 v] }).objs.size,[(s.heap.push { cls:=.type "range",data:=.fields #[.int lo t,.int hi u,.int 1 v] }).objs.size],_,_,H,rfl,
  I1.kept (t':=tk) λb o e=>aF _ e,Fo _ lo (hi-lo).toNat,?_,λb hb=>?_,q⟩
 ·have e1:lo+((0:Nat):Int)*1=lo:=by simp
  have e2:(((hi-lo).toNat:Nat):Int)-((0:Nat):Int)=iI lo hi 1:=by rw[rangeSize_one];split<;>omega
  show IsRangeIter _ _ (lo+((0:Nat):Int)*1) ((((hi-lo).toNat:Nat):Int)-((0:Nat):Int)) 1;rw[e1,e2];exact bA _ rfl
 ·have e:b=(s.heap.push { cls:=.type "range",data:=.fields #[.int lo t,.int hi u,.int 1 v] }).objs.size:=by simpa using hb
  subst e;exact I1.yp (ay _) (I1.hok.fresh (ay _))
def U7(ta:TA):TI:=λσ H R=>ta σ H λvs H1=>∃j:Int,vs=[.int j]/\-(2^62)<=j/\j<2^62/\R (Y0 0 j.toNat) H1
theorem Ih{a:bZ}{ta:TA}{p pos:Pos}(hg:Gl X "range")(hm:X.mg "range"=none)(ha:PA X [a] ta)(hs:starEach [a] X.env=[(false,eval a X.env)]:=by rfl):PI X tg (.Call (.Name "range" p) [a] [] pos) (U7 ta):=by
 intro pins s σ H R I h;refine Call_ (vW I hg hm boot_range (jx (gK (ha pos pins s σ H _ I h) λus s1 ⟨vs,H1,I1,r1,q1⟩=>?_) hs rfl))
 obtain⟨j,e,q1,q2,q⟩:=q1;subst e;cases r1 with
 |cons r rr=>
  cases rr;obtain⟨t,rfl⟩:=r;exact call_range_1 (Kc I1 (by omega) (by omega) q1 q2 (by simpa using q))
def Y2(wi:TI)(g:TG)(tb:TS):TS:=λD σ H=>wi σ H λJ H1=>∃W:Nat->Nat->St->Hp->Prop,(∃m,W 0 m σ H1)/\∀i m σ H,W i m σ H->
 (J.stop i H/\D.nx σ H)\/(J.go i H/\∃N:St->Hp->Prop,(∀σ' H',N σ' H'->∃m',m'<m/\W (i+1) m' σ' H')/\∀x H',J.U5 i H x H'->g x σ H' λσ2 H2=>tb { D with nx:=N,ct:=N,bk:=D.nx } σ2 H2)
def yq(fp:List aR)(h:dg):List (aR×Obj):=fp.filterMap λb=>(h.get? b).map λo=>(b,o)
theorem qm{b:aR}(hb:b∈fp)(e:h.get? b=some o):(b,o)∈yq fp h:=jJ.mpr ⟨b,hb,by rw[e];rfl⟩
theorem Ii{p:aR×Obj}(hp:p∈yq fp h):p.1∈fp/\h.get? p.1=some p.2:=by
 obtain⟨b,hb,e⟩:=jJ.mp hp;cases q:h.get? b with
 |none=>rw[q]at e;cases e
 |some o=>
  rw[q]at e;have e':(b,o)=p:=cR e;subst e';exact⟨hb,q⟩
theorem Inv.pinned(I:Inv X pins σ H s)(hf:∀b∈fp,uW X pins H b)(ho:∀b∈fp,∃o,s.heap.get? b=some o/\∀v,o.data≠.cell v):Inv X (pins++yq fp s.heap) σ H s:=
 I.GL λp hp=>(bS.mp hp).elim (λz=>I.pin p (b0 _ z)) λz=>by
  obtain⟨hb,e⟩:=Ii z;obtain⟨f0,f1,f2,_⟩:=hf p.1 hb;obtain⟨o,e',d⟩:=ho p.1 hb;rw[e]at e';cases e';exact⟨e,f0,f1,f2,d⟩
theorem Inv.rT{pl: List (aR×Obj)}(I:Inv X (pins++pl) σ H s):Inv X pins σ H s:=I.GL λp hp=>I.pin p (b0 _ (dC _ hp))
theorem BV{iter:bZ}{wi:TI}{g:TG}{tb:TS}{pos:Pos}(hp:tN (model X.prog X.w) X.A X.env X.xe)(hc:X.calm=true)(hi:PI X tg iter wi)(hg:PG X tg g)(hb:Fi X body tb)
  (hs:∀x,foldedSetIterable iter X.env x=pure x:=by intro _;rfl):PS X (.For tg iter body [] pos) (Y2 wi g tb):=by
 intro pins s σ H D I h;refine wpAny_For (gK (hi pins s σ H _ I h) λv s1 h1=>gK h1 λXY s2 h2=>?_) hs
 obtain⟨it,fp,tn,J,H2,e,I2,T,U8,f2,W,⟨m0,w0⟩,turn⟩:=h2;subst e;have stat:∀{H':Hp},(∀b∈fp,H' b=none)->∀b∈fp,uW X pins H' b:=λhn b hb=>⟨hn b hb,(f2 b hb).2⟩
 refine codeAny_forLoop_any (λn s'=>∃i σ' H',Inv X pins σ' H' s'/\tn i s'.heap/\(∀b∈fp,H' b=none)/\W i n σ' H') ?_ m0 ⟨0,σ,H2,I2,U8,λb hb=>(f2 b hb).1,w0⟩
 rintro n s3 ⟨i,σ3,H3,I3,st3,fr3,w3⟩
 rcases turn i n σ3 H3 w3 with⟨stop,qn⟩|⟨go,N,hN,step⟩
 ·refine kj hp (gK (T.done X rfl rfl rfl hc i pins s3 σ3 H3 X.xe I3 (stat fr3) st3 stop) λr s4 ⟨hr,I4⟩=>?_)
  subst hr;exact uK ⟨σ3,H3,I4,qn⟩
 ·refine kj hp (gK (T.item X rfl rfl rfl hc i pins s3 σ3 H3 X.xe I3 (stat fr3) st3 go) λr s4 ⟨u,hr,h4⟩=>?_)
  subst hr;refine kj hp (gK h4 λ_ s5 ⟨x,H5,I5,r5,y5,Y3,fr5⟩=>?_)
  have I5':=I5.pinned (stat fr5) (T.obj _ _ Y3);refine kj hp (gK (hg _ s5 σ3 H5 x u _ I5' r5 (step x H5 y5)) λ_ s6 ⟨σ6,H6,I6,q6⟩=>?_)
  refine kj hp (gK (hb _ s6 σ6 H6 _ I6 q6) λf s7 q7=>?_)
  have again:∀{σ7:St}{H7:Hp},Inv X (pins++yq fp s5.heap) σ7 H7 s7->N σ7 H7->∃m,m<n/\∃i σ' H',Inv X pins σ' H' s7/\tn i s7.heap/\(∀b∈fp,H' b=none)/\W i m σ' H':=λ{σ7 H7}I7 n7=>by
   obtain⟨m',hm,w7⟩:=hN σ7 H7 n7;refine⟨m',hm,i+1,σ7,H7,I7.rT,T.keep _ _ _ Y3 λb hb o e=>(I7.pin (b,o) (b0 _ (b0 _ (qm hb e)))).1,λb hb=>?_,w7⟩
   obtain⟨o,e,d⟩:=T.obj _ _ Y3 b hb;exact(I7.pin (b,o) (b0 _ (b0 _ (qm hb e)))).2.1
  cases f with
  |next=>obtain⟨σ7,H7,I7,n7⟩:=q7;exact again I7 n7
  |cont=>obtain⟨σ7,H7,I7,n7⟩:=q7;exact again I7 n7
  |brk=>obtain⟨σ7,H7,I7,q7⟩:=q7;exact⟨σ7,H7,I7.rT,q7⟩
  |ret v=>obtain⟨x7,σ7,H7,I7,r7,q7⟩:=q7;exact⟨x7,σ7,H7,I7.rT,r7,q7⟩
end
abbrev R2:=V->V->Hp->VK->Prop
variable{r:R2}
def rV(X:Cx)(f:aE->aE->Sem aE)(r:R2):Prop:=
 ∀(pins:List (aR×Obj))(s:aM)(σ:St)(H:Hp)(x y:V)(v u:aE)(Q:VK),Inv X pins σ H s->RelV x v->RelV y u->r x y H Q->
  wpAny (model X.prog X.w) X.A (f v u) (EP X pins σ Q) X.xe s
def Y4(X:Cx)(f:aE->Sem aE)(r:V->Hp->VK->Prop):Prop:=
 ∀(pins:List (aR×Obj))(s:aM)(σ:St)(H:Hp)(x:V)(v:aE)(Q:VK),Inv X pins σ H s->RelV x v->r x H Q->
  wpAny (model X.prog X.w) X.A (f v) (EP X pins σ Q) X.xe s
def jV(X:Cx)(f:aE)(r:List V->Hp->VK->Prop):Prop:=
 ∀(pins:List (aR×Obj))(s:aM)(σ:St)(H:Hp)(xs:List V)(us:List aE)(Q:VK),Inv X pins σ H s->dX xs us->r xs H Q->
  wpAny (model X.prog X.w) X.A (call f us) (EP X pins σ Q) X.xe s
def Y5(X:Cx)(r:V->Hp->(Bool->Hp->Prop)->Prop):Prop:=
 ∀(pins:List (aR×Obj))(s:aM)(σ:St)(H:Hp)(x:V)(v:aE)(Q:Bool->Hp->Prop),Inv X pins σ H s->RelV x v->r x H Q->
  wpAny (model X.prog X.w) X.A (truthy v) (TP X pins σ Q) X.xe s
def U9(r:R2)(ta tb:TE):TE:=λσ H Q=>ta σ H λx H1=>tb σ H1 λy H2=>r x y H2 Q
def tUn(r:V->Hp->VK->Prop)(ta:TE):TE:=λσ H Q=>ta σ H λx H1=>r x H1 Q
def rI(C:Int->Int->Prop)(g:Int->Int->V):R2:=λx y H Q=>∃i j,x=.int i/\y=.int j/\C i j/\Q (g i j) H
def MZ(g:Int->Int->V):R2:=λx y H Q=>∃i j,x=.int i/\y=.int j/\Q (g i j) H
def rU(g:Int->V):V->Hp->VK->Prop:=λx H Q=>∃i,x=.int i/\Q (g i) H
section
variable{X:Cx}{a b c:bZ}{ta tb tc:TE}{pos:Pos}
theorem RH(ha:PE X a ta)(hb:PE X b tb)(I:Inv X pins σ H s)
  (h:ta σ H λx H1=>tb σ H1 λy H2=>R x y H2)
  (hf:∀v u s2 x y H2,Inv X pins σ H2 s2->RelV x v->RelV y u->R x y H2->wpAny (model X.prog X.w) X.A (f v u) Q X.xe s2):
  wpAny (model X.prog X.w) X.A (eval a X.env) (λv s₁=>wpAny (model X.prog X.w) X.A (eval b X.env) (λu s₂=>wpAny (model X.prog X.w) X.A (f v u) Q X.xe s₂) X.xe s₁) X.xe s:=by
 refine gK (ha pins s σ H _ I h) λv s1 ⟨x,H1,I1,r1,q1⟩=>?_
 refine gK (hb pins s1 σ H1 _ I1 q1) λu s2 ⟨y,H2,I2,r2,q2⟩=>?_
 exact hf v u s2 x y H2 I2 r1 r2 q2
theorem GN{op:Operator}(ho:rV X (binaryOp op) r)(ha:PE X a ta)(hb:PE X b tb):PE X (.BinOp a op b pos) (U9 r ta tb):=by
 intro pins s σ H Q I h;exact wpAny_BinOp (RH ha hb I h λv u s2 x y H2 I2 rx ry q=>ho pins s2 σ H2 x y v u Q I2 rx ry q)
theorem U_{op:UnaryOp}{r:V->Hp->VK->Prop}(ho:Y4 X (unaryOp op) r)(ha:PE X a ta):PE X (.UnaryOp op a pos) (tUn r ta):=by
 intro pins s σ H Q I h;exact UnaryOp_ (gK (ha pins s σ H _ I h) λv s1 ⟨x,H1,I1,r1,q1⟩=>ho pins s1 σ H1 x v Q I1 r1 q1)
theorem Y6{C:Int->Int->Prop}
  (rule:∀(i j:Int)(t u:Tok)(s:aM)(Q:aE->aM->Prop)(E:aE->aM->Prop),C i j->Q (.int (g i j) s.toks) { s with toks:=s.toks+1 }->wpAny (model X.prog X.w) X.A (f (.int i t) (.int j u)) Q E s):
  rV X f (rI C λi j=>.int (g i j)):=by
 intro pins s σ H x y v u Q I rx ry h;obtain⟨i,j,rfl,rfl,hc,q⟩:=h;obtain⟨t,rfl⟩:=rx;obtain⟨t',rfl⟩:=ry;exact rule i j t t' s _ _ hc ⟨.int (g i j),H,I.tok _,⟨_,rfl⟩,q⟩
theorem Va
  (rule:∀(i j:Int)(t u:Tok)(s:aM)(Q:aE->aM->Prop)(E:aE->aM->Prop),Q (.int (g i j) s.toks) { s with toks:=s.toks+1 }->wpAny (model X.prog X.w) X.A (f (.int i t) (.int j u)) Q E s):
  rV X f (MZ λi j=>.int (g i j)):=by
 intro pins s σ H x y v u Q I rx ry h;obtain⟨i,j,rfl,rfl,q⟩:=h;obtain⟨t,rfl⟩:=rx;obtain⟨t',rfl⟩:=ry;exact rule i j t t' s _ _ ⟨.int (g i j),H,I.tok _,⟨_,rfl⟩,q⟩
theorem Nk{g:Int->Int->Bool}
  (rule:∀(i j:Int)(t u:Tok)(s:aM)(Q:aE->aM->Prop)(E:aE->aM->Prop),Q (.bool (g i j)) s->wpAny (model X.prog X.w) X.A (f (.int i t) (.int j u)) Q E s):
  rV X f (MZ λi j=>.bl (g i j)):=by
 intro pins s σ H x y v u Q I rx ry h;obtain⟨i,j,rfl,rfl,q⟩:=h;obtain⟨t,rfl⟩:=rx;obtain⟨t',rfl⟩:=ry;exact rule i j t t' s _ _ ⟨.bl (g i j),H,I,rfl,q⟩
def Vb(i j:Int):Prop:=0<j/\j<1073741824
def Nn(i j:Int):Prop:=(-(2^64)<i/\i<2^64)\/(-(2^64)<j/\j<2^64)
theorem Nn.ok{i j:Int}(h:Nn i j):IntMulOk i j:=by
 rcases h with⟨h1,h2⟩|⟨h1,h2⟩
 ·exact .of_left (intBits_le_64 h1 h2)
 ·exact .of_right (intBits_le_64 h1 h2)
theorem RJ:rV X (binaryOp .Add) (MZ λi j=>.int (i+j)):=Va λ_ _ _ _ _ _ _ q=>add_int q
theorem RK:rV X (binaryOp .Sub) (MZ λi j=>.int (i-j)):=Va λ_ _ _ _ _ _ _ q=>sub_int q
theorem RL:rV X (binaryOp .Mult) (rI Nn λi j=>.int (i*j)):=Y6 λ_ _ _ _ _ _ _ hc q=>mul_int q hc.ok
theorem Nq:rV X (binaryOp .FloorDiv) (rI Vb λi j=>.int (i/j)):=Y6 λi j _ _ _ _ _ hc q=>by
 have h1:(0:Int)<j:=hc.1;have h2:j<1073741824:=hc.2;exact floordiv_int (by omega) (by rw[Int.fdiv_eq_ediv_of_nonneg i (by omega)];exact q) (.inl (PyProof.noPylong_small (by omega)))
theorem RM:rV X (binaryOp .Mod) (rI (λ_ j=>0<j) λi j=>.int (i%j)):=Y6 λi j _ _ _ _ _ hc q=>by
 have h1:(0:Int)<j:=hc;exact mod_int' (by omega) (by rw[Int.fmod_eq_emod_of_nonneg i (by omega)];exact q)
theorem unI{f:aE->Sem aE}{g:Int->Int}
  (rule:∀(i:Int)(t:Tok)(s:aM)(Q:aE->aM->Prop)(E:aE->aM->Prop),Q (.int (g i) s.toks) { s with toks:=s.toks+1 }->wpAny (model X.prog X.w) X.A (f (.int i t)) Q E s):
  Y4 X f (rU λi=>.int (g i)):=by
 intro pins s σ H x v Q I rx h;obtain⟨i,rfl,q⟩:=h;obtain⟨t,rfl⟩:=rx;exact rule i t s _ _ ⟨.int (g i),H,I.tok _,⟨_,rfl⟩,q⟩
theorem RN:Y4 X (unaryOp .USub) (rU λi=>.int (-i)):=unI λ_ _ _ _ _ q=>neg_int q
end
section
variable{X:Cx}{a b c:bZ}{ta tb tc:TE}{pos:Pos}
theorem Fp{Q:VK}{k k':Bool}(I:Inv X pins σ H s)(q:Q (.bl k) H)(e:k=k'):EP X pins σ Q (.bool k') s:=by
 subst e;exact⟨.bl k,H,I,rfl,q⟩
theorem Vc:rV X (compareOp .Lt) (MZ λi j=>.bl (decide (i<j))):=Nk λ_ _ _ _ _ _ _ q=>lt_int q
theorem Dy:rV X (compareOp .LtE) (MZ λi j=>.bl (decide (i<=j))):=Nk λ_ _ _ _ _ _ _ q=>le_int q
theorem Qe:rV X (compareOp .Gt) (MZ λi j=>.bl (decide (j<i))):=Nk λ_ _ _ _ _ _ _ q=>gt_int q
theorem Qf:rV X (compareOp .GtE) (MZ λi j=>.bl (decide (j<=i))):=Nk λ_ _ _ _ _ _ _ q=>ge_int q
theorem Ij:rV X (compareOp .In) (λx y H Q=>∃i j,x=.str i/\y=.str j/\Q (.bl (!(rn.Str.occurrences j i 0 j.length 1).isEmpty)) H):=by
 intro pins s σ H x y v u Q I rx ry h;obtain⟨i,j,rfl,rfl,q⟩:=h;obtain⟨t,rfl⟩:=rx;obtain⟨t',rfl⟩:=ry;exact in_str (Fp I q rfl)
theorem lX:rV X (compareOp .Is) (λx y H Q=>y=.non/\Q (.bl (decide (x=.non))) H):=by
 intro pins s σ H x y v u Q I rx ry h;obtain⟨rfl,q⟩:=h;cases ry;refine is_none_gen (Fp I q ?_)
 cases x<;>first
  |(cases rx;rfl)
  |(obtain⟨t,rfl⟩:=rx;rfl)
theorem GO:rV X (compareOp .IsNot) (λx y H Q=>y=.non/\Q (.bl (!decide (x=.non))) H):=by
 intro pins s σ H x y v u Q I rx ry h;obtain⟨rfl,q⟩:=h;cases ry;refine isnot_none_gen (Fp I q ?_)
 cases x<;>first
  |(cases rx;rfl)
  |(obtain⟨t,rfl⟩:=rx;rfl)
theorem gC(b:bZ){op:Fc}(h:op≠.In:=by decide)(h2:op≠.NotIn:=by decide):behindInMarks op b=false:=by
 have e1:(op==Fc.In)=false:=by cases op<;>first|rfl|exact qQ7 rfl h
 have e2:(op==Fc.NotIn)=false:=by cases op<;>first|rfl|exact qQ7 rfl h2
 cases b<;>simp[behindInMarks,e1,e2]
theorem Nr{op:Fc}(ho:rV X (compareOp op) r)(ha:PE X a ta)(hb:PE X b tb)(hm:behindInMarks op b=false):PE X (.Compare a [op] [b] pos) (U9 r ta tb):=by
 intro pins s σ H Q I h;exact wpAny_Compare1 (RH ha hb I h λv u s2 x y H2 I2 rx ry q=>ho pins s2 σ H2 x y v u Q I2 rx ry q) hm
def Vd(t:TE):TT:=λσ H Q=>t σ H λx H'=>∃k,x=.bl k/\Q k H'
theorem Nt{op:Fc}(ho:rV X (compareOp op) r)(ha:PE X a ta)(hb:PE X b tb)(hm:behindInMarks op b=false):PT X (.Compare a [op] [b] pos) (Vd (U9 r ta tb)):=by
 intro pins s σ H Q I h;refine wpAny_isTrue_Compare1 (gK (ha pins s σ H _ I h) λv s1 ⟨x,H1,I1,r1,q1⟩=>gK (hb pins s1 σ H1 _ I1 q1) λu s2 ⟨y,H2,I2,r2,q2⟩=>
  gK (ho pins s2 σ H2 x y v u _ I2 r1 r2 q2) λc s3 ⟨z,H3,I3,r3,k,e,q3⟩=>?_) hm
 subst e;cases r3;exact fx ⟨H3,I3,q3⟩
def RP(r r':R2)(ta tb tc:TE):TE:=λσ H Q=>ta σ H λx H1=>tb σ H1 λy H2=>r x y H2 λz H3=>∃k,z=.bl k/\
 (if k=true then tc σ H3 λw' H4=>r' y w' H4 Q else Q (.bl false) H3)
theorem Dz{op op':Fc}{r': R2}(ho:rV X (compareOp op) r)(BO:rV X (compareOp op') r')(ha:PE X a ta)(hb:PE X b tb)(hc:PE X c tc)
  (hm:lastMarks [op,op'] [b,c]=false:=by with_unfolding_all rfl):PE X (.Compare a [op,op'] [b,c] pos) (RP r r' ta tb tc):=by
 intro pins s σ H Q I h;refine Compare_chain (gK (ha pins s σ H _ I h) λv s1 ⟨x,H1,I1,r1,q1⟩=>chain_link (gK (hb pins s1 σ H1 _ I1 q1) λu s2 ⟨y,H2,I2,r2,q2⟩=>
  gK (ho pins s2 σ H2 x y v u _ I2 r1 r2 q2) λd s3 ⟨z,H3,I3,r3,k,e,q3⟩=>?_)) hm
 subst e;cases r3;refine fx ?_
 cases k with
 |false=>exact ite_ff ⟨.bl false,H3,I3,rfl,q3⟩
 |true=>exact ite_tt (chain_last (gK (hc pins s3 σ H3 _ I3 q3) λw' s4 ⟨z',H4,I4,r4,q4⟩=>BO pins s4 σ H4 y z' u w' Q I4 r2 r4 q4))
def Ve(K:au)(x:V)(H:Hp)(k:Bool):Prop:=
 match x with
 | .non=>k=false
 | .bl b=>k=b
 | .int i=>k=(i != 0)
 | .str y=>y.length<=sizeLine/\k=((y.length:Int) != 0)
 | .Ub y=>y.size<=sizeLine/\k=((y.size:Int) != 0)
 | .ref p=>(∃xs,kW K H p xs/\k=!xs.isEmpty)\/(∃xs,oH K H p xs/\k=!xs.isEmpty)\/∃kvs,H p=some (.dK kvs)/\k=!kvs.isEmpty
 |_=>False
theorem Fq{κ:Type}{kvs:List (κ×V)}{vs:List (κ×aE)}(r:KV kvs vs):(!vs.isEmpty)=!kvs.isEmpty:=by
 cases r<;>rfl
theorem yr{its:List aE}(r:dX xs its):(!its.toArray.isEmpty)=!xs.isEmpty:=by
 cases r<;>simp
theorem qo:(sizeLine:Nat)<2^63:=by rw[dA];decide
theorem RQ:Y5 X (λx H Q=>∃k,Ve X.K x H k/\Q k H):=by
 intro pins s σ H x v Q I rx h;obtain⟨k,e,q⟩:=h;have hl:=qo;have hs:sizeLine=16777216:=dA;cases x with
 |non=>
  cases rx;have e':k=false:=e;subst e';exact truthy_none ⟨H,I,q⟩
 |bl b=>
  cases rx;have e':k=b:=e;subst e';exact fx ⟨H,I,q⟩
 |int i=>
  obtain⟨t,rfl⟩:=rx;have e':k=(i != 0):=e;subst e';exact PySem.P.truthy_int ⟨H,I,q⟩
 |str y=>
  obtain⟨t,rfl⟩:=rx;obtain⟨hy,e'⟩:y.length<=sizeLine/\k=((y.length:Int) != 0):=e;subst e';exact PySem.P.truthy_str (by omega) ⟨H,I.tok _,q⟩
 |Ub y=>
  obtain⟨t,rfl⟩:=rx;obtain⟨hy,e'⟩:y.size<=sizeLine/\k=((y.size:Int) != 0):=e;subst e';exact PySem.W.truthy_bytes (by omega) ⟨H,I.tok _,q⟩
 |ref p=>
  cases rx;have e':(∃xs,kW X.K H p xs/\k=!xs.isEmpty)\/(∃xs,oH X.K H p xs/\k=!xs.isEmpty)\/∃kvs,H p=some (.dK kvs)/\k=!kvs.isEmpty:=e;rcases e' with⟨xs,hx,e'⟩|⟨xs,hx,e'⟩|⟨kvs,hx,e'⟩
  ·subst e'
   obtain⟨its,r,pl,hz⟩:=I.list hx;have hlen:=r.length;exact wpAny_truthy_list pl.isList (by simp only[bp];omega) ⟨H,I.tok _,by rw[yr r];exact q⟩
  ·subst e'
   obtain⟨its,r,pl,hz⟩:=I.tuple hx;have hlen:=r.length;exact truthy_tuple pl (by simp only[bp];omega) ⟨H,I.tok _,by rw[yr r];exact q⟩
  ·subst e'
   obtain⟨hz,hS,vs,r,m⟩:kvs.length<=sizeLine/\(p==sysModules)=false/\∃vs,KV kvs vs/\s.heap.DictOf (eZ X.prog X.w) p vs:=I.hok p _ hx;have hlen:kvs.length=vs.length:=uc r;exact wpAny_truthy_dict hS m (by omega) ⟨H,I.tok _,by rw[Fq r];exact q⟩
 |_=>exact(show False from e).elim
theorem Kd(ha:PE X a ta)(he:∀whole,isTrue a X.env whole=(do let v <-whole;standAt a.pos;holding [v] (truthy v))):
  PT X a (λσ H Q=>ta σ H λx H'=>∃k,Ve X.K x H' k/\Q k H'):=by
 intro pins s σ H Q I h;exact isTrue_plain (gK (ha pins s σ H _ I h) λv s1 ⟨x,H1,I1,r1,q1⟩=>RQ pins s1 σ H1 x v Q I1 r1 q1) (he _)
theorem Fs:rV X (binaryOp .Add) (λx y H Q=>∃i j,x=.str i/\y=.str j/\i.length+j.length<=sizeLine/\Q (.str (i++j)) H):=by
 intro pins s σ H x y v u Q I rx ry h;obtain⟨i,j,rfl,rfl,hz,q⟩:=h;obtain⟨t,rfl⟩:=rx;obtain⟨t',rfl⟩:=ry;exact add_str (λt' tk=>⟨.str (i++j),H,I.tok _,⟨_,rfl⟩,q⟩) hz
theorem vals1{x:V}(r:dX [x] us):∃u,us=[u]/\RelV x u:=by
 cases r with
 |cons r1 r2=>cases r2;exact⟨_,rfl,r1⟩
theorem vals2{x y:V}(r:dX [x,y] us):∃u w',us=[u,w']/\RelV x u/\RelV y w':=by
 cases r with
 |cons r1 r2=>
  cases r2 with
  |cons r3 r4=>cases r4;exact⟨_,_,rfl,r1,r3⟩
theorem Ik(hc:X.calm=true):jV X (.builtin "min") (λxs H Q=>∃i j,xs=[.int i,.int j]/\Q (.int (if j<i then j else i)) H):=by
 intro pins s σ H xs us Q I r h;obtain⟨i,j,rfl,q⟩:=h;obtain⟨u,w',rfl,⟨t,rfl⟩,⟨t',rfl⟩⟩:=vals2 r;refine min_two_ints (I.ok.hd hc) λh' tk k=>⟨_,H,I.kept k,?_,q⟩
 by_cases hj:j<i
 ·rw[qQ3 hj,qQ3 hj];exact⟨_,rfl⟩
 ·rw[qQ2 hj,qQ2 hj];exact⟨_,rfl⟩
theorem BW:jV X (.type "str") (λxs H Q=>∃i,xs=[.int i]/\i.natAbs.log2<1920/\Q (.str (toString i)) H):=by
 intro pins s σ H xs us Q I r h;obtain⟨i,rfl,hz,q⟩:=h;obtain⟨u,rfl,t,rfl⟩:=vals1 r;exact PySem.P.str_of_int hz ⟨.str _,H,I.tok _,⟨_,rfl⟩,q⟩
end
structure Il(h:dg)(x dx C:aR)(mA:Str->Option aE):Prop where
 obj:h.get? x=some (iE C dx)
 ns:h.Ns1 dx mA
 ne:dx≠x
theorem Im{dx:aR}(n:h.Ns1 dx mA):∃od,h.get? dx=some od/\∀name,yl name od=some (mA name):=by
 obtain⟨o,es,ep,ho,hd,hk,_,hm⟩:=n;refine⟨o,ho,λname=>?_⟩
 have e:=hm name;unfold nsFind findBy at e;rw[<-Array.find?_toList]at e
 unfold yl;rw[hd]
 dsimp only
 split
 ·rename_i y q
  rw[q]at e;exact qQ6 some e
 ·rename_i q
  rw[q]at e;have a:es.toList.any (·.refKey)=false:=by
   rw[List.any_eq_false];intro y hy;obtain⟨z,t,RT⟩:=hk y (Array.mem_toList_iff.mp hy);simp[wO.refKey,RT]
  have a':¬es.toList.any (·.refKey)=true:=by rw[a];exact cz
  rw[qQ2 a'];exact qQ6 some e
theorem Il.look{x dx: aR}(I:Il h x dx C mA):∃od,PySem.W.InstAt h x (iE C dx) C (some od)/\∀name,yl name od=some (mA name):=
 let⟨od,ho,hl⟩:=Im I.ns
 ⟨od,⟨I.obj,rfl,rfl,ho⟩,hl⟩
section
variable{prog:bK}{w:cB}{A:dQ}{E:aE->aM->Prop}{s:aM}{K:au}{x dx C f:aR}{mA:Str->Option aE}{name:Str}{v:aE}
theorem get_map{expr:Bool}(X:K.In s.heap)(I:Il s.heap x dx C mA)(hg:pD K C name=true)(hh:oE K C=true)
  (ha:dG K (.ref C) name=some none)(hv:mA name=some v)(Ke:PySem.W.handedIn v=true)(h:Q v { s with toks:=s.toks+1 }):
  wpAny (model prog w) A (getAttr (.ref x) name expr) Q E s:=by
 obtain⟨od,J,hl⟩:=I.look;exact PySem.W.get_value X J (PySem.W.plainGet_of hg).1 (PySem.W.findObj_own hh ha rfl (by rw[hl,hv])) Ke h
theorem Nu{ns:List Str}{Q:Unit->aM->Prop}(X:K.In s.heap)(I:Il s.heap x dx C mA)
  (hs:dG K (.ref C) "__setattr__"=some (some (.builtin "object.__setattr__")))(hp:uR K C=true)(ht:xx K C name=some none)(hh:oE K C=true)
  (hw:Ds mA ns)(hsz:ns.length<=sizeLine)
  (h:∀h',Il h' x dx C (λy=>if y=name then some v else mA y)->iU dx s.heap h'->Q () { s with heap:=h',toks:=s.toks+2 }):
  wpAny (model prog w) A (setAttr (.ref x) name v) Q E s:=by
 obtain⟨od,J,hl⟩:=I.look;refine PySem.W.set_plain X J hs (PySem.W.osa_open (s:={ s with toks:=s.toks+1 }) (r:=none) X J hp ht λb=>?_)
 obtain⟨cd,hc,Rr⟩:=PySem.W.any_some hh;have hx:s.heap.get? x=some ⟨.ref C,some dx,.plain,#[]⟩:=I.obj;refine aA (bj (aA (aA (wpAny_loadPart hx (aA (PySem.W.Looks.here (s:={ s with toks:=s.toks+1 }) (PySem.W.looks_clsIn X hc) ?_))))))
 rw[Rr];refine bj (a:=some dx) (aA (bj (aA ?_)))
 refine wpAny_nsSet1 (s:={ s with toks:=s.toks+1 }) I.ns λh' Ue pA=>?_
 obtain⟨oD,esD,epD,hoD,hdD,hcD⟩:=Ue.count (Ds.cons name v hw);refine aA (wpAny_lookBehind hoD (by rw[hdD];exact pastItsLine_dict (cp hcD (by rw[bJ];omega))) ?_)
 exact bj (h _ ⟨(pA.2 _ (bV I.ne)).trans I.obj,Ue,I.ne⟩ pA)
theorem Kf{R:ug->aM->Prop}{vs:List aE}(X:K.In s.heap)(hm:xA K C=true)
  (hi:dG K (.ref C) "__init__"=some (some (.ref f)))(hf:PySem.W.typeIn K (.ref f)=some (.type "function"))
  (h:codeAny (model prog w) (A.under (.builtin "type.__call__" ⟨.ref C::vs,kw⟩)) (.call (.ref f) ⟨.ref (s.heap.objs.size+1)::vs,kw⟩) (PySem.W.InitBack (s.heap.objs.size+1) R)
   { s with heap:=(s.heap.push fH).push (iE C s.heap.objs.size) }) :
  codeAny (model prog w) A (.call (.ref C) ⟨vs,kw⟩) R s:=by
 obtain⟨hh,g,d,t,os⟩:=s;exact PySem.W.make_core (PySem.W.makes_of X hm) (PySem.W.looks_findIn X hi) (λself=>PySem.W.bind_fn X self hf) (.inl rfl) h
end
def mY(f:Str)(v:V):List (Str×V)->List (Str×V)
 | []=>[(f,v)]
 |(g,x)::r=>if g=f then(g,v)::r else(g,x)::mY f v r
theorem wQ(f g:Str)(v:V):∀fs:List (Str×V),(mY f v fs).lookup g=if g=f then some v else fs.lookup g
 | []=>by
  show lg g [(f,v)]=_;by_cases h:g=f
  ·have hb:(g==f)=true:=beq_iff_eq.mpr h
   simp only[lg,hb,qQ3 h]
  ·have hb:(g==f)=false:=beq_eq_false_iff_ne.mpr h
   simp only[lg,hb,qQ2 h]
 |(k,x)::r=>by
  have ih:=wQ f g v r;rw[show mY f v ((k,x)::r)=(if k=f then(k,v)::r else(k,x)::mY f v r)from rfl]
  by_cases hk:k=f
  ·rw[qQ3 hk]
   by_cases h:g=k
   ·have hb:(g==k)=true:=beq_iff_eq.mpr h
    simp only[lg,hb,qQ3 (h.trans hk)]
   ·have hb:(g==k)=false:=beq_eq_false_iff_ne.mpr h
    simp only[lg,hb,qQ2 (λe:g=f=>h (e.trans hk.symm))]
  ·rw[qQ2 hk]
   by_cases h:g=k
   ·have hb:(g==k)=true:=beq_iff_eq.mpr h
    simp only[lg,hb,qQ2 (λe:g=f=>hk (h.symm.trans e))]
   ·have hb:(g==k)=false:=beq_eq_false_iff_ne.mpr h
    simp only[lg,hb];exact ih
theorem vY(f:Str)(v:V):∀fs:List (Str×V),f∈(mY f v fs).map (·.1)/\∀g,g∈fs.map (·.1)->g∈(mY f v fs).map (·.1)
 | []=>⟨by simp[mY],λg h=>by simp at h⟩
 |(k,x)::r=>by
  obtain⟨i1,i2⟩:=vY f v r;rw[show mY f v ((k,x)::r)=(if k=f then(k,v)::r else(k,x)::mY f v r)from rfl]
  by_cases hk:k=f
  ·rw[qQ3 hk]
   subst hk;exact⟨by simp,λg h=>by simpa using h⟩
  ·rw[qQ2 hk]
   refine⟨?_,λg h=>?_⟩
   ·rw[aH]
    exact aT _ i1
   ·rw[aH]at h ⊢
    rcases aG.mp h with e|e
    ·exact aG.mpr (.inl e)
    ·exact aT _ (i2 g e)
theorem wR(f:Str)(v:V):∀fs:List (Str×V),(mY f v fs).length<=fs.length+1
 | []=>by simp[mY]
 |(k,x)::r=>by
  have ih:=wR f v r;rw[show mY f v ((k,x)::r)=(if k=f then(k,v)::r else(k,x)::mY f v r)from rfl]
  by_cases hk:k=f
  ·rw[qQ3 hk,bJ,bJ];omega
  ·rw[qQ2 hk,bJ,bJ];omega
theorem uj.some_of{v:V}{o:Option aE}(r:uj (some v) o):∃u,o=some u/\RelV v u:=by
 cases o with
 |none=>exact(show False from r).elim
 |some u=>exact⟨u,rfl,r⟩
theorem Io{v:V}(r:RelV v u):PySem.W.handedIn u=true:=by
 cases v with
 |non=>cases(show u=iZ from r);rfl
 |bl b=>cases(show u=aE.bool b from r);rfl
 |int i=>obtain⟨t,e⟩:=(show ∃t,u=De i t from r);cases e;rfl
 |str x=>obtain⟨t,e⟩:=(show ∃t,u=Df x t from r);cases e;rfl
 |Ub b=>obtain⟨t,e⟩:=(show ∃t,u=aE.bytes b t from r);cases e;rfl
 |flt b=>obtain⟨t,e⟩:=(show ∃t,u=aE.float b t from r);cases e;rfl
 |ref a=>cases(show u=dw a from r);rfl
 |ty n=>cases(show u=uO n from r);rfl
section
variable{P:bK}{w:cB}{H H':Hp}{h h':dg}{a C dx:aR}{fs fs':List (Str×V)}
theorem GP(hok:uN P w H h)(e:H a=some (.ins C dx fs)):∃mA,Il h a dx C mA/\(∀f,uj (fs.lookup f) (mA f))/\Ds mA (fs.map (·.1))/\fs.length<=1000/\H dx=some (.own a):=by
 obtain⟨d,z,ne,ob,mA,n,r,q⟩:=(show gT P w H h a (.ins C dx fs)from hok a _ e)
 exact⟨mA,⟨ob,n,ne⟩,r,q,z,d⟩
end
structure DB(K:au)(C:aR):Prop where
 pg:pD K C fY=true
 hd:oE K C=true
 po:uR K C=true
 sa:dG K (.ref C) "__setattr__"=some (some (.builtin "object.__setattr__"))
theorem DB.get(c:DB K C)(f:Str):pD K C f=true:=c.pg
def kB(K:au)(C:aR)(f:Str):Prop:=dG K (.ref C) f=some none
theorem kB.taker{f:Str}(n:kB K C f):xx K C f=some none:=by
 unfold xx;rw[show dG K (.ref C) f=some none from n]
 rfl
section
variable{X:Cx}{pins:List (aR×Obj)}{σ:St}{H:Hp}{s:aM}{a C dx:aR}{fs:List (Str×V)}{f:Str}{v:V}{A:dQ}{E:aE->aM->Prop}
theorem Ft{b:Bool}(I:Inv X pins σ H s)(e:H a=some (.ins C dx fs))(c:DB X.K C)(n:kB X.K C f)(l:fs.lookup f=some v)
  (h:∀u s',Inv X pins σ H s'->RelV v u->Q u s'):wpAny (model X.prog X.w) A (getAttr (.ref a) f b) Q E s:=by
 obtain⟨mA,O,r,_,_,_⟩:=GP I.hok e;obtain⟨u,hu,ru⟩:=uj.some_of (v:=v) (o:=mA f) (by rw[<-l];exact r f)
 exact get_map I.BM O (c.get f) c.hd n hu (Io ru) (h u _ (I.tok _) ru)
theorem Fu{y:V}{Q:Unit->aM->Prop}(I:Inv X pins σ H s)(e:H a=some (.ins C dx fs))(c:DB X.K C)(n:kB X.K C f)(hl:fs.length<1000)(ry:RelV y u)
  (h:∀s',Inv X pins σ (upd H a (.ins C dx (mY f y fs))) s'->Q () s'):wpAny (model X.prog X.w) A (setAttr (.ref a) f u) Q E s:=by
 obtain⟨mA,O,r,wi,_,ho⟩:=GP I.hok e;have hz:(fs.map (·.1)).length<=sizeLine:=by rw[ai,dA];omega
 refine Nu I.BM O c.sa c.po n.taker c.hd wi hz λh' O' sb=>h _ ?_
 have hd:∃o,h'.get? dx=some o:=let⟨o,_,_,e',_⟩:=O'.ns;⟨o,e'⟩;refine I.write (x:=a) (e:=dx) (by rw[e];exact gw) (.inr ho) (λb q hb z=>(sb.2 b hb).trans z) hd ?_
 refine⟨by rw[aP O.ne];exact ho,?_,O.ne,O'.obj,_,O'.ns,λg=>?_,λg hg=>?_⟩
 ·have:=wR f y fs;omega
 ·show uj ((mY f y fs).lookup g) (if g=f then some u else mA g)
  rw[wQ];by_cases q:g=f
  ·rw[qQ3 q,qQ3 q];exact ry
  ·rw[qQ2 q,qQ2 q];exact r g
 ·by_cases q:g=f
  ·rw[q];exact(vY f y fs).1
  ·refine(vY f y fs).2 g (wi g λz=>hg ?_)
   show(if g=f then some u else mA g)=none
   rw[qQ2 q];exact z
theorem Inv.made(I:Inv X pins σ H s):Inv X pins σ (upd (upd H s.heap.objs.size (.own (s.heap.objs.size+1))) (s.heap.objs.size+1) (.ins C s.heap.objs.size []))
  { s with heap:=(s.heap.push fH).push (iE C s.heap.objs.size) }:=by
 have e1:(s.heap.push fH).get? s.heap.objs.size=some fH:=bA s.heap rfl;have e2:((s.heap.push fH).push (iE C s.heap.objs.size)).get? (s.heap.objs.size+1)=some (iE C s.heap.objs.size):=by
  have:=bA (s.heap.push fH) (o:=iE C s.heap.objs.size) rfl
  rwa [iA]at this
 have e3:(s.heap.push fH).Ns s.heap.objs.size (λ_=>none):=⟨fH,#[],_,e1,rfl,(λe he=>qQ7 he (by simp)),λ_=>rfl⟩
 have I1:=I.laid (a:=s.heap.objs.size) (o:=.own (s.heap.objs.size+1)) (h':=s.heap.push fH) (t':=s.toks) (λb u q=>aF _ q) (ay _) ⟨_,e1⟩
 refine I1.laid (a:=s.heap.objs.size+1) (o:=.ins C s.heap.objs.size []) (t':=s.toks) (λb u q=>aF _ q) (Nat.le_of_eq (iA _ _)) ?_
 have ne:s.heap.objs.size≠s.heap.objs.size+1:=a9 (kF _);refine⟨by rw[aP ne,bq],bF _,ne,e2,λ_=>none,(dg.Ns1.of_empty e3).at λo q=>aF _ q,λ_=>gw,λy hy=>qQ7 rfl hy⟩
theorem Nv{prog:bK}{env:Env}{f:Str}{pos:Pos}(hb:attributeBase e f env (eval e env)=eval e env)
  (h:wpAny (model prog w) A (eval e env) (λo s₁=>wpAny (model prog w) A (getAttr o f true) Q E s₁) E s):wpAny (model prog w) A (eval (.Attribute e f pos) env) Q E s:=
 Attribute_any_ h (by rw[arm_eval_Attribute,hb])
end
def Y7(K:au)(ta:TE)(f:Str):TE:=λσ H Q=>ta σ H λx H1=>∃a C dx fs v,x=.ref a/\H1 a=some (.ins C dx fs)/\DB K C/\kB K C f/\fs.lookup f=some v/\Q v H1
def Y8(K:au)(ta tv:TE)(f:Str):TS:=λD σ H=>tv σ H λy H1=>ta σ H1 λx H2=>∃a C dx fs,x=.ref a/\H2 a=some (.ins C dx fs)/\DB K C/\kB K C f/\fs.length<1000/\
 D.nx σ (upd H2 a (.ins C dx (mY f y fs)))
section
variable{X:Cx}{o e value:bZ}{f:Str}{pos pos' Y9:Pos}{ta tv:TE}
theorem yt(he:PE X e ta)(hb:attributeBase e f X.env (eval e X.env)=eval e X.env):PE X (.Attribute e f pos) (Y7 X.K ta f):=by
 intro pins s σ H Q I h;refine Nv hb (gK (he pins s σ H _ I h) λu s1 ⟨x,H1,I1,rx,a,C,dx,fs,v,ex,ea,c,n,l,q⟩=>?_)
 subst ex;obtain rfl:u=dw a:=rx;exact Ft I1 ea c n l λu' s2 I2 ru=>⟨v,H1,I2,ru,q⟩
theorem uk(ha:PE X o ta)(hv:PE X value tv)(hs:swapsWith value (some (.Attribute o f pos')) pos.line X.env=pure false):PS X (.Assign [.Attribute o f pos'] value pos) (Y8 X.K ta tv f):=by
 intro pins s σ H D I h;refine plainObj_wpAny_Assign_Attribute (gK (hv pins s σ H _ I h) λu s1 ⟨y,H1,I1,ry,q⟩=>gK (ha pins s1 σ H1 _ I1 q) λov s2 ⟨x,H2,I2,rx,a,C,dx,fs,ex,ea,c,n,l,q2⟩=>?_) hs
 subst ex;obtain rfl:ov=dw a:=rx;exact Fu I2 ea c n l ry λs3 I3=>⟨σ,_,I3,q2⟩
end
section
variable{X:Cx}{pins:List (aR×Obj)}{σ:St}{H:Hp}{s:aM}{A:dQ}{E:aE->aM->Prop}{Q:aE->aM->Prop}{c:aE}{b:Bool}
inductive yu(K:au)(H:Hp):V->aE->Prop where
 |non:yu K H .non (.type "NoneType")
 |bl (x:Bool):yu K H (.bl x) (.type "bool")
 |int (i:Int):yu K H (.int i) (.type "int")
 |str (x:Str):yu K H (.str x) (.type "str")
 |flt (x:UInt64):yu K H (.flt x) (.type "float")
 |lst {a:aR} {xs:List V} (e:H a=some (.lst xs)):yu K H (.ref a) (.type "list")
 |rA {a:aR} {o:Obj} {xs:List V} (e:H a=some (.rA o (.lst xs))):yu K H (.ref a) (.type "list")
 |tup {a:aR} {xs:List V} (e:H a=some (.tup xs)):yu K H (.ref a) (.type "tuple")
 |dK {a:aR} {kvs:List (Key×V)} (e:H a=some (.dK kvs)):yu K H (.ref a) (.type "dict")
 |dT {a:aR} {kvs:List (List Key×V)} (e:H a=some (.dT kvs)):yu K H (.ref a) (.type "dict")
 |ins {a C dx:aR} {fs:List (Str×V)} (e:H a=some (.ins C dx fs)) (cl:DB K C) (ha:dG K (.ref C) "__class__"=some (some (.builtin "object.__class__")))
   (hn:PySem.W.specialIn K (.builtin "object.__class__") "__get__"=some (some (.builtin "getset_descriptor.__get__"))) (Ug:PySem.W.takesIn K (.builtin "object.__class__")=some true)
   (hm:PySem.W.mroIn K C (.type "object")=some true):yu K H (.ref a) (.ref C)
end
structure e8(k:Nat)(A:dQ):Prop where
 hd:A.handled=none
 dp:A.depth+3*k+5<recursionLimit
 un:A.units+16*k+200<cLine
theorem e8.mono{j: Nat}(r:e8 k A)(h:j<=k):e8 j A:=⟨r.hd,by have:=r.dp;omega,by have:=r.un;omega⟩
theorem e8.deeper(r:e8 (k+1) A)(env:Env):e8 k (A.deeper env):=
 ⟨r.hd,by have:=r.dp;show A.depth+1+3*k+5<_;omega,by have:=r.un;show A.units+3+16*k+200<_;omega⟩
theorem Fv:(A.under (.builtin "type.__call__" ⟨.ref C::us,kw⟩)).depth=A.depth+1:=by
 first|rfl|simp[Dg,Code.weight,Code.isCreation,Code.isGuard,Code.isCaller,Code.frames,EX,guardIds]
theorem Fw:(A.under (.builtin "type.__call__" ⟨.ref C::us,kw⟩)).units=A.units+1:=by
 first|rfl|simp[Dg,Code.cUnits,Code.frames,EX]
theorem e8.make(r:e8 (k+1) A)(C:aR)(us:List aE)(kw:List (Str×aE)):e8 k (A.under (.builtin "type.__call__" ⟨.ref C::us,kw⟩)):=
 ⟨r.hd,by have:=r.dp;rw[Fv];omega,by have:=r.un;rw[Fw];omega⟩
theorem e8.depth(r:e8 k A):A.depth<recursionLimit:=by have:=r.dp;omega
def Vf:TA:=λ_ H Q=>Q [] H
def Vg(ta:TE)(tr:TA):TA:=λσ H Q=>ta σ H λx H1=>tr σ H1 λxs H2=>Q (x::xs) H2
section
variable{X:Cx}{e:bZ}{es:List bZ}{te:TE}{t:TA}{pos:Pos}
theorem fF:PA X [] Vf:=λ_ _ _ _ H Q I h=>vR ⟨[],H,I,.nil,h⟩
theorem du(ha:PE X e te)(hr:PA X es t)(hs:starEach (e::es) X.env=(false,eval e X.env)::starEach es X.env:=by rfl):PA X (e::es) (Vg te t):=by
 intro pos pins s σ H Q I h;rw[hs];show wpAny _ _ (spliced ((false,eval e X.env)::backTo pos (starEach es X.env))) _ _ s;refine kZ (gK (ha pins s σ H _ I h) λu s1 ⟨x,H1,I1,r1,q1⟩=>?_)
 exact gK (hr pos pins s1 σ H1 _ I1 q1) λus s2 ⟨xs,H2,I2,r2,q2⟩=>⟨x::xs,H2,I2,.cons r1 r2,q2⟩
def Y_(t:TA):TE:=λσ H Q=>t σ H λxs H1=>xs.length<=sizeLine/\∀p,H1 p=none->Q (.ref p) (upd H1 p (.tup xs))
def Y'(t:TA):TE:=λσ H Q=>t σ H λxs H1=>xs.length<=sizeLine/\∀p,H1 p=none->Q (.ref p) (upd H1 p (.lst xs))
theorem yv{x1}(h:PA X es t):PE X (.Tuple es x1 pos) (Y_ t):=by
 intro pins s σ H Q I hq;refine wpAny_Tuple_spliced (gK (h pos pins s σ H _ I hq) λus s1 ⟨xs,H1,I1,r,z,q⟩=>⟨by rw[<-r.length];exact z,?_⟩)
 have hf:H1 s1.heap.objs.size=none:=I1.hok.fresh (ay _);refine⟨.ref s1.heap.objs.size,upd H1 s1.heap.objs.size (.tup xs),I1.laid (t':=s1.toks) (λb u e=>aF _ e) (ay _) ?_,rfl,q _ hf⟩
 exact⟨z,us,r,⟨_,bA _ rfl,rfl,_,rfl⟩⟩
theorem BX(h:PA X es t):PE X (.List es pos) (Y' t):=by
 intro pins s σ H Q I hq;refine wpAny_List_spliced (gK (h pos pins s σ H _ I hq) λus s1 ⟨xs,H1,I1,r,z,q⟩=>⟨by rw[<-r.length];exact z,?_⟩)
 have hf:H1 s1.heap.objs.size=none:=I1.hok.fresh (ay _);refine⟨.ref s1.heap.objs.size,upd H1 s1.heap.objs.size (.lst xs),I1.laid (t':=s1.toks) (λb u e=>aF _ e) (ay _) ?_,rfl,q _ hf⟩
 exact⟨z,us,0,r,bA _ rfl⟩
end
abbrev Sp:=List V->Hp->VK->XK->Prop
abbrev JR:=List Env->Hp->aM->XK->aE->aM->Prop
variable{CX:JR}
structure Fx(P:bK)(w:cB)(K:au)(mg:Str->Option aE)(base:dg)(A:dQ)(outer:List Env)(s:aM)(H:Hp):Prop where
 frames:A.frames=some outer
 mod:Mod K mg base
 bs:∀b o,base.get? b=some o->s.heap.get? b=some o/\H b=none
 P9:base.objs.size<=s.heap.objs.size
 xG:s.heap.FunFrames base outer
 Rp:∀b∈JQ outer,H b=none
 hok:uN P w H s.heap
 bare:ud s.gens
def CE(outer:List Env)(P:bK)(w:cB)(H:Hp)(s:aM)(Q:VK)(u:aE)(s':aM):Prop:=
 ∃v H',s'.os=s.os/\ud s'.gens/\Un (JQ outer) [] H H' s.heap s'.heap/\uN P w H' s'.heap/\RelV v u/\Q v H'
def CR(CX:JR)(outer:List Env)(P:bK)(w:cB)(H:Hp)(s:aM)(Q:VK)(E:XK)(r:ug)(s':aM):Prop:=
 match r with
 | .ok (.ret u)=>CE outer P w H s Q u s'
 | .ok _=>False
 | .error e=>CX outer H s E e s'
structure ft(P:bK)(w:cB)(K:au)(mg:Str->Option aE)(base:dg)(CX:JR)(k:Nat)(f:aR)(fd:gJ)(ps:List Str)(sp:Sp):Prop where
 len:∀vs H Q E,sp vs H Q E->vs.length=ps.length
 run:∀(A:dQ)(outer:List Env)(s:aM)(H:Hp)(args:Args)(us:List aE)(vs:List V)(Q:VK)(E:XK),e8 k A->Fx P w K mg base A outer s H->BindsTo s fd args (ps.zip us)->dX vs us->sp vs H Q E->
  codeAny (model P w) A (.call (.ref f) args) (CR CX outer P w H s Q E) s
theorem Fx.make(e:Fx P w K mg base A outer s H)(C:aR)(us:List aE)(kw:List (Str×aE)):
  Fx P w K mg base (A.under (.builtin "type.__call__" ⟨.ref C::us,kw⟩)) outer s H:=⟨by first|exact e.frames|(simpa[Dg,Code.envs,EX,pushEnvs]using e.frames),e.mod,e.bs,e.P9,e.xG,e.Rp,e.hok,e.bare⟩
section
variable{X:Cx}{pins:List (aR×Obj)}{σ:St}{H:Hp}{s s':aM}
theorem Inv.env0(I:Inv X pins σ H s):Fx X.prog X.w X.K X.mg X.base X.A X.stack s H:=
 ⟨I.ok.frames,I.ok.mod,I.bs,cp I.ok.P9 I.sz,I.stack,I.GK,I.hok,I.bare⟩
theorem Inv.after{Q:VK}(I:Inv X pins σ H s)(h:CE X.stack X.prog X.w H s Q u s'):EP X pins σ Q u s':=by
 obtain⟨v,H',os,bare,un,hok,r,q⟩:=h;obtain⟨hh,g,d,t,Nx⟩:=s';obtain rfl:Nx=s.os:=os;exact⟨v,H',I.call (h':=hh) (g':=g) (d':=d) (t':=t) (ch:=[]) un hok bare (λb z=>qQ7 z (by simp)),r,q⟩
end
def Vh(sp:Sp)(Fy:List V)(E:XK)(t:TA):TE:=λσ H Q=>t σ H λvs H1=>sp (vs++Fy) H1 Q E
def Vi(C:aR)(sp:Sp)(Fy:List V)(E:XK)(t:TA):TE:=λσ H Q=>t σ H λvs H1=>∀x dx,H1 x=none->H1 dx=none->dx≠x->
 sp (.ref x::(vs++Fy)) (upd (upd H1 dx (.own x)) x (.ins C dx [])) (λv H2=>v=.non/\Q (.ref x) H2) E
def Binds(K:au)(fd:gJ)(ps:List Str)(ds:List aE):Prop:=
 ∀(s:aM)(us:List aE),K.In s.heap->(us++ds).length=ps.length->BindsTo s fd ⟨us,[]⟩ (ps.zip (us++ds))
theorem Binds.all{fd:gJ}(h:∀us:List aE,us.length=ps.length->bindArgs fd ⟨us,[]⟩=pure (ps.zip us)):Binds K fd ps []:=λs us _ hl=>by
 rw[eI]at hl ⊢;exact .of_eq (h us hl)
def yw(CX:JR)(X:Cx)(E:XK):Prop:=∀(pins:List (aR×Obj))(σ:St)(H:Hp)(s:aM)(e:aE)(s':aM),Inv X pins σ H s->CX X.stack H s E e s'->X.xe e s'
section
variable{X:Cx}{CX:JR}{k:Nat}{f C:aR}{fd:gJ}{ps:List Str}{sp:Sp}{Fy:List V}{ds:List aE}{E:XK}{x m:Str}{p pos apos:Pos}{e o:bZ}{es:List bZ}{ta:TE}{t:TA}
theorem RV{Q:VK}(F:ft X.prog X.w X.K X.mg X.base CX k f fd ps sp)(hr:e8 k X.A)(hb:Binds X.K fd ps ds)(hd:dX Fy ds)(hx:yw CX X E)
  (I:Inv X pins σ H s)(r:dX vs us)(h:sp (vs++Fy) H Q E):wpAny (model X.prog X.w) X.A (call (.ref f) us) (EP X pins σ Q) X.xe s:=by
 have r2:dX (vs++Fy) (us++ds):=r.append hd;have hl:(us++ds).length=ps.length:=by rw[<-r2.length];exact F.len _ _ _ _ h
 refine wpAny_call (pE (F.run X.A X.stack s H ⟨us,[]⟩ (us++ds) (vs++Fy) Q E hr I.env0 (hb s us I.BM hl) r2 h) λr s' hq=>?_)
 cases r with
 |error e=>exact hx pins σ H s e s' I hq
 |ok fl=>
  cases fl with
  |ret u=>exact I.after hq
  |next=>exact ix hq
  |brk=>exact ix hq
  |cont=>exact ix hq
theorem uX(F:ft X.prog X.w X.K X.mg X.base CX k f fd ps sp)(hr:e8 k X.A)(hg:Gl X x)(hm:X.mg x=some (.ref f))(hk:jg X.K (.ref f)=true)(hb:Binds X.K fd ps ds)(hd:dX Fy ds)(hx:yw CX X E)
  (ha:PA X (e::es) t)(oW:(x==("__debug__":Str))=false:=by decide)(he:starEach (e::es) X.env=(false,eval e X.env)::starEach es X.env:=by rfl)(qp:(backTo pos (starEach es X.env)).any (·.1)=false:=by rfl):
  PE X (.Call (.Name x p) (e::es) [] pos) (Vh sp Fy E t):=by
 intro pins s σ H Q I h;refine qf (BQ I hg hm ?_ oW)
 refine PySem.W.callWith_K (h₀:=X.base) I.ok.mod.UM hk (gK (ha pos pins s σ H _ I h) λus s1 ⟨vs,H1,I1,r,q⟩=>⟨I1.BM,?_⟩) he qp
 exact RV F hr hb hd hx I1 r q
structure Mk(K:au)(C f:aR):Prop where
 makes:xA K C=true
 init:dG K (.ref C) "__init__"=some (some (.ref f))
 fn:PySem.W.isFn K (.ref f)=true
 kp:jg K (.ref C)=true
theorem Kg{Q:VK}(M:Mk X.K C f)(F:ft X.prog X.w X.K X.mg X.base CX k f fd ps sp)(hr:e8 (k+1) X.A)(hb:Binds X.K fd ps ds)(hd:dX Fy ds)
  (hx:yw CX X E)(I:Inv X pins σ H s)(r:dX vs us)
  (h:∀x dx,H x=none->H dx=none->dx≠x->sp (.ref x::(vs++Fy)) (upd (upd H dx (.own x)) x (.ins C dx [])) (λv H2=>v=.non/\Q (.ref x) H2) E):
  wpAny (model X.prog X.w) X.A (call (.ref C) us) (EP X pins σ Q) X.xe s:=by
 have hq:=h (s.heap.objs.size+1) s.heap.objs.size (I.hok.fresh (pZ _)) (I.hok.fresh (ay _)) (a9 (kF _));have I2:=Inv.made (C:=C) I;have r2:dX (V.ref (s.heap.objs.size+1)::(vs++Fy)) (dw (s.heap.objs.size+1)::(us++ds)):=.cons rfl (r.append hd);have hl:(dw (s.heap.objs.size+1)::us++ds).length=ps.length:=by
  have e:=r2.length;rw[F.len _ _ _ _ hq]at e;exact e.symm
 refine wpAny_call (Kf (f:=f) I.BM M.makes M.init (beq_iff_eq.mp M.fn) (pE (F.run _ X.stack _ _ ⟨dw (s.heap.objs.size+1)::us,[]⟩ (dw (s.heap.objs.size+1)::(us++ds)) _ _ E (hr.make C us [])
  (I2.env0.make C us []) (hb _ (dw (s.heap.objs.size+1)::us) I2.BM hl) r2 hq) λr s' Ip=>?_))
 cases r with
 |error e=>exact hx pins σ _ _ e s' I2 Ip
 |ok fl=>
  cases fl with
  |ret u=>
   obtain⟨v,H',I3,rv,ev,q3⟩:=I2.after Ip;subst ev;exact⟨rv,⟨V.ref (s.heap.objs.size+1),H',I3,rfl,q3⟩⟩
  |next=>exact ix Ip
  |brk=>exact ix Ip
  |cont=>exact ix Ip
theorem Kh(M:Mk X.K C f)(F:ft X.prog X.w X.K X.mg X.base CX k f fd ps sp)(hr:e8 (k+1) X.A)(hg:Gl X x)(hm:X.mg x=some (.ref C))(hb:Binds X.K fd ps ds)(hd:dX Fy ds)(hx:yw CX X E)
  (oW:(x==("__debug__":Str))=false:=by decide):PE X (.Call (.Name x p) [] [] pos) (Vi C sp Fy E Vf):=by
 intro pins s σ H Q I h;refine qf (BQ I hg hm ?_ oW)
 exact PySem.W.callWith_K0 I.BM M.kp (Kg (us:=[]) M F hr hb hd hx I .nil h)
end
section
variable{X:Cx}{CX:JR}{k:Nat}{f C:aR}{fd:gJ}{ps ks:List Str}{sp:Sp}{E:XK}{x m:Str}{p pos apos zeF:Pos}{e o:bZ}{es:List bZ}{kws:List gR}{te ta:TE}{t tk:TA}{nm:Option Str}
variable{g:List aE->List aE->List aE}{gV:List V->List V->List V}
end
structure cC(N P:List Str)(sc:nz):Prop where
 kind:sc.kind=.function
 co:sc.isCoroutine=false
 gen:sc.isGenerator=false
 nd:N.Nodup
 pre:N.take P.length=P
 par:∀x∈P,sc.names.lookup x=some .local\/sc.names.lookup x=some .cell
 RW:∀y∈sc.names,y.2≠.free
theorem A1{x:Str}:∀{binds:List (Str×aE)}{m:Str->Option aE},(∀v,(x,v)∉binds)->bindL kindOf binds m x=m x
 | [],_,_=>rfl
 |(n,v)::r,m,h=>by
  unfold bindL;rw[A1 λw hw=>h w (aT _ hw)]
  split
  ·have:x≠n:=by rintro rfl;exact h v aL
   simp[this]
  ·rfl
theorem A2{x:Str}:∀{binds:List (Str×aE)}{m:Str->Option aE},(∀v,(x,v)∉binds)->bindC kindOf binds m x=m x
 | [],_,_=>rfl
 |(n,v)::r,m,h=>by
  unfold bindC;rw[A2 λw hw=>h w (aT _ hw)]
  split
  ·rfl
  ·have:x≠n:=by rintro rfl;exact h v aL
   simp[this]
theorem A3{kindOf:Str->Option oy}{x:Str}{v:aE}:∀{P:List Str}{vs:List aE}{i:Nat}{m:Str->Option aE},P.Nodup->P[i]?=some x->vs[i]?=some v->kindOf x=some .local->
  bindL kindOf (P.zip vs) m x=some v
 | [],_,_,_,_,h,_,_=>by simp at h
 |_::_,[],_,_,_,_,h,_=>by simp at h
 |p::P,w::vs,0,m,nd,h1,h2,hk=>by
  simp at h1 h2;subst h1;subst h2;show bindL kindOf ((p,w)::P.zip vs) m p=_;unfold bindL;rw[A1 λv hv=>(eX.mp nd).1 (rF hv).1,qQ3 hk]
  simp
 |p::P,w::vs,i+1,m,nd,h1,h2,hk=>by
  show bindL kindOf ((p,w)::P.zip vs) m x=_;unfold bindL;exact A3 (i:=i) (eX.mp nd).2 (by simpa using h1) (by simpa using h2) hk
theorem A4{kindOf:Str->Option oy}{x:Str}{v:aE}:∀{P:List Str}{vs:List aE}{i:Nat}{m:Str->Option aE},P.Nodup->P[i]?=some x->vs[i]?=some v->kindOf x≠some .local->
  bindC kindOf (P.zip vs) m x=some v
 | [],_,_,_,_,h,_,_=>by simp at h
 |_::_,[],_,_,_,_,h,_=>by simp at h
 |p::P,w::vs,0,m,nd,h1,h2,hk=>by
  simp at h1 h2;subst h1;subst h2;show bindC kindOf ((p,w)::P.zip vs) m p=_;unfold bindC;rw[A2 λv hv=>(eX.mp nd).1 (rF hv).1,qQ2 hk]
  simp
 |p::P,w::vs,i+1,m,nd,h1,h2,hk=>by
  show bindC kindOf ((p,w)::P.zip vs) m x=_;unfold bindC;exact A4 (i:=i) (eX.mp nd).2 (by simpa using h1) (by simpa using h2) hk
def start(N:List Str)(vs:List V):St:=vs.map some++bh (N.length-vs.length) none
def pG(CX:JR)(P:bK)(w:cB)(K:au)(mg:Str->Option aE)(base:dg)(N:List Str)(qual:Str)(scope:nz)(f:aR)(cd:aE)(A:dQ)(outer:List Env)(s:aM)(H:Hp)(E:XK):Cx where
 prog:=P
 w:=w
 K:=K
 mg:=mg
 base:=base
 A:=A.deeper (envOfC qual scope s.heap.objs.size f cd)
 N:=N
 s₀:=s
 H₀:=H
 env:=envOfC qual scope s.heap.objs.size f cd
 outer:=outer
 stack:=envOfC qual scope s.heap.objs.size f cd::outer
 ex:=[]
 calm:=true
 fn:=λ_=>true
 pn:=[]
 xe:=λe s'=>wpAny (model P w) (A.deeper (envOfC qual scope s.heap.objs.size f cd)) (leaving (envOfC qual scope s.heap.objs.size f cd) e) (λ_ Ny=>CX outer H s E e Ny) (λe' Ny=>CX outer H s E e' Ny) s'
theorem DC{sc:nz}{n:Nat}{x:Str}(h:sc.names.lookup x=some .cell):∃c,(cellsFrom n sc.names []).lookup x=some c:=by
 have q:=Bz sc.names n [] (.inl h);exact Option.isSome_iff_exists.mp q
theorem Iq{qual:Str}{f:aR}{cd:aE}{s1: aM}{E:XK}
  (S:cC N ps scope)(hd:A.handled=none)(e0:Fx P w K mg base A outer s H)(hl:vs.length=ps.length)(r:dX vs us)
  (x:InCallC s s.heap.objs.size (bindL (envOfC qual scope s.heap.objs.size f cd).kindOf (ps.zip us) λ_=>none) (cellsFrom (s.heap.objs.size+1) scope.names []) (bindC (envOfC qual scope s.heap.objs.size f cd).kindOf (ps.zip us) λ_=>none) s1):
  Inv (pG CX P w K mg base N qual scope f cd A outer s H E) [] (start N vs) H s1:=by
 have qp:ps.length<=N.length:=by have:=qQ6 fq S.pre;rw[b9]at this;omega
 obtain⟨h1,tk,rfl,hk⟩:=x.done;have Vj:∀b:aR,b∉(pG CX P w K mg base N qual scope f cd A outer s H E).ex:=λb z=>qQ7 (show b∈([]:List aR)from z) (by simp)
 refine⟨⟨e0.mod,S.kind,rfl,rfl,ay _,λy z c h1 h2=>?_,λy hy=>?_,λy c _ h=>?_,λ_=>hd,dQ.frames_deeper e0.frames,.inr ⟨rfl,rfl⟩,λb z=>qQ7 z (Vj b),e0.bs,e0.P9,λb _ _=>Vj b,λb z=>qQ7 z (Vj b),e0.xG,e0.Rp⟩,
  rfl,e0.bare,Un.kept hk,⟨_,x.toInCall.ns,λi y v h1 h2 h3=>?_⟩,λy c h=>⟨_,x.cell y c h⟩,e0.hok.fresh (ay _),λy c h=>?_,λp hp=>qQ7 (show p∈([]:List (aR×Obj))from hp) (by simp),e0.hok.kept hk,?_⟩
 ·exact name_of_addr x.apart (jo h1) (jo h2)
 ·have hy:scope.names.lookup y=some .cell\/scope.names.lookup y=some .free:=hy
  rcases hy with hy|hy
  ·exact DC hy
  ·exact qQ7 rfl (S.RW _ (jo hy))
 ·exact rD (x.above y c (jo h))
 ·have hi:i<vs.length:=by
   unfold start at h2;by_cases hi:i<vs.length
   ·exact hi
   ·rw[cM (by simpa using hi)]at h2
    rw[dm]at h2
    split at h2<;>cases h2
  have ha:vs[i]?=some v:=by
   unfold start at h2;rw[cU (by simpa using hi),aI]at h2
   cases e:vs[i]? with
   |none=>rw[e]at h2;cases h2
   |some a=>rw[e]at h2;cases h2;rfl
  obtain⟨u,hu,rv⟩:=r.get ha;have hp:ps[i]?=some y:=by
   rw[<-S.pre,List.getElem?_take_of_lt (by omega)];exact h1
  have ndP:ps.Nodup:=by rw[<-S.pre];exact S.nd.sublist (List.take_sublist _ _)
  refine⟨u,rv,?_⟩
  rcases S.par y (bw hp)with k|k
  ·exact .inl ⟨k,A3 ndP hp hu k⟩
  ·obtain⟨c,e⟩:=DC (n:=s.heap.objs.size+1) k
   refine .inr ⟨.inl k,c,e,?_⟩
   have q:=x.cell y c e;rw[A4 ndP hp hu (by show scope.names.lookup y≠_;rw[k];decide)]at q
   exact q
 ·exact e0.hok.fresh (rD (x.above y c (jo h)))
 ·unfold start
  show _=N.length;rw[aY,ai,dq];omega
theorem Vk{f:aR}{name qual:Str}{params:Arguments}{dV kV doc pm fV ct oc:aE}{an od:Option aR}
  {Ki:Array (Option aE)}{sp:Sp}(lk:K.lookup f=some ⟨oc,od,.func (jy name qual params body scope dV kV doc pm an fV ct),Ki⟩)(oB:nJ K fV qual=true)(S:cC N ps scope)
  (len:∀vs H Q E,sp vs H Q E->vs.length=ps.length)
  (Kj:∀(A:dQ)(outer:List Env)(s:aM)(H:Hp)(vs:List V)(Q:VK)(E:XK),e8 k (A.deeper (envOfC qual scope s.heap.objs.size f fV))->sp vs H Q E->
   ∃t,Fi (pG CX P w K mg base N qual scope f fV A outer s H E) body t/\t { nx:=λ_ H'=>Q .non H',rt:=Q } (start N vs) H) :
  ft P w K mg base CX (k+1) f (jy name qual params body scope dV kV doc pm an fV ct) ps sp:=by
 refine⟨len,λA outer s H args us vs Q E hr e0 hb r BZ=>?_⟩
 have hl:=len _ _ _ _ BZ;have KX:K.In s.heap:=e0.mod.UM.keeps λb o e=>(e0.bs b o e).1
 have lim:s.heap.NoLimit:=e0.mod.nolimit.keeps λb o e=>(e0.bs b o e).1
 have DE:∀y∈ps.zip us,scope.names.lookup y.1=some .local\/(scope.names.lookup y.1=some .cell/\((cellsFrom (s.heap.objs.size+1) scope.names []).lookup y.1).isSome=true):=λ⟨n,v⟩ hy=>by
  rcases S.par n (rF hy).1 with q|q
  ·exact .inl q
  ·exact .inr ⟨q,Bz _ _ _ (.inl q)⟩
 refine codeAny_call_function hr.depth (KX _ _ lk) rfl S.co S.gen rfl (PySem.W.codeRec_of KX oB) (hb _ _ _ _ ?_)
 refine wpAny_newFunctionEnv_cells S.kind DE λenv he s1 x=>?_
 subst he;refine⟨lim.keeps x.toInCall.keep,codeAny_func ?_⟩
 obtain⟨t,ht,hq⟩:=Kj A outer s H vs Q E (hr.deeper _) BZ;have I:Inv (pG CX P w K mg base N qual scope f fV A outer s H E) [] (start N vs) H s1:=Iq S hr.hd e0 hl r x;refine iR (ht [] s1 (start N vs) H _ I hq) (λfl s' hs=>?_) λe s' hs=>hs
 have fin:∀{σ':St}{H':Hp}{v:V}{u:aE},Inv (pG CX P w K mg base N qual scope f fV A outer s H E) [] σ' H' s'->RelV v u->Q v H'->CE outer P w H s Q u s':=
  λ{σ' H' v u}J rv q=>⟨v,H',J.os,J.bare,J.base,J.hok,rv,q⟩
 cases fl with
 |ret u=>
  obtain⟨v,σ',H',J,rv,q⟩:=hs;exact fin J rv q
 |next=>
  obtain⟨σ',H',J,q⟩:=hs;exact fin (v:=V.non) (u:=iZ) J rfl q
 |brk=>
  obtain⟨_,_,_,q⟩:=hs;exact ix q
 |cont=>
  obtain⟨_,_,_,q⟩:=hs;exact ix q
section
variable{X:Cx}{x:Str}{p pos:Pos}{e:bZ}{es:List bZ}{t:TA}{id T:String}{r:List V->Hp->VK->Prop}
def tCB(r:List V->Hp->VK->Prop)(t:TA):TE:=λσ H Q=>t σ H λvs H1=>r vs H1 Q
theorem yx(hc:jV X (.builtin id) r)(hg:Gl X x)(hm:X.mg x=none)(hv:bootBuiltins x=some (.builtin id))(ha:PA X (e::es) t)(hn:x≠"__name__":=by decide)(oW:(x==("__debug__":Str))=false:=by decide)
  (he:starEach (e::es) X.env=(false,eval e X.env)::starEach es X.env:=by rfl)(qp:(backTo pos (starEach es X.env)).any (·.1)=false:=by rfl):PE X (.Call (.Name x p) (e::es) [] pos) (tCB r t):=by
 intro pins s σ H Q I h;refine qf (vW I hg hm hv ?_ hn oW)
 exact PyProof.Rows.callWith_builtin1 (gK (ha pos pins s σ H _ I h) λus s1 ⟨vs,H1,I1,r1,q1⟩=>hc pins s1 σ H1 vs us Q I1 r1 q1) he qp
theorem lY(hc:jV X (.type T) r)(hg:Gl X x)(hm:X.mg x=none)(hv:bootBuiltins x=some (.type T))(ha:PA X (e::es) t)(hn:x≠"__name__":=by decide)(oW:(x==("__debug__":Str))=false:=by decide)
  (he:starEach (e::es) X.env=(false,eval e X.env)::starEach es X.env:=by rfl)(qp:(backTo pos (starEach es X.env)).any (·.1)=false:=by rfl):PE X (.Call (.Name x p) (e::es) [] pos) (tCB r t):=by
 intro pins s σ H Q I h;refine qf (vW I hg hm hv ?_ hn oW)
 exact jx (gK (ha pos pins s σ H _ I h) λus s1 ⟨vs,H1,I1,r1,q1⟩=>hc pins s1 σ H1 vs us Q I1 r1 q1) he qp
end
end L2
namespace HT
open PySem PyProof.Rows
variable{Q:aE->aM->Prop}
section
open PySem.SeqAt
open PySem.AutoSeq1 (wpAny_loadPart')
open PySem.MeetsSeq PySem.MeetsSeq2 PySem.MeetsSeq3
end
section
variable{prog:bK}{w:cB}{A:dQ}{E:aE->aM->Prop}{s:aM}
theorem Nz{t b:aR}{vs ws:List aE}(ht:IsTup s.heap t vs.toArray)(hb:IsTup s.heap b ws.toArray)(hv:vs≠[])
  (h1:ws=[]->Q (.ref t) s)(h2:ws≠[]->Q (.ref s.heap.objs.size) { s with heap:=s.heap.push { cls:=.type "tuple",data:=.seq (vs++ws).toArray } })
  (hsz:vs.length+ws.length<=sizeLine):wpAny (model prog w) A (binaryOp .Add (.ref t) (.ref b)) Q E s:=by
 obtain⟨⟨cls,dd,data,sl⟩,ho,hc,n,hd⟩:=id ht;obtain⟨⟨Za,XZ,data2,X1⟩,Uh,X2,n2,hd2⟩:=id hb;simp only at hc hd X2 hd2;subst hc hd X2 hd2;have e:vs.toArray++ws.toArray=(vs++ws).toArray:=by simp
 by_cases hw:ws=[]
 ·exact concat_meets ⟨_,ho,rfl⟩ ⟨_,Uh,rfl⟩ noFill_tuple_add seq_tuple_add BD AJ (Ad _ _)
   (tuple_addW1 t b vs.toArray ws.toArray n n2 dd XZ sl X1 (by simpa using hv) (by simp[hw])) ⟨ho,Uh,h1 hw⟩
 ·refine concat_meets ⟨_,ho,rfl⟩ ⟨_,Uh,rfl⟩ noFill_tuple_add seq_tuple_add BD AJ (Ad _ _)
   (tuple_addW2 t b vs.toArray ws.toArray n n2 dd XZ sl X1 (by simpa using hv) (by simpa using hw) (by rw[bp,bp];exact hsz)) ⟨ho,Uh,?_⟩
  rw[e];exact h2 hw
def lM(n d:Nat):Option Int->Nat
 |none=>d
 |some v=>if v<0 then(v+(n:Int)).toNat else min v.toNat n
theorem DF(n d:Nat):lM n d none=d:=rfl
theorem qt(n d k:Nat):lM n d (some (k:Int))=min k n:=by
 show(if(k:Int)<0 then((k:Int)+(n:Int)).toNat else min (k:Int).toNat n)=min k n
 rw[qQ2 (by omega),fu]
theorem RX(n d:Nat)(hd:d<=n)(o:Option Int):lM n d o<=n:=by
 cases o with
 |none=>exact hd
 |some v=>
  show(if v<0 then(v+(n:Int)).toNat else min v.toNat n)<=n
  by_cases hv:v<0
  ·rw[qQ3 hv];omega
  ·rw[qQ2 hv];exact Nat.min_le_right _ _
theorem GQ(v:Int)(n d:Nat):(if v<0 then max (v+(n:Int)) 0 else min v (n:Int))=((lM n d (some v):Nat):Int):=by
 show(if v<0 then max (v+(n:Int)) 0 else min v (n:Int))=(((if v<0 then(v+(n:Int)).toNat else min v.toNat n):Nat):Int)
 by_cases hv:v<0
 ·simp only[qQ3 hv];omega
 ·simp only[qQ2 hv];omega
theorem Fz(lo hi:Option Int)(n:Nat):mV lo hi 1 (n:Int)=(((lM n 0 lo:Nat):Int),((lM n n hi:Nat):Int)):=by
 have h1:¬((1:Int)<0):=by omega
 unfold mV;simp only[h1,if_false];refine Prod.ext ?_ ?_
 ·cases lo with
  |none=>rfl
  |some v=>exact GQ v n 0
 ·cases hi with
  |none=>rfl
  |some v=>exact GQ v n n
theorem FC(i j:Nat):jU (i:Int) (j:Int) 1=j-i:=by
 unfold jU;have h1:(1:Int)>0:=by omega
 simp only[h1,if_true,Int.ediv_one]
 split<;>omega
theorem yy{v:aE}{o:Option Int}{Q:Option Int->aM->Prop}(p:BF v o)(h:Q o s):wpAny (model prog w) A (rn.Slice.slicePartIndex v) Q E s:=by
 cases p with
 |none=>exact slicePart_none h
 |int i t=>exact slicePart_int h
theorem vZ{sl:aR}{vl vu:aE}{lo hi:Option Int}{n:Nat}{Q:Int×Int×Nat->aM->Prop}(hs:s.heap.IsSliceOf sl vl vu .none)(pl:BF vl lo)(pu:BF vu hi)
  (h:Q (((lM n 0 lo:Nat):Int),1,lM n n hi-lM n 0 lo) s):wpAny (model prog w) A (uS (.ref sl) (pure (n:Int))) Q E s:=by
 obtain⟨os,Vl,Vm,M0⟩:=id hs;unfold uS rn.Slice.sliceFields;refine aA (aA (fS Vl M0 (x:=vl) rfl (aA (fS Vl M0 (x:=vu) rfl (aA (fS Vl M0 (x:=.none) rfl (bj ?_)))))))
 refine aA (slicePart_none ?_)
 show wpAny _ _ (if((1:Int)==0)=true then _ else _) _ _ s
 rw[qQ2 (by decide)]
 refine aA (yy pl (aA (yy pu (aA (bj ?_)))))
 show wpAny _ _ (match mV lo hi 1 (n:Int)with|(lo,hi)=>pure (lo,(1:Int),jU lo hi 1)) _ _ s
 rw[Fz lo hi n];show wpAny _ _ (pure (((lM n 0 lo:Nat):Int),(1:Int),jU ((lM n 0 lo:Nat):Int) ((lM n n hi:Nat):Int) 1)) _ _ s;rw[FC];exact bj h
theorem Kk(xs:Array aE)(i k:Nat):((aZ k).filterMap λ(m:Nat)=>xs[((i:Int)+(m:Int)*1).toNat]?).toArray=((xs.toList.drop i).take k).toArray:=by
 have e:(λ(m:Nat)=>xs[((i:Int)+(m:Int)*1).toNat]?)=λm=>xs[i+m]?:=by
  funext m
  have:((i:Int)+(m:Int)*1).toNat=i+m:=by omega
  rw[this]
 rw[e];have:=pick_run xs i k;rw[cY]at this;have e2:((λx=>xs[x]?)∘λx=>i+x)=λm=>xs[i+m]?:=rfl
 rw[e2]at this;rw[this]
theorem uY{t sl:aR}{items:Array aE}{vl vu:aE}{lo hi:Option Int}(ht:IsTup s.heap t items)(hs:s.heap.IsSliceOf sl vl vu .none)(pl:BF vl lo)(pu:BF vu hi)
  (hw:¬(lM items.size 0 lo=0/\lM items.size items.size hi=items.size))
  (h:Q (.ref s.heap.objs.size) { s with heap:=s.heap.push { cls:=.type "tuple",data:=.seq ((items.toList.drop (lM items.size 0 lo)).take (lM items.size items.size hi-lM items.size 0 lo)).toArray } })
  (hsz:items.size<=sizeLine):wpAny (model prog w) A (getItem (.ref t) (.ref sl)) Q E s:=by
 have GR:sizeOk (.seq ((items.toList.drop (lM items.size 0 lo)).take (lM items.size items.size hi-lM items.size 0 lo)).toArray):=by
  show((items.toList.drop (lM items.size 0 lo)).take (lM items.size items.size hi-lM items.size 0 lo)).toArray.size<=sizeLine
  rw[bp,b9,b_,c0];omega
 have hj:lM items.size items.size hi<=items.size:=RX _ _ (ay _) hi;obtain⟨os,Vl,Vm,M0⟩:=id hs;have hTs:s.TypeIs (.ref sl) "slice":=⟨os,Vl,Vm⟩;unfold getItem
 try with_reducible refine jw ?_
 first|refine aA (bj ?_)|skip
 refine aA (wpAny_sequenceKey ht.typeIs (by decide) ?_)
 refine aA (jN (name:=oA "__getitem__") ht.typeIs kU
  (k6 kU ht.typeIs entry_tuple_getitem ?_ (args_tuple_getitem _ _)))
 show wpAny _ _ (rn.Tuple.tupleItemsOf (.ref t) >>= _) _ _ s;refine aA (tupleItemsOf_ ht ?_)
 refine aA (Ae hTs ?_)
 rw[qQ3 (by decide)]
 refine aA (vZ hs pl pu ?_)
 have E5:¬((((lM items.size 0 lo:Nat):Int)==0&&(1:Int)==1&&(lM items.size items.size hi-lM items.size 0 lo)==items.size)=true):=by
  intro q;rw[qO,qO]at q;have q1:((lM items.size 0 lo:Nat):Int)=0:=eq_of_beq q.1.1;have q2:lM items.size items.size hi-lM items.size 0 lo=items.size:=eq_of_beq q.2;exact hw ⟨by omega,by omega⟩
 show wpAny _ _ (if(((lM items.size 0 lo:Nat):Int)==0&&(1:Int)==1&&(lM items.size items.size hi-lM items.size 0 lo)==items.size)=true then _ else _) _ _ s
 rw[qQ2 E5,Kk]
 first
  |exact aA (m:=fW _) (eV (bj ⟨_,rfl,bj h⟩) GR)
  |exact aA (m:=fW _) (eV (aA (bj (bj ⟨_,rfl,bj h⟩))) GR)
  |exact aA (aA (m:=fW _) (eV (bj (bj ⟨_,rfl,bj h⟩)) GR))
  |exact aA (aA (m:=fW _) (eV (bj ⟨_,rfl,bj h⟩) GR))
end
end HT
namespace L2
open PySem PySem.Spec PyProof.Rows
variable{p:aR}{H:Hp}{pins:List (aR×Obj)}{xs:List V}{its us:List aE}{n t':Nat}{s:aM}{σ:St}
abbrev TO:=St->Hp->(Option Int->Hp->Prop)->Prop
def PO(X:Cx)(e:Option bZ)(t:TO):Prop:=
 ∀(pins:List (aR×Obj))(s:aM)(σ:St)(H:Hp)(Q:Option Int->Hp->Prop),Inv X pins σ H s->t σ H Q->
  wpAny (model X.prog X.w) X.A (evalPart e X.env) (λu s'=>∃o H',Inv X pins σ H' s'/\BF u o/\Q o H') X.xe s
def NB:TO:=λ_ H Q=>Q none H
def Vn(t:TE):TO:=λσ H Q=>t σ H λx H1=>∃i,x=.int i/\Q (some i) H1
theorem intsAre_of{ns:List Int}:∀{us:List aE},dX (ns.map V.int) us->Af us ns:=by
 induction ns with
 |nil=>intro us r;rw[gF]at r;cases r;exact .nil
 |cons n ns ih=>
  intro us r;rw[aH]at r;cases r with
  |cons r1 r2=>
   obtain⟨t,e⟩:=r1;subst e;exact .cons n t (ih r2)
section
variable{X:Cx}{e:bZ}{te:TE}{lo hi:Option bZ}{tl th:TO}{pos p2:Pos}
theorem NC:PO X none NB:=by
 intro pins s σ H Q I h;rw[evalPart_none];exact bj ⟨none,H,I,.none,h⟩
theorem NF(h:PE X e te):PO X (some e) (Vn te):=by
 intro pins s σ H Q I hw;rw[evalPart_some];refine gK (h pins s σ H _ I hw) λu s1 ⟨x,H1,I1,r1,q1⟩=>?_
 obtain⟨i,rfl,q⟩:=q1;obtain⟨t,rfl⟩:=r1;exact⟨some i,H1,I1,.int i t,q⟩
def X3(X:Cx)(r:V->Option Int->Option Int->Hp->VK->Prop):Prop:=
 ∀(pins:List (aR×Obj))(s:aM)(σ:St)(H:Hp)(x:V)(v vl vu:aE)(lo hi:Option Int)(sl:aR)(Q:VK),Inv X pins σ H s->RelV x v->s.heap.IsSliceOf sl vl vu .none->BF vl lo->BF vu hi->r x lo hi H Q->
  ∃T id,typeLookup (.type T) "__getitem__"=pure (some (.builtin id))/\s.TypeIs v T/\wpAny (model X.prog X.w) X.A (getItem v (.ref sl)) (EP X pins σ Q) X.xe s
def tSl(r:V->Option Int->Option Int->Hp->VK->Prop)(te:TE)(tl th:TO):TE:=λσ H Q=>te σ H λx H1=>tl σ H1 λl H2=>th σ H2 λu H3=>r x l u H3 Q
theorem yz{r:V->Option Int->Option Int->Hp->VK->Prop}(hr:X3 X r)(he:PE X e te)(hl:PO X lo tl)(hu:PO X hi th):PE X (.Subscript e (.Slice lo hi none p2) pos) (tSl r te tl th):=by
 intro pins s σ H Q I h;refine Subscript_ (gK (he pins s σ H _ I h) λv s1 ⟨x,H1,I1,r1,q1⟩=>?_)
 refine wpAny_Slice (gK (hl pins s1 σ H1 _ I1 q1) λvl s2 ⟨l,H2,I2,pl,q2⟩=>gK (hu pins s2 σ H2 _ I2 q2) λvu s3 ⟨u,H3,I3,pu,q3⟩=>?_)
 rw[evalPart_none];refine bj ?_
 have I4:Inv X pins σ H3 { s3 with heap:=s3.heap.push { cls:=.type "slice",data:=.fields #[vl,vu,.none] } }:=I3.kept (t':=s3.toks) λb ob q=>aF _ q
 obtain⟨T,id,hT,ht,hg⟩:=hr pins { s3 with heap:=s3.heap.push { cls:=.type "slice",data:=.fields #[vl,vu,.none] } } σ H3 x v vl vu l u s3.heap.objs.size Q I4 r1 (dg.IsSliceOf.new ..) pl pu q3
 show wpAny (model X.prog X.w) X.A (subscriptTail e (.Slice lo hi none p2) v (.ref s3.heap.objs.size)) (EP X pins σ Q) X.xe { s3 with heap:=s3.heap.push { cls:=.type "slice",data:=.fields #[vl,vu,.none] } }
 exact tail_any (ops:=[.ref s3.heap.objs.size,v]) ht hT hg (by with_unfolding_all rfl)
def DG(xs:List V)(lo hi:Option Int):List V:=(xs.drop (HT.lM xs.length 0 lo)).take (HT.lM xs.length xs.length hi-HT.lM xs.length 0 lo)
theorem wU(xs:List V)(lo hi:Option Int):(DG xs lo hi).length<=xs.length:=by
 unfold DG;rw[b9,b_];omega
def Zb(K:au):V->Option Int->Option Int->Hp->VK->Prop:=λx lo hi H Q=>∃a xs,x=.ref a/\oH K H a xs/\
 ¬(HT.lM xs.length 0 lo=0/\HT.lM xs.length xs.length hi=xs.length)/\∀p,H p=none->Q (.ref p) (upd H p (.tup (DG xs lo hi)))
theorem RZ:X3 X (Zb X.K):=by
 intro pins s σ H x v vl vu lo hi sl Q I rx hs pl pu h;obtain⟨a,xs,rfl,hx,hw,q⟩:=h;cases rx;obtain⟨its,r,ht,hz⟩:=I.tuple hx;have hlen:its.toArray.size=xs.length:=by rw[bp];exact r.length.symm
 refine⟨"tuple",_,kU.lookup,ht.typeIs,?_⟩
 refine HT.uY ht hs pl pu (by rw[hlen];exact hw) ?_ (by rw[hlen];exact hz)
 rw[hlen];refine⟨.ref s.heap.objs.size,_,I.laid (t':=s.toks) (o:=.tup (DG xs lo hi)) (λb ob q=>aF _ q) (ay _) ?_,rfl,q _ (I.hok.fresh (ay _))⟩
 exact⟨cp (wU xs lo hi) hz,_,(r.drop (HT.lM xs.length 0 lo)).take (HT.lM xs.length xs.length hi-HT.lM xs.length 0 lo),qd _ _⟩
def Vo(K:au):R2:=λx y H Q=>∃a b xs ys,x=.ref a/\y=.ref b/\oH K H a xs/\oH K H b ys/\xs≠[]/\xs.length+ys.length<=sizeLine/\
 (ys=[]->Q (.ref a) H)/\(ys≠[]->∀p,H p=none->Q (.ref p) (upd H p (.tup (xs++ys))))
theorem dX.xZ(r:dX xs us):us=[]↔xs=[]:=by
 cases r with
 |nil=>simp
 |cons _ _=>simp
theorem NK:rV X (binaryOp .Add) (Vo X.K):=by
 intro pins s σ H x y v u Q I rx ry h;obtain⟨a,b,xs,ys,rfl,rfl,ha,hb,hx,hz,q1,q2⟩:=h;cases rx;cases ry;obtain⟨its,r1,p1,_⟩:=I.tuple ha;obtain⟨Ir,r2,p2,_⟩:=I.tuple hb;refine HT.Nz p1 p2 (λz=>hx (r1.xZ.mp z)) (λz=>⟨.ref a,H,I,rfl,q1 (r2.xZ.mp z)⟩) (λz=>?_) (by rw[<-r1.length,<-r2.length];exact hz)
 refine⟨.ref s.heap.objs.size,_,I.laid (t':=s.toks) (o:=.tup (xs++ys)) (λb ob q=>aF _ q) (ay _) ?_,rfl,q2 (λw=>z (r2.xZ.mpr w)) _ (I.hok.fresh (ay _))⟩
 exact⟨by rw[aY];exact hz,_,r1.append r2,qd _ _⟩
end
def JT(n:Nat)(i:Int):Option Nat:=if 0<=i then(if i<n then some i.toNat else none)else if -(n:Int)<=i then some (i+n).toNat else none
def nQ{α:Type}(xs:List α)(i:Int):Option α:=(JT xs.length i).bind λj=>xs[j]?
theorem GU{i:Int}{j:Nat}(h:JT n i=some j):seqIndex? i n=some j/\j<n/\-(n:Int)<=i/\i<n:=by
 unfold JT at h;by_cases h0:0<=i
 ·rw[qQ3 h0]at h
  by_cases h1:i<n
  ·rw[qQ3 h1]at h
   have e:i.toNat=j:=cR h;exact⟨by rw[seqIndex_of h0 h1,e],by omega,by omega,h1⟩
  ·rw[qQ2 h1]at h;cases h
 ·rw[qQ2 h0]at h
  by_cases h1:-(n:Int)<=i
  ·rw[qQ3 h1]at h
   have e:(i+n).toNat=j:=cR h;exact⟨by rw[seqIndex_neg (by omega) h1,e],by omega,h1,by omega⟩
  ·rw[qQ2 h1]at h;cases h
theorem B1{α:Type}{xs:List α}{i:Int}{v:α}(h:nQ xs i=some v):∃j,seqIndex? i xs.length=some j/\xs[j]?=some v/\j<xs.length/\-(xs.length:Int)<=i/\i<xs.length:=by
 unfold nQ at h;cases e:JT xs.length i with
 |none=>rw[e]at h;cases h
 |some j=>
  rw[e]at h;obtain⟨h1,h2,h3,h4⟩:=GU e;exact⟨j,h1,h,h2,h3,h4⟩
theorem bE{α:Type}{xs:List α}{j:Nat}{v:α}(h:xs[j]?=some v):nQ xs (j:Int)=some v:=by
 have hj:j<xs.length:=(aO.mp h).1;have e:JT xs.length (j:Int)=some j:=by
  unfold JT;rw[qQ3 (by omega),qQ3 (by omega)];simp
 unfold nQ;rw[e];exact h
theorem yA{α:Type}(xs:List α)(v:α):nQ (xs ++ [v]) (-1)=some v:=by
 have hl:(xs ++ [v]).length=xs.length+1:=by simp
 have e:JT (xs ++ [v]).length (-1)=some xs.length:=by
  unfold JT;rw[hl,qQ2 (by decide),qQ3 (by omega)]
  congr 1
  omega
 unfold nQ;rw[e]
 show(xs ++ [v])[xs.length]?=some v
 simp
def oI(b:bZ):Prop:=∀o i,subscripted b false o i=operate [o,i] (getItem o i)
def M3(X:Cx)(r:R2):Prop:=
 ∀(value slice:bZ)(pins:List (aR×Obj))(s:aM)(σ:St)(H:Hp)(x y:V)(v u:aE)(Q:VK),Inv X pins σ H s->RelV x v->RelV y u->r x y H Q->
  subscripted slice false v u=operate [v,u] (getItem v u)->wpAny (model X.prog X.w) X.A (subscriptTail value slice v u) (EP X pins σ Q) X.xe s
def MtR(X:Cx)(id:String)(r:V->List V->Hp->VK->Prop):Prop:=
 ∀(pins:List (aR×Obj))(s:aM)(σ:St)(H:Hp)(x:V)(xs:List V)(v:aE)(us:List aE)(Q:VK),Inv X pins σ H s->RelV x v->dX xs us->r x xs H Q->
  wpAny (model X.prog X.w) X.A (call (.builtin id) (v::us)) (EP X pins σ Q) X.xe s
section
variable{X:Cx}{a b:bZ}{ta tb:TE}{pos:Pos}
theorem M3.or{r r':R2}(h:M3 X r)(h':M3 X r'):M3 X (λx y H Q=>r x y H Q\/r' x y H Q):=by
 intro value slice pins s σ H x y v u Q I rx ry q hs;rcases q with q|q
 ·exact h value slice pins s σ H x y v u Q I rx ry q hs
 ·exact h' value slice pins s σ H x y v u Q I rx ry q hs
theorem GV{r:R2}(hr:M3 X r)(ha:PE X a ta)(hb:PE X b tb)(hs:oI b):PE X (.Subscript a b pos) (U9 r ta tb):=by
 intro pins s σ H Q I h;exact Subscript_ (RH ha hb I h λv u s2 x y H2 I2 rx ry q=>hr a b pins s2 σ H2 x y v u Q I2 rx ry q (hs _ _))
def Vp(K:au):R2:=λx y H Q=>∃p xs i v,x=.ref p/\y=.int i/\kW K H p xs/\nQ xs i=some v/\Q v H
def Vq(K:au):R2:=λx y H Q=>∃p xs i v,x=.ref p/\y=.int i/\oH K H p xs/\nQ xs i=some v/\Q v H
def Vr:R2:=λx y H Q=>∃z i c,x=.str z/\y=.int i/\z.length<=sizeLine/\nQ z.cps.toList i=some c/\Q (.str ⟨#[c]⟩) H
theorem GW:M3 X (Vp X.K):=by
 intro value slice pins s σ H x y v u Q I rx ry h hs;obtain⟨p,xs,i,z,rfl,rfl,hq,he,q⟩:=h;cases rx;obtain⟨t,rfl⟩:=ry;obtain⟨its,r,pl,hz⟩:=I.list hq;obtain⟨j,h1,h2,h3,h4,h5⟩:=B1 he;obtain⟨w,ew,qk⟩:=r.get h2;have hl:=r.length;have hn:=qo;have fin:EP X pins σ Q w s:=⟨z,H,I,qk,q⟩;by_cases h0:0<=i
 ·have hj:i.toNat=j:=by
   rw[seqIndex_of h0 h5]at h1;exact cR h1
  exact item_listR pl.isList h0 (by omega) (by rw[hj];simpa using ew) fin hs
 ·have hj:(i+(its.toArray.size:Int)).toNat=j:=by
   rw[seqIndex_neg (by omega) h4]at h1
   rw[bp,<-hl];exact cR h1
  exact subscriptTail_builtinR (x:=w) pl.isList.typeIs slot_list_getitem.lookup
   (wpAny_getItem_list_neg (Q:=λr s'=>r=w/\EP X pins σ Q r s') pl.isList (by omega) (by rw[bp]<;>omega) (by omega) (by rw[hj];simpa using ew) ⟨rfl,fin⟩) hs
theorem R0:M3 X (Vq X.K):=by
 intro value slice pins s σ H x y v u Q I rx ry h hs;obtain⟨p,xs,i,z,rfl,rfl,hq,he,q⟩:=h;cases rx;obtain⟨t,rfl⟩:=ry;obtain⟨its,r,pl,hz⟩:=I.tuple hq;obtain⟨j,h1,h2,h3,h4,h5⟩:=B1 he;obtain⟨w,ew,qk⟩:=r.get h2;have hl:=r.length;have hn:=qo;have fin:EP X pins σ Q w s:=⟨z,H,I,qk,q⟩;exact subscriptTail_builtinR (x:=w) pl.typeIs slot_tuple_getitem.lookup
  (getItem_tuple (j:=j) (Q:=λr s'=>r=w/\EP X pins σ Q r s') pl (by omega) (by omega) (by rw[bp,<-hl];exact h1) (by simpa using ew) ⟨rfl,fin⟩) hs
theorem R1:M3 X Vr:=by
 intro value slice pins s σ H x y v u Q I rx ry h hs;obtain⟨z,i,c,rfl,rfl,hz,he,q⟩:=h;obtain⟨t,rfl⟩:=rx;obtain⟨t',rfl⟩:=ry;obtain⟨j,h1,h2,h3,h4,h5⟩:=B1 he;have hl:z.cps.toList.length=z.length:=by simp[Str.length]
 rw[hl]at h1 h4 h5;have hn:=qo;exact tail_any (uh s z t) slot_str_getitem.lookup (getItem_str (c:=c) (by
  have e1:decide (i < -(2^63:Int))=false:=qQ0 (by omega)
  have e2:decide (i>=2^63)=false:=qQ0 (by omega)
  rw[e1,e2,Bool.or_false]) (by rw[h1];simpa using h2) ⟨.str ⟨#[c]⟩,H,I.tok _,⟨_,rfl⟩,q⟩) hs
def X4(K:au):R2:=λx y H Q=>Vp K x y H Q\/Vq K x y H Q\/Vr x y H Q
theorem yB:M3 X (X4 X.K):=GW.or (R0.or R1)
theorem FD(its:List aE)(n j:Nat)(u:aE):vS (·.setIfInBounds j u) { cls:=.type "list",data:=.seq its.toArray n }={ cls:=.type "list",data:=.seq (its.set j u).toArray n }:=by
 simp[vS]
theorem Inv.lst(I:Inv X pins σ H s)(h:H p=some (.lst xs)):
  ∃(its:List aE)(n:Nat),dX xs its/\s.heap.get? p=some { cls:=.type "list",data:=.seq its.toArray n }/\xs.length<=sizeLine:=by
 obtain⟨z,its,n,r,e⟩:=I.hok p _ h;exact⟨its,n,r,e,z⟩
theorem Inv.R3{ys: List V}{its': List aE}{n': Nat}{f:Obj->Obj}(I:Inv X pins σ H s)(h:H p=some (.lst xs))
  (ho:s.heap.get? p=some { cls:=.type "list",data:=.seq its.toArray n })(hf:f { cls:=.type "list",data:=.seq its.toArray n }={ cls:=.type "list",data:=.seq its'.toArray n' })(r:dX ys its')(hz:ys.length<=sizeLine)(t:Nat):
  Inv X pins σ (upd H p (.lst ys)) { s with heap:=s.heap.update p f,toks:=t }:=by
 have e:(s.heap.update p f).get? p=some { cls:=.type "list",data:=.seq its'.toArray n' }:=by
  rw[Fd f ho (by rw[hf]<;>rfl),hf]
 refine I.write (x:=p) (e:=p) (by rw[h];trivial) (.inl rfl) (λb u hb q=>(EY _ _ (bV hb)).trans q) ⟨_,e⟩ ?_
 exact⟨hz,its',n',r,e⟩
def Vs:V->V->V->Hp->(Hp->Prop)->Prop:=λo i v H Q=>∃p xs k j,o=.ref p/\i=.int k/\H p=some (.lst xs)/\JT xs.length k=some j/\Q (upd H p (.lst (xs.set j v)))
theorem set_list:U2 X Vs:=by
 intro pins s σ H o i v ov iv u Q I ro ri rv h;obtain⟨p,xs,k,j,rfl,rfl,hp,hj,q⟩:=h;cases ro;obtain⟨t,rfl⟩:=ri;obtain⟨its,n,r,ho,hz⟩:=I.lst hp;obtain⟨h1,h2,h3,h4⟩:=GU hj;have hl:=r.length;have hn:=qo;have I':Inv X pins σ (upd H p (.lst (xs.set j v))) { s with heap:=s.heap.update p (vS (·.setIfInBounds j u)) }:=
  I.R3 hp ho (FD its n j u) (r.set rv j) (by rw[k7];exact hz) s.toks
 by_cases h0:0<=k
 ·have hk:k.toNat=j:=by
   rw[seqIndex_of h0 h4]at h1;exact cR h1
  exact PySem.W.ki_setAt ho h0 (by omega) (by rw[bp,<-hl];exact h4) (by rw[hk];exact⟨_,I',q⟩)
 ·have hk:(k+(its.toArray.size:Int)).toNat=j:=by
   rw[seqIndex_neg (by omega) h3]at h1
   rw[bp,<-hl];exact cR h1
  exact PySem.W.ki_setBack ho (by omega) (by rw[bp,<-hl];exact h3) (by omega) (by rw[hk];exact⟨_,I',q⟩)
theorem B2(lo hi:Option Int)(n:Nat):(sliceBounds lo hi none n).1=((HT.lM n 0 lo:Nat):Int)/\(sliceBounds lo hi none n).2.1=((HT.lM n n hi:Nat):Int)/\(sliceBounds lo hi none n).2.2=1:=by
 refine⟨?_,?_,rfl⟩
 ·cases lo with
  |none=>simp[sliceBounds,HT.lM]
  |some i=>
   simp only[sliceBounds,HT.lM,Option.getD_none,show(1:Int)>0 by decide,if_true]
   by_cases h:i<0
   ·simp only[h,if_true]<;>omega
   ·simp only[h,if_false]<;>omega
 ·cases hi with
  |none=>simp[sliceBounds,HT.lM]
  |some i=>
   simp only[sliceBounds,HT.lM,Option.getD_none,show(1:Int)>0 by decide,if_true]
   by_cases h:i<0
   ·simp only[h,if_true]<;>omega
   ·simp only[h,if_false]<;>omega
theorem Aj(its:List aE)(lo hi:Option Int):slicePick its.toArray lo hi none=((its.drop (HT.lM its.length 0 lo)).take (HT.lM its.length its.length hi-HT.lM its.length 0 lo)).toArray:=by
 obtain⟨h1,h2,h3⟩:=B2 lo hi its.toArray.size;unfold slicePick;rw[h1,h2,h3];simp only[sliceRange_one,pick_run,bp]<;>rfl
def Zc(K:au):V->Option Int->Option Int->Hp->VK->Prop:=λx lo hi H Q=>∃a xs,x=.ref a/\kW K H a xs/\∀p,H p=none->Q (.ref p) (upd H p (.lst (DG xs lo hi)))
theorem NM:X3 X (Zc X.K):=by
 intro pins s σ H x v vl vu lo hi sl Q I rx hs pl pu h;obtain⟨a,xs,rfl,hx,q⟩:=h;cases rx;obtain⟨its,r,ht,hz⟩:=I.list hx;have hlen:=r.length;refine⟨"list",_,slot_list_getitem.lookup,ht.isList.typeIs,?_⟩
 refine wpAny_getItem_list_slice ht.isList hs pl pu .none (by simp) ?_ (by rw[bp]<;>omega)
 rw[Aj,<-hlen];refine⟨.ref s.heap.objs.size,_,I.laid (t':=s.toks) (o:=.lst (DG xs lo hi)) (λb ob q=>aF _ q) (ay _) ?_,rfl,q _ (I.hok.fresh (ay _))⟩
 exact⟨cp (wU xs lo hi) hz,_,0,(r.drop (HT.lM xs.length 0 lo)).take (HT.lM xs.length xs.length hi-HT.lM xs.length 0 lo),bA _ rfl⟩
theorem uZ:jV X (.builtin "len") (λxs H Q=>∃p ys,xs=[.ref p]/\(kW X.K H p ys\/oH X.K H p ys)/\Q (.int ys.length) H):=by
 intro pins s σ H xs us Q I r h;obtain⟨p,ys,rfl,hq,q⟩:=h;obtain⟨u,rfl,rx⟩:=vals1 r;cases rx;have hn:=qo;rcases hq with hq|hq
 ·obtain⟨its,r',pl,hz⟩:=I.list hq
  have hlen:=r'.length;exact Calls.call_len_list pl.isList (by simp only[bp]<;>omega) ⟨.int ys.length,H,I.tok _,⟨s.toks+1,by rw[bp,hlen]⟩,q⟩
 ·obtain⟨its,r',pl,hz⟩:=I.tuple hq
  have hlen:=r'.length;exact len_tuple pl (by simp only[bp]<;>omega) ⟨.int ys.length,H,I.tok _,⟨s.toks+1,by rw[bp,hlen]⟩,q⟩
theorem B3:jV X (.builtin "len") (λxs H Q=>∃z,xs=[.str z]/\z.length<=sizeLine/\Q (.int z.length) H):=by
 intro pins s σ H xs us Q I r h;obtain⟨z,rfl,hz,q⟩:=h;obtain⟨u,rfl,t,rfl⟩:=vals1 r;have hn:=qo;exact len_str (by omega) ⟨.int z.length,H,I.tok _,⟨_,rfl⟩,q⟩
theorem qu:jV X (.type "list") (λxs H Q=>∃p ys,xs=[.ref p]/\(kW X.K H p ys\/oH X.K H p ys)/\∀l,H l=none->Q (.ref l) (upd H l (.lst ys))):=by
 intro pins s σ H xs us Q I r h;obtain⟨p,ys,rfl,hq,q⟩:=h;obtain⟨u,rfl,rx⟩:=vals1 r;cases rx;have fin:∀(its:List aE),dX ys its->ys.length<=sizeLine->∀(h':dg)(c':Nat),(∀b o',s.heap.get? b=some o'->h'.get? b=some o')->
   h'.get? s.heap.objs.size=some { cls:=.type "list",dict:=none,data:=.seq its.toArray c',slots:=#[] }->EP X pins σ Q (.ref s.heap.objs.size) { s with heap:=h' }:=λits r' hz h' c' kp e=>
  ⟨.ref s.heap.objs.size,_,I.laid (t':=s.toks) kp (ay _) (show gT X.prog X.w _ h' _ (.lst ys) from⟨hz,its,c',r',e⟩),rfl,q _ (I.hok.fresh (ay _))⟩
 rcases hq with hq|hq
 ·obtain⟨its,r',pl,hz⟩:=I.list hq
  have hlen:=r'.length;obtain⟨o,ho,hc,n,hd⟩:=pl.isList;exact call_list_seq p (.inl rfl) ho hc hd (λh' c' kp e=>fin its r' hz h' c' kp e) (by simp only[bp]<;>omega)
 ·obtain⟨its,r',pl,hz⟩:=I.tuple hq
  have hlen:=r'.length;obtain⟨o,ho,hc,n,hd⟩:=pl;exact call_list_seq p (.inr rfl) ho hc hd (λh' c' kp e=>fin its r' hz h' c' kp e) (by simp only[bp]<;>omega)
theorem kK:jV X (.type "tuple") (λxs H Q=>∃p ys,xs=[.ref p]/\((kW X.K H p ys/\∀l,H l=none->Q (.ref l) (upd H l (.tup ys)))\/(oH X.K H p ys/\Q (.ref p) H))):=by
 intro pins s σ H xs us Q I r h;obtain⟨p,ys,rfl,h⟩:=h;obtain⟨u,rfl,rx⟩:=vals1 r;cases rx;rcases h with⟨hq,q⟩|⟨hq,q⟩
 ·obtain⟨its,r',pl,hz⟩:=I.list hq
  have hlen:=r'.length;refine call_tuple_list pl.isList (λh' kp=>?_) (by simp only[bp]<;>omega)
  have I1:Inv X pins σ H { s with heap:=h' }:=I.kept (t':=s.toks) kp
  have I2:Inv X pins σ (upd H h'.objs.size (.tup ys)) { s with heap:=h'.push { cls:=.type "tuple",data:=.seq its.toArray } }:=
   I1.laid (t':=s.toks) (λb o e=>aF _ e) (ay _) (show gT X.prog X.w _ _ _ (.tup ys) from⟨hz,its,r',qd _ _⟩)
  exact⟨.ref h'.objs.size,_,I2,rfl,q _ (I1.hok.fresh (ay _))⟩
 ·obtain⟨its,r',pl,hz⟩:=I.tuple hq
  exact call_tuple_same pl ⟨.ref p,H,I,rfl,q⟩
def tyV(K:au)(T:String)(x:V)(H:Hp):Prop:=match x with
 | .str _=>T="str"
 | .int _=>T="int"
 | .ref p=>(T="list"/\∃xs,kW K H p xs)\/(T="tuple"/\∃o,K.lookup p=some o/\o.cls=.type "tuple"/\o.dict=none)\/
   (T="dict"/\((∃kvs,H p=some (.dK kvs))\/∃kvs,H p=some (.dT kvs)))\/(T="set"/\∃S n,H p=some (.set S n))
 |_=>False
theorem R4{T:String}{x:V}{v:aE}(I:Inv X pins σ H s)(r:RelV x v)(ty:tyV X.K T x H):
  s.TypeIs v T/\∀a,v=.ref a->∃ob,s.heap.get? a=some ob/\ob.dict=none:=by
 cases x with
 |str z=>
  obtain⟨t,rfl⟩:=r
  cases(show T="str" from ty)
  exact⟨uh s z t,λ_ e=>nomatch e⟩
 |int i=>
  obtain⟨t,rfl⟩:=r
  cases(show T="int" from ty)
  exact⟨typeIs_int s i t,λ_ e=>nomatch e⟩
 |ref p=>
  cases r;rcases ty with⟨rfl,xs,hq⟩|⟨rfl,o,hk,hc,hd⟩|⟨rfl,hk⟩|⟨rfl,S,n,hk⟩
  ·obtain⟨its,_,pl,_⟩:=I.list hq
   refine⟨pl.isList.typeIs,λa e=>?_⟩
   cases e;obtain⟨o,n,e,c,hd,_⟩:=pl;exact⟨o,e,hd⟩
  ·refine⟨⟨o,I.BM p o hk,hc⟩,λa e=>?_⟩
   cases e;exact⟨o,I.BM _ o hk,hd⟩
  ·have z:∃o,s.heap.get? p=some o/\o.ExactDict:=by
    rcases hk with⟨kvs,hk⟩|⟨kvs,hk⟩
    ·obtain⟨_,_,_,_,o,_,_,e,ex,_⟩:=I.hok p _ hk
     exact⟨o,e,ex⟩
    ·obtain⟨_,_,_,_,o,_,_,e,ex,_⟩:=I.hok p _ hk
     exact⟨o,e,ex⟩
   obtain⟨o,e,ex⟩:=z;refine⟨⟨o,e,ex.1⟩,λa e2=>?_⟩
   cases e2;exact⟨o,e,ex.2.1⟩
  ·obtain⟨o,_,_,_,e,ex,_⟩:=I.hok p _ hk
   refine⟨⟨o,e,ex.1⟩,λa e2=>?_⟩
   cases e2;exact⟨o,e,ex.2.1⟩
 |_=>exact ix ty
def tBM(K:au)(T:String)(r:V->List V->Hp->VK->Prop)(to:TE)(t:TA):TE:=λσ H Q=>to σ H λx H1=>tyV K T x H1/\t σ H1 λxs H2=>r x xs H2 Q
variable{o e:bZ}{es:List bZ}{to:TE}{t:TA}{name:Str}{apos qv:Pos}{T id:String}{r:V->List V->Hp->VK->Prop}
theorem u5(pa:PlainAttrs T)(slot:Slot T name id)(hty:typeOf (.builtin id)=pure (.type "method_descriptor"))(hm:MtR X id r)(ho:PE X o to)(ha:PA X (e::es) t)
  (lz:attributeBase o name X.env (eval o X.env)=eval o X.env:=by rfl)
  (qw:((backTo qv (starEach (e::es) X.env)).all (λx=>!x.1)&&(backToKw qv (keywordEach [] X.env)).all (λx=>x.1.isSome)
   && decide ((e::es).length+([]:List gR).length+(if([]:List gR).isEmpty then 0 else 1)<30))=true:=by rfl)
  (hline:(apos.endLine==qv.line)=true:=by rfl) (hs:starEach (e::es) X.env=(false,eval e X.env)::starEach es X.env:=by rfl) (jz:(backTo qv (starEach es X.env)).any (·.1)=false:=by rfl) :
  PE X (.Call (.Attribute o name apos) (e::es) [] qv) (tBM X.K T r to t):=by
 intro pins s σ H Q I h;refine wpAny_Call_method_late lz qw hline rfl (gK (ho pins s σ H _ I h) λv s1 ⟨x,H1,I1,r1,ty,q1⟩=>?_)
 obtain⟨h1,h2⟩:=R4 I1 r1 ty;refine⟨T,id,pa,slot,hty,h1,h2,?_⟩
 have hA:=ha qv pins s1 σ H1 _ I1 q1;rw[hs]at hA ⊢;refine qU (by show(false||(backTo qv (starEach es X.env)).any (·.1))=false;rw[jz]<;>rfl) (tP ?_)
 exact gK hA λus s2 ⟨vs,H2,I2,r2,q2⟩=>hm pins s2 σ H2 x vs v us Q I2 r1 r2 q2
end
def Ui(X:Cx)(id:String)(r:V->List V->Hp->VK->Prop):Prop:=
 ∀(pins:List (aR×Obj))(s:aM)(σ:St)(H:Hp)(x:V)(xs:List V)(v:aE)(us:List aE)(Q:VK),Inv X pins σ H s->RelV x v->dX xs us->r x xs H Q->
  wpAny (model X.prog X.w) X.A (call (.builtin id) (v::us)) (EP X pins σ Q) X.xe s
theorem dX.one:∀{x:V}{us:List aE},dX [x] us->∃u,us=[u]/\RelV x u
 |_,_,.cons r .nil=>⟨_,rfl,r⟩
theorem dX.two:∀{x y:V}{us:List aE},dX [x,y] us->∃u v,us=[u,v]/\RelV x u/\RelV y v
 |_,_,_,.cons r (.cons q .nil)=>⟨_,_,rfl,r,q⟩
theorem dX.rep(h:dX xs us):∀k:Nat,dX (bh k xs).flatten (bh k us).flatten
 |0=>.nil
 |k+1=>by
  rw[d_,d_,fU,fU];exact dX.append h (dX.rep h k)
theorem foldl_rep(its:List aE):∀(k:Nat)(acc:List aE),
  List.foldl (λx1 x2=>x1++x2) acc.toArray (bh k its.toArray)=(acc++(bh k its).flatten).toArray
 |0,acc=>by simp
 |k+1,acc=>by
  have e:acc.toArray++its.toArray=(acc++its).toArray:=by simp
  have e2:(acc++its)++(bh k its).flatten=acc++(bh (k+1) its).flatten:=by
   rw[d_,fU,cP]
  rw[<-e2,<-foldl_rep its k (acc++its),<-e,d_,nA]
section
variable{X:Cx}{pins:List (aR×Obj)}{σ:St}{H:Hp}{s:aM}{l b:aR}{xs ys zs:List V}
theorem Inv.Vt{its': List aE}{f:Array aE->Array aE}(I:Inv X pins σ H s)(hH:H l=some (.lst xs))
  (e:s.heap.get? l=some { cls:=.type "list",data:=.seq its.toArray n })(hf:f its.toArray=its'.toArray)(hv:dX ys its')(hz:ys.length<=sizeLine):
  Inv X pins σ (upd H l (.lst ys)) { s with heap:=s.heap.update l (vS f),toks:=t' }:=by
 have q:=PySem.IsL.update e f;rw[hf]at q;refine I.write (x:=l) (e:=l) (by rw[hH];exact trivial) (.inl rfl) (λb' u hb hu=>(EY s.heap (vS f) (bV hb)).trans hu) ⟨_,q⟩ ?_
 exact⟨hz,its',_,hv,q⟩
theorem Inv.Zd(I:Inv X pins σ H s)(hv:dX ys its)(hz:ys.length<=sizeLine):
  Inv X pins σ (upd H s.heap.objs.size (.lst ys)) { s with heap:=s.heap.push { cls:=.type "list",data:=.seq its.toArray },toks:=t' }:=
 I.laid (λ_ _ q=>aF _ q) (ay _) ⟨hz,its,0,hv,bA _ rfl⟩
theorem Inv.fresh(I:Inv X pins σ H s):H s.heap.objs.size=none:=I.hok.fresh (ay _)
theorem Inv.Vu(I:Inv X pins σ H s)(hH:H l=some (.lst xs)):xs.length<=sizeLine/\∃(its:List aE)(n:Nat),dX xs its/\xs.length=its.length/\s.heap.get? l=some { cls:=.type "list",data:=.seq its.toArray n }:=by
 obtain⟨z,its,n,r,e⟩:=I.hok l _ hH;exact⟨z,its,n,r,r.length,e⟩
end
section
variable{X:Cx}
def NP:V->List V->Hp->VK->Prop:=λx vs H Q=>∃l xs y,x=.ref l/\vs=[y]/\H l=some (.lst xs)/\xs.length<sizeLine/\Q .non (upd H l (.lst (xs ++ [y])))
theorem pH:Ui X "list.append" NP:=by
 intro pins s σ H x vs v us Q I rx rv h;obtain⟨l,xs,y,rfl,rfl,hH,hz,q⟩:=h;cases rx;obtain⟨u,rfl,ru⟩:=rv.one;obtain⟨z,its,n,r,hl,e⟩:=I.Vu hH;refine kR F.slot_list_append ⟨_,e,rfl⟩ F.entry_list_append (F.args_list_append_2 _ _) (PySem.list_append l its.toArray n u (by rw[bp];omega)) ⟨e,?_⟩
 refine⟨.non,_,I.Vt (its':=its ++ [u]) hH e (by simp) (r.append (.cons ru .nil)) ?_,rfl,q⟩
 rw[aY,iB];omega
theorem len_rep{α:Type}(xs:List α)(k:Nat):(bh k xs).flatten.length=k*xs.length:=by
 induction k with
 |zero=>simp
 |succ k ih=>rw[d_,fU,aY,ih,Fe,Nat.add_comm]
end
section
variable{prog:bK}{w:cB}{A:dQ}{E:aE->aM->Prop}{s:aM}
end
section
variable{X:Cx}
end
end L2
namespace Att
open PySem PySem.W PySem.Calls PyProof.Rows
variable{h:dg}{l:OpenLaw}{P:BG}
theorem xH:∀(ns:List Int)(vs:List aE),WellAll P h vs (ns.map WData.int)->Af vs ns:=by
 intro ns
 induction ns with
 |nil=>
  intro vs w;rw[gF]at w;cases w;exact .nil
 |cons n ns ih=>
  intro vs w;rw[aH]at w;cases w with
  |cons a b=>
   cases a;exact .cons _ _ (ih _ b)
theorem Iu{n:Nat}(hn:l.most=some n){args:List WData}{vals:List aE}
  (NQ:l.row.toRowW.claim.pre args=true)(R5:WellAll P h vals args):
  ∃a vs ns,vals=[dw a]/\args=[WData.list (ns.map WData.int)]/\h.get? a=some { cls:=.type "list",data:=.seq vs.toArray }/\Af vs ns/\ns.length<=n:=by
 have hsh:WShape.hasAll [] args [.list .int]=true:=(pre_splitW NQ).1;have hc:l.pre.holds [] { args:=args }=true:=(pre_splitW NQ).2;obtain⟨d,r,rfl,h1,h2⟩:=hasAllW_cons hsh;obtain rfl:=hasAllW_nil h2;obtain⟨xs,rfl,h3⟩:=hasW_list h1;obtain⟨ns,rfl⟩:=items_int h3;have hlen:ns.length<=n:=by
  unfold OpenLaw.pre at hc;have h4:(WTm.not (.lt (.lit (.int (n:Int))) (.len (.arg 0)))).holds [] { args:=[.list (ns.map .int)] }=true:=by
   have h4:=(holds_andW hc).1;rw[hn]at h4;exact h4
  have h5:=condW_of h4 (w_not (w_lt w_lit (w_len_list (w_arg rfl))));rw[ai]at h5;refine gA λq=>?_
  have q':(n:Int)<((ns.length:Nat):Int):=by omega
  first
   |(rw[qQ1 q']at h5;exact qQ7 h5 (by decide))
   |(simp at h5;omega)
 cases R5 with
 |cons w1 w2=>
  cases w2;cases w1 with
  |list ho Ak=>exact⟨_,_,ns,rfl,rfl,ho,xH ns _ Ak,hlen⟩
theorem Iv(l:OpenLaw)(args:List WData):l.row.toRowW.claim.post args (.bool true) args=true:=
 postW_of (r:=l.row.toRowW) (X:=(true==true))
  (show WShape.has [] (.bool true) .bool=true by first|rfl|decide|simp[WShape.has,WShape.arms,WShape.armsAll])
  (show(WTm.eq .res (.lit (.bool true))).value [] { args:=args,res:=some (.bool true),after:=args }=some (.bool (true==true))from w_eq_bool (w_res rfl) w_lit) rfl
theorem DH{n:Nat}{q:bK}{loose:List Str}{XP:(Str->Option aE)->dg->Prop}{YP:cB->dg->Prop}{d:DefRec}
  (hn:l.most=some n)(Vv:d.params.defaults=[])
  (call:∀(w:cB)(s₀ s₁:aM)(mg mb:Str->Option aE)(fa:aR)(o:Obj)(pm cd doc:aE)(a:aR)(vs:List aE)(ns:List Int),
   Ground q loose [] XP w s₀ mg mb s₁.heap->YP w s₁.heap->
   s₁.heap.get? fa=some o->o.data=.func (docDef d.name d.params d.body d.scope pm cd doc)->s₁.heap.CodeRec cd d.name->mg d.name=some (.ref fa)->
   s₁.heap.get? a=some { cls:=.type "list",data:=.seq vs.toArray }->Af vs ns->ns.length<=n->s₁.gens=#[]->
   codeAny (model l.prog w) callerA (.call (.ref fa) ⟨[.ref a],[]⟩) (λr s'=>r=.ok (.ret (.bool true))/\OldK s₁.heap s'.heap/\s'.os=s₁.os/\ud s'.gens) s₁) :
  WalkO q loose XP YP l.row.toRowW d [] (λf vs=>PySem.call f vs):=by
 intro w s₀ s₁ mg mb G Y fa o pm cd doc dV kV ho hd oB hD JV hg args vals as NQ hlay hrd R5 Qg;obtain rfl:dV=.none:=Dflts.none hD Vv;obtain rfl:kV=.none:=Dflts.noKw hD;obtain⟨a,vs,ns,rfl,rfl,R6,hints,hlen⟩:=Iu hn NQ R5;refine enter_call (pE (call w s₀ s₁ mg mb fa o pm cd doc a vs ns G Y ho (fd_plain hd) oB JV R6 hints hlen hg) λr s' hq=>?_)
 obtain⟨rfl,h2,h3,h4⟩:=hq;exact⟨.inl ⟨.bool true,.bool true,[],rfl,λ_=>rfl,.bool true,Iv l _,λ_=>⟨List.Pairwise.nil,λ_ hm=>(nomatch hm)⟩⟩,h2,h3,h4⟩
section
variable{prog:bK}{w:cB}{A:dQ}{E:aE->aM->Prop}{s:aM}{K:Frag}
end
end Att
namespace L2
open PySem PySem.Spec PyProof.Rows
variable{a b f:aR}{X:Cx}{fd:gJ}{h':dg}{H H':Hp}{pins:List (aR×Obj)}{xs:List (List Key×aR×aE)}{kvs:List (List Key×V)}{Iw:List (TE×TE)}{ps:List Str}{o:Option V}{pos:Pos}{P:bK}{K:au}{s:aM}{st:ia}{qual x:Str}{y:V}{u:aE}{Q:aE->aM->Prop}{w:cB}
theorem A5:∀{vs:List aE}{ns:List Int},Af vs ns->dX (ns.map V.int) vs
 |_,_,.nil=>.nil
 |_,_,.cons n t h=>.cons ⟨t,rfl⟩ (A5 h)
def Only(H:Hp):Prop:=∀b,H b=none\/∃o xs,H b=some (.rA o (.lst xs))
theorem Kl{mg mb:Str->Option aE}{CX:JR}{k:Nat}{fa: aR}{sp:Sp}{s₁:aM}{vs:List aE}{ns:List Int}
  (KX:K.In s₁.heap)(Iy:s₁.heap.Ns mainGlobals mg)(hb:s₁.heap.Ns builtinsNs mb)(hbb:∀x:Str,x≠"__name__"->mb x=bootBuiltins x)(Ze:s₁.heap.NoLimit)(hg:s₁.gens=#[])
  (ha:s₁.heap.get? a=some { cls:=.type "list",data:=.seq vs.toArray })(hi:Af vs ns)(hl:ns.length<=sizeLine)(hr:e8 k callerA)
  (F:∀base:dg,K.In base->base.Ns mainGlobals mg->ft P w K mg base CX k fa fd [x] sp)(Vw:∀(s:aM)(u:aE),BindsTo s fd ⟨[u],[]⟩ [(x,u)])
  (BZ:∀H:Hp,Only H->kW K H a (ns.map V.int)->sp [.ref a] H (λv _=>v=.bl true) λ_ _ _=>False)
  (Zf:∀H e s',CX [] H s₁ (λ_ _ _=>False) e s'->False):
  codeAny (model P w) callerA (.call (.ref fa) ⟨[.ref a],[]⟩) (λr s'=>r=.ok (.ret (.bool true))/\OldK s₁.heap s'.heap/\s'.os=s₁.os/\ud s'.gens) s₁:=by
 have rv:=A5 hi;have Zg:=hi.length;have core:∀H:Hp,Only H->kW K H a (ns.map V.int)->uN P w H s₁.heap->(∀b,H b≠none->b=a)->(H a≠none->K.lookup a=none)->
   codeAny (model P w) callerA (.call (.ref fa) ⟨[.ref a],[]⟩) (λr s'=>r=.ok (.ret (.bool true))/\OldK s₁.heap s'.heap/\s'.os=s₁.os/\ud s'.gens) s₁:=by
  intro H hO hS hok hA hK;have GX:∀{b:aR}{o:Obj},s₁.heap.get? b=some o->H b=none->(BL s₁.heap H).get? b=some o:=λe n=>J3 e n
  have Vj:∀{b:aR}{o:Obj}{es:Array wO}{ep:Nat},s₁.heap.get? b=some o->o.data=.dict es ep->H b=none:=λ{b o es ep}e d=>by
   cases q:H b with
   |none=>rfl
   |some u=>
    have e':b=a:=hA b (by rw[q];simp)
    subst e';rw[ha]at e;cases e;have d':Data.seq vs.toArray _=Data.dict es ep:=d;cases d'
  have X5:∀{b:aR}{m:Str->Option aE},s₁.heap.Ns b m->(BL s₁.heap H).Ns b m:=λ{b m}⟨o,es,ep,e,d,r⟩=>⟨o,es,ep,GX e (Vj e d),d,r⟩
  have hKb:K.In (BL s₁.heap H):=λb o e=>GX (KX b o e) (by
   cases q:H b with
   |none=>rfl
   |some u=>
    have e':b=a:=hA b (by rw[q];simp)
    subst e';rw[hK (by rw[q];simp)]at e;cases e)
  have hM:Mod K mg (BL s₁.heap H):=⟨hKb,X5 Iy,⟨mb,X5 hb,hbb⟩,let⟨mc,h1,h2⟩:=Ze;⟨mc,X5 h1,h2⟩⟩;have e0:Fx P w K mg (BL s₁.heap H) callerA [] s₁ H:=⟨rfl,hM,λb o e=>Nf e,Nat.le_of_eq (Ie _ _),trivial,λb hb=>qQ7 (show b∈([]:List aR)from hb) (by simp),hok,.of_eq hg⟩
  refine pE ((F _ hKb (X5 Iy)).run callerA [] s₁ H ⟨[.ref a],[]⟩ [.ref a] [.ref a] _ _ hr e0 (Vw s₁ (.ref a)) (.cons rfl .nil) (BZ H hO hS)) λr s' h=>?_
  cases r with
  |error e=>exact(Zf H e s' h).elim
  |ok fl=>
   cases fl with
   |next=>exact ix h
   |brk=>exact ix h
   |cont=>exact ix h
   |ret u=>
    obtain⟨v,H',os,bare,un,Zh,r',q⟩:=h;have q':v=.bl true:=q;subst q';obtain rfl:u=aE.bool true:=r';refine⟨rfl,OldK.of_keep λb o e=>?_,os,bare⟩
    cases q:H b with
    |none=>exact un.keep b o e q (by intro z;exact qQ7 (show b∈([]:List aR)from z) (by simp)) (by simp)
    |some u=>
     rcases hO b with z|⟨ob,xs,z⟩
     ·rw[q]at z;cases z
     ·have z2:=un.vV b ob _ z
      obtain⟨e1,_⟩:=hok b _ z;obtain⟨e2,_⟩:=Zh b _ z2;rw[e]at e1;cases e1;exact e2
 cases hk:K.lookup a with
 |some o=>
  have e:=KX a o hk;rw[ha]at e;cases e;refine core (λ_=>none) (λ_=>.inl rfl) (.inr ⟨_,vs.toArray,_,hk,rfl,rfl,rfl,by rw[bp,Zg];exact hl,by simpa using rv⟩) (λb u z=>by have z':(none:Option HO)=some u:=z;cases z') (λb z=>qQ7 rfl z) λz=>qQ7 rfl z
 |none=>
  refine core (λb=>if b=a then some (.rA { cls:=.type "list",data:=.seq vs.toArray } (.lst (ns.map V.int)))else none) (λb=>?_) (.inl (.inr ⟨{ cls:=.type "list",data:=.seq vs.toArray },qQ3 rfl⟩)) (λb u z=>?_) (λb z=>?_) λ_=>hk
  ·by_cases hb:b=a
   ·exact .inr ⟨_,_,qQ3 hb⟩
   ·exact .inl (qQ2 hb)
  ·by_cases hb:b=a
   ·have z':=(qQ3 hb).symm.trans z
    cases z';subst hb;exact⟨ha,by rw[ai];exact hl,vs,_,rv,ha⟩
   ·have z':=(qQ2 hb).symm.trans z
    cases z'
  ·by_cases hb:b=a
   ·exact hb
   ·exact qQ7 (qQ2 hb) z
theorem NR{l:PySem.W.OpenLaw}{n k:Nat}{q:bK}{loose:List Str}{XP:(Str->Option aE)->dg->Prop}{YP:cB->dg->Prop}{d:DefRec}{K:BG->au}{CX:cB->JR}{sp:cB->Sp}
  (hn:l.most=some n)(Ue:n<=sizeLine)(Vv:d.params.defaults=[])(hr:e8 k callerA)
  (hY:∀(w:cB)(h:dg),YP w h->(K w.params).In h)
  (F:∀(w:cB)(mg:Str->Option aE)(fa:aR)(h:dg),(K w.params).In h->h.Ns mainGlobals mg->mg d.name=some (.ref fa)->
   ∃fd:gJ,(∀(s:aM)(u:aE),BindsTo s fd ⟨[u],[]⟩ [(x,u)])/\
    ∀base:dg,(K w.params).In base->base.Ns mainGlobals mg->ft l.prog w (K w.params) mg base (CX w) k fa fd [x] (sp w))
  (BZ:∀(w:cB)(H:Hp)(a:aR)(ns:List Int),ns.length<=n->Only H->kW (K w.params) H a (ns.map V.int)->sp w [.ref a] H (λv _=>v=.bl true) λ_ _ _=>False)
  (Zf:∀(w:cB)(H:Hp)(s:aM)(e:aE)(s':aM),CX w [] H s (λ_ _ _=>False) e s'->False) :
  PySem.W.WalkO q loose XP YP l.row.toRowW d [] (λf vs=>PySem.call f vs):=by
 refine Att.DH hn Vv λw s₀ s₁ mg mb fa o pm cd doc a vs ns G Y ho hd oB JV R6 hints hlen hg=>?_
 have KX:=hY w _ Y;obtain⟨fd,hb,hF⟩:=F w mg fa _ KX G.T.g JV;exact Kl KX G.T.g G.T.b G.T.builtins G.T.nolimit hg R6 hints (cp hlen Ue) hr hF hb (λH hO hS=>BZ w H a ns hlen hO hS) λH e s'=>Zf w H s₁ e s'
def inClass(s:ia)(j:Nat):ia:=match s with
 | .ClassDef _ _ _ body _ _ _ _ _ _ _=>body.getD j (.Pass ⟨0,0,0,0⟩)
 |_=>.Pass ⟨0,0,0,0⟩
def qx(s:ia):Arguments:=match s with
 | .FunctionDef _ a _ _ _ _ _ _ _ _=>a
 |_=>{ posonlyargs:=[],args:=[],vararg:=none,kwonlyargs:=[],kw_defaults:=[],kwarg:=none,defaults:=[] }
def fZ(s:ia):List ia:=match s with
 | .FunctionDef _ _ b _ _ _ _ _ _ _=>b
 |_=>[]
def bC(s:ia):nz:=match s with
 | .FunctionDef _ _ _ _ _ _ sc _ _ _=>sc
 |_=>{ kind:=.function,names:=[],isGenerator:=false,isCoroutine:=false }
abbrev jP:JR:=λ_ _ _ _ _ _=>False
abbrev E0:XK:=λ_ _ _=>False
theorem A6:yw jP X E0:=λ_ _ _ _ _ _ _ h=>h.elim
structure k9(K:au)(x qual:Str)(st:ia)(f:aR)(fd:gJ):Prop where
 ex:∃(oc:aE)(od:Option aR)(kV doc pm:aE)(an:Option aR)(fV ct:aE)(Ki:Array (Option aE)),
  fd=jy x qual (qx st) (fZ st) (bC st) .none kV doc pm an fV ct/\K.lookup f=some ⟨oc,od,.func fd,Ki⟩/\nJ K fV qual=true
 kp:jg K (.ref f)=true
section
variable{P:bK}{w:cB}{K:au}{mg:Str->Option aE}{base:dg}
theorem k9.ok{N: List Str}{k:Nat}{sp:Sp}(F:k9 K x qual st f fd)(S:cC N ps (bC st))(len:∀vs H Q E,sp vs H Q E->vs.length=ps.length)
  (Kj:∀(fV:aE)(A:dQ)(outer:List Env)(s:aM)(H:Hp)(vs:List V)(Q:VK)(E:XK),e8 k (A.deeper (envOfC qual (bC st) s.heap.objs.size f fV))->sp vs H Q E->
   ∃t,Fi (pG jP P w K mg base N qual (bC st) f fV A outer s H E).Dq (fZ st) t/\t { nx:=λ_ H'=>Q .non H',rt:=Q } (start N vs) H):ft P w K mg base jP (k+1) f fd ps sp:=by
 obtain⟨oc,od,kV,doc,pm,an,fV,ct,Ki,rfl,lk,oB⟩:=F.ex;refine Vk lk oB S len λA outer s H vs Q E hr BZ=>?_
 obtain⟨t,h,q⟩:=Kj fV A outer s H vs Q E hr BZ;exact⟨t,h.Dq,q⟩
theorem k9.binds(F:k9 K x qual st f fd)
  (h:∀(kV doc pm:aE)(an:Option aR)(fV ct:aE)(us:List aE),us.length=ps.length->bindArgs (jy x qual (qx st) (fZ st) (bC st) .none kV doc pm an fV ct) ⟨us,[]⟩=pure (ps.zip us)):Binds K fd ps []:=by
 obtain⟨oc,od,kV,doc,pm,an,fV,ct,Ki,rfl,lk,oB⟩:=F.ex;exact .all (h kV doc pm an fV ct)
theorem Km{oc:aE}{od an:Option aR}{Ki:Array (Option aE)}{kV doc pm fV ct:aE}(l:K.lookup f=some ⟨oc,od,.func (jy x qual (qx st) (fZ st) (bC st) .none kV doc pm an fV ct),Ki⟩)
  (c:nJ K fV qual=true)(k:jg K (.ref f)=true):k9 K x qual st f (jy x qual (qx st) (fZ st) (bC st) .none kV doc pm an fV ct):=⟨⟨oc,od,kV,doc,pm,an,fV,ct,Ki,rfl,l,c⟩,k⟩
end
section
variable{X:Cx}
theorem pv(i:Nat)(hN:X.N[i]?=some x:=by rfl)(hv:AX X.env.scope x:=by first|exact a7 rfl|exact cj (a7 rfl)|exact cj (cj rfl))(hd:(x==("__debug__":Str))=false:=by decide)
  (oB:(x==("__classdict__":Str))=false:=by decide):PE X (.Name x pos) (UW i):=jO hN hv hd oB
end
theorem NS{A B:Prop}(h:B):if false=true then A else B:=by
 rw[qQ2 cz];exact h
theorem NT{A B:Prop}(h:A):if true=true then A else B:=by
 rw[qQ3 rfl];exact h
def dv(H H':Hp):Prop:=∀b o,H b=some o->H' b=some o
theorem dv.refl(H:Hp):dv H H:=λ_ _ h=>h
theorem dv.trans{H1 H2: Hp}(a:dv H H1)(b:dv H1 H2):dv H H2:=λc o h=>b c o (a c o h)
theorem dv.free(e:dv H H'){l:aR}(h:H' l=Option.none):H l=Option.none:=by
 cases q:H l with
 |none=>rfl
 |some o=>
  rw[e l o q]at h;cases h
theorem dv.seq{xs:List V}(e:dv H H')(h:kW K H a xs):kW K H' a xs:=by
 rcases h with(h|⟨o,h⟩)|h
 ·exact .inl (.inl (e _ _ h))
 ·exact .inl (.inr ⟨o,e _ _ h⟩)
 ·exact .inr h
section
variable{κ:Type}[DecidableEq κ]
def jQ(kvs:List (κ×V))(k:κ):Option V:=(kvs.find? λkv=>decide (kv.1=k)).map (·.2)
def putK(kvs:List (κ×V))(k:κ)(v:V):List (κ×V):=
 if(kvs.any λkv=>decide (kv.1=k))=true then kvs.map (λkv=>if kv.1=k then(kv.1,v)else kv)else kvs ++ [(k,v)]
theorem pI{p:κ×V}{r:List (κ×V)}{k:κ}(e:p.1=k):jQ (p::r) k=some p.2:=by simp[jQ,eY,e]
theorem mJ{p:κ×V}{r:List (κ×V)}{k:κ}(e:¬p.1=k):jQ (p::r) k=jQ r k:=by simp[jQ,eY,e]
theorem yC(k:κ):∀kvs:List (κ×V),(kvs.any λkv=>decide (kv.1=k))=(jQ kvs k).isSome
 | []=>rfl
 |p::r=>by
  rw[mW];by_cases e:p.1=k
  ·simp only[pI e,qQ1 e,Bool.true_or,Option.isSome_some]
  ·rw[mJ e,qQ0 e,Dh];exact yC k r
theorem mK(kvs:List (κ×V))(k:κ)(v:V):(putK kvs k v).length<=kvs.length+1:=by
 unfold putK
 split
 ·rw[ai];omega
 ·rw[aY,bJ,cN];omega
theorem u6{kvs:List (κ×V)}{k:κ}(v:V)(h:jQ kvs k=none):putK kvs k v=kvs ++ [(k,v)]:=by
 unfold putK;rw[yC,h];exact qQ2 (by decide)
theorem uj.pJ{u:Option aE}(r:uj o u):o.isSome=u.isSome:=by
 cases o with
 |none=>cases u with
  |none=>rfl
  |some _=>exact(show False from r).elim
 |some _=>cases u with
  |none=>exact(show False from r).elim
  |some _=>rfl
theorem uj.getD{u:Option aE}{d:V}{d':aE}(r:uj o u)(rd:RelV d d'):RelV (o.getD d) (u.getD d'):=by
 cases o with
 |none=>cases u with
  |none=>exact rd
  |some _=>exact(show False from r).elim
 |some _=>cases u with
  |none=>exact(show False from r).elim
  |some _=>exact r
theorem KV.val{kvs:List (κ×V)}{vs:List (κ×aE)}(r:KV kvs vs)(k:κ):uj (jQ kvs k) (valueAt vs k):=by
 unfold KV at r
 induction r with
 |nil=>exact gw
 | @cons p q ps qs h t ih=>
  obtain⟨h1,h2⟩:=h;by_cases e:p.1=k
  ·have e':q.1=k:=h1.symm.trans e
   have b:valueAt (q::qs) k=some q.2:=by simp[valueAt,eY,e']
   rw[pI e,b];exact h2
  ·have e':¬q.1=k:=λz=>e (h1.trans z)
   have b:valueAt (q::qs) k=valueAt qs k:=by simp[valueAt,eY,e']
   rw[mJ e,b];exact ih
theorem KV.any{kvs:List (κ×V)}{vs:List (κ×aE)}(r:KV kvs vs)(k:κ):(kvs.any λkv=>decide (kv.1=k))=vs.any λkv=>decide (kv.1=k):=by
 unfold KV at r
 induction r with
 |nil=>rfl
 |cons h t ih=>rw[mW,mW,ih,h.1]
theorem KV.repl{kvs:List (κ×V)}{vs:List (κ×aE)}(r:KV kvs vs)(k:κ)(ry:RelV y u):
  KV (kvs.map λkv=>if kv.1=k then(kv.1,y)else kv) (vs.map λkv=>if kv.1=k then(kv.1,u)else kv):=by
 unfold KV at r ⊢
 induction r with
 |nil=>exact .nil
 | @cons p q ps qs h t ih=>
  rw[aH,aH];refine .cons ?_ ih
  obtain⟨h1,h2⟩:=h;by_cases e:p.1=k
  ·rw[qQ3 e,qQ3 (h1.symm.trans e)];exact⟨h1,ry⟩
  ·rw[qQ2 e,qQ2 (λz=>e (h1.trans z))];exact⟨h1,h2⟩
theorem KV.put{kvs:List (κ×V)}{vs:List (κ×aE)}(r:KV kvs vs)(k:κ)(ry:RelV y u):KV (putK kvs k y) (stored vs k u):=by
 unfold putK stored;rw[r.any k];by_cases e:(vs.any λkv=>decide (kv.1=k))=true
 ·rw[qQ3 e,qQ3 e];exact r.repl k ry
 ·rw[qQ2 e,qQ2 e];exact Fb.snoc r ⟨rfl,ry⟩
theorem KV.keys{kvs:List (κ×V)}{vs:List (κ×aE)}(r:KV kvs vs):kvs.map (·.1)=vs.map (·.1):=by
 unfold KV at r
 induction r with
 |nil=>rfl
 |cons h t ih=>rw[aH,aH,ih,h.1]
theorem KV.length{kvs:List (κ×V)}{vs:List (κ×aE)}(r:KV kvs vs):kvs.length=vs.length:=uc r
end
theorem rW{k:Key}(r:RelV (kV k) u):(eZ P w).is k u=true:=by
 cases k with
 |inl i=>obtain⟨t,e⟩:=(show ∃t,u=De i t from r);subst e;exact Du P w i t
 |inr x=>obtain⟨t,e⟩:=(show ∃t,u=Df x t from r);subst e;exact rQ P w x t
theorem A7:∀{ks:List Key}{us:List aE},dX (ks.map kV) us->ItemsAre (eZ P w) ks us
 | [],_,r=>by rw[gF]at r;cases r;exact .nil
 |k::ks,_,r=>by
  rw[aH]at r;cases r with
  |cons h t=>exact .cons (rW h) (A7 t)
abbrev KT(H:Hp):List (List Key×V)->List (List Key×aR×aE)->Prop:=Fb λp q=>p.1=q.1/\H q.2.1=some (.tup (p.1.map kV))/\RelV p.2 q.2.2
theorem KT.val(r:KT H kvs xs)(k:List Key):uj (jQ kvs k) ((atKey xs k).map (·.2)):=by
 induction r with
 |nil=>exact gw
 | @cons p q ps qs h t ih=>
  obtain⟨h1,_,h2⟩:=h;by_cases e:p.1=k
  ·have e':q.1=k:=h1.symm.trans e
   have b:atKey (q::qs) k=some q.2:=by simp[atKey,eY,e']
   rw[pI e,b];exact h2
  ·have e':¬q.1=k:=λz=>e (h1.trans z)
   have b:atKey (q::qs) k=atKey qs k:=by simp[atKey,eY,e']
   rw[mJ e,b];exact ih
theorem KT.repl(r:KT H kvs xs)(k:List Key)(ry:RelV y u):
  KT H (kvs.map λkv=>if kv.1=k then(kv.1,y)else kv) (xs.map (putAt k u)):=by
 induction r with
 |nil=>exact .nil
 | @cons p q ps qs h t ih=>
  rw[aH,aH];refine .cons ?_ ih
  obtain⟨h1,h2,h3⟩:=h;unfold putAt;by_cases e:p.1=k
  ·rw[qQ3 e,qQ3 (h1.symm.trans e)];exact⟨h1,h2,ry⟩
  ·rw[qQ2 e,qQ2 (λz=>e (h1.trans z))];exact⟨h1,h2,h3⟩
theorem KT.put(r:KT H kvs xs)(k:List Key)(hb:H b=some (.tup (k.map kV)))(ry:RelV y u):
  KT H (putK kvs k y) (storedH xs k b u):=by
 have e:(kvs.any λkv=>decide (kv.1=k))=(atKey xs k).isSome:=by
  rw[yC,(r.val k).pJ,vN]
 unfold putK storedH;rw[e];by_cases q:(atKey xs k).isSome=true
 ·rw[qQ3 q,qQ3 q];exact r.repl k ry
 ·rw[qQ2 q,qQ2 q];exact Fb.snoc r ⟨rfl,hb,ry⟩
theorem KT.keeps(r:KT H kvs xs)(ht:∀b ys,H b=some (.tup ys)->H' b=some (.tup ys)):KT H' kvs xs:=
 Fb.Rn r λ_ _ z=>⟨z.1,ht _ _ z.2.1,z.2.2⟩
section
variable{P:bK}{w:cB}{H:Hp}{h:dg}{a:aR}
theorem Qh{u:HO}(ok:uN P w H h)(e:Rd H a u):gT P w H h a u:=e.ok ok
theorem wV{kvs:List (Key×V)}(ok:uN P w H h)(e:Rd H a (.dK kvs)):kvs.length<=sizeLine/\(a==sysModules)=false/\∃vs,KV kvs vs/\h.DictOf (eZ P w) a vs:=
 show gT P w H h a (.dK kvs)from Qh ok e
theorem A8{kvs:List (Key×V)}(ok:uN P w H h)(e:H a=some (.dK kvs)):kvs.length<=sizeLine/\(a==sysModules)=false/\∃vs,KV kvs vs/\h.DictOf (eZ P w) a vs:=wV ok (.inl e)
theorem v3{ks:List Key}(ok:uN P w H h)(e:H a=some (.tup (ks.map kV))):(tupleKind (eZ P w)).is h ks a:=by
 obtain⟨_,its,r,o,h1,h2,n,h3⟩:=(show gT P w H h a (.tup (ks.map kV))from ok a _ e)
 exact⟨o,its.toArray,n,h1,h2,h3,by simpa using A7 r⟩
theorem yD(ok:uN P w H h)(e:Rd H a (.dT kvs)):kvs.length<=sizeLine/\(a==sysModules)=false/\
  ∃xs,KT H kvs xs/\h.DictOfH (tupleKind (eZ P w)) a xs:=by
 obtain⟨z,y,xs,r,o,es,ep,h1,h2,h3,h4,h5⟩:=(show gT P w H h a (.dT kvs)from Qh ok e)
 refine⟨z,y,xs,r,o,es,ep,h1,h2,h3,h4,λx hx=>?_,h5⟩
 have all:∀{l:List (List Key×V)}{m:List (List Key×aR×aE)},KT H l m->∀x∈m,(tupleKind (eZ P w)).is h x.1 x.2.1:=by
  intro l m q
  induction q with
  |nil=>intro x hx;exact nomatch hx
  | @cons p q ps qs hq t ih=>
   intro x hx;rcases aG.mp hx with e|hx
   ·subst e
    exact v3 ok (by rw[<-hq.1];exact hq.2.1)
   ·exact ih x hx
 exact all r x hx
theorem Vx(ok:uN P w H h)(e:H a=some (.dT kvs)):kvs.length<=sizeLine/\(a==sysModules)=false/\
  ∃xs,KT H kvs xs/\h.DictOfH (tupleKind (eZ P w)) a xs:=yD ok (.inl e)
end
def rX(H:Hp)(a:aR)(y:V)(r:Option V):Prop:=
 (∃kvs k,Rd H a (.dK kvs)/\y=kV k/\r=jQ kvs k)\/∃kvs k b,Rd H a (.dT kvs)/\y=.ref b/\H b=some (.tup (k.map kV))/\r=jQ kvs k
def Al(H:Hp)(a:aR)(y v:V)(H':Hp):Prop:=
 (∃kvs k,H a=some (.dK kvs)/\y=kV k/\kvs.length<sizeLine/\H'=upd H a (.dK (putK kvs k v)))\/
 ∃kvs k b,H a=some (.dT kvs)/\y=.ref b/\H b=some (.tup (k.map kV))/\kvs.length<sizeLine/\H'=upd H a (.dT (putK kvs k v))
theorem rX.k{kvs:List (Key×V)}{k:Key}(e:H a=some (.dK kvs)):rX H a (kV k) (jQ kvs k):=.inl ⟨kvs,k,.inl e,rfl,rfl⟩
theorem rX.t{k:List Key}(e:H a=some (.dT kvs))(eb:H b=some (.tup (k.map kV))):rX H a (.ref b) (jQ kvs k):=.inr ⟨kvs,k,b,.inl e,rfl,eb,rfl⟩
theorem Al.k{kvs:List (Key×V)}{k:Key}{v:V}(e:H a=some (.dK kvs))(hl:kvs.length<sizeLine):Al H a (kV k) v (upd H a (.dK (putK kvs k v))):=.inl ⟨kvs,k,e,rfl,hl,rfl⟩
theorem Al.t{k:List Key}{v:V}(e:H a=some (.dT kvs))(eb:H b=some (.tup (k.map kV)))(hl:kvs.length<sizeLine):
  Al H a (.ref b) v (upd H a (.dT (putK kvs k v))):=.inr ⟨kvs,k,b,e,rfl,eb,hl,rfl⟩
section
variable{X:Cx}{pins:List (aR×Obj)}{σ:St}{H:Hp}{s:aM}{a:aR}{y v:V}{u r:aE}{o:Option V}{A:dQ}{E:aE->aM->Prop}
theorem Inv.big(I:Inv X pins σ H s):sysModules<s.heap.objs.size:=by
 have h:mainGlobals<s.heap.objs.size:=(I.mod.glob.keeps I.bk).lt;exact xB (by decide) h
theorem Iz(hu:A.units+1<cLine)(I:Inv X pins σ H s)(g:rX H a y (some v))(ry:RelV y u)(h:∀w' s',Inv X pins σ H s'->RelV v w'->Q w' s'):
  wpAny (model X.prog X.w) A (getItem (.ref a) u) Q E s:=by
 rcases g with⟨kvs,k,e,ey,l⟩|⟨kvs,k,b,e,ey,eb,l⟩
 ·subst ey
  obtain⟨z,hd,vs,rel,dd⟩:=wV I.hok e;obtain⟨w',hw,qk⟩:=uj.some_of (v:=v) (o:=valueAt vs k) (by rw[l];exact rel.val k)
  exact wpAny_getItem_of (rW ry) dd.mapOf hw (h w' _ (I.tok _) qk)
 ·subst ey
  cases(show u=dw b from ry)
  obtain⟨z,hd,xs,rel,dd⟩:=yD I.hok e;obtain⟨w',hw,qk⟩:=uj.some_of (v:=v) (o:=(atKey xs k).map (·.2)) (by rw[l];exact rel.val k)
  obtain⟨p,hp,X6⟩:=Option.map_eq_some_iff.mp hw;refine wpAny_getItem_heap (lV hu) (v3 I.hok eb) dd hp ?_
  rw[X6];exact h w' _ (I.tok _) qk
theorem Zi(hu:A.units+1<cLine)(I:Inv X pins σ H s)(g:rX H a y o)(ry:RelV y u)(h:∀s',Inv X pins σ H s'->Q (.bool o.isSome) s'):
  wpAny (model X.prog X.w) A (compareOp .In u (.ref a)) Q E s:=by
 rcases g with⟨kvs,k,e,ey,l⟩|⟨kvs,k,b,e,ey,eb,l⟩
 ·subst ey
  obtain⟨z,hd,vs,rel,dd⟩:=wV I.hok e;refine wpAny_in_of (rW ry) hd dd.mapOf ?_
  rw[<-(rel.val k).pJ,<-l];exact h _ (I.tok _)
 ·subst ey
  cases(show u=dw b from ry)
  obtain⟨z,hd,xs,rel,dd⟩:=yD I.hok e;refine wpAny_in_heap (lV hu) (v3 I.hok eb) hd dd ?_
  have q:=(rel.val k).pJ;rw[vN]at q;rw[<-q,<-l];exact h _ (I.tok _)
theorem NV(hu:A.units+1<cLine)(I:Inv X pins σ H s)(g:rX H a y o)(ry:RelV y u)(h:∀s',Inv X pins σ H s'->Q (.bool (!o.isSome)) s'):
  wpAny (model X.prog X.w) A (compareOp .NotIn u (.ref a)) Q E s:=by
 rcases g with⟨kvs,k,e,ey,l⟩|⟨kvs,k,b,e,ey,eb,l⟩
 ·subst ey
  obtain⟨z,hd,vs,rel,dd⟩:=wV I.hok e;refine wpAny_notIn_of (rW ry) hd dd.mapOf ?_
  rw[<-(rel.val k).pJ,<-l];exact h _ (I.tok _)
 ·subst ey
  cases(show u=dw b from ry)
  obtain⟨z,hd,xs,rel,dd⟩:=yD I.hok e;refine wpAny_notIn_heap (lV hu) (v3 I.hok eb) hd dd ?_
  have q:=(rel.val k).pJ;rw[vN]at q;rw[<-q,<-l];exact h _ (I.tok _)
theorem x3{t':Nat}{ob:HO}(I:Inv X pins σ H s)(mu:UK (H a))(hs:iU a s.heap h')(he:∃q,h'.get? a=some q)(new:gT X.prog X.w (upd H a ob) h' a ob):
  Inv X pins σ (upd H a ob) { s with heap:=h',toks:=t' }:=
 I.write (x:=a) (e:=a) mu (.inl rfl) (λb q hb z=>(hs.2 b hb).trans z) he new
theorem yE{kvs:List (Key×V)}{vs:List (Key×aE)}(z:kvs.length<=sizeLine)(hd:(a==sysModules)=false)(rel:KV kvs vs)(dd:h'.DictOf (eZ P w) a vs):
  gT P w H' h' a (.dK kvs):=⟨z,hd,vs,rel,dd⟩
theorem IA{Q:Unit->aM->Prop}(hu:A.units+1<cLine)(I:Inv X pins σ H s)(g:Al H a y v H')(ry:RelV y u)(rv:RelV v r)(h:∀s',Inv X pins σ H' s'->Q () s'):
  wpAny (model X.prog X.w) A (setItem (.ref a) u r) Q E s:=by
 rcases g with⟨kvs,k,e,ey,l,eH⟩|⟨kvs,k,b,e,ey,eb,l,eH⟩
 ·subst ey eH
  obtain⟨z,hd,vs,rel,dd⟩:=A8 I.hok e;have hz:vs.length<=sizeLine:=by rw[<-rel.length];exact z
  have hl:(putK kvs k v).length<=sizeLine:=by have:=mK kvs k v;omega
  refine wpAny_setItem_pairs (hsz:=hz) (rW ry) dd λh' DI hs=>h _ ?_
  have he:∃q,h'.get? a=some q:=let⟨q,_,_,hq,_⟩:=DI;⟨q,hq⟩;exact x3 I (by rw[e];exact gw) hs he (yE hl hd (rel.put k rv) DI)
 ·subst ey eH
  cases(show u=dw b from ry)
  obtain⟨z,hd,xs,rel,dd⟩:=Vx I.hok e;have hz:xs.length<=sizeLine:=by rw[<-uc rel];exact z
  have hl:(putK kvs k v).length<=sizeLine:=by have:=mK kvs k v;omega
  refine wpAny_setItem_heap (hsz:=hz) (lV hu) (v3 I.hok eb) dd λh' DI hs=>h _ ?_
  obtain⟨q,es,ep,hq,h2,h3,h4,_,h5⟩:=DI;refine x3 I (by rw[e];exact gw) hs ⟨q,hq⟩ ⟨hl,hd,_,(rel.put k eb rv).keeps λc ys ec=>?_,q,es,ep,hq,h2,h3,h4,h5⟩
  rw[aP (UJ ec e (λz=>nomatch z))]
  exact ec
end
section
variable{X:Cx}{pins:List (aR×Obj)}{σ:St}{H:Hp}{s:aM}{a:aR}{kvs:List (Key×V)}{k:Key}{u:aE}{A:dQ}{E:aE->aM->Prop}
end
def Kn(i:bZ):Prop:=∀ov iv,subscripted i false ov iv=operate [ov,iv] (getItem ov iv)
theorem GY{prog:bK}{A:dQ}{E:aE->aM->Prop}{env:Env}{value slice:bZ}{T id:String}
  (hl:typeLookup (.type T) "__getitem__"=pure (some (.builtin id)))(hs:Kn slice)
  (h:wpAny (model prog w) A (eval value env) (λo s₁=>wpAny (model prog w) A (eval slice env) (λi s₂=>s₂.TypeIs o T/\wpAny (model prog w) A (getItem o i) Q E s₂) E s₁) E s):
  wpAny (model prog w) A (eval (.Subscript value slice pos) env) Q E s:=by
 refine Subscript_ (iR h (λo s₁ h₁=>iR h₁ (λi s₂ h₂=>?_) λ_ _ x=>x) λ_ _ x=>x)
 obtain⟨hT,h₂⟩:=h₂;unfold subscriptTail;refine aA ?_
 rw[getitemInPython_of_ne hT.not_modules];refine aA (wpAny_specialOf hT hl ?_)
 have fin:wpAny (model prog w) A (subscripted slice false o i) (λr s₃=>wpAny (model prog w) A (letTemporaryGo value o r >>= λ_=>pure r) Q E s₃) E s₂:=by
  rw[hs o i];exact wpAny_operating (iR h₂ (λr s₃ h₃=>aA (wpAny_letTemporaryGo (bj h₃))) λ_ _ x=>x)
 first
  |exact bj (aA fin)
  |exact aA (bj (aA fin))
  |exact aA fin
theorem DJ{σ:St}(I:Inv X pins σ H s)(g:rX H a y o):s.TypeIs (.ref a) "dict":=by
 rcases g with⟨kvs,k,e,_,_⟩|⟨kvs,k,b,e,_,_,_⟩
 ·obtain⟨_,_,vs,_,dd⟩:=wV I.hok e
  exact dd.typeIs
 ·obtain⟨_,_,xs,_,dd⟩:=yD I.hok e
  exact dd.typeIs
def Vy(td ty:TE):TE:=λσ H Q=>td σ H λx H1=>ty σ H1 λy H2=>∃a v,x=.ref a/\rX H2 a y (some v)/\Q v H2
def Zj(ty td:TE):TE:=λσ H Q=>ty σ H λy H1=>td σ H1 λx H2=>∃a o,x=.ref a/\rX H2 a y o/\Q (.bl o.isSome) H2
def NW(ty td:TE):TE:=λσ H Q=>ty σ H λy H1=>td σ H1 λx H2=>∃a o,x=.ref a/\rX H2 a y o/\Q (.bl (!o.isSome)) H2
def Vz(td ty tv:TE):TS:=λD σ H=>tv σ H λv H1=>td σ H1 λx H2=>ty σ H2 λy H3=>∃a H4,x=.ref a/\Al H3 a y v H4/\D.nx σ H4
section
variable{X:Cx}{o i e value:bZ}{pos pos' Y9:Pos}{td ty tv:TE}
theorem GZ(hu:X.A.units+1<cLine)(ho:PE X o td)(hi:PE X i ty)(hs:Kn i):PE X (.Subscript o i pos) (Vy td ty):=by
 intro pins s σ H Q I h;refine GY zX.lookup hs (gK (ho pins s σ H _ I h) λu s1 ⟨x,H1,I1,rx,q1⟩=>gK (hi pins s1 σ H1 _ I1 q1) λiv s2 ⟨y,H2,I2,ry,a,v,ex,g,q2⟩=>?_)
 subst ex;obtain rfl:u=dw a:=rx;exact⟨DJ I2 g,Iz hu I2 g ry λw' s3 I3 qk=>⟨v,H2,I3,qk,q2⟩⟩
theorem Ko(hu:X.A.units+1<cLine)(hi:PE X i ty)(ho:PE X o td):PC X .In i o (Zj ty td):=by
 intro pins s σ H Q I h;refine gK (hi pins s σ H _ I h) λiv s1 ⟨y,H1,I1,ry,q1⟩=>gK (ho pins s1 σ H1 _ I1 q1) λu s2 ⟨x,H2,I2,rx,a,ov,ex,g,q2⟩=>?_
 subst ex;obtain rfl:u=dw a:=rx;exact Zi hu I2 g ry λs3 I3=>⟨.bl ov.isSome,H2,I3,rfl,q2⟩
theorem IB(hu:X.A.units+1<cLine)(hi:PE X i ty)(ho:PE X o td):PC X .NotIn i o (NW ty td):=by
 intro pins s σ H Q I h;refine gK (hi pins s σ H _ I h) λiv s1 ⟨y,H1,I1,ry,q1⟩=>gK (ho pins s1 σ H1 _ I1 q1) λu s2 ⟨x,H2,I2,rx,a,ov,ex,g,q2⟩=>?_
 subst ex;obtain rfl:u=dw a:=rx;exact NV hu I2 g ry λs3 I3=>⟨.bl (!ov.isSome),H2,I3,rfl,q2⟩
theorem x4(hu:X.A.units+1<cLine)(ho:PE X o td)(hi:PE X i ty)(hv:PE X value tv)(hs:swapsWith value (some (.Subscript o i pos')) pos.line X.env=pure false):
  PS X (.Assign [.Subscript o i pos'] value pos) (Vz td ty tv):=by
 intro pins s σ H D I h;refine wpAny_Assign_Subscript (gK (hv pins s σ H _ I h) λr s1 ⟨v,H1,I1,rv,q1⟩=>gK (ho pins s1 σ H1 _ I1 q1) λu s2 ⟨x,H2,I2,rx,q2⟩=>gK (hi pins s2 σ H2 _ I2 q2) λiv s3 ⟨y,H3,I3,ry,a,H4,ex,g,q3⟩=>?_) hs
 subst ex;obtain rfl:u=dw a:=rx;exact IA hu I3 g ry rv λs4 I4=>⟨σ,H4,I4,q3⟩
end
theorem DK(h:dg)(hb:sysModules<h.objs.size):gT P w H (h.push { cls:=.type "dict",data:=.dict #[] }) h.objs.size (.dK []):=
 ⟨bF _,beq_eq_false_iff_ne.mpr (bV (a9 hb)),[],.nil,dg.DictOf.new h⟩
theorem Kq(h:dg)(hb:sysModules<h.objs.size):gT P w H (h.push { cls:=.type "dict",data:=.dict #[] }) h.objs.size (.dT []):=
 ⟨bF _,beq_eq_false_iff_ne.mpr (bV (a9 hb)),[],.nil,_,#[],0,bA _ rfl,⟨rfl,rfl,rfl⟩,rfl,rfl,lO⟩
def R7:TE:=λ_ H Q=>∀p,H p=none->Q (.ref p) (upd H p (.dK []))
def R8:TE:=λ_ H Q=>∀p,H p=none->Q (.ref p) (upd H p (.dT []))
section
variable{X:Cx}{pos:Pos}
theorem rY:PE X (.Dict [] [] pos) R7:=λpins s σ H Q I h=>
 wpAny_Dict_empty ⟨.ref s.heap.objs.size,_,I.laid (a:=s.heap.objs.size) (o:=.dK []) (t':=s.toks) (λ_ _ q=>aF _ q) (ay _) (DK s.heap I.big),rfl,h _ (I.hok.fresh (ay _))⟩
theorem Kr:PE X (.Dict [] [] pos) R8:=λpins s σ H Q I h=>
 wpAny_Dict_empty ⟨.ref s.heap.objs.size,_,I.laid (a:=s.heap.objs.size) (o:=.dT []) (t':=s.toks) (λ_ _ q=>aF _ q) (ay _) (Kq s.heap I.big),rfl,h _ (I.hok.fresh (ay _))⟩
end
def B4:List (TE×TE)->St->Hp->(List (V×V)->Hp->Prop)->Prop
 | [],_,H,Q=>Q [] H
 |(tk,tv)::r,σ,H,Q=>tk σ H λx H1=>tv σ H1 λy H2=>B4 r σ H2 λps H3=>Q ((x,y)::ps) H3
abbrev VV:List (V×V)->List (aE×aE)->Prop:=Fb λp q=>RelV p.1 q.1/\RelV p.2 q.2
def VB(X:Cx)(pos:Pos)(keys:List (Option bZ))(values:List bZ)(Iw:List (TE×TE)):Prop:=
 ∀(pins:List (aR×Obj))(s:aM)(σ:St)(H:Hp)(Q:List (V×V)->Hp->Prop),Inv X pins σ H s->B4 Iw σ H Q->
  wpAny (model X.prog X.w) X.A (evalPairs (pairTrees keys values X.env pos)) (λvs s'=>∃ps H',Inv X pins σ H' s'/\VV ps vs/\Q ps H') X.xe s
theorem NX:VB X pos [] [] []:=λpins s σ H Q I h=>pairTrees_nil_walk ⟨[],H,I,.nil,h⟩
theorem Ks{k v:bZ}{ks:List (Option bZ)}{vs:List bZ}{tk tv:TE}(hk:PE X k tk)(hv:PE X v tv)(hr:VB X pos ks vs Iw):
  VB X pos (some k::ks) (v::vs) ((tk,tv)::Iw):=λpins s σ H Q I h=>
 pairTrees_cons_walk (gK (hk pins s σ H _ I h) λu s1 ⟨x,H1,I1,rx,q1⟩=>gK (hv pins s1 σ H1 _ I1 q1) λw2 s2 ⟨y,H2,I2,ry,q2⟩=>
  gK (hr pins s2 σ H2 _ I2 q2) λws s3 ⟨ps,H3,I3,rel,q3⟩=>⟨(x,y)::ps,H3,I3,.cons ⟨rx,ry⟩ rel,q3⟩)
def rZ(kvs more:List (Key×V)):List (Key×V):=more.foldl (λacc kv=>putK acc kv.1 kv.2) kvs
theorem KV.merge:∀{more:List (Key×V)}{rs:List (Key×aE)}{kvs:List (Key×V)}{vs:List (Key×aE)},KV more rs->KV kvs vs->KV (rZ kvs more) (merged vs rs):=by
 intro more rs kvs vs r;unfold KV at r
 induction r generalizing kvs vs with
 |nil=>intro q;exact q
 | @cons p q ps qs h t ih=>
  intro r0;have e:KV (putK kvs p.1 p.2) (stored vs q.1 q.2):=by
   have:=r0.put p.1 h.2;rw[<-h.1];exact this
  exact ih e
theorem tW:∀(more kvs:List (Key×V)),(rZ kvs more).length<=kvs.length+more.length
 | [],kvs=>by show kvs.length<=kvs.length+0;omega
 |p::r,kvs=>by
  have h1:=tW r (putK kvs p.1 p.2);have h2:=mK kvs p.1 p.2
  show(rZ (putK kvs p.1 p.2) r).length<=_
  rw[bJ];omega
theorem yF{P:bK}{w:cB}:∀{kvs:List (Key×V)}{ws:List (aE×aE)},VV (kvs.map λkv=>(kV kv.1,kv.2)) ws->∃rs,Carries (eZ P w) ws rs/\KV kvs rs
 | [],_,r=>by rw[gF]at r;cases r;exact⟨[],gw,.nil⟩
 |p::kvs,_,r=>by
  rw[aH]at r;cases r with
  | @cons a b as bs h t=>
   obtain⟨rs,c,q⟩:=yF (P:=P) (w:=w) t;obtain⟨b1,b2⟩:=b;exact⟨(p.1,b2)::rs,⟨rW h.1,rfl,c⟩,.cons ⟨rfl,h.2⟩ q⟩
def VC(Iw:List (TE×TE)):TE:=λσ H Q=>∀p,H p=none->B4 Iw σ (upd H p (.dK [])) λps H2=>H2 p=some (.dK [])/\∃kvs:List (Key×V),ps=kvs.map (λkv=>(kV kv.1,kv.2))/\kvs.length<=15/\Q (.ref p) (upd H2 p (.dK (rZ [] kvs)))
theorem NZ{keys:List (Option bZ)}{values:List bZ}(h:VB X pos keys values Iw)(Ak:keys.all (·.isSome)=true)(hl:keys.length=values.length)(h0:keys≠[])
  (h15:keys.length<=15):PE X (.Dict keys values pos) (VC Iw):=by
 intro pins s σ H Q I q;have hn:=I.hok.fresh (ay s.heap.objs.size);have I1:=I.laid (a:=s.heap.objs.size) (o:=.dK []) (h':=s.heap.push { cls:=.type "dict",data:=.dict #[] }) (t':=s.toks) (λ_ _ q=>aF _ q) (ay _) (DK s.heap I.big)
 refine wpAny_Dict_walk (knd:=eZ X.prog X.w) Ak hl h0 h15 (gK (h pins _ σ _ _ I1 (q _ hn)) λws s2 ⟨ps,H2,I2,rel,e,kvs,ep,lk,q2⟩=>?_)
 subst ep;obtain⟨rs,c,rk⟩:=yF (P:=X.prog) (w:=X.w) rel;obtain⟨z,hd,vs0,r0,dd⟩:=A8 I2.hok e;cases r0;refine⟨rs,c,dd,λh' DI hs=>⟨.ref s.heap.objs.size,_,?_,rfl,q2⟩⟩
 have hz:(rZ [] kvs).length<=sizeLine:=by
  have h1:=tW kvs [];rw[cN]at h1;rw[dA];omega
 have he:∃q,h'.get? s.heap.objs.size=some q:=let⟨q,_,_,hq,_⟩:=DI;⟨q,hq⟩;exact x3 I2 (by rw[e];exact gw) hs he (yE hz hd (rk.merge .nil) DI)
structure M2(X:Cx)(o:bZ)(m:Str)(apos:Pos)(e f:bZ)(qv:Pos):Prop where
 base:attributeBase o m X.env (eval o X.env)=eval o X.env
 few:((backTo qv (starEach [e,f] X.env)).all (λx=>!x.1)&&(backToKw qv (keywordEach [] X.env)).all (λx=>x.1.isSome)
  && decide (([e,f]:List bZ).length+([]:List gR).length+(if([]:List gR).isEmpty then 0 else 1)<30))=true
 line:(apos.endLine==qv.line)=true
 trees:backTo qv (starEach [e,f] X.env)=[(false,eval e X.env),(false,eval f X.env)]
def Zk(H:Hp)(a:aR):Prop:=(∃kvs,Rd H a (.dK kvs))\/∃kvs,Rd H a (.dT kvs)
theorem Kt{σ:St}(I:Inv X pins σ H s)(d:Zk H a):
  s.TypeIs (.ref a) "dict"/\(∀b,dw a=.ref b->∃ob,s.heap.get? b=some ob/\ob.dict=none)/\(a==sysModules)=false:=by
 rcases d with⟨kvs,e⟩|⟨kvs,e⟩
 ·obtain⟨_,hd,vs,_,dd⟩:=wV I.hok e
  refine⟨dd.typeIs,λb q=>?_,hd⟩
  cases q;obtain⟨ob,_,_,h1,h2,_⟩:=dd;exact⟨ob,h1,h2.2.1⟩
 ·obtain⟨_,hd,xs,_,dd⟩:=yD I.hok e
  refine⟨dd.typeIs,λb q=>?_,hd⟩
  cases q;obtain⟨ob,_,_,h1,h2,_⟩:=dd;exact⟨ob,h1,h2.2.1⟩
section
variable{X:Cx}{pins:List (aR×Obj)}{σ:St}{H:Hp}{s:aM}{a:aR}{y d:V}{u r:aE}{o:Option V}{A:dQ}{E:aE->aM->Prop}
theorem R9(hu:A.units+1<cLine)(I:Inv X pins σ H s)(g:rX H a y o)(ry:RelV y u)(rd:RelV d r)(h:∀w' s',Inv X pins σ H s'->RelV (o.getD d) w'->Q w' s'):
  wpAny (model X.prog X.w) A (call (.builtin "dict.get") [.ref a,u,r]) Q E s:=by
 rcases g with⟨kvs,k,e,ey,l⟩|⟨kvs,k,b,e,ey,eb,l⟩
 ·subst ey
  obtain⟨z,hd,vs,rel,dd⟩:=wV I.hok e;refine call_meetsIn qV dd.typeIs BH (AK _ _ _) (meets_dict_get_default (eZ X.prog X.w) a (rW ry) hd r) ⟨_,dd.mapOf,h _ _ (I.tok _) ?_⟩
  rw[l];exact(rel.val k).getD rd
 ·subst ey
  cases(show u=dw b from ry)
  obtain⟨z,hd,xs,rel,dd⟩:=yD I.hok e;refine call_meetsIn qV dd.typeIs BH (AK _ _ _) (meetsH_dict_get_default (tupleKind (eZ X.prog X.w)) a b hd r) ⟨lV hu,k,xs,v3 I.hok eb,dd,h _ _ (I.tok _) ?_⟩
  rw[l];exact(rel.val k).getD rd
end
def R_(td ty tx:TE):TE:=λσ H Q=>td σ H λx H1=>∃a,x=.ref a/\Zk H1 a/\ty σ H1 λy H2=>tx σ H2 λz H3=>∃o,rX H3 a y o/\Q (o.getD z) H3
section
variable{X:Cx}{o e f:bZ}{apos qv:Pos}{td ty tx:TE}
theorem Ku(hu:X.A.units+1<cLine)(ho:PE X o td)(he:PE X e ty)(hf:PE X f tx)(m:M2 X o "get" apos e f qv):PE X (.Call (.Attribute o "get" apos) [e,f] [] qv) (R_ td ty tx):=by
 intro pins s σ H Q I h;refine wpAny_Call_method m.base m.few m.line AO qV PySem.F.type_dict_get (gK (ho pins s σ H _ I h) λu s1 ⟨x,H1,I1,rx,a,ex,d,q1⟩=>?_)
 subst ex;obtain rfl:u=dw a:=rx;obtain⟨t1,t2,_⟩:=Kt I1 d;refine⟨t1,t2,?_⟩
 rw[m.trees];refine qU rfl (tP (kZ (gK (he pins s1 σ H1 _ I1 q1) λiv s2 ⟨y,H2,I2,ry,q2⟩=>
  kZ (gK (hf pins s2 σ H2 _ I2 q2) λfv s3 ⟨z,H3,I3,rz,ov,g,q3⟩=>vR ?_))))
 exact R9 hu I3 g ry rz λw' s4 I4 qk=>⟨_,H3,I4,qk,q3⟩
end
section
variable{X:Cx}{pins:List (aR×Obj)}{σ:St}{H:Hp}{s:aM}{a:aR}{kvs:List (Key×V)}{A:dQ}{E:aE->aM->Prop}
theorem Kv(I:Inv X pins σ H s)(e:Rd H a (.dK kvs))(h:∀p s',H p=none->Inv X pins σ (upd H p (.dK kvs)) s'->Q (.ref p) s'):wpAny (model X.prog X.w) A (call (.type "dict") [.ref a]) Q E s:=by
 obtain⟨z,hd,vs,rel,dd⟩:=wV I.hok e;refine kt_call_dict hd dd (by rw[<-rel.length];exact z) λh' DI hs=>?_
 refine h _ _ (I.hok.fresh (ay _)) (I.laid (a:=s.heap.objs.size) (o:=.dK kvs) (t':=s.toks) (λb q hq=>?_) (ay _) (yE z (beq_eq_false_iff_ne.mpr (bV (a9 I.big))) rel DI))
 exact(hs.2 b (a9 (bf hq))).trans (aF _ hq)
end
def zeM(o:Array (Option Nat)):Nat:=o.toList.countP Option.isSome
section
variable{prog:bK}{w:cB}{A:dQ}{E:aE->aM->Prop}{s:aM}
end
section
variable{prog:bK}{w:cB}{A:dQ}{R:ug->aM->Prop}{I:aR}{fp wr:List aR}{G:Array tM->Array tM->Prop}{n:Nat}{P:Nat->aE->Prop}{St:Nat->aM->Prop}
theorem Kw(W:WalksS prog w A.in1 I fp wr G n P St)(S:aR)(N0:S∉fp)(T:Nat->dg->Prop)(keep:∀i h h',T i h->(∀b o,b∉wr->h.get? b=some o->h'.get? b=some o)->T i h')
  (add:∀i v (s:aM) (Q:Bool->aM->Prop) (E:aE->aM->Prop),i<n->P i v->T i s.heap->(∀h' tk b,s.toks<=tk->iU S s.heap h'->T (i+1) h'->Q b { s with heap:=h',toks:=tk })->wpAny (model prog w) A.in1 (setAdd S v) Q E s):
  ∀(k i:Nat)(s:aM),n-i=k->i<=n->St i s->T i s.heap->(∀s',Moved (S::wr) G s s'->T n s'.heap->R (.ok (.ret .none)) s')->
   codeAny (model prog w) A (.builtin "set.update.loop" ⟨[.ref S,.ref I],[]⟩) R s:=by
 have hSw:S∉wr:=λh=>N0 (W.sub _ h)
 have Am:∀b∈wr,b∈S::wr:=λb hb=>aT _ hb
 intro k
 induction k with
 |zero=>
  intro i s hk hi J9 hS hR;have IC:i=n:=by omega
  subst IC;refine jq GF ?_
  rw[gG rG _];show wpAny _ A.in1 (pyNext (.ref I) >>= _) _ _ s;refine aA (W.done s _ _ J9 λs' hm=>?_)
  show wpAny _ A.in1 (ret iZ) _ _ s';exact bj (hR s' (hm.mono Am) (keep _ _ _ hS λb o hb e=>hm.heap b o hb e))
 |succ k ih=>
  intro i s hk hi J9 hS hR;have nR:i<n:=by omega
  refine jq GF ?_
  rw[gG rG _];show wpAny _ A.in1 (pyNext (.ref I) >>= _) _ _ s;refine aA (W.item i s _ _ nR J9 λv s' hP Sb hm=>?_)
  have N1:T i s'.heap:=keep _ _ _ hS λb o hb e=>hm.heap b o hb e
  show wpAny _ A.in1 (holding [v] (setAdd S v) >>= _) _ _ s';refine aA (jw ?_)
  refine add i v s' _ _ nR hP N1 λh' tk b Ug Kx hT=>?_
  refine bj ⟨rH rG _,ih (i+1) _ (by omega) nR (W.frame _ s' _ _ Sb Ug λb hb o e=>?_) hT λNy Sd Se=>?_⟩
  ·rw[Kx.2 b (λh:b=S=>N0 (by rw[<-h];exact hb))];exact e
  ·refine hR Ny (Moved.trans W.gtrans ((hm.mono Am).then_heap Ug λb o hb e=>?_) Sd) Se
   rw[Kx.2 b (λh:b=S=>hb (by rw[h];exact aL))];exact e
end
section
variable{prog:bK}{w:cB}{A:dQ}{E:aE->aM->Prop}{s:aM}
abbrev j9(led:Bool):Obj:={ cls:=.type "set",dict:=none,data:=.set #[] 0 (.fresh 0 0 led) }
end
end L2
namespace L2
open PySem
end L2
namespace L2
open PySem PySem.Spec PyProof.Rows
variable{a:aR}{b k1 k2:Bool}{op:Fc}{X:Cx}{env:Env}{e:bZ}{o:HO}{H H' H0:Hp}{g:Int->Int->Int}{pins:List (aR×Obj)}{elts:List bZ}{cap:List Nat}{R:List aj->List aj->Prop}{own:List Str}{vs xs:List V}{r:List V->Hp->VK->Prop}{i n:Nat}{p p2 tp:Pos}{P:bK}{d:aj}{F:aj->Option aj}{K:au}{sc:nz}{s:aM}{σ:St}{x:Str}{id:String}{w:cB}
abbrev N2:aE->aM->Prop:=λ_ _=>False
abbrev testsOf(ifs:List bZ)(env:Env):Sem Bool:=
 forIn ifs true λc r=>if r=true then(do let ok <-isTrue c env (eval c env);pure (p9 ok))else pure (p9 r)
theorem IE{A:dQ}{R:ug->aM->Prop}{elt tg iter:bZ}{ifs:List bZ}{pos:Pos}{it acc:aE}(J:Nat->aM->Prop)
  (turn:∀n s,J n s->wpAny (model P w) A (pyNext it) (λr s1=>match r with
   |none=>R (.ok .next) s1
   |some v=>wpAny (model P w) A (letOwnedTupleGo tg it v) (λ_ s2=>wpAny (model P w) A (assign tg env v) (λ_ s3=>
     wpAny (model P w) A (testsOf ifs env) (λok s4=>if ok=true then wpAny (model P w) A (eval elt env) (λx s5=>
       wpAny (model P w) A (call (.builtin "list.append") [acc,x]) (λ_ s6=>∃m,m<n/\J m s6) N2 s5) N2 s4
      else ∃m,m<n/\J m s4) N2 s3) N2 s2) N2 s1) N2 s)
  (h:J n s):codeAny (model P w) A (.compLoop (.ListComp elt [⟨tg,iter,ifs,0⟩] sc pos) 0 it acc env) R s:=by
 refine codeAny_loop rfl J (λn s hJ=>?_) n h
 show wpAny _ A ((compTurn (.ListComp elt [⟨tg,iter,ifs,0⟩] sc pos) 0 it acc env).onRaise (λx=>do noteFrame x env;theTreesLotGoes x)) _ _ s
 refine wpAny_noted ?_
 rw[compTurn_list];refine aA (rE (aA (iR (turn n s hJ) (λr s1 h1=>?_) λ_ _ f=>f.elim)))
 cases r with
 |none=>exact bj h1
 |some v=>
  refine aA (iR h1 (λ_ s2 h2=>?_) λ_ _ f=>f.elim)
  refine aA (iR h2 (λ_ s3 h3=>?_) λ_ _ f=>f.elim)
  refine aA (iR h3 (λok s4 h4=>?_) λ_ _ f=>f.elim)
  cases ok with
  |false=>exact bj ⟨rfl,h4⟩
  |true=>
   refine aA (aA (iR h4 (λx s5 h5=>?_) λ_ _ f=>f.elim))
   exact aA (iR h5 (λ_ s6 h6=>bj (bj ⟨rfl,h6⟩)) λ_ _ f=>f.elim)
def pK(env:Env):List (Str×oy)->List (Str×aR)->Option (List (Str×aR))
  | [],acc=>some acc
  | (n,k)::r,acc=>if(k==ef)=true then(match env.cells.lookup n with
      | some c=>pK env r ((n,c)::acc)
      | none=>none)else pK env r acc
theorem B5(env:Env):∀(names:List (Str×oy))(acc cl:List (Str×aR)),pK env names acc=some cl->
  (forIn names acc λ(x:Str×oy)(r:List (Str×aR))=>if(x.2==ef)=true then(do let c <-cellOf env x.1;pure (p9 ((x.1,c)::r)))else pure (p9 r):Sem (List (Str×aR)))=pure cl
 | [],acc,cl,h=>by
  simp only[pK,iy]at h;subst h;rfl
 |(n,k)::r,acc,cl,h=>by
  rw[zY];unfold pK at h;by_cases hk:(k==ef)=true
  ·rw[qQ3 hk]at h
   rw[qQ3 (show((n,k).2==ef)=true from hk)]
   cases e:env.cells.lookup n with
   |none=>rw[e]at h;cases h
   |some c=>
    rw[e]at h;have e2:cellOf env (n,k).1=pure c:=by unfold cellOf;rw[show lg (n,k).1 env.cells=some c from e]
    rw[e2,pure_bind,pure_bind];exact B5 env r _ cl h
  ·rw[qQ2 hk]at h
   rw[qQ2 (show ¬((n,k).2==ef)=true from hk),pure_bind]
   exact B5 env r acc cl h
theorem G_{cl:List (Str×aR)}(h:pK env sc.names []=some cl):closureFor sc env=pure cl:=by
 unfold closureFor;have:=B5 env sc.names [] cl h;simp only[bind_pure];exact this
theorem u9{env:Env}:∀{names:List (Str×oy)}{acc cl:List (Str×aR)},pK env names acc=some cl->(∀x c,acc.lookup x=some c->env.cells.lookup x=some c)->∀x c,cl.lookup x=some c->env.cells.lookup x=some c
 | [],acc,cl,h,ha=>by
  simp only[pK,iy]at h;subst h;exact ha
 |(n,k)::r,acc,cl,h,ha=>by
  unfold pK at h;by_cases hk:(k==ef)=true
  ·rw[qQ3 hk]at h
   cases e:env.cells.lookup n with
   |none=>rw[e]at h;cases h
   |some c=>
    rw[e]at h;refine u9 (names:=r) h λx d hx=>?_
    rw[eL]at hx;cases X7:x==n with
    |true=>
     rw[X7]at hx;have:x=n:=by simpa using X7
     subst this;rw[e];exact hx
    |false=>rw[X7]at hx;exact ha x d hx
  ·rw[qQ2 hk]at h
   exact u9 (names:=r) h ha
theorem u_{env:Env}:∀{names:List (Str×oy)}{acc cl:List (Str×aR)},pK env names acc=some cl->∀x,((x,ef)∈names\/∃c,acc.lookup x=some c)->∃c,cl.lookup x=some c
 | [],acc,cl,h,x,hx=>by
  simp only[pK,iy]at h;subst h;rcases hx with hx|hx
  ·exact qQ7 hx (by simp)
  ·exact hx
 |(n,k)::r,acc,cl,h,x,hx=>by
  unfold pK at h;by_cases hk:(k==ef)=true
  ·rw[qQ3 hk]at h
   cases e:env.cells.lookup n with
   |none=>rw[e]at h;cases h
   |some c=>
    rw[e]at h;refine u_ (names:=r) h x ?_
    rcases hx with hx|⟨d,hx⟩
    ·rcases aG.mp hx with hx|hx
     ·cases hx
      exact .inr ⟨c,by simp[eL]⟩
     ·exact .inl hx
    ·refine .inr ?_
     rw[eL];cases X7:x==n with
     |true=>exact⟨_,rfl⟩
     |false=>exact⟨d,hx⟩
  ·rw[qQ2 hk]at h
   refine u_ (names:=r) h x ?_
   rcases hx with hx|hx
   ·rcases aG.mp hx with hx|hx
    ·cases hx;exact qQ7 rfl hk
    ·exact .inl hx
   ·exact .inr hx
theorem va{env:Env}:∀{names:List (Str×oy)}{x:Str},names.lookup x=some .free->
  (names.map λ(n,k)=>if(k==ef&&env.scope.kind == .function&&env.kindOf n==some .cell) then(n,kD) else(n,k)).lookup x=some .cell\/
   (names.map λ(n,k)=>if(k==ef&&env.scope.kind == .function&&env.kindOf n==some .cell) then(n,kD) else(n,k)).lookup x=some .free
 | [],x,h=>by simp at h
 |(n,k)::r,x,h=>by
  have ih:=@va env r x;rw[aH]
  dsimp only
  by_cases hb:(k==ef&&env.scope.kind == .function&&env.kindOf n==some .cell)=true
  ·rw[qQ3 hb]
   cases hx:x==n with
   |true=>simp[eL,hx]
   |false=>
    simp only[eL,hx]at h ⊢;exact ih h
  ·rw[qQ2 hb]
   cases hx:x==n with
   |true=>
    simp only[eL,hx]at h ⊢;exact .inr h
   |false=>
    simp only[eL,hx]at h ⊢;exact ih h
theorem wW{env:Env}:∀{names:List (Str×oy)}{x:Str},(∀y∈names,y.2≠kD)->
  ((names.map λ(n,k)=>if(k==ef&&env.scope.kind == .function&&env.kindOf n==some .cell) then(n,kD) else(n,k)).lookup x=some .cell\/
   (names.map λ(n,k)=>if(k==ef&&env.scope.kind == .function&&env.kindOf n==some .cell) then(n,kD) else(n,k)).lookup x=some .free)->(x,ef)∈names
 | [],x,_,h=>by simp at h
 |(n,k)::r,x,hc,h=>by
  have ih:=@wW env r x λy hy=>hc y (aT _ hy)
  have VD:k≠kD:=hc (n,k) aL;rw[aH]at h
  dsimp only at h
  by_cases hb:(k==ef&&env.scope.kind == .function&&env.kindOf n==some .cell)=true
  ·have hk:k=ef:=by
    simp only[qO]at hb;simpa using hb.1.1
   rw[qQ3 hb]at h;cases hx:x==n with
   |true=>
    have:x=n:=by simpa using hx
    subst this;rw[hk];exact aL
   |false=>
    simp only[eL,hx]at h;exact aT _ (ih h)
  ·rw[qQ2 hb]at h
   cases hx:x==n with
   |true=>
    have:x=n:=by simpa using hx
    subst this;simp only[eL,beq_self_eq_true,iy]at h;rcases h with h|h
    ·exact qQ7 h VD
    ·rw[h];exact aL
   |false=>
    simp only[eL,hx]at h;exact aT _ (ih h)
def gO(X:Cx)(sc:nz)(N:List Str)(cl:List (Str×aR))(fp:List aR)(s:aM)(H:Hp):Cx where
 prog:=X.prog
 w:=X.w
 K:=X.K
 mg:=X.mg
 base:=X.base
 A:=X.A
 N:=N
 s₀:=s
 H₀:=H
 env:=compEnvC sc cl s.heap.objs.size X.env
 outer:=X.stack
 stack:=X.stack
 ex:=fp
 fn:=λ_=>false
 calm:=X.calm
 pn:=[]
 xe:=N2
structure lZ(X:Cx)(sc:nz)(own:List Str)(cap:List Nat)(N:List Str)(cl:List (Str×aR)):Prop where
 kind:sc.kind=.function
 Ky:∀y∈sc.names,y.2≠kD
 loc:∀y∈sc.names,y.2=.local->sc.names.lookup y.1=some .local
 clos:pK X.env sc.names []=some cl
 names:N=own++cap.map λi=>X.N.getD i fY
 VF:∀i∈cap,i<X.N.length/\(X.env.kindOf (X.N.getD i fY)=some .cell\/X.env.kindOf (X.N.getD i fY)=some .free)/\sc.names.lookup (X.N.getD i fY)=some .free
def mZ(own:List Str)(cap:List Nat)(σ:St):St:=bh own.length none++cap.map λi=>σ.getD i none
section
variable{X:Cx}{pins:List (aR×Obj)}{σ:St}{H:Hp}{s:aM}{sc:nz}{own N:List Str}{cap:List Nat}{cl:List (Str×aR)}{fp:List aR}{tg:bZ}{J:It}{it:aR}{tn:Nat->dg->Prop}
theorem Kz{h4:dg}{t4:Nat}(CS:lZ X sc own cap N cl)(I:Inv X pins σ H s)(T:Turn X.prog X.w X.K tg J fp it tn)(st:tn 0 s.heap)(hf:∀b∈fp,uW X pins H b)
  (D:aR)(hD:D=s.heap.objs.size)(s3:aM)(h3:s3={ s with heap:=s.heap.push { cls:=.type "list",dict:=none,data:=.seq ([]:List aE).toArray } })
  (Iy:h4.Ns s3.heap.objs.size (λ_=>none))(hk:∀b o,s3.heap.get? b=some o->h4.get? b=some o):
  Inv (gO X sc N cl fp s3 (upd H D (.lst []))) [] (mZ own cap σ) (upd H D (.lst [])) { s3 with heap:=h4,toks:=t4 }:=by
 subst hD;have hDn:H s.heap.objs.size=none:=I.fresh;have k3:∀b o,s.heap.get? b=some o->s3.heap.get? b=some o:=λb o e=>by rw[h3];exact aF _ e
 have z3:s3.heap.objs.size=s.heap.objs.size+1:=by rw[h3];exact iA ..
 have I3:Inv X pins σ (upd H s.heap.objs.size (.lst [])) s3:=by
  rw[h3];exact I.laid (t':=s.toks) (λb o e=>aF _ e) (ay _) ⟨bF _,[],0,.nil,bA _ rfl⟩
 have N3:∀b∈fp,b<s.heap.objs.size:=λb hb=>by
  obtain⟨o,e,_⟩:=T.obj 0 _ st b hb;exact bf e
 have N4:∀b,b<s.heap.objs.size->b≠s3.heap.objs.size:=λb hb=>by rw[z3];exact a9 (lW hb)
 have qy:∀x c,cl.lookup x=some c->X.env.cells.lookup x=some c:=u9 CS.clos λx c h=>by simp at h
 have ok:(gO X sc N cl fp s3 (upd H s.heap.objs.size (.lst []))).Ok:=by
  refine⟨I.ok.mod,CS.kind,I.ok.glob,I.ok.blt,ay _,λx y c hx hy=>I.ok.inj x y c (qy x c hx) (qy y c hy),λx hx=>?_,λx c hx _=>qQ7 (show false=true from hx) cz,I.ok.hd,I.ok.frames,.inl rfl,λb hb=>⟨?_,λx c hx=>?_⟩,λb o e=>?_,?_,λb o e hb=>?_,λb hb hs=>?_,?_,?_⟩
  ·exact u_ CS.clos x (.inl (wW CS.Ky hx))
  ·exact N4 b (N3 b hb)
  ·exact(hf b hb).2.2.2.2.1 x c (qy x c hx)
  ·exact I3.bs b o e
  ·exact cp I.ok.P9 (cp I.sz (by show s.heap.objs.size<=s3.heap.objs.size;rw[z3];exact pZ _))
  ·rcases(hf b hb).2.2.2.1 with z|z
   ·exact I.ok.J4 b o e z
   ·exact qQ7 (bY (bf (I.ok.bs b o e).1) z) (j5 _)
  ·rcases aG.mp (I.BP b hs)with z|z
   ·exact(hf b hb).2.1 z
   ·exact(hf b hb).2.2.1 z
  ·exact I3.stack
  ·exact I3.GK
 have frC:∀b,s.heap.objs.size<b->(upd H s.heap.objs.size (.lst [])) b=none:=λb hb=>by
  rw[aP (gI hb)];exact I.hok.fresh (rD hb)
 refine⟨ok,?_,I3.bare,Un.kept hk,⟨_,Iy,λi x v e1 e2 e3=>?_⟩,λx c hx=>?_,?_,λx c hx=>?_,λp hp=>qQ7 (show p∈([]:List (aR×Obj))from hp) (by simp),I3.hok.kept hk,?_⟩
 ·rfl
 ·have Sf:(mZ own cap σ)[i]?=some (some v):=e2
  have VG:N[i]?=some x:=e1;unfold mZ at Sf;by_cases hi:i<own.length
  ·rw[cU (by simpa using hi),dm]at Sf
   split at Sf<;>cases Sf
  ·rw[cM (by simpa using gA hi),dq,aI]at Sf
   rw[CS.names,cM (gA hi),aI]at VG;cases ec:cap[i-own.length]? with
   |none=>rw[ec]at VG;cases VG
   |some j=>
    rw[ec]at VG Sf;have ex:X.N.getD j fY=x:=by simpa using VG
    have ev:σ.getD j none=some v:=by simpa using Sf
    obtain⟨hj,DE,mL⟩:=CS.VF j (bw ec);rw[ex]at DE mL;obtain⟨m,hn,hl⟩:=I.loc;have hxj:X.N[j]?=some x:=by
     rw[aq hj];rw[<-ex,aD,aq hj];rfl
    have hvj:σ[j]?=some (some v):=by
     have:j < σ.length:=by rw[I.len];exact hj
     rw[aD,aq this]at ev;rw[aq this];exact qQ6 some ev
    obtain⟨u,r,l⟩:=hl j x v hxj hvj (by
     rcases DE with z|z
     ·exact .inr (.inl z)
     ·exact .inr (.inr z))
    refine⟨u,r,?_⟩
    rcases l with⟨k,_⟩|⟨k,c,e,z⟩
    ·rcases DE with z|z<;>(rw[z]at k;cases k)
    ·obtain⟨c',ec'⟩:=u_ CS.clos x (.inl (jo mL))
     have:c'=c:=by
      have:=qy x c' ec';rw[e]at this;exact(cR this).symm
     subst this;refine .inr ⟨?_,c',ec',?_⟩
     ·exact va mL
     ·obtain⟨o,ho,hd⟩:=z
      exact⟨o,hk _ _ (k3 _ _ ho),hd⟩
 ·obtain⟨v,o,ho,hd⟩:=I.cell x c (qy x c hx)
  exact⟨v,o,hk _ _ (k3 _ _ ho),hd⟩
 ·exact frC _ (by show s.heap.objs.size<s3.heap.objs.size;rw[z3];exact kF _)
 ·obtain⟨v,o,ho,hd⟩:=I.cell x c (qy x c hx)
  rw[aP (a9 (bf ho))];exact I.pF x c (qy x c hx)
 ·show(mZ own cap σ).length=N.length
  unfold mZ;rw[CS.names];simp
theorem Inv.x5{h':dg}{t':Nat}{ch:List aR}(I:Inv X pins σ H s)(k:∀b o,b∉ch->s.heap.get? b=some o->h'.get? b=some o)(hf:∀b∈ch,uW X pins H b):Inv X pins σ H { s with heap:=h',toks:=t' }:=by
 have UU:∀b u,H b=some u->b∉ch:=λb u e z=>by rw[(hf b z).1]at e;cases e
 refine I.step (g':=s.gens) (d':=s.drawn) (ch:=ch) (λb hb=>⟨(hf b hb).2.2.2.1,(hf b hb).2.1,(hf b hb).2.2.2.2.1,(hf b hb).2.2.2.2.2⟩) (λb o _ _ hc e _=>k b o hc e) (λb o _ _ hc e _=>⟨o.slots,k b o hc e⟩) (λ_ _ _ _ n=>n)
  (λb o hc e=>⟨o,k b o hc e⟩) (λ_ _ e=>e) (λ_ _ _ e=>e) (λb ps e=>⟨#[],by rw[e];simp⟩) (λm hm=>?_) (λb u e=>?_) I.bare
 ·obtain⟨o,es,ep,ho,r⟩:=hm
  exact⟨o,es,ep,k _ o (λz=>(hf _ z).2.1 rfl) ho,r⟩
 ·refine(I.hok b u e).stay (λc v hc q=>k c v ?_ q) (λ_ q=>q) λ_ _ q=>q
  rcases hc with z|z
  ·rw[z];exact UU b u e
  ·exact UU c _ z
theorem Inv.track(I:Inv X pins σ H s)(f:uW X pins H a)(new:gT X.prog X.w (upd H a o) s.heap a o):Inv X pins σ (upd H a o) s:=by
 obtain⟨f0,f1,f2,f3,f4,f5⟩:=f;have ne:∀b u,H b=some u->b≠a:=λb u e=>bN e f0
 refine⟨I.ok,I.os,I.bare,⟨I.base.keep,I.base.slot,λb ob e n hx=>?_,I.base.there,λb xs e=>?_,λb ob u e=>?_,λb ps e=>?_⟩,I.loc,I.cell,?_,λx c e=>?_,λp hp=>?_,λb u e=>?_,I.len⟩
 ·have nb:b≠a:=λz=>by
   subst z;rcases f3 with z|z
   ·exact hx z
   ·exact qQ7 (bY (bf e) z) (j5 _)
  rw[aP nb];exact I.base.free b ob e n hx
 ·have q:=I.base.tups b xs e
  rw[aP (ne _ _ q)];exact q
 ·have q:=I.base.vV b ob u e
  rw[aP (ne _ _ q)];exact q
 ·obtain⟨more,q⟩:=I.base.yn b ps e
  exact⟨more,by rw[aP (ne _ _ q)];exact q⟩
 ·rw[aP (bV f1)]
  exact I.free
 ·rw[aP (f4 x c e)]
  exact I.pF x c e
 ·obtain⟨e,n,r⟩:=I.pin p hp
  exact⟨e,by rw[aP (f5 p hp)];exact n,r⟩
 ·by_cases hb:b=a
  ·subst hb
   rw[bq]at e;cases e;exact new
  ·rw[aP hb]at e
   exact(I.hok b u e).stay (λ_ _ _ q=>q) (λc q=>by rw[aP (ne _ _ q)];exact q) λc xs q=>by rw[aP (ne _ _ q)];exact q
end
def VH(X:Cx)(ifs:List bZ)(t:TT):Prop:=
 ∀(pins:List (aR×Obj))(s:aM)(σ:St)(H:Hp)(Q:Bool->Hp->Prop),Inv X pins σ H s->t σ H Q->wpAny (model X.prog X.w) X.A (testsOf ifs X.env) (TP X pins σ Q) X.xe s
def Zm:TT:=λ_ H Q=>Q true H
theorem N5:VH X [] Zm:=λ_ _ _ H _ I h=>wpAny_tests_nil ⟨H,I,h⟩
theorem N6{c:bZ}{t:TT}(h:PT X c t):VH X [c] t:=λpins s σ H Q I q=>wpAny_tests_one (h pins s σ H Q I q)
def v5(J:It)(g:TG)(tc:TT)(te:TE)(σ:St)(H:Hp)(Q:VK):Prop:=
 ∀D,H D=none->∃W:Nat->Nat->List V->St->Hp->Prop,(∃m,W 0 m [] σ (upd H D (.lst [])))/\∀i m ys σ' H',W i m ys σ' H'->
  (J.stop i H'/\Q (.ref D) H')\/(J.go i H'/\∀x H2,J.U5 i H' x H2->g x σ' H2 λσ3 H3=>tc σ3 H3 λb H4=>if b=true then te σ3 H4 λy H5=>
   H5 D=some (.lst ys)/\ys.length<sizeLine/\∃m',m'<m/\W (i+1) m' (ys ++ [y]) σ3 (upd H5 D (.lst (ys ++ [y])))else ∃m',m'<m/\W (i+1) m' ys σ3 H4)
def Qi(own:List Str)(cap:List Nat)(wi:TI)(g:TG)(tc:TT)(te:TE):TE:=λσ H Q=>wi σ H λJ H1=>v5 J g tc te (mZ own cap σ) H1 Q
section
variable{X:Cx}{pins:List (aR×Obj)}{σ:St}{H:Hp}{s:aM}{sc:nz}{own N:List Str}{cap:List Nat}{cl:List (Str×aR)}{fp:List aR}{tg elt iter:bZ}{ifs:List bZ}{J:It}{it:aR}{tn:Nat->dg->Prop}{g:TG}{tc:TT}{te:TE}{wi:TI}{pos:Pos}
theorem A9{RR:aE->aR->ug->aM->Prop}{E:aE->aM->Prop}{Q:VK}(hc:X.calm=true)(CS:lZ X sc own cap N cl)(I:Inv X pins σ H s)(T:Turn X.prog X.w X.K tg J fp it tn)(st:tn 0 s.heap)(hf:∀b∈fp,uW X pins H b)
  (hg:∀f s3 H3,PG (gO X sc N cl f s3 H3) tg g)(ht:∀f s3 H3,VH (gO X sc N cl f s3 H3) ifs tc)(he:∀f s3 H3,PE (gO X sc N cl f s3 H3) elt te)
  (h:v5 J g tc te (mZ own cap σ) H Q)
  (fin:∀D C H' s',Inv X pins σ H' s'->(∃m,s'.heap.Ns C m)->uW X pins H' C->Q (.ref D) H'->RR (.ref D) C (.ok .next) s'):
  wpAny (model X.prog X.w) X.A (newList []) (λacc s₃=>wpAny (model X.prog X.w) X.A (newFunctionEnv sc X.env.globals cl [] X.env.qual none .none (some X.env)) (λVJ s₄=>
   codeAny (model X.prog X.w) X.A (.compStart (.ListComp elt [⟨tg,iter,ifs,0⟩] sc pos) 0 (.ref it) acc { VJ with scope:=relabel sc X.env }) (RR acc VJ.locals) s₄) E s₃) E s:=by
 refine eV (wpAny_newFunctionEnv CS.Ky (λy hy=>qQ7 hy (by simp)) (λh4 Iy Kx=>?_) CS.kind)
 have hD:H s.heap.objs.size=none:=I.fresh;obtain⟨W,⟨m0,w0⟩,turn⟩:=h s.heap.objs.size hD
 generalize VL:({ s with heap:=s.heap.push { cls:=.type "list",dict:=none,data:=.seq ([]:List aE).toArray } }:aM)=s3 at *
 have h3:=VL.symm;have e3:s.heap.push { cls:=.type "list",dict:=none,data:=.seq ([]:List aE).toArray }=s3.heap:=by rw[h3]
 have z3:s3.heap.objs.size=s.heap.objs.size+1:=by rw[h3];exact iA ..
 have k3:∀b o,s.heap.get? b=some o->s3.heap.get? b=some o:=λb o e=>by rw[h3];exact aF _ e
 have k4:∀b o,s3.heap.get? b=some o->h4.get? b=some o:=λb o e=>Kx.extBut b o (a9 (bf e)) (aF _ e)
 have N3:∀b∈fp,b<s.heap.objs.size:=λb hb=>by
  obtain⟨o,e,_⟩:=T.obj 0 _ st b hb;exact bf e
 have Ic:∀t4,Inv (gO X sc N cl fp s3 (upd H s.heap.objs.size (.lst []))) [] (mZ own cap σ) (upd H s.heap.objs.size (.lst [])) { s3 with heap:=h4,toks:=t4 }:=λt4=>
  Kz (t4:=t4) CS I T st hf _ rfl s3 h3 (by simpa using Iy) k4
 have st4:tn 0 h4:=T.keep _ _ _ st λb hb o e=>k4 b o (k3 b o e)
 have fr4:∀b∈fp,(upd H s.heap.objs.size (.lst [])) b=none:=λb hb=>by
  rw[aP (a9 (N3 b hb))];exact(hf b hb).1
 have stat:∀{H':Hp},(∀b∈fp,H' b=none)->∀b∈fp,uW (gO X sc N cl fp s3 (upd H s.heap.objs.size (.lst []))) [] H' b:=λ{H'}hn b hb=>by
  refine⟨hn b hb,?_,λhs=>?_,.inl hb,λx c hx=>?_,λp hp=>qQ7 (show p∈([]:List (aR×Obj))from hp) (by simp)⟩
  ·show b≠s3.heap.objs.size
   rw[z3];exact a9 (lW (N3 b hb))
  ·rcases aG.mp (I.BP b hs)with z|z
   ·exact(hf b hb).2.1 z
   ·exact(hf b hb).2.2.1 z
  ·exact(hf b hb).2.2.2.2.1 x c (u9 CS.clos (λx c h=>by simp at h) x c hx)
 have loop:∀s5:aM,(∃t4,s5={ s3 with heap:=h4,toks:=t4 })->codeAny (model X.prog X.w) X.A (.compLoop (.ListComp elt [⟨tg,iter,ifs,0⟩] sc pos) 0 (.ref it) (.ref s.heap.objs.size) (compEnvC sc cl s3.heap.objs.size X.env))
   (RR (.ref s.heap.objs.size) s3.heap.objs.size) s5:=by
  rintro s5 ⟨t4,rfl⟩
  refine IE (λn s'=>∃i ys σ' H',Inv (gO X sc N cl fp s3 (upd H s.heap.objs.size (.lst []))) [] σ' H' s'/\tn i s'.heap/\(∀b∈fp,H' b=none)/\W i n ys σ' H') ?_
   ⟨0,[],_,_,Ic t4,st4,fr4,w0⟩
  rintro n s' ⟨i,ys,σ',H',I',xY,fr',w'⟩
  rcases turn i n ys σ' H' w' with⟨stop,q⟩|⟨go,step⟩
  ·refine gK (T.done (gO X sc N cl fp s3 (upd H s.heap.objs.size (.lst []))) rfl rfl rfl hc i [] s' σ' H' N2 I' (stat fr') xY stop) λr s6 ⟨hr,I6⟩=>?_
   subst hr;have bs:=I6.base;have un:Un (JQ X.stack) fp H H' s.heap s6.heap:=by
    have Zn:∀b o,s.heap.get? b=some o->b≠s.heap.objs.size:=λb o e=>a9 (bf e)
    refine⟨λb o e n hb hx=>bs.keep b o (k3 b o e) (by show upd H _ _ b=none;rw[aP (Zn b o e)];exact n) hb hx,λb o e n hb hx=>bs.slot b o (k3 b o e) (by show upd H _ _ b=none;rw[aP (Zn b o e)];exact n) hb hx,
     λb o e n hx=>bs.free b o (k3 b o e) (by show upd H _ _ b=none;rw[aP (Zn b o e)];exact n) hx,λb o e hx=>bs.there b o (k3 b o e) hx,
     λb xs e=>bs.tups b xs (by show upd H _ _ b=_;rw[aP (bN e hD)];exact e),λb o u e=>bs.vV b o u (by show upd H _ _ b=_;rw[aP (bN e hD)];exact e),λb ps e=>bs.yn b ps (by show upd H _ _ b=_;rw[aP (bN e hD)];exact e)⟩
   have I7:Inv X pins σ H' s6:=I.call' (ch:=fp) (by rw[I6.os];show s3.os=s.os;rw[h3]) un I6.hok I6.bare λb hb=>⟨(hf b hb).2.2.2.1,(hf b hb).2.1,(hf b hb).2.2.2.2.1,(hf b hb).2.2.2.2.2⟩
   obtain⟨mC,nC,_⟩:=I6.loc;exact fin _ _ H' s6 I7 ⟨mC,nC⟩ (I.yp (by show s.heap.objs.size<=s3.heap.objs.size;rw[z3];exact pZ _) I6.free) q
  ·refine gK (T.item (gO X sc N cl fp s3 (upd H s.heap.objs.size (.lst []))) rfl rfl rfl hc i [] s' σ' H' N2 I' (stat fr') xY go) λr s6 ⟨u,hr,h6⟩=>?_
   subst hr;refine gK h6 λ_ s7 ⟨x,H7,I7,r7,y7,Zo,fr7⟩=>?_
   have I7':=I7.pinned (stat fr7) (T.obj _ _ Zo);have back:∀{σ8:St}{H8:Hp}{s8:aM},Inv (gO X sc N cl fp s3 (upd H s.heap.objs.size (.lst []))) ([]++yq fp s7.heap) σ8 H8 s8->tn (i+1) s8.heap/\∀b∈fp,H8 b=none:=λ{σ8 H8 s8}I8=>by
    refine⟨T.keep _ _ _ Zo λb hb o e=>(I8.pin (b,o) (b0 _ (b0 _ (qm hb e)))).1,λb hb=>?_⟩
    obtain⟨o,e,d⟩:=T.obj _ _ Zo b hb;exact(I8.pin (b,o) (b0 _ (b0 _ (qm hb e)))).2.1
   refine gK (hg _ _ _ _ s7 σ' H7 x u _ I7' r7 (step x H7 y7)) λ_ s8 ⟨σ8,H8,I8,q8⟩=>?_
   refine gK (ht _ _ _ _ s8 σ8 H8 _ I8 q8) λok s9 ⟨H9,I9,q9⟩=>?_
   cases ok with
   |false=>
    rw[qQ2 cz]at q9 ⊢;obtain⟨m',hm,w9⟩:=q9;exact⟨m',hm,i+1,ys,σ8,H9,I9.rT,(back I9).1,(back I9).2,w9⟩
   |true=>
    rw[qQ3 rfl]at q9 ⊢;refine gK (he _ _ _ _ s9 σ8 H9 _ I9 q9) λxv Zq ⟨y,H10,I10,r10,Sg,hz,m',hm,w10⟩=>?_
    refine gK (pH _ Zq σ8 H10 (.ref s.heap.objs.size) [y] (.ref s.heap.objs.size) [xv] (λ_ wX=>wX=upd H10 s.heap.objs.size (.lst (ys ++ [y]))) I10 rfl (.cons r10 .nil) ⟨_,ys,y,rfl,rfl,Sg,hz,rfl⟩) λ_ s11 ⟨_,H11,Zr,_,e11⟩=>?_
    subst e11;exact⟨m',hm,i+1,ys ++ [y],σ8,_,Zr.rT,(back Zr).1,(back Zr).2,w10⟩
 exact codeAny_compStart_list (loop _ ⟨_,rfl⟩) (T.self _ 0 _ _ _ st4 (loop _ ⟨_,rfl⟩))
theorem N7(hc:X.calm=true)(CS:lZ X sc own cap N cl)(hi:PI X tg iter wi)(hg:∀f s3 H3,PG (gO X sc N cl f s3 H3) tg g)(ht:∀f s3 H3,VH (gO X sc N cl f s3 H3) ifs tc)(he:∀f s3 H3,PE (gO X sc N cl f s3 H3) elt te)
  (hs:∀x,foldedSetIterable iter X.env x=pure x:=by intro _;rfl):PE X (.ListComp elt [⟨tg,iter,ifs,0⟩] sc pos) (Qi own cap wi g tc te):=by
 intro pins s σ H Q I h;rw[eval_ListComp];refine wpAny_comprehension_free (use:=none) rfl hs (G_ CS.clos) CS.kind CS.loc (gK (hi pins s σ H _ I h) λv s1 h1=>gK h1 λXY s2 h2=>?_)
 obtain⟨it,fp,tn,J,H2,e,I2,T,U8,f2,q2⟩:=h2;subst e;refine A9 (RR:=λacc C=>compPost (model X.prog X.w) X.A X.xe none (EP X pins σ Q) acc C) (Q:=Q) hc CS I2 T U8 f2 hg ht he q2 ?_
 intro D C H' s' I' ⟨m,hn⟩ fC q;exact⟨m,hn,λh' sb=>⟨.ref D,H',I'.turned (t':=s'.toks) (λb o hb e=>(sb.2 b hb).trans e) fC.1 fC.2.1 fC.2.2.2.1 fC.2.2.2.2.1 fC.2.2.2.2.2,rfl,q⟩⟩
theorem yG{px yH:Pos}(hN:X.N.Nodup)(VM:X.N[i]?=some x)(hx:Loc X.env.scope x)(hc:X.calm=true)(CS:lZ X sc own cap N cl)(hi:PI X tg iter wi)(hg:∀f s3 H3,PG (gO X sc N cl f s3 H3) tg g)
  (ht:∀f s3 H3,VH (gO X sc N cl f s3 H3) ifs tc)(he:∀f s3 H3,PE (gO X sc N cl f s3 H3) elt te)(An:swapsWith (.ListComp elt [⟨tg,iter,ifs,0⟩] sc pos) (some (.Name x px)) yH.line X.env=pure true:=by rfl)
  (hs:∀x,foldedSetIterable iter X.env x=pure x:=by intro _;rfl)(hf:X.fn x=true\/X.env.scope.names.lookup x=some .local:=by first|exact .inl rfl|exact .inr rfl|assumption):
  PS X (.Assign [.Name x px] (.ListComp elt [⟨tg,iter,ifs,0⟩] sc pos) yH) (RC (Qi own cap wi g tc te) (A0 i)):=by
 intro pins s σ H D I h;rw[exec_Assign_Name_used _ _ _ _ An];refine aA (rE (aA (?_:wpAny _ _ _ _ _ _)))
 show wpAny _ X.A (do let _ <-comprehension (.ListComp elt [⟨tg,iter,ifs,0⟩] sc pos) sc X.env _ (newList []) false (eval iter X.env) (some (assign (.Name x px) X.env))) _ _ s
 refine aA (iR (wpAny_comprehension_free (use:=some (assign (.Name x px) X.env)) (Q:=λ_ s'=>SP X pins D .next s') rfl hs (G_ CS.clos) CS.kind CS.loc
  (gK (hi pins s σ H _ I h) λv s1 h1=>gK h1 λXY s2 h2=>?_)) (λ_ s' hq=>bj (bj hq)) λ_ _ e=>e)
 obtain⟨it,fp,tn,J,H2,e,I2,T,U8,f2,q2⟩:=h2;subst e;refine A9 (RR:=λacc C=>compPost (model X.prog X.w) X.A X.xe (some (assign (.Name x px) X.env)) (λ_ s'=>SP X pins D .next s') acc C) (Q:=λv H'=>A0 i v σ H' D.nx) hc CS I2 T U8 f2 hg ht he q2 ?_
 intro D' C H' s' I' ⟨m,hn⟩ fC q;show wpAny _ _ (assign (.Name x px) X.env (.ref D')) _ _ s';refine wpAny_assign_Name (AY I' hN VM hx (v:=.ref D') rfl (λNy I'' ⟨a,sb,ha⟩=>?_) hf)
 have Uc:C≠a:=by
  rcases ha with z|z
  ·rw[z];exact fC.2.1
  ·exact λy=>fC.2.2.2.2.1 x a z y.symm
 exact⟨m,hn.sameBut sb Uc,λh' sb'=>⟨_,H',I''.turned (t':=Ny.toks) (λb o hb e=>(sb'.2 b hb).trans e) fC.1 fC.2.1 fC.2.2.2.1 fC.2.2.2.2.1 fC.2.2.2.2.2,q⟩⟩
end
def Ite(K:au)(a:aR):It:=
 ⟨λi H=>∃xs x,kW K H a xs/\xs[i]?=some x,λi H v H'=>∃t x,v=.ref t/\H t=none/\H'=upd H t (.tup [.int i,x])/\∀xs,kW K H a xs->xs[i]?=some x,λi H=>∃xs,kW K H a xs/\xs.length<=i⟩
theorem IG{k}(a e it:aR)(Uj:e≠it):Turn P w K (.Tuple elts k tp) (Ite K a) [e,it] e (λi h=>(∃old,IsEnum h e it (i:Nat) old)/\h.IsListIter it a i) where
 mem:=by simp
 obj:=λi h st b hb=>by
  obtain⟨⟨old,he⟩,⟨o,ho,c,d⟩⟩:=st;rcases aG.mp hb with z|z
  ·subst z
   exact⟨_,he,λv z=>by cases z⟩
  ·have z':b=it:=by simpa using z
   subst z';exact⟨o,ho,λv z=>by rw[d]at z;cases z⟩
 keep:=λi h h' st kp=>⟨let⟨old,he⟩:=st.1;⟨old,kp e (by simp) _ he⟩,st.2.at λo q=>kp it (by simp) o q⟩
 item:=by
  intro X hP hw hK hc i pins s σ H E I hf st hg;subst hP hw hK;obtain⟨⟨old,he⟩,hit⟩:=st;obtain⟨xs,x,hq,hx⟩:=hg;obtain⟨its,rv,p,hz⟩:=I.list hq;obtain⟨u,hu,ru⟩:=rv.get hx;refine wpAny_pyNext_enum_item he hit p.isList (x:=u) (by simpa using hu) Uj λh1 P8 Zt ht1 hz1 Uk=>?_
  refine⟨.ref s.heap.objs.size,rfl,wpAny_letOwnedTupleGo_enum P8 λh2 VN pA=>?_⟩
  have elt:e<s.heap.objs.size:=bf he;have ilt:it<s.heap.objs.size:=by obtain⟨o,ho,_⟩:=id hit;exact bf ho
  have k2:∀b o,b∉[e,it]->s.heap.get? b=some o->h2.get? b=some o:=λb o hb q=>by
   have n1:b≠e:=λz=>hb (by simp[z])
   have n2:b≠it:=λz=>hb (by simp[z])
   exact(pA.2 b n1).trans (Uk b o n1 n2 q)
  have I2:Inv X pins σ H { s with heap:=h2,toks:=s.toks+1 }:=I.x5 k2 hf
  have Zu:h2.get? s.heap.objs.size=some { cls:=.type "tuple",data:=.seq #[.int i s.toks,u] }:=(pA.2 _ (gI elt)).trans ht1;have fT:uW X pins H s.heap.objs.size:=I.yp (ay _) I.fresh;have I3:Inv X pins σ (upd H s.heap.objs.size (.tup [.int i,x])) { s with heap:=h2,toks:=s.toks+1 }:=
   I2.track fT ⟨by show 2<=sizeLine;rw[dA];decide,[.int i s.toks,u],.cons ⟨_,rfl⟩ (.cons ru .nil),⟨_,Zu,rfl,_,rfl⟩⟩
  refine⟨.ref s.heap.objs.size,_,I3,rfl,⟨_,x,rfl,I.fresh,rfl,λys hy=>by rw[I.yo hy hq];exact hx⟩,⟨⟨_,by simpa using VN⟩,Zt.at λo q=>(pA.2 it Uj.symm).trans q⟩,λb hb=>?_⟩
  rcases aG.mp hb with z|z
  ·subst z
   rw[aP (a9 elt)];exact(hf b hb).1
  ·have z':b=it:=by simpa using z
   subst z';rw[aP (a9 ilt)];exact(hf b hb).1
 done:=by
  intro X hP hw hK hc i pins s σ H E I hf st hg;subst hP hw hK;obtain⟨⟨old,he⟩,hit⟩:=st;obtain⟨xs,hq,hx⟩:=hg;obtain⟨its,rv,p,hz⟩:=I.list hq;have hl:=rv.length;exact wpAny_pyNext_enum_end (I.ok.hd hc) he hit p.isList (by simp;omega) λh' eb=>⟨rfl,I.x5 (ch:=[e,it]) (t':=s.toks) (λb o hb q=>eb b o (λz=>hb (by simp[z])) q) hf⟩
 self:=λ_ _ _ _ _ st h=>let⟨⟨_,he⟩,_⟩:=st;wpAny_pyIter_enum he h
def VQ(K:au)(ta:TA):TI:=λσ H R=>ta σ H λvs H1=>∃a,vs=[.ref a]/\(∃xs,kW K H1 a xs)/\R (Ite K a) H1
theorem N8{a:bZ}{ta:TA}{pos: Pos}{k}(hg:Gl X "enumerate")(hm:X.mg "enumerate"=none)(ha:PA X [a] ta)(hs:starEach [a] X.env=[(false,eval a X.env)]:=by rfl):
  PI X (.Tuple elts k tp) (.Call (.Name "enumerate" p) [a] [] pos) (VQ X.K ta):=by
 intro pins s σ H R I h;refine Call_ (vW I hg hm boot_enumerate (jx (gK (ha pos pins s σ H _ I h) λus s1 ⟨vs,H1,I1,r1,q1⟩=>?_) hs rfl))
 obtain⟨l,e,⟨xs,hq⟩,q⟩:=q1;subst e;obtain⟨u,rfl,rx⟩:=vals1 r1;cases rx;obtain⟨its,rv,pl,hz⟩:=I1.list hq;refine call_enumerate_list pl.isList λh' he hit hsz hk=>wpAny_pyIter_enum he ?_
 have I2:Inv X pins σ H1 { s1 with heap:=h' }:=I1.kept (t':=s1.toks) hk
 refine⟨_,[s1.heap.objs.size+1,s1.heap.objs.size],_,_,H1,rfl,I2,IG l _ _ (Nat.succ_ne_self _),⟨⟨_,he⟩,hit⟩,λb hb=>?_,q⟩
 rcases aG.mp hb with z|z
 ·subst z
  exact I1.yp (pZ _) (I1.hok.fresh (pZ _))
 ·have z':b=s1.heap.objs.size:=by simpa using z
  subst z';exact I1.yp (ay _) I1.fresh
def oX:Key->aj
 | .inl i=>.int i
 | .inr x=>.str x
mutual
inductive Rep(K:au)(H:Hp):V->aj->Prop
 |non:Rep K H .non .none
 |bl (b:Bool):Rep K H (.bl b) (.bool b)
 |int (i:Int):Rep K H (.int i) (.int i)
 |str (x:Str):Rep K H (.str x) (.str x)
 |lst {a:aR} {xs:List V} {ds:List aj}:kW K H a xs->cy K H xs ds->Rep K H (.ref a) (.list ds)
 |tup {a:aR} {xs:List V} {ds:List aj}:oH K H a xs->cy K H xs ds->Rep K H (.ref a) (.tuple ds)
 |dct {a:aR} {kvs:List (Key×V)} {ds:List (aj×aj)}:H a=some (.dK kvs)->ds.map (·.1)=kvs.map (λp=>oX p.1)->cy K H (kvs.map (·.2)) (ds.map (·.2))->Rep K H (.ref a) (.dict ds)
 |Ul {a:aR} {kvs:List (List Key×V)} {ds:List (aj×aj)}:H a=some (.dT kvs)->ds.map (·.1)=kvs.map (λp=>gy (p.1.map oX))->cy K H (kvs.map (·.2)) (ds.map (·.2))->Rep K H (.ref a) (.dict ((.none,.bool true)::ds))
 |obj {a C dx:aR} {fs:List (Str×V)} {ds:List (aj×aj)}:H a=some (.ins C dx fs)->DB K C->(∀f∈fs.map (·.1),kB K C f)->ds.map (·.1)=fs.map (λp=>aK p.1)->cy K H (fs.map (·.2)) (ds.map (·.2))->Rep K H (.ref a) (.dict ((.none,.none)::ds))
 |Um {a:aR} {o:Obj} {kvs:List (Key×V)} {ds:List (aj×aj)}:H a=some (.rA o (.dK kvs))->ds.map (·.1)=kvs.map (λp=>oX p.1)->cy K H (kvs.map (·.2)) (ds.map (·.2))->Rep K H (.ref a) (.dict ((.none,.int 1)::ds))
inductive cy(K:au)(H:Hp):List V->List aj->Prop
 |nil:cy K H [] []
 |cons {x:V} {d:aj} {xs:List V} {ds:List aj}:Rep K H x d->cy K H xs ds->cy K H (x::xs) (d::ds)
end
theorem dv.oY(e:dv H H')(h:oH K H a xs):oH K H' a xs:=by
 rcases h with(h|⟨o,h⟩)|h
 ·exact .inl (.inl (e _ _ h))
 ·exact .inl (.inr ⟨o,e _ _ h⟩)
 ·exact .inr h
theorem Rep.mono(s:dv H H'){v:V}(r:Rep K H v d):Rep K H' v d:=
 Rep.rec (motive_1:=λv d _=>Rep K H' v d) (motive_2:=λxs ds _=>cy K H' xs ds) .non (λb=>.bl b) (λi=>.int i) (λx=>.str x) (λh _ t=>.lst (s.seq h) t) (λh _ t=>.tup (s.oY h) t) (λh k _ t=>.dct (s _ _ h) k t) (λh k _ t=>.Ul (s _ _ h) k t) (λh c n k _ t=>.obj (s _ _ h) c n k t) (λh k _ t=>.Um (s _ _ h) k t) .nil (λ_ _ a t=>.cons a t) r
theorem cy.mono(s:dv H H'):∀{ds:List aj}{xs:List V},cy K H xs ds->cy K H' xs ds
 | [],_,r=>by cases r;exact .nil
 |d::ds,_,r=>by cases r with|cons a t=>exact .cons (a.mono s) (cy.mono s t)
section
variable{K:au}{H:Hp}
theorem cy.length:∀{xs:List V}{ds:List aj},cy K H xs ds->xs.length=ds.length
 | [],_,r=>by cases r;rfl
 |x::xs,_,r=>by cases r with|cons a t=>simp[cy.length t]
theorem cy.get:∀{xs:List V}{ds:List aj}{i:Nat}{d:aj},cy K H xs ds->ds[i]?=some d->∃x,xs[i]?=some x/\Rep K H x d
 | [],_,_,_,r,e=>by cases r;simp at e
 |x::xs,_,i,d,r,e=>by
  cases r with
  |cons a t=>
   cases i with
   |zero=>simp at e;subst e;exact⟨x,rfl,a⟩
   |succ i=>simpa using cy.get (i:=i) t (by simpa using e)
theorem cy.at{ds:List aj}{x:V}(r:cy K H xs ds)(e:ds[i]?=some d)(h:xs[i]?=some x):Rep K H x d:=by
 obtain⟨y,h1,h2⟩:=r.get e;rw[h]at h1;cases h1;exact h2
theorem cy.append:∀{xs ys:List V}{ds es:List aj},cy K H xs ds->cy K H ys es->cy K H (xs++ys) (ds++es)
 | [],_,_,_,r,s=>by cases r;exact s
 |x::xs,_,_,_,r,s=>by cases r with|cons a t=>exact .cons a (cy.append t s)
theorem cy.take:∀{xs:List V}{ds:List aj}(n:Nat),cy K H xs ds->cy K H (xs.take n) (ds.take n)
 |_,_,0,_=>by simpa using cy.nil
 | [],_,_+1,r=>by cases r;exact .nil
 |x::xs,_,n+1,r=>by cases r with|cons a t=>exact .cons a (cy.take n t)
theorem cy.drop:∀{xs:List V}{ds:List aj}(n:Nat),cy K H xs ds->cy K H (xs.drop n) (ds.drop n)
 |_,_,0,r=>r
 | [],_,_+1,r=>by cases r;exact .nil
 |x::xs,_,n+1,r=>by cases r with|cons a t=>exact cy.drop n t
end
mutual
theorem jh(I:Inv X pins σ H s):∀(d:aj){v:V}{u:aE},d.canLay0=true->Rep X.K H v d->RelV v u->∃as,Reads s.heap u d as
 | .none,_,_,_,r,q=>by cases r;cases q;exact⟨_,.none⟩
 | .bool b,_,_,_,r,q=>by cases r;cases q;exact⟨_,.bool b⟩
 | .int i,_,_,_,r,q=>by cases r;obtain⟨t,rfl⟩:=q;exact⟨_,.int i t⟩
 | .str x,_,_,_,r,q=>by cases r;obtain⟨t,rfl⟩:=q;exact⟨_,.str x t⟩
 | .list ds,_,_,hc,r,q=>by
  cases r with
  |lst h t=>
   cases q;obtain⟨its,rv,⟨o,n,e,c,_,dt⟩,_⟩:=I.list h;obtain⟨as,ra⟩:=mM I ds hc t rv;exact⟨_,.list e c dt (by simpa using ra)⟩
 | .tuple ds,_,_,hc,r,q=>by
  cases r with
  |tup h t=>
   cases q;obtain⟨its,rv,⟨o,e,c,n,dt⟩,_⟩:=I.tuple h;obtain⟨as,ra⟩:=mM I ds hc t rv;exact⟨_,.tuple e c dt (by simpa using ra)⟩
 | .dict _,_,_,hc,_,_=>by cases hc
theorem mM(I:Inv X pins σ H s):∀(ds:List aj){xs:List V}{us:List aE},oU ds=true->cy X.K H xs ds->dX xs us->∃as,ReadsAll s.heap us ds as
 | [],_,_,_,r,q=>by cases r;cases q;exact⟨_,.nil⟩
 |d::ds,_,_,hc,r,q=>by
  have Ud:(d.canLay0&&oU ds)=true:=hc;rw[qO]at Ud;cases r with
  |cons a t=>
   cases q with
   |cons b w=>
    obtain⟨as,h1⟩:=jh I d Ud.1 a b;obtain⟨bs,h2⟩:=mM I ds Ud.2 t w;exact⟨_,.cons h1 h2⟩
end
def Lay(n:Nat)(d:aj):Prop:=d.canLay0=true/\d.depth<=n
inductive Slot where
 |un
 |val (d:aj)
 |own (ds:List aj)
 |ref (a:aR)
variable{δ δ' δ2:List Slot}
structure eB(H0 H dS H':Hp):Prop where
 big:dv H H'
 fG:dv H0 dS
 sub:dv dS H'
 new:∀a,dS a≠none->H0 a≠none\/H a=none
theorem eB.refl(s:dv H0 H):eB H0 H H0 H:=⟨dv.refl _,dv.refl _,s,λ_ h=>.inl h⟩
theorem dv.ne(s:dv H H')(h:H a≠none):H' a≠none:=by
 cases e:H a with
 |none=>exact qQ7 e h
 |some o=>rw[s a o e];simp
theorem eB.trans{A B C D E F:Hp}(x:eB A B C D)(y:eB C D E F):eB A B E F:=
 ⟨x.big.trans y.big,x.fG.trans y.fG,y.sub,λa h=>(y.new a h).elim (x.new a) λz=>.inr (x.big.free z)⟩
theorem eB.laid(s:dv H0 H){p:aR}(h:H p=none):eB H0 H (upd H0 p o) (upd H p o):=by
 have h0:H0 p=none:=s.free h;refine⟨λb u e=>?_,λb u e=>?_,λb u e=>?_,λb e=>?_⟩
 ·rw[aP (bN e h)];exact e
 ·rw[aP (bN e h0)];exact e
 ·by_cases hb:b=p
  ·subst hb;rw[bq]at e ⊢;exact e
  ·rw[aP hb]at e ⊢;exact s b u e
 ·by_cases hb:b=p
  ·subst hb;exact .inr h
  ·rw[aP hb]at e;exact .inl e
theorem eB.loose(s:dv H0 H){p:aR}(h:H p=none):eB H0 H H0 (upd H p o):=
 ⟨λb u e=>by rw[aP (bN e h)];exact e,dv.refl _,λb u e=>by rw[aP (bN (s b u e) h)];exact s b u e,λ_ e=>.inl e⟩
def KC(K:au)(B H0 H:Hp):Slot->Option (Option V)->Prop
 | .un,_=>True
 | .val d,o=>∃v,o=some (some v)/\Rep K H0 v d
 | .own ds,o=>∃p xs,o=some (some (.ref p))/\H p=some (.lst xs)/\H0 p=none/\B p=none/\cy K H0 xs ds
 | .ref a,o=>o=some (some (.ref a))
structure fJ(K:au)(B0 B H0 H:Hp)(σ:St)(δ:List Slot):Prop where
 ent:eB B0 B H0 H
 len:σ.length=δ.length
 slot:∀(i:Nat)sl,δ[i]?=some sl->KC K B H0 H sl σ[i]?
 apart:∀(i j:Nat)ds es p,i≠j->δ[i]?=some (.own ds)->δ[j]?=some (.own es)->σ[i]?=some (some (.ref p))->σ[j]?≠some (some (.ref p))
section
variable{K:au}{B0 B H0 H dS H':Hp}{σ:St}{δ:List Slot}
theorem fJ.sub(f:fJ K B0 B H0 H σ δ):dv H0 H:=f.ent.sub
theorem fJ.grow(f:fJ K B0 B H0 H σ δ)(g:eB H0 H dS H'):fJ K B0 B dS H' σ δ:=by
 refine⟨f.ent.trans g,f.len,λi sl e=>?_,f.apart⟩
 have q:=f.slot i sl e;cases sl with
 |un=>trivial
 |ref a=>exact q
 |val d=>obtain⟨v,h1,h2⟩:=q;exact⟨v,h1,h2.mono g.fG⟩
 |own ds=>
  obtain⟨p,xs,h1,h2,h3,h4,h5⟩:=q;refine⟨p,xs,h1,g.big _ _ h2,?_,h4,h5.mono g.fG⟩
  cases e2:dS p with
  |none=>rfl
  |some o=>
   rcases g.new p (by rw[e2];simp)with z|z
   ·exact qQ7 h3 z
   ·rw[h2]at z;cases z
theorem fJ.val(f:fJ K B0 B H0 H σ δ)(h:δ[i]?=some (.val d)):∃v,σ[i]?=some (some v)/\Rep K H0 v d:=f.slot i _ h
theorem fJ.set(f:fJ K B0 B H0 H σ δ){v:V}(r:Rep K H0 v d):fJ K B0 B H0 H (σ.set i (some v)) (δ.set i (.val d)):=by
 refine⟨f.ent,by simp[f.len],λj sl e=>?_,λj k ds es p DL e1 e2 e3=>?_⟩
 ·by_cases hj:j=i
  ·subst hj
   have hl:j < δ.length:=by
    have:=(aO.mp e).1;simpa using this
   rw[bx hl]at e;cases e;rw[bx (by rw[f.len];exact hl)]
   exact⟨v,rfl,r⟩
  ·rw[aX (bV hj)]at e
   rw[aX (bV hj)];exact f.slot j sl e
 ·have nj:j≠i:=λz=>by
   subst z;have hl:j < δ.length:=by simpa using(aO.mp e1).1
   rw[bx hl]at e1;cases e1
  have nk:k≠i:=λz=>by
   subst z;have hl:k < δ.length:=by simpa using(aO.mp e2).1
   rw[bx hl]at e2;cases e2
  rw[aX (bV nj)]at e1 e3;rw[aX (bV nk)]at e2 ⊢;exact f.apart j k ds es p DL e1 e2 e3
theorem fJ.yI(f:fJ K B0 B H0 H σ δ){ds:List aj}{p:aR}(h1:H p=some (.lst xs))(h2:H0 p=none)(h3:B p=none)(r:cy K H0 xs ds)(hn:∀(j:Nat)es,δ[j]?=some (.own es)->σ[j]?≠some (some (.ref p))):
  fJ K B0 B H0 H (σ.set i (some (.ref p))) (δ.set i (.own ds)):=by
 refine⟨f.ent,by simp[f.len],λj sl e=>?_,λj k E6 es q DL e1 e2 e3=>?_⟩
 ·by_cases hj:j=i
  ·subst hj
   have hl:j < δ.length:=by simpa using(aO.mp e).1
   rw[bx hl]at e;cases e;rw[bx (by rw[f.len];exact hl)]
   exact⟨p,xs,rfl,h1,h2,h3,r⟩
  ·rw[aX (bV hj)]at e
   rw[aX (bV hj)];exact f.slot j sl e
 ·have hlj:j < δ.length:=by simpa using(aO.mp e1).1
  have X8:k < δ.length:=by simpa using(aO.mp e2).1
  by_cases nj:j=i
  ·subst nj
   rw[bx (by rw[f.len];exact hlj)]at e3
   cases e3;rw[aX DL]at e2 ⊢;exact hn k es e2
  ·rw[aX (bV nj)]at e1 e3
   by_cases nk:k=i
   ·subst nk
    rw[bx (by rw[f.len];exact X8)]
    intro z;cases z;exact hn j E6 e1 e3
   ·rw[aX (bV nk)]at e2 ⊢
    exact f.apart j k E6 es q DL e1 e2 e3
theorem fJ.push(f:fJ K B0 B H0 H σ δ){ds:List aj}{p:aR}{y:V}(hi:δ[i]?=some (.own ds))(hp:σ[i]?=some (some (.ref p)))(h1:H p=some (.lst xs))(ry:Rep K H0 y d):
  fJ K B0 B H0 (upd H p (.lst (xs ++ [y]))) σ (δ.set i (.own (ds ++ [d]))):=by
 obtain⟨p',xs',e1,e2,e3,e4,e5⟩:=f.slot i _ hi;rw[hp]at e1;cases e1;rw[h1]at e2;cases e2;have hl:i < δ.length:=(aO.mp hi).1;refine⟨⟨λb u e=>?_,f.ent.fG,λb u e=>?_,f.ent.new⟩,by simp[f.len],λj sl e=>?_,λj k E6 es q DL a1 a2 a3=>?_⟩
 ·have:b≠p:=bN e e4
  rw[aP this];exact f.ent.big b u e
 ·have:b≠p:=bN e e3
  rw[aP this];exact f.ent.sub b u e
 ·by_cases hj:j=i
  ·subst hj
   rw[bx hl]at e;cases e;exact⟨p,xs ++ [y],hp,bq,e3,e4,e5.append (.cons ry .nil)⟩
  ·rw[aX (bV hj)]at e
   have q:=f.slot j sl e;cases sl with
   |un=>trivial
   |ref a=>exact q
   |val d=>exact q
   |own E6=>
    obtain⟨p2,VR,g1,g2,g3,g4,g5⟩:=q;have:p2≠p:=λz=>by subst z;exact f.apart i j ds E6 p2 (bV hj) hi e hp g1
    exact⟨p2,VR,g1,by rw[aP this];exact g2,g3,g4,g5⟩
 ·have c1:∃M4,δ[j]?=some (.own M4):=by
   by_cases hj:j=i
   ·subst hj;exact⟨_,hi⟩
   ·rw[aX (bV hj)]at a1;exact⟨_,a1⟩
  have c2:∃M4,δ[k]?=some (.own M4):=by
   by_cases hk:k=i
   ·subst hk;exact⟨_,hi⟩
   ·rw[aX (bV hk)]at a2;exact⟨_,a2⟩
  obtain⟨d1,c1⟩:=c1;obtain⟨d2,c2⟩:=c2;exact f.apart j k d1 d2 q DL c1 c2 a3
theorem fJ.freeze(f:fJ K B0 B H0 H σ δ){ds:List aj}{p:aR}(hi:δ[i]?=some (.own ds))(hp:σ[i]?=some (some (.ref p)))(h1:H p=some (.lst xs)):
  fJ K B0 B (upd H0 p (.lst xs)) H σ (δ.set i (.val (.list ds)))/\dv H0 (upd H0 p (.lst xs)):=by
 obtain⟨p',xs',e1,e2,e3,e4,e5⟩:=f.slot i _ hi;rw[hp]at e1;cases e1;rw[h1]at e2;cases e2;have hl:i < δ.length:=(aO.mp hi).1;have sm:dv H0 (upd H0 p (.lst xs)):=λb u e=>by rw[aP (bN e e3)];exact e
 refine⟨⟨⟨f.ent.big,f.ent.fG.trans sm,λb u e=>?_,λb e=>?_⟩,by simp[f.len],λj sl e=>?_,λj k E6 es q DL a1 a2 a3=>?_⟩,sm⟩
 ·by_cases hb:b=p
  ·subst hb;rw[bq]at e;rw[<-e];exact h1
  ·rw[aP hb]at e;exact f.ent.sub b u e
 ·by_cases hb:b=p
  ·subst hb;exact .inr e4
  ·rw[aP hb]at e;exact f.ent.new b e
 ·by_cases hj:j=i
  ·subst hj
   rw[bx hl]at e;cases e;exact⟨.ref p,hp,.lst (kW.of bq) (e5.mono sm)⟩
  ·rw[aX (bV hj)]at e
   have q:=f.slot j sl e;cases sl with
   |un=>trivial
   |ref a=>exact q
   |val d=>obtain⟨v,g1,g2⟩:=q;exact⟨v,g1,g2.mono sm⟩
   |own E6=>
    obtain⟨p2,VR,g1,g2,g3,g4,g5⟩:=q;have:p2≠p:=λz=>by subst z;exact f.apart i j ds E6 p2 (bV hj) hi e hp g1
    exact⟨p2,VR,g1,g2,by rw[aP this];exact g3,g4,g5.mono sm⟩
 ·have nj:j≠i:=λz=>by subst z;rw[bx hl]at a1;cases a1
  have nk:k≠i:=λz=>by subst z;rw[bx hl]at a2;cases a2
  rw[aX (bV nj)]at a1;rw[aX (bV nk)]at a2;exact f.apart j k E6 es q DL a1 a2 a3
end
def cE(X:Cx)(e:bZ):TE:=λσ H Q=>∀pins s,Inv X pins σ H s->wpAny (model X.prog X.w) X.A (eval e X.env) (EP X pins σ Q) X.xe s
def cT(X:Cx)(e:bZ):TT:=λσ H Q=>∀pins s,Inv X pins σ H s->wpAny (model X.prog X.w) X.A (isTrue e X.env (eval e X.env)) (TP X pins σ Q) X.xe s
def cS(X:Cx)(st:ia):TS:=λD σ H=>∀pins s,Inv X pins σ H s->wpAny (model X.prog X.w) X.A (exec st X.env) (SP X pins D) X.xe s
def B6(X:Cx)(st:List ia):TS:=λD σ H=>∀pins s,Inv X pins σ H s->wpAny (model X.prog X.w) X.A (execs st X.env) (SP X pins D) X.xe s
theorem c7:PE X e (cE X e):=λpins s _ _ _ I h=>h pins s I
theorem oZ:PT X e (cT X e):=λpins s _ _ _ I h=>h pins s I
theorem KD{e:ia}:PS X e (cS X e):=λpins s _ _ _ I h=>h pins s I
theorem mN{e:List ia}:Fi X e (B6 X e):=λpins s _ _ _ I h=>h pins s I
def VE(X:Cx)(e:bZ)(δ:List Slot)(d:aj):Prop:=∀B0 B σ H0 H Q,fJ X.K B0 B H0 H σ δ->(∀v dS H',eB H0 H dS H'->Rep X.K dS v d->Q v H')->cE X e σ H Q
def VO(X:Cx)(e:bZ)(δ:List Slot)(ds:List aj):Prop:=∀B0 B σ H0 H Q,fJ X.K B0 B H0 H σ δ->
 (∀p xs dS H',eB H0 H dS H'->H p=none->dS p=none->H' p=some (.lst xs)->cy X.K dS xs ds->Q (.ref p) H')->cE X e σ H Q
def VT(X:Cx)(e:bZ)(δ:List Slot)(b:Bool):Prop:=∀B0 B σ H0 H Q,fJ X.K B0 B H0 H σ δ->(∀dS H',eB H0 H dS H'->Q b H')->cT X e σ H Q
def VA(X:Cx)(es:List bZ)(δ:List Slot)(ds:List aj):Prop:=∃t,PA X es t/\∀B0 B σ H0 H Q,fJ X.K B0 B H0 H σ δ->(∀vs dS H',eB H0 H dS H'->cy X.K dS vs ds->Q vs H')->t σ H Q
theorem VE.of{t:TE}(h:PE X e t)(q:∀B0 B σ H0 H Q,fJ X.K B0 B H0 H σ δ->(∀v dS H',eB H0 H dS H'->Rep X.K dS v d->Q v H')->t σ H Q):VE X e δ d:=
 λB0 B σ H0 H Q f k pins s I=>h pins s σ H Q I (q B0 B σ H0 H Q f k)
theorem VO.of{ds:List aj}{t:TE}(h:PE X e t)(q:∀B0 B σ H0 H Q,fJ X.K B0 B H0 H σ δ->
  (∀p xs dS H',eB H0 H dS H'->H p=none->dS p=none->H' p=some (.lst xs)->cy X.K dS xs ds->Q (.ref p) H')->t σ H Q):VO X e δ ds:=
 λB0 B σ H0 H Q f k pins s I=>h pins s σ H Q I (q B0 B σ H0 H Q f k)
theorem VT.of{t:TT}(h:PT X e t)(q:∀B0 B σ H0 H Q,fJ X.K B0 B H0 H σ δ->(∀dS H',eB H0 H dS H'->Q b H')->t σ H Q):VT X e δ b:=
 λB0 B σ H0 H Q f k pins s I=>h pins s σ H Q I (q B0 B σ H0 H Q f k)
theorem VO.ve{ds:List aj}(h:VO X e δ ds):VE X e δ (.list ds):=λB0 B σ H0 H Q f k=>h B0 B σ H0 H Q f λp xs dS H' g h1 h2 h3 r=>by
 have sm:dv dS (upd dS p (.lst xs)):=λb u e=>by rw[aP (bN e h2)];exact e
 refine k (.ref p) (upd dS p (.lst xs)) H' ⟨g.big,g.fG.trans sm,λb u e=>?_,λb e=>?_⟩ (.lst (kW.of bq) (r.mono sm))
 ·by_cases hb:b=p
  ·subst hb;rw[bq]at e;rw[<-e];exact h3
  ·rw[aP hb]at e;exact g.sub b u e
 ·by_cases hb:b=p
  ·subst hb;exact .inr h1
  ·rw[aP hb]at e;exact g.new b e
def Ao(K:au)(r:R2)(d1 d2 d:aj):Prop:=∀x y H0 H Q,dv H0 H->Rep K H0 x d1->Rep K H0 y d2->(∀v dS H',eB H0 H dS H'->Rep K dS v d->Q v H')->r x y H Q
section
variable{X:Cx}{a b c e:bZ}{δ:List Slot}{d d1 d2 d3:aj}{pos:Pos}
theorem ae(i:Nat)(h:δ[i]?=some (.val d))(hN:X.N[i]?=some x:=by rfl)(hv:AX X.env.scope x:=by first|exact a7 rfl|exact cj (a7 rfl)|exact cj (cj rfl))(hd:(x==("__debug__":Str))=false:=by decide)
  (oB:(x==("__classdict__":Str))=false:=by decide):VE X (.Name x pos) δ d:=
 .of (jO hN hv hd oB) λB0 B σ H0 H Q f k=>let⟨v,h1,h2⟩:=f.val h;⟨v,h1,k v H0 H (.refl f.sub) h2⟩
theorem ax{i:Int}{j}:VE X (.Constant (.int i) j pos) δ (.int i):=.of J5 λ_ _ _ _ _ _ f k=>k _ _ _ (.refl f.sub) (.int i)
theorem DM{i:Bool}{j}:VE X (.Constant (.bool i) j pos) δ (.bool i):=.of UX λ_ _ _ _ _ _ f k=>k _ _ _ (.refl f.sub) (.bl i)
theorem gP{j}:VE X (.Constant .none j pos) δ .none:=.of Rt λ_ _ _ _ _ _ f k=>k _ _ _ (.refl f.sub) .non
theorem aN{i:Str}{j}:VE X (.Constant (.str i) j pos) δ (.str i):=.of Ru λ_ _ _ _ _ _ f k=>k _ _ _ (.refl f.sub) (.str i)
theorem two_d{r:R2}(hd:Ao X.K r d1 d2 d)(h1:VE X a δ d1)(h2:VE X b δ d2):∀B0 B σ H0 H Q,fJ X.K B0 B H0 H σ δ->(∀v dS H',eB H0 H dS H'->Rep X.K dS v d->Q v H')->U9 r (cE X a) (cE X b) σ H Q:=λB0 B σ H0 H Q f k=>
 h1 B0 B σ H0 H _ f λv H1 dO g1 r1=>h2 B0 B σ H1 dO _ (f.grow g1) λu H2 jb g2 r2=>hd v u H2 jb Q g2.sub (r1.mono g2.fG) r2 λw H3 x6 g3 r3=>k w H3 x6 ((g1.trans g2).trans g3) r3
theorem um{op:Operator}{r:R2}(ho:rV X (binaryOp op) r)(hd:Ao X.K r d1 d2 d)(h1:VE X a δ d1)(h2:VE X b δ d2):VE X (.BinOp a op b pos) δ d:=.of (GN ho c7 c7) (two_d hd h1 h2)
theorem o3{r:R2}(ho:rV X (compareOp op) r)(hd:Ao X.K r d1 d2 d)(h1:VE X a δ d1)(h2:VE X b δ d2)(hm:behindInMarks op b=false):VE X (.Compare a [op] [b] pos) δ d:=.of (Nr ho c7 c7 hm) (two_d hd h1 h2)
theorem ji{r:R2}{k:Bool}(ho:rV X (compareOp op) r)(hd:Ao X.K r d1 d2 (.bool k))(h1:VE X a δ d1)(h2:VE X b δ d2)(hm:behindInMarks op b=false):VT X (.Compare a [op] [b] pos) δ k:=
 .of (Nt ho c7 c7 hm) λB0 B σ H0 H Q f q=>two_d hd h1 h2 B0 B σ H0 H _ f λv dS H' g r=>by cases r;exact⟨_,rfl,q dS H' g⟩
theorem FE{r:R2}(ho:M3 X r)(hd:Ao X.K r d1 d2 d)(h1:VE X a δ d1)(h2:VE X b δ d2)(hs:oI b:=by intro _ _;rfl):VE X (.Subscript a b pos) δ d:=.of (GV ho c7 c7 hs) (two_d hd h1 h2)
end
theorem VW(i j:Int):Ao K (MZ λi j=>.int (g i j)) (.int i) (.int j) (.int (g i j)):=λx y H0 H Q s r1 r2 k=>by cases r1;cases r2;exact⟨_,_,rfl,rfl,k _ _ _ (.refl s) (.int _)⟩
theorem Ap{g:Int->Int->Bool}(i j:Int):Ao K (MZ λi j=>.bl (g i j)) (.int i) (.int j) (.bool (g i j)):=λx y H0 H Q s r1 r2 k=>by cases r1;cases r2;exact⟨_,_,rfl,rfl,k _ _ _ (.refl s) (.bl _)⟩
theorem Si{C:Int->Int->Prop}(i j:Int)(h:C i j):Ao K (rI C λi j=>.int (g i j)) (.int i) (.int j) (.int (g i j)):=λx y H0 H Q s r1 r2 k=>by cases r1;cases r2;exact⟨_,_,rfl,rfl,h,k _ _ _ (.refl s) (.int _)⟩
def Sj(K:au)(n:Nat)(g:aj->aj->Bool):R2:=λx y H Q=>∃dx dy,Rep K H x dx/\Rep K H y dy/\Lay n dx/\Lay n dy/\Q (.bl (g dx dy)) H
theorem KG(hu:X.A.units+n+2<cLine):rV X (compareOp .Eq) (Sj X.K n λx y=>cI x y):=by
 intro pins s σ H x y v u Q I rx ry ⟨dx,dy,r1,r2,l1,l2,q⟩;obtain⟨as,ra⟩:=jh I dx l1.1 r1 rx;obtain⟨bs,rb⟩:=jh I dy l2.1 r2 ry;have h1:=l1.2;exact SeqAt.compareEq_reads ra rb l1.1 l2.1 (by omega) ⟨.bl _,H,I,rfl,q⟩
theorem KH(hu:X.A.units+n+2<cLine):rV X (compareOp .NotEq) (Sj X.K n λx y=>!cI x y):=by
 intro pins s σ H x y v u Q I rx ry ⟨dx,dy,r1,r2,l1,l2,q⟩;obtain⟨as,ra⟩:=jh I dx l1.1 r1 rx;obtain⟨bs,rb⟩:=jh I dy l2.1 r2 ry;have h1:=l1.2;exact SeqAt.neOverData X.prog X.w X.A X.xe s v u dx dy as bs _ ra rb l1.1 l2.1 (by omega) ⟨.bl _,H,I,rfl,q⟩
def vb(d:aj):aj->Bool
 | .list xs=>xs.any λy=>cI y d
 | .tuple xs=>xs.any λy=>cI y d
 |_=>false
def DN:aj->Bool
 | .list _=>true
 | .tuple _=>true
 |_=>false
def Sl(K:au)(n:Nat)(neg:Bool):R2:=λx y H Q=>∃dx dy,Rep K H x dx/\Rep K H y dy/\DN dy=true/\Lay n dx/\Lay n dy/\Q (.bl (if neg then !vb dx dy else vb dx dy)) H
theorem KJ(hu:X.A.units+n+2<cLine):rV X (compareOp .In) (Sl X.K n false):=by
 intro pins s σ H x y v u Q I rx ry ⟨dx,dy,r1,r2,hs,l1,l2,q⟩;obtain⟨as,ra⟩:=jh I dx l1.1 r1 rx;obtain⟨bs,rb⟩:=jh I dy l2.1 r2 ry;have h1:=l1.2;cases dy with
 |list ys=>exact SeqAt.in_list_reads rb ra l2.1 l1.1 (by omega) ⟨.bl _,H,I,rfl,q⟩
 |tuple ys=>exact SeqAt.in_tuple_reads rb ra l2.1 l1.1 (by omega) ⟨.bl _,H,I,rfl,q⟩
 |_=>cases hs
theorem II(hu:X.A.units+n+2<cLine):rV X (compareOp .NotIn) (Sl X.K n true):=by
 intro pins s σ H x y v u Q I rx ry ⟨dx,dy,r1,r2,hs,l1,l2,q⟩;obtain⟨as,ra⟩:=jh I dx l1.1 r1 rx;obtain⟨bs,rb⟩:=jh I dy l2.1 r2 ry;have h1:=l1.2;cases dy with
 |list ys=>exact SeqAt.notIn_list_reads rb ra l2.1 l1.1 (by omega) ⟨.bl _,H,I,rfl,q⟩
 |tuple ys=>exact SeqAt.notIn_tuple_reads rb ra l2.1 l1.1 (by omega) ⟨.bl _,H,I,rfl,q⟩
 |_=>cases hs
theorem G'{g:aj->aj->Bool}{d1 d2:aj}(l1:Lay n d1)(l2:Lay n d2):Ao K (Sj K n g) d1 d2 (.bool (g d1 d2)):=λx y H0 H Q s r1 r2 k=>⟨d1,d2,r1.mono s,r2.mono s,l1,l2,k _ _ _ (.refl s) (.bl _)⟩
theorem Sn{neg:Bool}{d1 d2:aj}(hs:DN d2=true)(l1:Lay n d1)(l2:Lay n d2):Ao K (Sl K n neg) d1 d2 (.bool (if neg then !vb d1 d2 else vb d1 d2)):=λx y H0 H Q s r1 r2 k=>
 ⟨d1,d2,r1.mono s,r2.mono s,hs,l1,l2,k _ _ _ (.refl s) (.bl _)⟩
theorem Zv{ds:List aj}{i:Int}(h:nQ ds i=some d):Ao K (X4 K) (.list ds) (.int i) d:=λx y H0 H Q s r1 r2 k=>by
 cases r2;cases r1 with
 |lst hq r=>
  rename_i p xs
  have hl:=r.length;unfold nQ at h;cases e:JT ds.length i with
  |none=>rw[e]at h;cases h
  |some j=>
   rw[e]at h;obtain⟨v,hv,rv⟩:=r.get (i:=j) (d:=d) h;exact .inl ⟨p,xs,i,v,rfl,rfl,s.seq hq,by unfold nQ;rw[hl,e];exact hv,k v _ _ (.refl s) rv⟩
theorem VX{ds:List aj}{i:Int}(h:nQ ds i=some d):Ao K (X4 K) (.tuple ds) (.int i) d:=λx y H0 H Q s r1 r2 k=>by
 cases r2;cases r1 with
 |tup hq r=>
  rename_i p xs
  have hl:=r.length;unfold nQ at h;cases e:JT ds.length i with
  |none=>rw[e]at h;cases h
  |some j=>
   rw[e]at h;obtain⟨v,hv,rv⟩:=r.get (i:=j) (d:=d) h;exact .inr (.inl ⟨p,xs,i,v,rfl,rfl,s.oY hq,by unfold nQ;rw[hl,e];exact hv,k v _ _ (.refl s) rv⟩)
def VY(K:au):R2:=λx y H Q=>∃l b xs zs,x=.ref l/\y=.ref b/\kW K H l xs/\kW K H b zs/\xs.length+zs.length<=sizeLine/\∀p,H p=none->Q (.ref p) (upd H p (.lst (xs++zs)))
theorem N9:rV X (binaryOp .Add) (VY X.K):=by
 intro pins s σ H x y v u Q I rx ry h;obtain⟨l,b,xs,zs,rfl,rfl,hl,hb,hz,q⟩:=h;cases rx;cases ry;obtain⟨its,r1,⟨⟨cls,dd,data,sl⟩,n,e1,c1,_,d1⟩,z1⟩:=I.list hl;obtain⟨Ir,r2,⟨⟨Za,XZ,data2,X1⟩,n2,e2,c2,_,d2⟩,z2⟩:=I.list hb;simp only at c1 d1 c2 d2;subst c1 d1 c2 d2;have l1:=r1.length;have l2:=r2.length;refine concat_meets ⟨_,e1,rfl⟩ ⟨_,e2,rfl⟩ noFill_list_add seq_list_add PySem.F.slot_list_add PySem.F.entry_list_add (PySem.F.args_list_add_2 _ _) (list_addW l b its.toArray Ir.toArray n n2 dd XZ sl X1 (by rw[bp,bp];omega)) ⟨e1,e2,?_⟩
 rw[show its.toArray++Ir.toArray=(its++Ir).toArray by simp]
 exact⟨.ref _,_,I.Zd (t':=s.toks) (r1.append r2) (by rw[aY];omega),rfl,q _ I.fresh⟩
section
variable{X:Cx}{a b c e:bZ}{es:List bZ}{δ:List Slot}{d d1 d2 d3:aj}{ds:List aj}{pos:Pos}{i j:Int}{k:Nat}
theorem cQ(h1:VE X a δ (.int i))(h2:VE X b δ (.int j)):VE X (.BinOp a .Add b pos) δ (.int (i+j)):=um RJ (VW i j) h1 h2
theorem KL(h1:VE X a δ (.int i))(h2:VE X b δ (.int j)):VE X (.BinOp a .Sub b pos) δ (.int (i-j)):=um RK (VW i j) h1 h2
theorem o4(h1:VE X a δ (.int i))(h2:VE X b δ (.int j))(h:Nn i j):VE X (.BinOp a .Mult b pos) δ (.int (i*j)):=um RL (Si i j h) h1 h2
theorem cw(h1:VE X a δ (.int i))(h2:VE X b δ (.int j))(h:0<j):VE X (.BinOp a .Mod b pos) δ (.int (i%j)):=um RM (Si i j h) h1 h2
theorem eK(h1:VE X a δ (.int i))(h2:VE X b δ (.int j))(h:Vb i j):VE X (.BinOp a .FloorDiv b pos) δ (.int (i/j)):=um Nq (Si i j h) h1 h2
theorem VZ(h1:VE X a δ (.int i))(h2:VE X b δ (.int j)):VE X (.Compare a [.LtE] [b] pos) δ (.bool (decide (i<=j))):=o3 Dy (Ap i j) h1 h2 (gC _)
theorem Qj(h1:VE X a δ (.int i))(h2:VE X b δ (.int j)):VE X (.Compare a [.Gt] [b] pos) δ (.bool (decide (j<i))):=o3 Qe (Ap i j) h1 h2 (gC _)
theorem V0(h1:VE X a δ (.int i))(h2:VE X b δ (.int j)):VE X (.Compare a [.GtE] [b] pos) δ (.bool (decide (j<=i))):=o3 Qf (Ap i j) h1 h2 (gC _)
theorem DP(h1:VE X a δ (.int i))(h2:VE X b δ (.int j)):VT X (.Compare a [.Lt] [b] pos) δ (decide (i<j)):=ji Vc (Ap i j) h1 h2 (gC _)
theorem yJ(h1:VE X a δ (.int i))(h2:VE X b δ (.int j)):VT X (.Compare a [.Gt] [b] pos) δ (decide (j<i)):=ji Qe (Ap i j) h1 h2 (gC _)
theorem Qk(h1:VE X a δ (.int i))(h2:VE X b δ (.int j)):VT X (.Compare a [.GtE] [b] pos) δ (decide (j<=i)):=ji Qf (Ap i j) h1 h2 (gC _)
theorem Aq(hr:e8 k X.A):X.A.units+20+2<cLine:=by have:=hr.un;omega
theorem bR(hr:e8 k X.A)(l1:Lay 20 d1)(l2:Lay 20 d2)(h1:VE X a δ d1)(h2:VE X b δ d2):VT X (.Compare a [.Eq] [b] pos) δ (cI d1 d2):=ji (KG (Aq hr)) (G' l1 l2) h1 h2 (gC _)
theorem qQ(hr:e8 k X.A)(l1:Lay 20 d1)(l2:Lay 20 d2)(h1:VE X a δ d1)(h2:VE X b δ d2):VT X (.Compare a [.NotEq] [b] pos) δ (!cI d1 d2):=ji (KH (Aq hr)) (G' l1 l2) h1 h2 (gC _)
theorem oJ(hr:e8 k X.A)(l1:Lay 20 d1)(l2:Lay 20 d2)(h1:VE X a δ d1)(h2:VE X b δ d2):VE X (.Compare a [.Eq] [b] pos) δ (.bool (cI d1 d2)):=o3 (KG (Aq hr)) (G' l1 l2) h1 h2 (gC _)
theorem yK(hr:e8 k X.A)(hs:DN d2=true)(l1:Lay 20 d1)(l2:Lay 20 d2)(h1:VE X a δ d1)(h2:VE X b δ d2)(hm:behindInMarks .In b=false:=by with_unfolding_all rfl):VT X (.Compare a [.In] [b] pos) δ (vb d1 d2):=ji (KJ (Aq hr)) (Sn (neg:=false) hs l1 l2) h1 h2 hm
theorem yL(hr:e8 k X.A)(hs:DN d2=true)(l1:Lay 20 d1)(l2:Lay 20 d2)(h1:VE X a δ d1)(h2:VE X b δ d2)(hm:behindInMarks .NotIn b=false:=by with_unfolding_all rfl):VT X (.Compare a [.NotIn] [b] pos) δ (!vb d1 d2):=ji (II (Aq hr)) (Sn (neg:=true) hs l1 l2) h1 h2 hm
theorem fj(h1:VE X a δ (.list ds))(h2:VE X b δ (.int i))(h:nQ ds i=some d)(hs:oI b:=by intro _ _;rfl):VE X (.Subscript a b pos) δ d:=FE yB (Zv h) h1 h2 hs
theorem bT(h1:VE X a δ (.tuple ds))(h2:VE X b δ (.int i))(h:nQ ds i=some d)(hs:oI b:=by intro _ _;rfl):VE X (.Subscript a b pos) δ d:=FE yB (VX h) h1 h2 hs
theorem r6:PT X e (λ_ _ _=>False):=λ_ _ _ _ _ _ h=>h.elim
theorem nS{k:Bool}(h:VT X a δ k):VT X (.UnaryOp .Not a pos) δ (!k):=.of (Rw oZ) λB0 B σ H0 H Q f q=>h B0 B σ H0 H _ f q
theorem uo(h1:VT X a δ k1)(h2:k1=true->VT X b δ k2):VT X (.BoolOp .And [a,b] pos) δ (k1&&k2):=by
 cases k1 with
 |true=>
  exact .of (pw_and oZ (pw_and1 oZ)).pt λB0 B σ H0 H Q f q=>h1 B0 B σ H0 H _ f λH1 dO g=>by
   rw[qQ3 rfl];exact h2 rfl B0 B σ H1 dO _ (f.grow g) λH2 jb g2=>q H2 jb (g.trans g2)
 |false=>
  exact .of (pw_and oZ (pw_and1 r6)).pt λB0 B σ H0 H Q f q=>h1 B0 B σ H0 H _ f λH1 dO g=>by
   rw[qQ2 cz];exact q H1 dO g
theorem j_(h1:VT X a δ k1)(h2:k1=false->VT X b δ k2):VT X (.BoolOp .Or [a,b] pos) δ (k1||k2):=by
 cases k1 with
 |false=>
  exact .of (pw_or oZ (pw_or1 oZ)).pt λB0 B σ H0 H Q f q=>h1 B0 B σ H0 H _ f λH1 dO g=>by
   rw[qQ2 cz];exact h2 rfl B0 B σ H1 dO _ (f.grow g) λH2 jb g2=>q H2 jb (g.trans g2)
 |true=>
  exact .of (pw_or oZ (pw_or1 r6)).pt λB0 B σ H0 H Q f q=>h1 B0 B σ H0 H _ f λH1 dO g=>by
   rw[qQ3 rfl];exact q H1 dO g
theorem yM{k3: Bool}(h1:VT X a δ k1)(h2:k1=false->VT X b δ k2)(h3:k1=false->k2=false->VT X c δ k3):VT X (.BoolOp .Or [a,b,c] pos) δ (k1||(k2||k3)):=by
 cases k1 with
 |true=>
  exact .of (pw_or oZ (pw_or r6 (pw_or1 r6))).pt λB0 B σ H0 H Q f q=>h1 B0 B σ H0 H _ f λH1 dO g=>by
   rw[qQ3 rfl];exact q H1 dO g
 |false=>
  cases k2 with
  |true=>
   exact .of (pw_or oZ (pw_or oZ (pw_or1 r6))).pt λB0 B σ H0 H Q f q=>h1 B0 B σ H0 H _ f λH1 dO g=>by
    rw[qQ2 cz];refine h2 rfl B0 B σ H1 dO _ (f.grow g) λH2 jb g2=>?_
    rw[qQ3 rfl];exact q H2 jb (g.trans g2)
  |false=>
   exact .of (pw_or oZ (pw_or oZ (pw_or1 oZ))).pt λB0 B σ H0 H Q f q=>h1 B0 B σ H0 H _ f λH1 dO g=>by
    rw[qQ2 cz];refine h2 rfl B0 B σ H1 dO _ (f.grow g) λH2 jb g2=>?_
    rw[qQ2 cz];exact h3 rfl rfl B0 B σ H2 jb _ ((f.grow g).grow g2) λH3 x6 g3=>q H3 x6 ((g.trans g2).trans g3)
def Zw:aj->Option Bool
 | .none=>some false
 | .bool b=>some b
 | .int i=>some (i != 0)
 | .list ds=>some (!ds.isEmpty)
 | .tuple ds=>some (!ds.isEmpty)
 |_=>none
theorem cy.empty{ds:List aj}(r:cy K H xs ds):xs.isEmpty=ds.isEmpty:=by cases r<;>rfl
theorem iD{t:Bool}(h:VE X a δ d)(ht:Zw d=some t)(he:∀whole,isTrue a X.env whole=(do let v <-whole;standAt a.pos;holding [v] (truthy v)):=by intro _;rfl):VT X a δ t:=
 .of (Kd c7 he) λB0 B σ H0 H Q f q=>h B0 B σ H0 H _ f λv H1 dO g r=>by
  refine⟨t,?_,q H1 dO g⟩
  cases r with
  |non=>cases ht;exact(rfl:false=false)
  |bl b=>cases ht;exact(rfl:t=t)
  |int i=>cases ht;exact(rfl:(i != 0)=(i != 0))
  |str x=>cases ht
  |lst hq r=>cases ht;exact .inl ⟨_,g.sub.seq hq,by rw[r.empty]⟩
  |tup hq r=>cases ht;exact .inr (.inl ⟨_,g.sub.oY hq,by rw[r.empty]⟩)
  |dct _ _ _=>cases ht
  |Ul _ _ _=>cases ht
  |obj _ _ _ _ _=>cases ht
  |Um _ _ _=>cases ht
theorem v7{k:Bool}(h:VT X c δ k)(h1:k=true->VE X a δ d)(h2:k=false->VE X b δ d):VE X (.IfExp c a b pos) δ d:=
 .of (J8 oZ c7 c7) λB0 B σ H0 H Q f q=>h B0 B σ H0 H _ f λH1 dO g=>by
  cases k with
  |true=>
   rw[qQ3 rfl];exact h1 rfl B0 B σ H1 dO _ (f.grow g) λv H2 jb g2 r=>q v H2 jb (g.trans g2) r
  |false=>
   rw[qQ2 cz];exact h2 rfl B0 B σ H1 dO _ (f.grow g) λv H2 jb g2 r=>q v H2 jb (g.trans g2) r
theorem aQ:VA X [] δ []:=⟨_,fF,λ_ _ _ _ _ _ f q=>q _ _ _ (.refl f.sub) .nil⟩
theorem ao(h:VE X e δ d)(hr:VA X es δ ds)(hs:starEach (e::es) X.env=(false,eval e X.env)::starEach es X.env:=by rfl):VA X (e::es) δ (d::ds):=by
 obtain⟨t,p,ht⟩:=hr;exact⟨_,du c7 p hs,λB0 B σ H0 H Q f q=>h B0 B σ H0 H _ f λv H1 dO g r=>ht B0 B σ H1 dO _ (f.grow g) λvs H2 jb g2 rs=>q _ _ _ (g.trans g2) (.cons (r.mono g2.fG) rs)⟩
theorem eU{x1}(h:VA X es δ ds)(hz:ds.length<=sizeLine:=by(simp only[fq];rw[dA];decide)):VE X (.Tuple es x1 pos) δ (.tuple ds):=by
 obtain⟨t,p,ht⟩:=h;exact .of (yv p) λB0 B σ H0 H Q f q=>ht B0 B σ H0 H _ f λvs H1 dO g r=>⟨by rw[r.length];exact hz,λa ha=>q _ _ _ (g.trans (.laid g.sub ha)) (.tup (oH.of bq) (r.mono (eB.laid g.sub ha).fG))⟩
theorem fe(h:VA X es δ ds)(hz:ds.length<=sizeLine:=by(simp only[fq];rw[dA];decide)):VO X (.List es pos) δ ds:=by
 obtain⟨t,p,ht⟩:=h;exact .of (BX p) λB0 B σ H0 H Q f q=>ht B0 B σ H0 H _ f λvs H1 dO g r=>⟨by rw[r.length];exact hz,λa ha=>q a vs H1 _ (g.trans (.loose g.sub ha)) (g.big.free ha) (g.sub.free ha) bq r⟩
def cutD{α:Type}(xs:List α)(lo hi:Option Int):List α:=(xs.drop (HT.lM xs.length 0 lo)).take (HT.lM xs.length xs.length hi-HT.lM xs.length 0 lo)
theorem cy.cut(r:cy K H xs ds)(lo hi:Option Int):cy K H (DG xs lo hi) (cutD ds lo hi):=by
 unfold DG cutD;rw[r.length];exact(r.drop _).take _
inductive tX(X:Cx)(δ:List Slot):Option bZ->Option Int->Prop
 |no:tX X δ none none
 |yes {e:bZ} {i:Int}:VE X e δ (.int i)->tX X δ (some e) (some i)
theorem tX.ok{o:Option bZ}{p:Option Int}(h:tX X δ o p):∃t,PO X o t/\∀B0 B σ H0 H Q,fJ X.K B0 B H0 H σ δ->(∀dS H',eB H0 H dS H'->Q p H')->t σ H Q:=by
 cases h with
 |no=>exact⟨_,NC,λ_ _ _ _ _ _ f q=>q _ _ (.refl f.sub)⟩
 |yes h=>exact⟨_,NF c7,λB0 B σ H0 H Q f q=>h B0 B σ H0 H _ f λv H1 dO g r=>by cases r;exact⟨_,rfl,q _ _ g⟩⟩
theorem gD{lo hi:Option bZ}{l u:Option Int}(h:VE X a δ (.list ds))(hl:tX X δ lo l)(hh:tX X δ hi u):VO X (.Subscript a (.Slice lo hi none p2) pos) δ (cutD ds l u):=by
 obtain⟨tl,pl,ql⟩:=hl.ok;obtain⟨th,ph,qh⟩:=hh.ok;refine .of (yz NM c7 pl ph) λB0 B σ H0 H Q f q=>h B0 B σ H0 H _ f λv H1 dO g r=>ql B0 B σ H1 dO _ (f.grow g) λH2 jb g2=>qh B0 B σ H2 jb _ ((f.grow g).grow g2) λH3 x6 g3=>?_
 cases r with
 |lst hq r=>
  refine⟨_,_,rfl,g3.sub.seq ((g2.fG.trans g3.fG).seq hq),λp hp=>?_⟩
  have gg:=(g.trans g2).trans g3;exact q p _ H3 _ (gg.trans (.loose g3.sub hp)) (gg.big.free hp) (g3.sub.free hp) bq ((r.mono (g2.fG.trans g3.fG)).cut l u)
theorem v8{lo hi:Option bZ}{l u:Option Int}(h:VE X a δ (.tuple ds))(hl:tX X δ lo l)(hh:tX X δ hi u)(hw:¬(HT.lM ds.length 0 l=0/\HT.lM ds.length ds.length u=ds.length)):
  VE X (.Subscript a (.Slice lo hi none p2) pos) δ (.tuple (cutD ds l u)):=by
 obtain⟨tl,pl,ql⟩:=hl.ok;obtain⟨th,ph,qh⟩:=hh.ok;refine .of (yz RZ c7 pl ph) λB0 B σ H0 H Q f q=>h B0 B σ H0 H _ f λv H1 dO g r=>ql B0 B σ H1 dO _ (f.grow g) λH2 jb g2=>qh B0 B σ H2 jb _ ((f.grow g).grow g2) λH3 x6 g3=>?_
 cases r with
 |tup hq r=>
  refine⟨_,_,rfl,g3.sub.oY ((g2.fG.trans g3.fG).oY hq),by rw[r.length];exact hw,λp hp=>?_⟩
  have gg:=(g.trans g2).trans g3;exact q _ _ _ (gg.trans (.laid g3.sub hp)) (.tup (oH.of bq) (((r.mono (g2.fG.trans g3.fG)).cut l u).mono (eB.laid g3.sub hp).fG))
def nT(K:au)(r:List V->Hp->VK->Prop)(ds:List aj)(d:aj):Prop:=∀vs H0 H Q,dv H0 H->cy K H0 vs ds->(∀v dS H',eB H0 H dS H'->Rep K dS v d->Q v H')->r vs H Q
def KN(K:au)(r:List V->Hp->VK->Prop)(ds es:List aj):Prop:=∀vs H0 H Q,dv H0 H->cy K H0 vs ds->
 (∀p xs dS H',eB H0 H dS H'->H p=none->dS p=none->H' p=some (.lst xs)->cy K dS xs es->Q (.ref p) H')->r vs H Q
theorem jG(hc:jV X (.builtin id) r)(hd:nT X.K r ds d)(ha:VA X (e::es) δ ds)(hm:X.mg x=none)(hv:bootBuiltins x=some (.builtin id))(hg:Gl X x:=by rfl)(hn:x≠"__name__":=by decide)(oW:(x==("__debug__":Str))=false:=by decide)
  (he:starEach (e::es) X.env=(false,eval e X.env)::starEach es X.env:=by rfl)(qp:(backTo pos (starEach es X.env)).any (·.1)=false:=by rfl):VE X (.Call (.Name x p) (e::es) [] pos) δ d:=by
 obtain⟨t,pa,ht⟩:=ha;exact .of (yx hc hg hm hv pa hn oW he qp) λB0 B σ H0 H Q f q=>ht B0 B σ H0 H _ f λvs H1 dO g r=>hd vs H1 dO Q g.sub r λv H2 jb g2 r2=>q v H2 jb (g.trans g2) r2
theorem jM(hc:jV X (.type id) r)(hd:nT X.K r ds d)(ha:VA X (e::es) δ ds)(hm:X.mg x=none)(hv:bootBuiltins x=some (.type id))(hg:Gl X x:=by rfl)(hn:x≠"__name__":=by decide)(oW:(x==("__debug__":Str))=false:=by decide)
  (he:starEach (e::es) X.env=(false,eval e X.env)::starEach es X.env:=by rfl)(qp:(backTo pos (starEach es X.env)).any (·.1)=false:=by rfl):VE X (.Call (.Name x p) (e::es) [] pos) δ d:=by
 obtain⟨t,pa,ht⟩:=ha;exact .of (lY hc hg hm hv pa hn oW he qp) λB0 B σ H0 H Q f q=>ht B0 B σ H0 H _ f λvs H1 dO g r=>hd vs H1 dO Q g.sub r λv H2 jb g2 r2=>q v H2 jb (g.trans g2) r2
theorem v9{zs:List aj}(hc:jV X (.type id) r)(hd:KN X.K r ds zs)(ha:VA X (e::es) δ ds)(hm:X.mg x=none)(hv:bootBuiltins x=some (.type id))(hg:Gl X x:=by rfl)(hn:x≠"__name__":=by decide)(oW:(x==("__debug__":Str))=false:=by decide)
  (he:starEach (e::es) X.env=(false,eval e X.env)::starEach es X.env:=by rfl)(qp:(backTo pos (starEach es X.env)).any (·.1)=false:=by rfl):VO X (.Call (.Name x p) (e::es) [] pos) δ zs:=by
 obtain⟨t,pa,ht⟩:=ha;exact .of (lY hc hg hm hv pa hn oW he qp) λB0 B σ H0 H Q f q=>ht B0 B σ H0 H _ f λvs H1 dO g r=>hd vs H1 dO Q g.sub r λv xs H2 jb g2 a1 a2 a3 a4=>q v xs H2 jb (g.trans g2) (g.big.free a1) a2 a3 a4
theorem cy.one(r:cy K H vs [d]):∃v,vs=[v]/\Rep K H v d:=by
 cases r with|cons a t=>cases t;exact⟨_,rfl,a⟩
theorem cy.two(r:cy K H vs [d1,d2]):∃v w,vs=[v,w]/\Rep K H v d1/\Rep K H w d2:=by
 cases r with|cons a t=>cases t with|cons b t=>cases t;exact⟨_,_,rfl,a,b⟩
theorem V1:nT K (λxs H Q=>∃p ys,xs=[.ref p]/\(kW K H p ys\/oH K H p ys)/\Q (.int ys.length) H) [.list ds] (.int ds.length):=λvs H0 H Q s r k=>by
 obtain⟨v,rfl,r1⟩:=r.one;cases r1 with|lst hq r=>exact⟨_,_,rfl,.inl (s.seq hq),k _ _ _ (.refl s) (by rw[r.length];exact .int _)⟩
theorem Sq:nT K (λxs H Q=>∃p ys,xs=[.ref p]/\(kW K H p ys\/oH K H p ys)/\Q (.int ys.length) H) [.tuple ds] (.int ds.length):=λvs H0 H Q s r k=>by
 obtain⟨v,rfl,r1⟩:=r.one;cases r1 with|tup hq r=>exact⟨_,_,rfl,.inr (s.oY hq),k _ _ _ (.refl s) (by rw[r.length];exact .int _)⟩
theorem KP:KN K (λxs H Q=>∃p ys,xs=[.ref p]/\(kW K H p ys\/oH K H p ys)/\∀l,H l=none->Q (.ref l) (upd H l (.lst ys))) [.list ds] ds:=λvs H0 H Q s r k=>by
 obtain⟨v,rfl,r1⟩:=r.one;cases r1 with|lst hq r=>exact⟨_,_,rfl,.inl (s.seq hq),λl hl=>k l _ H0 _ (.loose s hl) hl (s.free hl) bq r⟩
theorem vd:nT K (λxs H Q=>∃p ys,xs=[.ref p]/\((kW K H p ys/\∀l,H l=none->Q (.ref l) (upd H l (.tup ys)))\/(oH K H p ys/\Q (.ref p) H))) [.list ds] (.tuple ds):=λvs H0 H Q s r k=>by
 obtain⟨v,rfl,r1⟩:=r.one;cases r1 with|lst hq r=>exact⟨_,_,rfl,.inl ⟨s.seq hq,λl hl=>k _ _ _ (.laid s hl) (.tup (oH.of bq) (r.mono (eB.laid s hl).fG))⟩⟩
theorem jA(h:VE X a δ (.list ds))(hm:X.mg "len"=none)(hg:Gl X "len":=by rfl)(hs:starEach [a] X.env=(false,eval a X.env)::starEach [] X.env:=by rfl):VE X (.Call (.Name "len" p) [a] [] pos) δ (.int ds.length):=jG uZ V1 (ao h aQ hs) hm tQ hg (he:=hs)
theorem jW(h:VE X a δ (.tuple ds))(hm:X.mg "len"=none)(hg:Gl X "len":=by rfl)(hs:starEach [a] X.env=(false,eval a X.env)::starEach [] X.env:=by rfl):VE X (.Call (.Name "len" p) [a] [] pos) δ (.int ds.length):=jG uZ Sq (ao h aQ hs) hm tQ hg (he:=hs)
theorem nU{d1 d2:List aj}(h1:VE X a δ (.list d1))(h2:VE X b δ (.list d2))(hz:d1.length+d2.length<=sizeLine):VO X (.BinOp a .Add b pos) δ (d1++d2):=by
 refine .of (GN N9 c7 c7) λB0 B σ H0 H Q f q=>h1 B0 B σ H0 H _ f λv H1 dO g1 r1=>h2 B0 B σ H1 dO _ (f.grow g1) λu H2 jb g2 r2=>?_
 cases r1 with
 |lst hq r1=>
  cases r2 with
  |lst FG r2=>
   have gg:=g1.trans g2;refine⟨_,_,_,_,rfl,rfl,g2.sub.seq (g2.fG.seq hq),g2.sub.seq FG,by rw[r1.length,r2.length];exact hz,λp hp=>?_⟩
   exact q p _ H2 _ (gg.trans (.loose g2.sub hp)) (gg.big.free hp) (g2.sub.free hp) bq ((r1.mono g2.fG).append r2)
end
inductive IJ where
 |one (i:Nat)
 |tup (is:List Nat)
variable{tgt:IJ}
def B7:List Nat->Qc
 | []=>U3
 |i::r=>Qd (A0 i) (B7 r)
def KQ(K:au):IJ->TG
 | .one i=>A0 i
 | .tup is=>U4 K is.length (B7 is)
def nV:List Nat->List aj->List Slot->List Slot
 |i::r,d::ds,δ=>nV r ds (δ.set i (.val d))
 |_,_,δ=>δ
def Ar:IJ->aj->List Slot->Option (List Slot)
 | .one i,d,δ=>some (δ.set i (.val d))
 | .tup is,.tuple ds,δ=>if ds.length=is.length then some (nV is ds δ)else none
 |_,_,_=>none
section
variable{K:au}{B0 B H0 H:Hp}
theorem DQ:∀{is:List Nat}{xs:List V}{ds:List aj}{σ:St}{δ:List Slot}{Q:St->Hp->Prop},fJ K B0 B H0 H σ δ->cy K H0 xs ds->ds.length=is.length->(∀σ',fJ K B0 B H0 H σ' (nV is ds δ)->Q σ' H)->B7 is xs σ H Q
 | [],xs,ds,σ,δ,Q,f,r,hl,q=>by
  have:ds=[]:=jF hl;subst this;cases r;exact⟨rfl,q σ f⟩
 |i::is,xs,ds,σ,δ,Q,f,r,hl,q=>by
  cases r with
  |nil=>cases hl
  |cons a t=>exact⟨_,_,rfl,DQ (is:=is) (f.set a) t (by simpa using hl) q⟩
theorem r9{v:V}{Q:St->Hp->Prop}(f:fJ K B0 B H0 H σ δ)(r:Rep K H0 v d)(h:Ar tgt d δ=some δ')(q:∀σ',fJ K B0 B H0 H σ' δ'->Q σ' H):KQ K tgt v σ H Q:=by
 cases tgt with
 |one i=>cases h;exact q _ (f.set r)
 |tup is=>
  cases r with
  |tup hq r=>
   rename_i ds
   have h':(if ds.length=is.length then some (nV is ds δ)else none)=some δ':=h
   by_cases hl:ds.length=is.length
   ·rw[qQ3 hl]at h'
    cases h';exact⟨_,_,rfl,f.sub.oY hq,by rw[r.length,hl],DQ f r hl q⟩
   ·rw[qQ2 hl]at h';cases h'
  |_=>cases h
end
def ItD(K:au)(J:It)(H0:Hp)(ds:List aj):Prop:=∀dS H',dv H0 dS->dv dS H'->∀i,(i<ds.length->J.go i H')/\(ds.length<=i->J.stop i H')/\
 ∀x wX d,ds[i]?=some d->J.U5 i H' x wX->∃V2,eB dS H' V2 wX/\Rep K V2 x d
def VI(X:Cx)(tg iter:bZ)(δ:List Slot)(ds:List aj):Prop:=∃wi,PI X tg iter wi/\∀B0 B σ H0 H R,fJ X.K B0 B H0 H σ δ->(∀J dS H',eB H0 H dS H'->ItD X.K J dS ds->R J H')->wi σ H R
def nW(ds:List aj):List aj:=ds.zipIdx.map λp=>.tuple [.int p.2,p.1]
theorem cv(ds:List aj):(nW ds).length=ds.length:=by simp[nW]
theorem gi{ds:List aj}(h:(nW ds)[i]?=some d):∃x,ds[i]?=some x/\d=.tuple [.int i,x]:=by
 unfold nW at h;rw[aI,iV]at h;cases e:ds[i]? with
 |none=>rw[e]at h;simp at h
 |some x=>rw[e]at h;simp at h;exact⟨x,rfl,h.symm⟩
def jB(n:Nat):List aj:=(aZ n).map λ(i:Nat)=>.int (i:Int)
section
variable{X:Cx}{tg a b:bZ}{δ:List Slot}{ds:List aj}{pos:Pos}
theorem g8(h:VE X a δ (.list ds)):VI X tg a δ ds:=⟨_,Nj c7,λB0 B σ H0 H R f q=>h B0 B σ H0 H _ f λv H1 dO g r=>by
 cases r with
 |lst hq r=>
  refine⟨_,rfl,⟨_,g.sub.seq hq⟩,q _ H1 dO g λHa Hb s1 s2 i=>?_⟩
  have hl:=r.length;have hS:=(s1.trans s2).seq hq;refine⟨λhi=>?_,λhi=>⟨_,hS,by omega⟩,λx wX d hd ⟨e,y⟩=>?_⟩
  ·obtain⟨x,hx,_⟩:=r.get (i:=i) (d:=ds[i]) (by simp[hi])
   exact⟨_,x,hS,hx⟩
  ·subst e
   exact⟨Ha,.refl s2,(r.mono s1).at hd (y _ hS)⟩⟩
theorem yN(h:VE X a δ (.tuple ds)):VI X tg a δ ds:=⟨_,RG c7,λB0 B σ H0 H R f q=>h B0 B σ H0 H _ f λv H1 dO g r=>by
 cases r with
 |tup hq r=>
  refine⟨_,rfl,⟨_,g.sub.oY hq⟩,q _ H1 dO g λHa Hb s1 s2 i=>?_⟩
  have hl:=r.length;have hS:=(s1.trans s2).oY hq;refine⟨λhi=>?_,λhi=>⟨_,hS,by omega⟩,λx wX d hd ⟨e,y⟩=>?_⟩
  ·obtain⟨x,hx,_⟩:=r.get (i:=i) (d:=ds[i]) (by simp[hi])
   exact⟨_,x,hS,hx⟩
  ·subst e
   exact⟨Ha,.refl s2,(r.mono s1).at hd (y _ hS)⟩⟩
theorem sf{n:Int}(h:VE X a δ (.int n))(hm:X.mg "range"=none)(h1:-(2^62)<=n)(h2:n<2^62)(hg:Gl X "range":=by rfl)(hs:starEach [a] X.env=[(false,eval a X.env)]:=by rfl):VI X tg (.Call (.Name "range" p) [a] [] pos) δ (jB n.toNat):=
 ⟨_,Ih hg hm (du c7 fF hs) hs,λB0 B σ H0 H R f q=>h B0 B σ H0 H _ f λv H1 dO g r=>by
  cases r;refine⟨n,rfl,h1,h2,q _ H1 dO g λHa Hb s1 s2 i=>⟨λhi=>(show i<n.toNat from by simpa[jB]using hi),λhi=>(show n.toNat<=i from by simpa[jB]using hi),λx wX d hd ⟨e,y⟩=>?_⟩⟩
  subst e;subst y;unfold jB at hd;rw[aI]at hd;have hi:i<n.toNat:=by
   rcases Nat.lt_or_ge i n.toNat with z|z
   ·exact z
   ·rw[eR (by simpa using z)]at hd;cases hd
  rw[fk hi]at hd;cases hd;exact⟨Ha,.refl s2,by rw[Int.zero_add];exact .int _⟩⟩
theorem km{k}(h:VE X a δ (.list ds))(hm:X.mg "enumerate"=none)(hg:Gl X "enumerate":=by rfl)(hs:starEach [a] X.env=[(false,eval a X.env)]:=by rfl):VI X (.Tuple elts k tp) (.Call (.Name "enumerate" p) [a] [] pos) δ (nW ds):=
 ⟨_,N8 hg hm (du c7 fF hs) hs,λB0 B σ H0 H R f q=>h B0 B σ H0 H _ f λv H1 dO g r=>by
  cases r with
  |lst hq r=>
   refine⟨_,rfl,⟨_,g.sub.seq hq⟩,q _ H1 dO g λHa Hb s1 s2 i=>?_⟩
   have hl:=r.length;have hS:=(s1.trans s2).seq hq;refine⟨λhi=>?_,λhi=>⟨_,hS,by rw[cv]at hi;omega⟩,λx wX d hd ⟨t,y,e1,e2,e3,e4⟩=>?_⟩
   ·rw[cv]at hi
    obtain⟨x,hx,_⟩:=r.get (i:=i) (d:=ds[i]) (by simp[hi])
    exact⟨_,x,hS,hx⟩
   ·obtain⟨z,hz,rfl⟩:=gi hd
    subst e1;subst e3;refine⟨upd Ha t (.tup [.int i,y]),.laid s2 e2,.tup (oH.of bq) (.cons (.int _) (.cons ?_ .nil))⟩
    exact((r.mono s1).at hz (e4 _ hS)).mono (eB.laid s2 e2).fG⟩
end
def cTs(X:Cx)(ifs:List bZ):TT:=λσ H Q=>∀pins s,Inv X pins σ H s->wpAny (model X.prog X.w) X.A (testsOf ifs X.env) (TP X pins σ Q) X.xe s
def Sr(X:Cx)(ifs:List bZ)(δ:List Slot)(b:Bool):Prop:=∀B0 B σ H0 H Q,fJ X.K B0 B H0 H σ δ->(∀dS H',eB H0 H dS H'->Q b H')->cTs X ifs σ H Q
theorem f9:Sr X [] δ true:=λ_ _ _ _ _ _ f q pins s I=>N5 pins s _ _ _ I (q _ _ (.refl f.sub))
theorem oK{c:bZ}(h:VT X c δ b):Sr X [c] δ b:=λB0 B σ H0 H Q f q pins s I=>N6 (t:=cT X c) oZ pins s σ H Q I (h B0 B σ H0 H Q f q)
def V3:Slot->Slot
 | .val d=>.val d
 |_=>.un
def mO(own:List Str)(cap:List Nat)(δ:List Slot):List Slot:=bh own.length .un++cap.map λi=>V3 (δ.getD i .un)
section
variable{K:au}{B0 B H0 H:Hp}{σ:St}{δ:List Slot}
theorem fJ.comp(f:fJ K B0 B H0 H σ δ)(own:List Str)(cap:List Nat):fJ K B0 B H0 H (mZ own cap σ) (mO own cap δ):=by
 have noOwn:∀(i:Nat)ds,(mO own cap δ)[i]?≠some (.own ds):=λi ds e=>by
  unfold mO at e;by_cases hi:i<own.length
  ·rw[cU (by simpa using hi),dm]at e
   split at e<;>cases e
  ·rw[cM (by simpa using gA hi),aI]at e
   cases q:cap[i-(bh own.length Slot.un).length]? with
   |none=>rw[q]at e;cases e
   |some j=>
    rw[q]at e;simp only[jK,iy]at e
    revert e
    cases δ.getD j .un<;>(intro e;cases e)
 refine⟨f.ent,by simp[mZ,mO],λi sl e=>?_,λi j ds es p _ a1=>qQ7 a1 (noOwn i ds)⟩
 unfold mO at e;unfold mZ;by_cases hi:i<own.length
 ·rw[cU (by simpa using hi),dm]at e
  split at e<;>cases e<;>trivial
 ·rw[cM (by simpa using gA hi),aI,dq]at e
  rw[cM (by simpa using gA hi),aI,dq]
  cases q:cap[i-own.length]? with
  |none=>rw[q]at e;cases e
  |some j=>
   rw[q]at e;simp only[jK,iy]at e ⊢;cases w:δ[j]? with
   |none=>rw[aD,w]at e;subst e;trivial
   |some UO=>
    rw[aD,w]at e;cases UO with
    |un=>subst e;trivial
    |ref a=>subst e;trivial
    |own ds=>subst e;trivial
    |val d=>
     subst e;obtain⟨v,h1,h2⟩:=f.slot j _ w;exact⟨v,by rw[aD,h1];rfl,h2⟩
theorem fJ.forget(f:fJ K B0 B H0 H σ δ)(hl:δ'.length=δ.length)(h:∀(i:Nat)sl,δ'[i]?=some sl->sl=.un\/δ[i]?=some sl):fJ K B0 B H0 H σ δ':=by
 refine⟨f.ent,by rw[hl];exact f.len,λi sl e=>?_,λi j ds es p z_ a1 a2 a3=>?_⟩
 ·rcases h i sl e with rfl|z
  ·trivial
  ·exact f.slot i sl z
 ·rcases h i _ a1 with z|z
  ·cases z
  ·rcases h j _ a2 with y|y
   ·cases y
   ·exact f.apart i j ds es p z_ z y a3
theorem fJ.touch{D:aR}(f:fJ K B0 B H0 H σ δ)(h0:H0 D=none)(hB:B D=none)(hn:∀(i:Nat)ds,δ[i]?≠some (.own ds)):fJ K B0 B H0 (upd H D o) σ δ:=by
 refine⟨⟨λb u e=>by rw[aP (bN e hB)];exact f.ent.big b u e,f.ent.fG,λb u e=>by rw[aP (bN e h0)];exact f.ent.sub b u e,f.ent.new⟩,f.len,λi sl e=>?_,f.apart⟩
 have q:=f.slot i sl e;cases sl with
 |un=>trivial
 |ref a=>exact q
 |val d=>exact q
 |own ds=>exact qQ7 e (hn i ds)
end
theorem tY:∀(is:List Nat)(ds:List aj)(δ:List Slot),(nV is ds δ).length=δ.length
 | [],_,_=>rfl
 |_::_,[],_=>rfl
 |i::is,d::ds,δ=>by
  show(nV is ds (δ.set i (.val d))).length=_
  rw[tY];simp
theorem yO:∀(is:List Nat)(ds:List aj)(δ:List Slot)(j:Nat),j∉is->(nV is ds δ)[j]?=δ[j]?
 | [],_,_,_,_=>rfl
 |_::_,[],_,_,_=>rfl
 |i::is,d::ds,δ,j,h=>by
  show(nV is ds (δ.set i (.val d)))[j]?=_
  rw[yO is ds _ j λz=>h (aT _ z),aX (λ(z:i=j)=>h (by rw[z];exact aL))]
def A_(n:Nat):IJ->Bool
 | .one i=>decide (i<n)
 | .tup is=>is.all λi=>decide (i<n)
theorem comp_back(ht:A_ own.length tgt=true)(h:Ar tgt d (mO own cap δ)=some δ'):
  δ'.length=(mO own cap δ).length/\∀(i:Nat)sl,(mO own cap δ)[i]?=some sl->sl=.un\/δ'[i]?=some sl:=by
 have low:∀(i:Nat)sl,i<own.length->(mO own cap δ)[i]?=some sl->sl=.un:=λi sl hi e=>by
  unfold mO at e;rw[cU (by simpa using hi),dm]at e
  split at e<;>cases e<;>rfl
 cases tgt with
 |one i=>
  cases h;refine⟨by simp,λj sl e=>?_⟩
  have hi:i<own.length:=by simpa[A_]using ht
  by_cases hj:j<own.length
  ·exact .inl (low j sl hj e)
  ·exact .inr (by rw[aX (by omega)];exact e)
 |tup is=>
  cases d with
  |tuple ds=>
   have h':(if ds.length=is.length then some (nV is ds (mO own cap δ))else none)=some δ':=h
   by_cases hl:ds.length=is.length
   ·rw[qQ3 hl]at h'
    cases h';refine⟨tY _ _ _,λj sl e=>?_⟩
    by_cases hj:j<own.length
    ·exact .inl (low j sl hj e)
    ·refine .inr ?_
     rw[yO _ _ _ _ λz=>hj ?_]
     ·exact e
     ·have:=eO.mp ht j z
      simpa using this
   ·rw[qQ2 hl]at h';cases h'
  |_=>cases h
theorem oM(i:Nat)(ds:List aj):(mO own cap δ)[i]?≠some (.own ds):=λe=>by
 unfold mO at e;by_cases hi:i<own.length
 ·rw[cU (by simpa using hi),dm]at e
  split at e<;>cases e
 ·rw[cM (by simpa using gA hi),aI]at e
  cases q:cap[i-(bh own.length Slot.un).length]? with
  |none=>rw[q]at e;cases e
  |some j=>
   rw[q]at e;simp only[jK,iy]at e
   revert e
   cases δ.getD j .un<;>(intro e;cases e)
section
variable{X:Cx}{sc:nz}{own N:List Str}{cap:List Nat}{cl:List (Str×aR)}{tg elt iter:bZ}{ifs:List bZ}{δ:List Slot}{ds:List aj}{pos:Pos}{tgt:IJ}
def FH(X:Cx)(sc:nz)(own:List Str)(cap:List Nat)(N:List Str)(cl:List (Str×aR))(tgt:IJ)(elt:bZ)(ifs:List bZ)(δ:List Slot)(F:aj->Option aj)(d:aj):Prop:=
 ∃δ',Ar tgt d (mO own cap δ)=some δ'/\(∀f s3 H3,Sr (gO X sc N cl f s3 H3) ifs δ' (F d).isSome)/\∀r,F d=some r->∀f s3 H3,VE (gO X sc N cl f s3 H3) elt δ' r
def teC(X:Cx)(sc:nz)(N:List Str)(cl:List (Str×aR))(elt:bZ):TE:=λσ H Q=>∀f s3 H3,cE (gO X sc N cl f s3 H3) elt σ H Q
def X9(X:Cx)(sc:nz)(N:List Str)(cl:List (Str×aR))(ifs:List bZ):TT:=λσ H Q=>∀f s3 H3,cTs (gO X sc N cl f s3 H3) ifs σ H Q
theorem wY(ht:A_ own.length tgt=true)(hz:ds.length<=sizeLine)(step:∀d∈ds,FH X sc own cap N cl tgt elt ifs δ F d){J:It}{B0 B: Hp}{Q:VK}(f:fJ X.K B0 B H0 H σ δ)(it:ItD X.K J H0 ds)
  (q:∀p xs dS H',eB H0 H dS H'->H p=none->dS p=none->H' p=some (.lst xs)->cy X.K dS xs (ds.filterMap F)->Q (.ref p) H'):
  v5 J (KQ X.K tgt) (X9 X sc N cl ifs) (teC X sc N cl elt) (mZ own cap σ) H Q:=by
 intro D hD;have hBD:B D=none:=f.ent.big.free hD;refine⟨λi m ys σ' H'=>i<=ds.length/\m=ds.length-i/\ys.length<=i/\∃Ha,eB H0 H Ha H'/\fJ X.K B0 B Ha H' σ' (mO own cap δ)/\Ha D=none/\H' D=some (.lst ys)/\cy X.K Ha ys ((ds.take i).filterMap F),
  ⟨ds.length,bF _,rfl,ay _,H0,.loose f.sub hD,(f.comp own cap).touch (f.sub.free hD) hBD oM,f.sub.free hD,bq,by simpa using cy.nil⟩,?_⟩
 rintro i m ys σ' H' ⟨hi,rfl,hy,Ha,g,fa,hDa,Sg,rs⟩
 obtain⟨i1,i2,i3⟩:=it Ha H' g.fG g.sub i;by_cases nR:i<ds.length
 ·refine .inr ⟨i1 nR,λx H2 y=>?_⟩
  have hd:ds[i]?=some ds[i]:=by simp[nR]
  obtain⟨Hb,g2,rx⟩:=i3 x H2 ds[i] hd y;obtain⟨δ',e1,e2,e3⟩:=step ds[i] (dR nR);obtain⟨k1,k2⟩:=comp_back ht e1;have V4:∀{Hx Hy:Hp},eB Ha H' Hx Hy->Hx D=none:=λ{Hx Hy}gg=>by
   cases e:Hx D with
   |none=>rfl
   |some o=>
    rcases gg.new D (by rw[e];simp)with z|z
    ·exact qQ7 hDa z
    ·rw[Sg]at z;cases z
  have tk:(ds.take (i+1)).filterMap F=(ds.take i).filterMap F++(F ds[i]).toList:=by
   rw[dH,hd,sO];cases eF:F ds[i]<;>simp[nI,eF]
  refine r9 (fa.grow g2) rx e1 λσ3 f3=>?_
  intro fp s3 H3;refine e2 fp s3 H3 B0 B σ3 Hb H2 _ f3 λHc H4 g4=>?_
  have V5:=g2.trans g4;cases eF:F ds[i] with
  |none=>
   rw[show(none:Option aj).isSome=false from rfl,qQ2 cz]
   refine⟨ds.length-(i+1),by omega,nR,rfl,by omega,Hc,g.trans V5,(f3.grow g4).forget k1.symm k2,V4 V5,V5.big _ _ Sg,?_⟩
   rw[tk,eF];simpa using rs.mono V5.fG
  |some r=>
   rw[show(some r:Option aj).isSome=true from rfl,qQ3 rfl]
   intro Zx s3' x6;refine e3 r eF Zx s3' x6 B0 B σ3 Hc H4 _ (f3.grow g4) λw Hd H5 g5 r5=>?_
   have M5:=V5.trans g5;have Zy:Hd D=none:=V4 M5;refine⟨M5.big _ _ Sg,by omega,ds.length-(i+1),by omega,nR,rfl,by simp;omega,Hd,?_,((f3.grow g4).grow g5 |>.forget k1.symm k2).touch Zy hBD oM,Zy,bq,?_⟩
   ·have gg:=g.trans M5
    exact⟨λb u e=>by rw[aP (bN e hD)];exact gg.big b u e,gg.fG,λb u e=>by rw[aP (bN e Zy)];exact gg.sub b u e,gg.new⟩
   ·rw[tk,eF]
    exact(rs.mono M5.fG).append (.cons r5 .nil)
 ·have e:i=ds.length:=by omega
  subst e;refine .inl ⟨i2 (ay _),q D ys Ha H' g hD hDa Sg ?_⟩
  simpa using rs
theorem fD(hc:X.calm=true)(CS:lZ X sc own cap N cl)(hi:VI X tg iter δ ds)(hg:∀f s3 H3,PG (gO X sc N cl f s3 H3) tg (KQ X.K tgt))(ht:A_ own.length tgt=true)(hz:ds.length<=sizeLine)
  (step:∀d∈ds,FH X sc own cap N cl tgt elt ifs δ F d)(hs:∀x,foldedSetIterable iter X.env x=pure x:=by intro _;rfl):VO X (.ListComp elt [⟨tg,iter,ifs,0⟩] sc pos) δ (ds.filterMap F):=by
 obtain⟨wi,pi,qi⟩:=hi;refine .of (N7 (tc:=X9 X sc N cl ifs) (te:=teC X sc N cl elt) hc CS pi hg (λf s3 H3 pins s σ H Q I h=>h f s3 H3 pins s I) (λf s3 H3 pins s σ H Q I h=>h f s3 H3 pins s I) hs) λB0 B σ H0 H Q f q=>?_
 refine qi B0 B σ H0 H _ f λJ H1 dO g it=>?_
 exact wY ht hz step (f.grow g) it λp xs Ha Hb g2 a1 a2 a3 a4=>q p xs Ha Hb (g.trans g2) (g.big.free a1) a2 a3 a4
end
inductive Out where
 |nx (δ:List Slot)|bk (δ:List Slot)|ct (δ:List Slot)
 |rt (d:aj)|ro (ds:List aj)|r2 (ds:List aj) (d:aj)|ru (U:Hp->V->Hp->Hp->Prop)
def qY(K:au)(B0 B H0:Hp)(D:Ends):Out->Prop
 | .nx δ=>∀σ' dS H',dv H0 dS->fJ K B0 B dS H' σ' δ->D.nx σ' H'
 | .bk δ=>∀σ' dS H',dv H0 dS->fJ K B0 B dS H' σ' δ->D.bk σ' H'
 | .ct δ=>∀σ' dS H',dv H0 dS->fJ K B0 B dS H' σ' δ->D.ct σ' H'
 | .rt d=>∀v dS H',eB B0 B dS H'->Rep K dS v d->D.rt v H'
 | .ro ds=>∀p xs dS H',eB B0 B dS H'->B p=none->dS p=none->H' p=some (.lst xs)->cy K dS xs ds->D.rt (.ref p) H'
 | .r2 ds d=>∀t p xs v dS H',eB B0 B dS H'->B p=none->dS p=none->H' p=some (.lst xs)->cy K dS xs ds->B t=none->dS t=none->H' t=some (.tup [.ref p,v])->Rep K dS v d->D.rt (.ref t) H'
 | .ru U=>∀v dS H',eB B0 B dS H'->U B v dS H'->D.rt v H'
def DS:Out->Bool
 | .rt _=>true | .ro _=>true | .r2 _ _=>true | .ru _=>true|_=>false
theorem qY.mono{B0 B dS: Hp}{D:Ends}(s:dv H0 dS):∀{o:Out},qY K B0 B H0 D o->qY K B0 B dS D o
 | .nx _,h=>λσ a b s' f=>h σ a b (s.trans s') f
 | .bk _,h=>λσ a b s' f=>h σ a b (s.trans s') f
 | .ct _,h=>λσ a b s' f=>h σ a b (s.trans s') f
 | .rt _,h=>h
 | .ro _,h=>h
 | .r2 _ _,h=>h
 | .ru _,h=>h
theorem qY.ret{B0 B dS: Hp}{D D':Ends}(e:D.rt=D'.rt):∀{o:Out},DS o=true->qY K B0 B H0 D o->qY K B0 B dS D' o
 | .rt _,_,h=>by unfold qY at *;rw[<-e];exact h
 | .ro _,_,h=>by unfold qY at *;rw[<-e];exact h
 | .r2 _ _,_,h=>by unfold qY at *;rw[<-e];exact h
 | .ru _,_,h=>by unfold qY at *;rw[<-e];exact h
 | .nx _,z,_=>by cases z
 | .bk _,z,_=>by cases z
 | .ct _,z,_=>by cases z
def VS(X:Cx)(st:ia)(δ:List Slot)(o:Out):Prop:=∀B0 B σ H0 H D,fJ X.K B0 B H0 H σ δ->qY X.K B0 B H0 D o->cS X st D σ H
def pC(X:Cx)(st:List ia)(δ:List Slot)(o:Out):Prop:=∀B0 B σ H0 H D,fJ X.K B0 B H0 H σ δ->qY X.K B0 B H0 D o->B6 X st D σ H
section
variable{X:Cx}{st:ia}{rest body orelse:List ia}{δ δ':List Slot}{o:Out}{a b c e:bZ}{d:aj}{ds:List aj}{pos px:Pos}{x:Str}
theorem bM:pC X [] δ (.nx δ):=λ_ _ σ H0 H _ f ok pins s I=>BR pins s σ H _ I (ok σ H0 H (dv.refl _) f)
theorem aJ(h1:VS X st δ (.nx δ'))(h2:pC X rest δ' o):pC X (st::rest) δ o:=λB0 B σ H0 H D f ok pins s I=>
 ly KD mN pins s σ H D I (h1 B0 B σ H0 H _ f λσ' Ha Hb sm f'=>h2 B0 B σ' Ha Hb D f' (ok.mono sm))
theorem di(h1:VS X st δ o)(hr:DS o=true):pC X (st::rest) δ o:=λB0 B σ H0 H D f ok pins s I=>
 ly KD nD pins s σ H D I (h1 B0 B σ H0 H _ f (qY.ret (D:=D) (by rfl) hr ok))
theorem a_(h1:VS X st δ o):pC X [st] δ o:=λB0 B σ H0 H D f ok pins s I=>BU KD pins s σ H D I (h1 B0 B σ H0 H D f ok)
theorem cA(i:Nat)(h:VE X e δ d)(hN:X.N.Nodup)(hi:X.N[i]?=some x:=by rfl)(hx:Loc X.env.scope x:=by first|exact a7 rfl|exact cj rfl)(hs:swapsWith e (some (.Name x px)) pos.line X.env=pure false:=by rfl)(hf:X.fn x=true\/X.env.scope.names.lookup x=some .local:=by first|exact .inl rfl|exact .inr rfl):
  VS X (.Assign [.Name x px] e pos) δ (.nx (δ.set i (.val d))):=λB0 B σ H0 H D f ok pins s I=>
 rS (i:=i) hN hi hx c7 hs hf pins s σ H D I (h B0 B σ H0 H _ f λv H1 dO g r=>ok _ H1 dO g.fG ((f.grow g).set r))
theorem kP(i:Nat)(h:VO X e δ ds)(hN:X.N.Nodup)(hi:X.N[i]?=some x:=by rfl)(hx:Loc X.env.scope x:=by first|exact a7 rfl|exact cj rfl)(hs:swapsWith e (some (.Name x px)) pos.line X.env=pure false:=by rfl)(hf:X.fn x=true\/X.env.scope.names.lookup x=some .local:=by first|exact .inl rfl|exact .inr rfl):
  VS X (.Assign [.Name x px] e pos) δ (.nx (δ.set i (.own ds))):=λB0 B σ H0 H D f ok pins s I=>
 rS (i:=i) hN hi hx c7 hs hf pins s σ H D I (h B0 B σ H0 H _ f λp xs H1 dO g h1 h2 h3 r=>ok _ H1 dO g.fG ((f.grow g).yI h3 h2 (f.ent.big.free h1) r λj es e2 e3=>by
  obtain⟨p',xs',g1,g2,_⟩:=f.slot j _ e2;rw[e3]at g1;cases g1;rw[h1]at g2;cases g2))
theorem dN(h:VT X c δ true)(h1:pC X body δ o):VS X (.If c body orelse pos) δ o:=λB0 B σ H0 H D f ok pins s I=>
 Dw oZ mN nD pins s σ H D I (h B0 B σ H0 H _ f λH1 dO g=>NT (h1 B0 B σ H1 dO D (f.grow g) (ok.mono g.fG)))
theorem bX(h:VT X c δ false)(h1:pC X orelse δ o):VS X (.If c body orelse pos) δ o:=λB0 B σ H0 H D f ok pins s I=>
 Dw oZ nD mN pins s σ H D I (h B0 B σ H0 H _ f λH1 dO g=>NS (h1 B0 B σ H1 dO D (f.grow g) (ok.mono g.fG)))
theorem Ql{k:Bool}(h:VT X c δ k)(h1:k=true->pC X body δ o)(h2:k=false->pC X orelse δ o):VS X (.If c body orelse pos) δ o:=by
 cases k with
 |true=>exact dN h (h1 rfl)
 |false=>exact bX h (h2 rfl)
theorem cg(h:VE X e δ d):VS X (.Return (some e) pos) δ (.rt d):=λB0 B σ H0 H D f ok pins s I=>vX c7 pins s σ H D I (h B0 B σ H0 H _ f λv H1 dO g r=>ok v H1 dO (f.ent.trans g) r)
theorem sU(h:VO X e δ ds):VS X (.Return (some e) pos) δ (.ro ds):=λB0 B σ H0 H D f ok pins s I=>vX c7 pins s σ H D I (h B0 B σ H0 H _ f λp xs H1 dO g a1 a2 a3 a4=>ok p xs H1 dO (f.ent.trans g) (f.ent.big.free a1) a2 a3 a4)
theorem He(i:Nat)(h:δ[i]?=some (.own ds))(hN:X.N[i]?=some x:=by rfl)(hv:AX X.env.scope x:=by first|exact a7 rfl|exact cj (a7 rfl)|exact cj (cj rfl))(hd:(x==("__debug__":Str))=false:=by decide)(oB:(x==("__classdict__":Str))=false:=by decide):
  VS X (.Return (some (.Name x px)) pos) δ (.ro ds):=λB0 B σ H0 H D f ok pins s I=>vX (jO hN hv hd oB) pins s σ H D I (by
 obtain⟨p,xs,h1,h2,h3,h4,h5⟩:=f.slot i _ h;exact⟨_,h1,ok p xs H0 H f.ent h4 h3 h2 h5⟩)
theorem iF(i:Nat){ap:Pos}{p0:Pos}(hi:δ[i]?=some (.own ds))(h:VE X e δ d)(hz:ds.length<sizeLine)(hN:X.N[i]?=some x:=by rfl)(hv:AX X.env.scope x:=by first|exact a7 rfl|exact cj (a7 rfl)|exact cj (cj rfl))(hd:(x==("__debug__":Str))=false:=by decide)(oB:(x==("__classdict__":Str))=false:=by decide)
  (hs:starEach [e] X.env=(false,eval e X.env)::starEach [] X.env:=by rfl)(lz:attributeBase (.Name x p0) "append" X.env (eval (.Name x p0) X.env)=eval (.Name x p0) X.env:=by rfl)
  (qw:((backTo px (starEach [e] X.env)).all (λx=>!x.1)&&(backToKw px (keywordEach [] X.env)).all (λx=>x.1.isSome)&&decide (([e]:List bZ).length+([]:List gR).length+(if([]:List gR).isEmpty then 0 else 1)<30))=true:=by rfl)
  (hline:(ap.endLine==px.line)=true:=by rfl)(jz:(backTo px (starEach [] X.env)).any (·.1)=false:=by rfl)(An:swapsWith (.Call (.Attribute (.Name x p0) "append" ap) [e] [] px) none pos.line X.env=pure false:=by rfl):
  VS X (.Expr (.Call (.Attribute (.Name x p0) "append" ap) [e] [] px) pos) δ (.nx (δ.set i (.own (ds ++ [d])))):=λB0 B σ H0 H D f ok pins s I=>by
 refine qj (u5 fy kG kH pH (jO hN hv hd oB) (du c7 fF hs) lz qw hline hs jz) An pins s σ H D I ?_
 obtain⟨p,xs,h1,h2,h3,h4,h5⟩:=f.slot i _ hi;refine⟨_,h1,.inl ⟨rfl,_,kW.of h2⟩,?_⟩
 refine h B0 B σ H0 H _ f λv H1 dO g r=>?_
 refine⟨p,xs,v,rfl,rfl,g.big _ _ h2,by rw[h5.length];exact hz,ok σ H1 _ g.fG ((f.grow g).push hi h1 (g.big _ _ h2) r)⟩
theorem eu(i:Nat)(hi:δ[i]?=some (.own ds))(h:pC X rest (δ.set i (.val (.list ds))) o):pC X rest δ o:=λB0 B σ H0 H D f ok=>by
 obtain⟨p,xs,h1,h2,h3,h4,h5⟩:=f.slot i _ hi;obtain⟨f',sm⟩:=f.freeze hi h1 h2;exact h B0 B σ _ H D f' (ok.mono sm)
theorem FJ(h:pC X rest δ' o)(hl:δ'.length=δ.length)(hs:∀(i:Nat)sl,δ'[i]?=some sl->sl=.un\/δ[i]?=some sl):pC X rest δ o:=λB0 B σ H0 H D f ok=>h B0 B σ H0 H D (f.forget hl hs) ok
def JW:List Slot->List Slot->Prop
 | [],[]=>True
 |a::l,b::m=>(b=.un\/a=b)/\JW l m
 |_,_=>False
theorem JW.len:∀{l m:List Slot},JW l m->m.length=l.length
 | [],[],_=>rfl
 |_::_,_::_,h=>by simp[JW.len h.2]
 | [],_::_,h=>h.elim
 |_::_,[],h=>h.elim
theorem JW.at:∀{l m:List Slot},JW l m->∀(i:Nat)sl,m[i]?=some sl->sl=.un\/l[i]?=some sl
 | [],[],_,_,_,e=>by simp at e
 |a::l,b::m,h,0,sl,e=>by
  simp at e;subst e;rcases h.1 with z|z
  ·exact .inl z
  ·exact .inr (by simp[z])
 |a::l,b::m,h,i+1,sl,e=>by simpa using JW.at h.2 i sl (by simpa using e)
 | [],_::_,h,_,_,_=>h.elim
 |_::_,[],h,_,_,_=>h.elim
theorem jC(h:pC X rest δ (.nx δ'))(hf:JW δ' δ2):pC X rest δ (.nx δ2):=λB0 B σ H0 H D f ok=>h B0 B σ H0 H D f λσ' Ha Hb sm f'=>ok σ' Ha Hb sm (f'.forget hf.len hf.at)
theorem Ss(h:pC X rest δ2 o)(hf:JW δ δ2):pC X rest δ o:=FJ h hf.len hf.at
theorem mh{tg iter:bZ}(hp:tN (model X.prog X.w) X.A X.env X.xe)(hc:X.calm=true)(hi:VI X tg iter δ ds)(hg:PG X tg (KQ X.K tgt))(δs:Nat->List Slot)(m:Nat)(h0:δs 0=δ)(hm:m<=ds.length)
  (step:∀k d,k<m->ds[k]?=some d->∃δ',Ar tgt d (δs k)=some δ'/\pC X body δ' (.nx (δs (k+1))))
  (fin:(m=ds.length/\o=.nx (δs m))\/∃d δ',ds[m]?=some d/\Ar tgt d (δs m)=some δ'/\DS o=true/\pC X body δ' o)
  (hs:∀x,foldedSetIterable iter X.env x=pure x:=by intro _;rfl):VS X (.For tg iter body [] pos) δ o:=λB0 B σ H0 H D f ok pins s I=>by
 obtain⟨wi,pi,qi⟩:=hi;refine BV hp hc pi hg mN hs pins s σ H D I ?_
 refine qi B0 B σ H0 H _ f λJ H1 dO g it=>?_
 refine⟨λi mm σ' H'=>i<=m/\mm=m+1-i/\∃Ha,dv H1 Ha/\fJ X.K B0 B Ha H' σ' (δs i),⟨m+1,bF _,rfl,H1,dv.refl _,by rw[h0];exact f.grow g⟩,?_⟩
 rintro i mm σ' H' ⟨hi,rfl,Ha,sm,fa⟩
 obtain⟨i1,i2,i3⟩:=it Ha H' sm fa.sub i;by_cases nR:i<m
 ·refine .inr ⟨i1 (by omega),λσ'' wX=>∃Hb,dv H1 Hb/\fJ X.K B0 B Hb wX σ'' (δs (i+1)),λσ'' wX ⟨Hb,z1,z2⟩=>⟨m+1-(i+1),by omega,nR,rfl,Hb,z1,z2⟩,λv H2 y=>?_⟩
  have hd:ds[i]?=some (ds[i]'(by omega)):=by simp
  obtain⟨Hb,g2,rx⟩:=i3 v H2 _ hd y;obtain⟨δ',e1,e2⟩:=step i _ nR hd;refine r9 (fa.grow g2) rx e1 λσ3 f3=>?_
  exact e2 B0 B σ3 Hb H2 _ f3 λσ4 Hc H4 s4 f4=>⟨Hc,(sm.trans g2.fG).trans s4,f4⟩
 ·have e:i=m:=by omega
  subst e;rcases fin with⟨e1,e2⟩|⟨d,δ',hd,e1,hr,e2⟩
  ·subst e2
   exact .inl ⟨i2 (by omega),ok σ' Ha H' (g.fG.trans sm) fa⟩
  ·have Zz:i<ds.length:=(aO.mp hd).1
   refine .inr ⟨i1 Zz,λ_ _=>False,λ_ _ z=>z.elim,λv H2 y=>?_⟩
   obtain⟨Hb,g2,rx⟩:=i3 v H2 _ hd y;refine r9 (fa.grow g2) rx e1 λσ3 f3=>?_
   exact e2 B0 B σ3 Hb H2 _ f3 (qY.ret (D:=D) (by rfl) hr ok)
end
def g_(K:au)(R:List aj->aj->Prop):Sp:=λvs H Q _=>∃H0 ds d,dv H0 H/\cy K H0 vs ds/\R ds d/\∀v dS H',eB H0 H dS H'->Rep K dS v d->Q v H'
def Ba(K:au)(R:List aj->List aj->Prop):Sp:=λvs H Q _=>∃H0 ds es,dv H0 H/\cy K H0 vs ds/\R ds es/\
 ∀p xs dS H',eB H0 H dS H'->H p=none->dS p=none->H' p=some (.lst xs)->cy K dS xs es->Q (.ref p) H'
def bD(P:bK)(w:cB)(K:au)(mg:Str->Option aE)(base:dg)(k:Nat)(x:Str)(ps:List Str)(sp:Sp):Prop:=
 ∃f fd,ft P w K mg base jP k f fd ps sp/\mg x=some (.ref f)/\jg K (.ref f)=true/\Binds K fd ps []
section
variable{X:Cx}{x:Str}{e:bZ}{es:List bZ}{δ:List Slot}{ds zs:List aj}{d:aj}{p pos:Pos}{k:Nat}{ps:List Str}
theorem bH{R:List aj->aj->Prop}(C:bD X.prog X.w X.K X.mg X.base k x ps (g_ X.K R))(hr:e8 k X.A)(ha:VA X (e::es) δ ds)(hp:R ds d)(hg:Gl X x:=by rfl)(oW:(x==("__debug__":Str))=false:=by decide)
  (he:starEach (e::es) X.env=(false,eval e X.env)::starEach es X.env:=by rfl)(qp:(backTo pos (starEach es X.env)).any (·.1)=false:=by rfl):VE X (.Call (.Name x p) (e::es) [] pos) δ d:=by
 obtain⟨f,fd,F,hm,hk,hb⟩:=C;obtain⟨t,pa,qa⟩:=ha;exact .of (uX F hr hg hm hk hb .nil A6 pa oW he qp) λB0 B σ H0 H Q fr q=>qa B0 B σ H0 H _ fr λvs H1 dO g1 rs=>by
  rw[eI];exact⟨H1,ds,d,g1.sub,rs,hp,λv H2 jb g2 r=>q v H2 jb (g1.trans g2) r⟩
theorem ko(C:bD X.prog X.w X.K X.mg X.base k x ps (Ba X.K R))(hr:e8 k X.A)(ha:VA X (e::es) δ ds)(hp:R ds zs)(hg:Gl X x:=by rfl)(oW:(x==("__debug__":Str))=false:=by decide)
  (he:starEach (e::es) X.env=(false,eval e X.env)::starEach es X.env:=by rfl)(qp:(backTo pos (starEach es X.env)).any (·.1)=false:=by rfl):VO X (.Call (.Name x p) (e::es) [] pos) δ zs:=by
 obtain⟨f,fd,F,hm,hk,hb⟩:=C;obtain⟨t,pa,qa⟩:=ha;exact .of (uX F hr hg hm hk hb .nil A6 pa oW he qp) λB0 B σ H0 H Q fr q=>qa B0 B σ H0 H _ fr λvs H1 dO g1 rs=>by
  rw[eI];exact⟨H1,ds,zs,g1.sub,rs,hp,λv xs H2 jb g2 a1 a2 a3 a4=>q v xs H2 jb (g1.trans g2) (g1.big.free a1) a2 a3 a4⟩
end
def wa(N:List Str)(ds:List aj):List Slot:=ds.map .val++bh (N.length-ds.length) .un
theorem fJ.start{N:List Str}{ds:List aj}(s:dv H0 H)(r:cy K H0 vs ds):fJ K H0 H H0 H (start N vs) (wa N ds):=by
 have hl:=r.length;refine⟨.refl s,by simp[L2.start,wa,hl],λi sl e=>?_,λi j a b p _ e=>?_⟩
 ·unfold wa at e
  unfold L2.start;by_cases hi:i<ds.length
  ·rw[cU (by simpa using hi),aI]at e
   have hd:ds[i]?=some ds[i]:=by simp[hi]
   rw[hd]at e;cases e;obtain⟨v,h1,h2⟩:=r.get hd;exact⟨v,by rw[cU (by simp;omega),aI,h1];rfl,h2⟩
  ·rw[cM (by simpa using gA hi),dm]at e
   split at e<;>cases e
   trivial
 ·unfold wa at e
  by_cases hi:i<ds.length
  ·rw[cU (by simpa using hi),aI]at e
   have hd:ds[i]?=some ds[i]:=by simp[hi]
   rw[hd]at e;cases e
  ·rw[cM (by simpa using gA hi),dm]at e
   split at e<;>cases e
section
variable{P:bK}{w:cB}{K:au}{mg:Str->Option aE}{base:dg}{x qual:Str}{st:ia}{f:aR}{fd:gJ}{N ps:List Str}{k:Nat}
abbrev Bb(P:bK)(w:cB)(K:au)(mg:Str->Option aE)(base:dg)(N:List Str)(qual:Str)(st:ia)(f:aR)(k:Nat)(ds:List aj)(o:Out):Prop:=
 ∀fV A outer s H E,e8 k (A.deeper (envOfC qual (bC st) s.heap.objs.size f fV))->pC (pG jP P w K mg base N qual (bC st) f fV A outer s H E).Dq (fZ st) (wa N ds) o
theorem jR{R:List aj->aj->Prop}(F:k9 K x qual st f fd)(S:cC N ps (bC st))(hl:∀ds d,R ds d->ds.length=ps.length)(hb:∀ds d,R ds d->Bb P w K mg base N qual st f k ds (.rt d)):ft P w K mg base jP (k+1) f fd ps (g_ K R):=by
 refine F.ok S (λvs H Q E h=>?_) (λfV A outer s H vs Q E hr h=>?_)
 ·obtain⟨H0,ds,d,_,r,hp,_⟩:=h
  rw[r.length,hl ds d hp]
 ·obtain⟨H0,ds,d,sm,r,hp,q⟩:=h
  exact⟨_,mN,hb ds d hp fV A outer s H E hr H0 H _ H0 H _ (.start sm r) q⟩
theorem FK(F:k9 K x qual st f fd)(S:cC N ps (bC st))(hl:∀ds d,R ds d->ds.length=ps.length)(hb:∀ds d,R ds d->Bb P w K mg base N qual st f k ds (.ro d)):ft P w K mg base jP (k+1) f fd ps (Ba K R):=by
 refine F.ok S (λvs H Q E h=>?_) (λfV A outer s H vs Q E hr h=>?_)
 ·obtain⟨H0,ds,d,_,r,hp,_⟩:=h
  rw[r.length,hl ds d hp]
 ·obtain⟨H0,ds,d,sm,r,hp,q⟩:=h
  exact⟨_,mN,hb ds d hp fV A outer s H E hr H0 H _ H0 H _ (.start sm r) q⟩
end
end L2
namespace L2.Srt
open PySem PySem.W PyProof.Rows
section
variable{N:Nat}{lt:Nat->Nat->Bool}
end
end L2.Srt
namespace L2
open PySem PySem.Spec PyProof.Rows PySem.W
section
variable{P:bK}{w:cB}{A:dQ}{E:aE->aM->Prop}{s:aM}
end
theorem cy.ints{K:au}{H:Hp}:∀{ns:List Int}{xs:List V},cy K H xs (ns.map .int)->xs=ns.map V.int
 | [],_,r=>by cases r;rfl
 |n::ns,_,r=>by cases r with|cons a t=>cases a;rw[aH,cy.ints t]
theorem dX.getD:∀{xs:List V}{us:List aE}(i:Nat),dX xs us->RelV (xs.getD i .non) (us.getD i iZ)
 |_,_,_,.nil=>by simp;rfl
 |_,_,0,.cons r _=>by simpa using r
 |_,_,i+1,.cons _ t=>by simpa using dX.getD i t
end L2
namespace L2
open PySem PySem.Spec PyProof.Rows
variable{l:aR}{kb:Bool}{X:Cx}{c:bZ}{h:dg}{H:Hp}{rest:List bZ}{ns:List Int}{ds:List aj}{δ:List Slot}{n:Nat}{P:bK}{K:au}{w:cB}
section
variable{X:Cx}{a b c e:bZ}{es:List bZ}{δ:List Slot}{d d1 d2 d3:aj}{ds:List aj}{pos:Pos}{k:Nat}
theorem Hf(i:Nat){t:Bool}(hi:δ[i]?=some (.own ds))(h:VT X e (δ.set i (.val (.list ds))) t):VT X e δ t:=λB0 B σ H0 H Q f q=>by
 obtain⟨p,xs,h1,h2,h3,h4,h5⟩:=f.slot i _ hi;obtain⟨f',sm⟩:=f.freeze hi h1 h2;exact h B0 B σ _ H Q f' λHa H' g=>q H0 H' ⟨g.big,dv.refl _,f.sub.trans g.big,λ_ z=>.inl z⟩
def KR:aj->Bool
 | .none=>true
 | .bool _=>true
 | .int _=>true
 | .str _=>true
 |_=>false
theorem Rep.V6{H': Hp}{v:V}(r:Rep K H v d)(h:KR d=true):Rep K H' v d:=by
 cases r with
 |non=>exact .non
 |bl b=>exact .bl b
 |int i=>exact .int i
 |str x=>exact .str x
 |_=>cases h
theorem sV(i:Nat)(hi:δ[i]?=some (.own ds))(h:VE X e (δ.set i (.val (.list ds))) d)(hs:KR d=true):VE X e δ d:=λB0 B σ H0 H Q f q=>by
 obtain⟨p,xs,h1,h2,h3,h4,h5⟩:=f.slot i _ hi;obtain⟨f',sm⟩:=f.freeze hi h1 h2;exact h B0 B σ _ H Q f' λv Ha H' g r=>q v H0 H' ⟨g.big,dv.refl _,f.sub.trans g.big,λ_ z=>.inl z⟩ (r.V6 hs)
def Sv(K:au)(n:Nat):V->List V->Hp->VK->Prop:=λx vs H Q=>∃p ds y d j,x=.ref p/\vs=[y]/\Rep K H (.ref p) (.list ds)/\Rep K H y d/\Lay n (.list ds)/\Lay n d/\(∃h:j<ds.length,cI ds[j] d=true)/\
 (∀m (h:m<ds.length),m<j->cI ds[m] d=false)/\Q (.int j) H
theorem KS(hu:X.A.units+n+2<cLine):Ui X "list.index" (Sv X.K n):=by
 intro pins s σ H x vs v us Q I rx rv h;obtain⟨p,ds,y,d,j,rfl,rfl,r1,r2,l1,l2,⟨hj,hit⟩,E5,q⟩:=h;cases rx;obtain⟨u,rfl,ru⟩:=rv.one;obtain⟨bs,rb⟩:=jh I d l2.1 r2 ru;cases r1 with
 |lst hq rs=>
  obtain⟨its,V7,⟨⟨cls,dd,data,sl⟩,m,eo,ec,_,ed⟩,hz⟩:=I.list hq;simp only at ec ed;subst ec ed;obtain⟨as,ra⟩:=mM I ds l1.1 rs V7;have hl:=V7.length;have Qm:=rs.length;have hm:=SeqAt.readsAll_map ds its as l1.1 ra;have rd:∀i (h1:i<its.length) (h2:i<ds.length),kz s.heap its[i]=ds[i]:=λi h1 h2=>by
   have e1:(its.map (kz s.heap))[i]?=some (kz s.heap its[i]):=by simp[h1]
   rw[hm]at e1;rw[aq h2]at e1;exact(cR e1).symm
  have h1:=l2.2;have hn:=qo;have ZC:sizeLine=16777216:=dA;refine kR F.slot_list_index ⟨_,eo,rfl⟩ F.entry_list_index (F.args_list_index_2 _ _) (SeqAt.list_indexAt p its.toArray m dd sl u (λy=>cI (kz s.heap y) d) j (by simp;omega) (by omega) ?_ ?_) ⟨eo,?_,?_⟩
  ·have:=rd j (by omega) hj
   simp only[ng];rw[this];exact hit
  ·intro i hi z_
   simp only[bp]at hi;have:=rd i hi (by omega)
   simp only[ng];rw[this];exact E5 i (by omega) z_
  ·exact SeqAt.items_eqAt (by simpa using ra) rb l1.1 l2.1 (by omega)
  ·exact⟨.int j,H,I.tok _,⟨_,rfl⟩,q⟩
theorem DT{j:Nat}{ap:Pos}(hr:e8 k X.A)(h1:VE X a δ (.list ds))(h2:VE X b δ d)(l1:Lay 20 (.list ds))(l2:Lay 20 d)(hj:∃h:j<ds.length,cI ds[j] d=true)(E5:∀m (h:m<ds.length),m<j->cI ds[m] d=false)
  (hs:starEach [b] X.env=(false,eval b X.env)::starEach [] X.env:=by rfl)(lz:attributeBase a "index" X.env (eval a X.env)=eval a X.env:=by rfl)
  (qw:((backTo pos (starEach [b] X.env)).all (λx=>!x.1)&&(backToKw pos (keywordEach [] X.env)).all (λx=>x.1.isSome)&&decide (([b]:List bZ).length+([]:List gR).length+(if([]:List gR).isEmpty then 0 else 1)<30))=true:=by rfl)
  (hline:(ap.endLine==pos.line)=true:=by rfl)(jz:(backTo pos (starEach [] X.env)).any (·.1)=false:=by rfl):VE X (.Call (.Attribute a "index" ap) [b] [] pos) δ (.int j):=
 .of (u5 fy AQ AU (KS (Aq hr)) c7 (du c7 fF hs) lz qw hline hs jz) λB0 B σ H0 H Q f q=>h1 B0 B σ H0 H _ f λv H1 dO g r1=>by
  cases r1 with
  |lst hq rs=>
   refine⟨.inl ⟨rfl,_,g.sub.seq hq⟩,h2 B0 B σ H1 dO _ (f.grow g) λu H2 jb g2 r2=>?_⟩
   exact⟨_,ds,u,d,j,rfl,rfl,.lst (g2.sub.seq (g2.fG.seq hq)) (rs.mono (g2.fG.trans g2.sub)),r2.mono g2.sub,l1,l2,hj,E5,q _ H2 jb (g.trans g2) (.int _)⟩
def tyD:aj->Option String
 | .none=>some "NoneType"
 | .bool _=>some "bool"
 | .int _=>some "int"
 | .str _=>some "str"
 | .list _=>some "list"
 | .tuple _=>some "tuple"
 |_=>none
theorem V8{t tn:String}(ht:tyD d=some t)(hk:eC X.K (.type t) (.type tn)=some kb):jV X (.builtin "isinstance") (λxs H Q=>∃x,xs=[x,.ty tn]/\Rep X.K H x d/\Q (.bl kb) H):=by
 intro pins s σ H xs us Q I r h;obtain⟨x,rfl,rx,q⟩:=h;obtain⟨u,w',rfl,r1,r2⟩:=vals2 r;cases r2;have fin:∀tk,EP X pins σ Q (.bool kb) { s with toks:=tk }:=λtk=>⟨.bl kb,H,I.tok tk,rfl,q⟩
 cases rx with
 |non=>cases ht;cases r1;exact kO PySem.W.kitx_none I.BM gw hk (λz=>nomatch z) fin
 |bl b=>cases ht;cases r1;exact kO PySem.W.kitx_bool I.BM gw hk (λz=>nomatch z) fin
 |int i=>cases ht;obtain⟨t,rfl⟩:=r1;exact kO PySem.W.kitx_int I.BM gw hk (λz=>nomatch z) fin
 |str y=>cases ht;obtain⟨t,rfl⟩:=r1;exact kO PySem.W.kitx_str I.BM gw hk (λz=>nomatch z) fin
 |lst hq rs=>
  cases ht;cases r1;obtain⟨its,_,⟨o,n,e,c,_⟩,_⟩:=I.list hq;exact kO PySem.W.kitx_list I.BM ⟨o,e,c⟩ hk (λz=>nomatch z) fin
 |tup hq rs=>
  cases ht;cases r1;obtain⟨its,_,⟨o,e,c,_⟩,_⟩:=I.tuple hq;exact kO PySem.W.kitx_tuple I.BM ⟨o,e,c⟩ hk (λz=>nomatch z) fin
 |dct _ _ _=>cases ht
 |Ul _ _ _=>cases ht
 |obj _ _ _ _ _=>cases ht
 |Um _ _ _=>cases ht
theorem B8{x:Str}{t tn:String}{p p2:Pos}(h:VE X a δ d)(ht:tyD d=some t)(hk:eC X.K (.type t) (.type tn)=some kb)(hb:bootBuiltins x=some (.type tn))(m1:X.mg "isinstance"=none)(m2:X.mg x=none)(hv:bootBuiltins "isinstance"=some (.builtin "isinstance"))
  (hg:Gl X "isinstance":=by rfl)(Qn:Gl X x:=by rfl)(hn:x≠"__name__":=by decide)(oW:(x==("__debug__":Str))=false:=by decide)(hs:starEach [a,.Name x p2] X.env=(false,eval a X.env)::starEach [.Name x p2] X.env:=by rfl)(pA:starEach [.Name x p2] X.env=(false,eval (.Name x p2) X.env)::starEach [] X.env:=by rfl)
  (qp:(backTo pos (starEach [.Name x p2] X.env)).any (·.1)=false:=by rfl):VE X (.Call (.Name "isinstance" p) [a,.Name x p2] [] pos) δ (.bool kb):=
 .of (yx (V8 ht hk) hg m1 hv (du c7 (du (Ni Qn m2 hb (v:=.ty tn) rfl hn oW) fF pA) hs) (by decide) (by decide) hs qp) λB0 B σ H0 H Q f q=>h B0 B σ H0 H _ f λv H1 dO g r=>⟨v,rfl,r.mono g.sub,q _ H1 dO g (.bl _)⟩
theorem ZD{A:dQ}{E:aE->aM->Prop}{s:aM}{vs:List aE}{Q:aE->aM->Prop}(hh:A.handled=none)(hl:s.heap.IsList l vs.toArray)(hi:Af vs ns)(B9:ns≠[])
  (h:∀h' M (t:Tok) tk,(∀b o,s.heap.get? b=some o->h'.get? b=some o)->M∈ns->(∀z,z∈ns->z<=M)->Q (.int M t) { s with heap:=h',toks:=tk }):wpAny (model P w) A (call (.builtin "max") [.ref l]) Q E s:=by
 obtain⟨xs,ex⟩:=hi.allInts.items;have Iy:ns=xs.toList.map (·.1):=by rw[<-hi.numsOf,<-nums_intItems,<-ex]
 have hz:0<xs.size:=by
  rcases vT xs.size with z|z
  ·exfalso
   apply B9;rw[Iy,Array.eq_empty_of_size_eq_zero z];rfl
  ·exact z
 rw[ex]at hl;refine max_intList hh hl hz λv h' tk hv hk=>?_
 obtain⟨t,rfl⟩:=intItems_at hv;obtain⟨g1,g2⟩:=argBest_gt (numAt xs) (xs.size-1);refine h h' _ t tk hk ?_ λz hzm=>?_
 ·rw[Iy,numAt_eq]
  exact getD_mem (by rw[ai,c0];omega)
 ·rw[Iy]at hzm
  obtain⟨j,hj,rfl⟩:=mem_getD hzm;rw[ai,c0]at hj;rw[<-numAt_eq];exact g2 j (by omega)
theorem IK(hc:X.calm=true):jV X (.builtin "max") (λxs H Q=>∃p ns,xs=[.ref p]/\kW X.K H p (ns.map V.int)/\ns≠[]/\∀M,M∈ns->(∀z,z∈ns->z<=M)->Q (.int M) H):=by
 intro pins s σ H xs us Q I r h;obtain⟨p,ns,rfl,hq,B9,q⟩:=h;obtain⟨u,rfl,rx⟩:=vals1 r;cases rx;obtain⟨its,rv,pl,hz⟩:=I.list hq;exact ZD (I.ok.hd hc) pl.isList (intsAre_of rv) B9 λh' M t tk hk h1 h2=>⟨.int M,H,I.kept hk,⟨_,rfl⟩,q M h1 h2⟩
theorem V9{M:Int}(h1:M∈ns)(h2:∀z,z∈ns->z<=M):nT K (λxs H Q=>∃p ns,xs=[.ref p]/\kW K H p (ns.map V.int)/\ns≠[]/\∀M,M∈ns->(∀z,z∈ns->z<=M)->Q (.int M) H) [.list (ns.map .int)] (.int M):=λvs H0 H Q s r q=>by
 obtain⟨v,rfl,r1⟩:=r.one;cases r1 with
 |lst hq rs=>
  have e:=rs.ints;subst e;refine⟨_,ns,rfl,s.seq hq,(λz=>by rw[z]at h1;cases h1),λM' g1 g2=>q _ _ _ (.refl s) ?_⟩
  have:M'=M:=Int.le_antisymm (h2 M' g1) (g2 M h1);rw[this];exact .int _
end
section
variable{X:Cx}{sc:nz}{own N:List Str}{cap:List Nat}{cl:List (Str×aR)}{tg elt iter:bZ}{ifs:List bZ}{δ:List Slot}{ds:List aj}{pos px yH:Pos}{tgt:IJ}{x:Str}
theorem vf(i:Nat){F:aj->Option aj}(hc:X.calm=true)(CS:lZ X sc own cap N cl)(hi:VI X tg iter δ ds)(hg:∀f s3 H3,PG (gO X sc N cl f s3 H3) tg (KQ X.K tgt))(ht:A_ own.length tgt=true)(hz:ds.length<=sizeLine)
  (step:∀d∈ds,FH X sc own cap N cl tgt elt ifs δ F d)(hN:X.N.Nodup)(VM:X.N[i]?=some x:=by rfl)(hx:Loc X.env.scope x:=by first|exact a7 rfl|exact cj rfl)
  (An:swapsWith (.ListComp elt [⟨tg,iter,ifs,0⟩] sc pos) (some (.Name x px)) yH.line X.env=pure true:=by rfl)(hs:∀x,foldedSetIterable iter X.env x=pure x:=by intro _;rfl)(hf:X.fn x=true\/X.env.scope.names.lookup x=some .local:=by first|exact .inl rfl|exact .inr rfl):
  VS X (.Assign [.Name x px] (.ListComp elt [⟨tg,iter,ifs,0⟩] sc pos) yH) δ (.nx (δ.set i (.own (ds.filterMap F)))):=λB0 B σ H0 H D f ok pins s I=>by
 obtain⟨wi,pi,qi⟩:=hi;refine yG (i:=i) (tc:=X9 X sc N cl ifs) (te:=teC X sc N cl elt) hN VM hx hc CS pi hg (λf s3 H3 pins s σ H Q I h=>h f s3 H3 pins s I) (λf s3 H3 pins s σ H Q I h=>h f s3 H3 pins s I) An hs hf pins s σ H D I ?_
 refine qi B0 B σ H0 H _ f λJ H1 dO g it=>?_
 refine wY ht hz step (f.grow g) it λp xs Ha Hb g2 a1 a2 a3 a4=>?_
 have gg:=g.trans g2;have hp:H p=none:=g.big.free a1;refine ok _ Ha Hb gg.fG ((f.grow gg).yI a3 a2 (f.ent.big.free hp) a4 λj es e2 e3=>?_)
 obtain⟨p',xs',g1,g2',_⟩:=f.slot j _ e2;rw[e3]at g1;cases g1;rw[hp]at g2';cases g2'
end
theorem VT.to{k k':Bool}(h:VT X c δ k')(e:k'=k):VT X c δ k:=e▸h
theorem VE.to{k k':aj}(h:VE X c δ k')(e:k'=k):VE X c δ k:=e▸h
theorem VO.to{k k':List aj}(h:VO X c δ k')(e:k'=k):VO X c δ k:=e▸h
def suite(b:List ia)(i:Nat):List ia:=match b.getD i (.Pass ⟨0,0,0,0⟩) with
 | .For _ _ b _ _=>b
 | .While _ b _ _=>b
 | .If _ b _ _=>b
 |_=>[]
theorem cu(n:Nat)(i:Int):Lay n (.int i):=⟨rfl,bF _⟩
theorem N_(n:Nat):Lay n .none:=⟨rfl,bF _⟩
theorem bB{x:Str}(h:cx (.str x)=true):Lay n (.str x):=⟨h,bF _⟩
theorem FL:∀{ds:List aj},(∀d∈ds,Lay n d)->oU ds=true/\aj.depthAll ds<=n
 | [],_=>⟨rfl,bF _⟩
 |d::ds,h=>by
  obtain⟨h1,h2⟩:=FL λe he=>h e (aT _ he)
  obtain⟨h3,h4⟩:=h d aL;refine⟨by simp[oU,h1,h3],?_⟩
  show max d.depth (aj.depthAll ds)<=n;omega
theorem oN(h:∀d∈ds,Lay n d):Lay (n+1) (.list ds):=by
 obtain⟨h1,h2⟩:=FL h;exact⟨h1,qW h2⟩
theorem x8(h:∀d∈ds,Lay n d):Lay (n+1) (.tuple ds):=by
 obtain⟨h1,h2⟩:=FL h;exact⟨h1,qW h2⟩
theorem filterMap_some{α β:Type}{F:α->Option β}{g:α->β}:∀{l:List α},(∀a∈l,F a=some (g a))->l.filterMap F=l.map g
 | [],_=>rfl
 |a::l,h=>by
  rw[cX (h a aL),aH,filterMap_some λb hb=>h b (aT _ hb)]
def Qo:Slot->Bool
 | .own _=>true
 |_=>false
def noOwn(δ:List Slot):Bool:=δ.all λs=>!Qo s
theorem lA(h:noOwn δ=true)(i:Nat)(ds:List aj):δ[i]?≠some (.own ds):=λe=>by
 have:=eO.mp h _ (bw e);cases this
section
variable{K:au}{B0 B H0 H dS H' C0 C Ha Hb:Hp}{σ σ':St}{δ δ':List Slot}
theorem fJ.k_(f:fJ K B0 B H0 H σ δ){i:Nat}{v:V}{sl:Slot}(hs:KC K B H0 H sl (some (some v)))(hn:Qo sl=false):fJ K B0 B H0 H (σ.set i (some v)) (δ.set i sl):=by
 refine⟨f.ent,by simp[f.len],λj UO e=>?_,λj k ds es p DL e1 e2 e3=>?_⟩
 ·by_cases hj:j=i
  ·subst hj
   have hl:j < δ.length:=by simpa using(aO.mp e).1
   rw[bx hl]at e;cases e;rw[bx (by rw[f.len];exact hl)]
   exact hs
  ·rw[aX (bV hj)]at e
   rw[aX (bV hj)];exact f.slot j UO e
 ·have nj:j≠i:=λz=>by
   subst z;have hl:j < δ.length:=by simpa using(aO.mp e1).1
   rw[bx hl]at e1;cases e1;cases hn
  have nk:k≠i:=λz=>by
   subst z;have hl:k < δ.length:=by simpa using(aO.mp e2).1
   rw[bx hl]at e2;cases e2;cases hn
  rw[aX (bV nj)]at e1 e3;rw[aX (bV nk)]at e2 ⊢;exact f.apart j k ds es p DL e1 e2 e3
theorem fJ.re(f:fJ K B0 B H0 H σ δ)(hn:noOwn δ=true)(g:eB C0 C H0 H):fJ K C0 C H0 H σ δ:=by
 refine⟨g,f.len,λi sl e=>?_,f.apart⟩
 have q:=f.slot i sl e;cases sl with
 |own ds=>exact qQ7 e (lA hn i ds)
 |_=>exact q
theorem eB.still(g:eB H0 H Ha Hb){p:aR}{o:HO}(h0:H0 p=none)(h:H p=some o):Ha p=none:=by
 cases e:Ha p with
 |none=>rfl
 |some u=>
  rcases g.new p (by rw[e];simp)with z|z
  ·exact qQ7 h0 z
  ·rw[h]at z;cases z
theorem eB.far(s:dv H0 H)(b:dv H Hb):eB H0 H H0 Hb:=⟨b,dv.refl _,s.trans b,λ_ z=>.inl z⟩
end
section
variable{X:Cx}{st:ia}{rest body orelse:List ia}{δ δ':List Slot}{o:Out}{a b c e arg:bZ}{d d1 d2 da:aj}{ds zs:List aj}{pos px py:Pos}{x y:Str}
theorem yP{i:Int}(h:VE X a δ (.int i)):VE X (.UnaryOp .USub a pos) δ (.int (-i)):=.of (U_ RN c7) λB0 B σ H0 H Q f q=>h B0 B σ H0 H _ f λv H1 dO g r=>by
 cases r;exact⟨_,rfl,q _ H1 dO g (.int _)⟩
theorem o5(n:Nat):(jB n).length=n:=by simp[jB]
theorem Sw(tgt:IJ){tg:bZ}(h:VE X e δ d)(hg:PG X tg (KQ X.K tgt))(ha:Ar tgt d δ=some δ')(hs:swapsWithSole [tg] e pos.line X.env=pure false:=by rfl)(hw:swappedStores [tg] e X.env=pure none:=by rfl)
  (h1:(assignEach [tg] X.env).map (·.2)=[assign tg X.env]:=by rfl):VS X (.Assign [tg] e pos) δ (.nx δ'):=λB0 B σ H0 H D f ok pins s I=>
 Fk c7 hg hs hw h1 pins s σ H D I (h B0 B σ H0 H _ f λv H1 dO g r=>r9 (f.grow g) r ha λσ' f'=>ok σ' H1 dO g.fG f')
theorem KW(i j:Nat){pt Fm:Pos}{kt k2}(h1:VE X a δ d1)(h2:VE X b δ d2)(hc:X.calm=true)(hN:X.N.Nodup)(z_:i≠j)(hi:X.N[i]?=some x:=by rfl)(hj:X.N[j]?=some y:=by rfl)(hx:X.env.scope.names.lookup x=some .local:=by rfl)(hy:X.env.scope.names.lookup y=some .local:=by rfl)
  (hw:swappedStores [.Tuple [.Name x px,.Name y py] kt pt] (.Tuple [a,b] k2 Fm) X.env=pure (some [x,y]):=by rfl)(hs:swapsWithSole [.Tuple [.Name x px,.Name y py] kt pt] (.Tuple [a,b] k2 Fm) pos.line X.env=pure false:=by rfl)
  (Qp:starEach [a,b] X.env=(false,eval a X.env)::starEach [b] X.env:=by rfl)(pA:starEach [b] X.env=(false,eval b X.env)::starEach [] X.env:=by rfl):
  VS X (.Assign [.Tuple [.Name x px,.Name y py] kt pt] (.Tuple [a,b] k2 Fm) pos) δ (.nx ((δ.set i (.val d1)).set j (.val d2))):=λB0 B σ H0 H D f ok pins s I=>by
 obtain⟨t,pa,qa⟩:=ao h1 (ao h2 aQ pA) Qp;refine J_ hc hN hi hj z_ hx hy pa hw hs pins s σ H D I (qa B0 B σ H0 H _ f λvs H1 dO g rs=>?_)
 obtain⟨v,w,rfl,r1,r2⟩:=rs.two;exact⟨v,w,rfl,ok _ H1 dO g.fG (((f.grow g).set r1).set r2)⟩
end
structure vP(K:au)(B0 B:Hp)(a:aR)(ps:List aR)(gs:List (List aj))(H0 H:Hp)(σ:St)(δ:List Slot):Prop where
 fr:fJ K B0 B H0 H σ δ
 no:noOwn δ=true
 arr:H a=some (.lst (ps.map V.ref))
 a0:H0 a=none
 aB:B a=none
 na:a∉ps
 nd:ps.Nodup
 len:ps.length=gs.length
 cell:∀(i:Nat)p ds,ps[i]?=some p->gs[i]?=some ds->H0 p=none/\B p=none/\∃xs,H p=some (.lst xs)/\cy K H0 xs ds
section
variable{K:au}{B0 B H0 H dS H' C0 C Ha Hb:Hp}{σ σ':St}{δ δ':List Slot}{a:aR}{ps:List aR}{gs:List (List aj)}
theorem vP.go(G:vP K B0 B a ps gs H0 H σ δ)(f':fJ K H0 H Ha Hb σ' δ')(hn:noOwn δ'=true):vP K B0 B a ps gs Ha Hb σ' δ' where
 fr:=f'.re hn (G.fr.ent.trans f'.ent)
 no:=hn
 arr:=f'.ent.big _ _ G.arr
 a0:=f'.ent.still G.a0 G.arr
 aB:=G.aB
 na:=G.na
 nd:=G.nd
 len:=G.len
 cell:=λi p ds e1 e2=>by
  obtain⟨h1,h2,xs,h3,h4⟩:=G.cell i p ds e1 e2;exact⟨f'.ent.still h1 h3,h2,xs,f'.ent.big _ _ h3,h4.mono f'.ent.fG⟩
theorem vP.from(G:vP K B0 B a ps gs H0 H σ δ)(g:eB C0 B H0 H):vP K C0 B a ps gs H0 H σ δ where
 fr:=G.fr.re G.no g
 no:=G.no
 arr:=G.arr
 a0:=G.a0
 aB:=G.aB
 na:=G.na
 nd:=G.nd
 len:=G.len
 cell:=G.cell
theorem vP.own(G:vP K B0 B a ps gs H0 H σ δ):fJ K H0 H H0 H σ δ:=G.fr.re G.no (.refl G.fr.sub)
theorem vP.forget(G:vP K B0 B a ps gs H0 H σ δ)(hf:JW δ δ')(hn:noOwn δ'=true):vP K B0 B a ps gs H0 H σ δ':=G.go (G.own.forget hf.len hf.at) hn
end
section
variable{X:Cx}{B0 B H0 H dS H' Ha Hb:Hp}{σ σ':St}{D:Ends}{st:ia}{rest body orelse:List ia}{δ δ':List Slot}{a:aR}{ps:List aR}{gs:List (List aj)}{e c tg iter:bZ}{d:aj}{ds:List aj}{pos px yH:Pos}{x y:Str}
def Ends.tail(D:Ends)(u:St->Hp->Prop):Ends:={ D with nx:=u }
theorem cH(h:cS X st (D.tail λσ H=>B6 X rest D σ H) σ H):B6 X (st::rest) D σ H:=λpins s I=>ly KD mN pins s σ H D I h
theorem dD(h:cS X st D σ H):B6 X [st] D σ H:=λpins s I=>BU KD pins s σ H D I h
theorem KY(G:vP X.K B0 B a ps gs H0 H σ δ)(h:VS X st δ (.nx δ'))(hn:noOwn δ'=true)(q:∀σ' dS H',vP X.K B0 B a ps gs dS H' σ' δ'->D.nx σ' H'):cS X st D σ H:=
 h H0 H σ H0 H D G.own λσ' Ha Hb sm f'=>q σ' Ha Hb (G.go f' hn)
theorem V_{tgt:IJ}(G:vP X.K B0 B a ps gs H0 H σ δ)(hp:tN (model X.prog X.w) X.A X.env X.xe)(hc:X.calm=true)(hi:VI X tg iter δ ds)(hg:PG X tg (KQ X.K tgt))(Uo:Nat->List (List aj))(h0:Uo 0=gs)
  (step:∀k d,ds[k]?=some d->∃δ',Ar tgt d δ=some δ'/\noOwn δ'=true/\∀(D:Ends)C0 σ' dS H',vP X.K C0 B a ps (Uo k) dS H' σ' δ'->(∀σ2 Ha Hb,vP X.K C0 B a ps (Uo (k+1)) Ha Hb σ2 δ->D.nx σ2 Hb)->B6 X body D σ' H')
  (q:∀σ2 Ha Hb,vP X.K B0 B a ps (Uo ds.length) Ha Hb σ2 δ->D.nx σ2 Hb)
  (hs:∀x,foldedSetIterable iter X.env x=pure x:=by intro _;rfl):cS X (.For tg iter body [] pos) D σ H:=λpins s I=>by
 obtain⟨wi,pi,qi⟩:=hi;refine BV hp hc pi hg mN hs pins s σ H D I ?_
 refine qi H0 H σ H0 H _ G.own λJ H1 dO g it=>?_
 have G1:=G.go (G.own.grow g) G.no;refine⟨λi mm σ' H'=>i<=ds.length/\mm=ds.length-i/\∃Ha,vP X.K H1 B a ps (Uo i) Ha H' σ' δ,⟨ds.length,bF _,rfl,H1,by rw[h0];exact G1.from ⟨G1.fr.ent.big,dv.refl _,G1.fr.sub,λ_ z=>.inl z⟩⟩,?_⟩
 rintro i mm σ' H' ⟨hi,rfl,Ha,Ga⟩
 obtain⟨i1,i2,i3⟩:=it Ha H' Ga.fr.ent.fG Ga.fr.sub i;by_cases nR:i<ds.length
 ·have hd:ds[i]?=some ds[i]:=by simp[nR]
  obtain⟨δ',e1,e2,e3⟩:=step i _ hd;refine .inr ⟨i1 nR,λσ'' wX=>∃Hb,vP X.K H1 B a ps (Uo (i+1)) Hb wX σ'' δ,λσ'' wX ⟨Hb,z⟩=>⟨ds.length-(i+1),by omega,nR,rfl,Hb,z⟩,λv H2 y=>?_⟩
  obtain⟨Hb,g2,rx⟩:=i3 v H2 _ hd y;refine r9 (Ga.own.grow g2) rx e1 λσ3 f3=>?_
  exact e3 _ H1 σ3 Hb H2 (Ga.go f3 e2) λσ2 Hc Hd z=>⟨Hc,z⟩
 ·have e:i=ds.length:=by omega
  subst e;refine .inl ⟨i2 (ay _),q σ' Ha H' (Ga.from ⟨Ga.fr.ent.big,G1.fr.ent.fG.trans Ga.fr.ent.fG,Ga.fr.sub,λb z=>?_⟩)⟩
  rcases Ga.fr.ent.new b z with z|z
  ·exact G1.fr.ent.new b z
  ·exact .inr z
end
section
variable{X:Cx}{sc:nz}{own N:List Str}{cap:List Nat}{cl:List (Str×aR)}{tg iter:bZ}{δ:List Slot}{ds:List aj}{pos px yH lp:Pos}{tgt:IJ}{x:Str}{B0 B H0 H:Hp}{σ:St}{D:Ends}
theorem Oa(i:Nat)(f:fJ X.K B0 B H0 H σ δ)(E5:noOwn δ=true)(hc:X.calm=true)(CS:lZ X sc own cap N cl)(hi:VI X tg iter δ ds)(hg:∀f s3 H3,PG (gO X sc N cl f s3 H3) tg (KQ X.K tgt))(ht:A_ own.length tgt=true)(hz:ds.length<=sizeLine)
  (step:∀d∈ds,∃δ',Ar tgt d (mO own cap δ)=some δ')(hN:X.N.Nodup)(q:∀σ' a ps dS H',vP X.K B0 B a ps (bh ds.length []) dS H' σ' (δ.set i (.ref a))->D.nx σ' H')(hn:∀a,noOwn (δ.set i (.ref a))=true)(VM:X.N[i]?=some x:=by rfl)(hx:Loc X.env.scope x:=by first|exact a7 rfl|exact cj rfl)
  (An:swapsWith (.ListComp (.List [] lp) [⟨tg,iter,[],0⟩] sc pos) (some (.Name x px)) yH.line X.env=pure true:=by rfl)(hs:∀x,foldedSetIterable iter X.env x=pure x:=by intro _;rfl)(hf:X.fn x=true\/X.env.scope.names.lookup x=some .local:=by first|exact .inl rfl|exact .inr rfl):
  cS X (.Assign [.Name x px] (.ListComp (.List [] lp) [⟨tg,iter,[],0⟩] sc pos) yH) D σ H:=λpins s I=>by
 obtain⟨wi,pi,qi⟩:=hi;refine yG (i:=i) (tc:=X9 X sc N cl []) (te:=teC X sc N cl (.List [] lp)) hN VM hx hc CS pi hg (λf s3 H3 pins s σ H Q I h=>h f s3 H3 pins s I) (λf s3 H3 pins s σ H Q I h=>h f s3 H3 pins s I) An hs hf pins s σ H D I ?_
 refine qi B0 B σ H0 H _ f λJ H1 dO g it=>?_
 have f1:=f.grow g;intro L hL;have ZE:B L=none:=f1.ent.big.free hL;refine⟨λi m ys σ' H'=>i<=ds.length/\m=ds.length-i/\∃Ha ps,eB H1 dO Ha H'/\fJ X.K B0 B Ha H' σ' (mO own cap δ)/\Ha L=none/\ys=ps.map V.ref/\H' L=some (.lst ys)/\L∉ps/\ps.Nodup/\ps.length=i/\∀p∈ps,B p=none/\Ha p=none/\H' p=some (.lst []),
  ⟨ds.length,bF _,rfl,H1,[],.loose f1.sub hL,(f1.comp own cap).touch (f1.sub.free hL) ZE oM,f1.sub.free hL,rfl,bq,by simp,by simp,rfl,λp hp=>by cases hp⟩,?_⟩
 rintro n m ys σ' H' ⟨hn1,rfl,Ha,ps,g1,fa,hLa,rfl,X_,ZF,KZ,qp,Qq⟩
 obtain⟨i1,i2,i3⟩:=it Ha H' g1.fG g1.sub n;by_cases nR:n<ds.length
 ·refine .inr ⟨i1 nR,λv H2 y=>?_⟩
  have hd:ds[n]?=some ds[n]:=by simp[nR]
  obtain⟨Hb,g2,rx⟩:=i3 v H2 ds[n] hd y;obtain⟨δ',e1⟩:=step ds[n] (dR nR);obtain⟨k1,k2⟩:=comp_back ht e1;refine r9 (fa.grow g2) rx e1 λσ3 f3=>?_
  intro fp s3 H3;refine f9 B0 B σ3 Hb H2 _ f3 λHc H4 g4=>?_
  rw[qQ3 rfl];intro Zx s3' x6;have vo:VO (gO X sc N cl Zx s3' x6) (.List [] lp) δ' []:=fe (ds:=[]) aQ;refine vo B0 B σ3 Hc H4 _ (f3.grow g4) λp xs Hd H5 g5 a1 a2 a3 a4=>?_
  cases a4;have M5:=(g2.trans g4).trans g5;have ZG:Hd L=none:=M5.still hLa X_;have nLp:L≠p:=λz=>by
   have:=(g2.trans g4).big _ _ X_;rw[z,a1]at this;cases this
  have pB:B p=none:=(f3.grow g4).ent.big.free a1;refine⟨M5.big _ _ X_,by rw[ai,qp];omega,ds.length-(n+1),by omega,nR,rfl,Hd,ps ++ [p],?_,((f3.grow g4).grow g5 |>.forget k1.symm k2).touch ZG ZE oM,ZG,by simp,bq,by simp[ZF,nLp],?_,by simp[qp],λp' hp'=>?_⟩
  ·have gg:=g1.trans M5
   exact⟨λb u e=>by rw[aP (bN e hL)];exact gg.big b u e,gg.fG,λb u e=>by rw[aP (bN e ZG)];exact gg.sub b u e,gg.new⟩
  ·rw[cZ]
   refine⟨KZ,by simp,λb hb c hc=>?_⟩
   simp only[aV]at hc;subst hc;intro z;subst z;have:=(g2.trans g4).big _ _ (Qq b hb).2.2;rw[a1]at this;cases this
  ·rcases bS.mp hp' with h|h
   ·obtain⟨h1,h2,h3⟩:=Qq p' h
    have np:p'≠L:=λz=>ZF (by rw[<-z];exact h)
    exact⟨h1,M5.still h2 h3,by rw[aP np];exact M5.big _ _ h3⟩
   ·simp only[aV]at h
    subst h;exact⟨pB,a2,by rw[aP (bV nLp)];exact a3⟩
 ·have e:n=ds.length:=by omega
  subst e;refine .inl ⟨i2 (ay _),q _ L ps Ha H' ?_⟩
  have gg:=g.trans g1;refine⟨(f.grow gg).k_ (v:=.ref L) (sl:=.ref L) rfl rfl,hn L,X_,hLa,ZE,ZF,KZ,by simp[qp],λj p es e1 e2=>?_⟩
  obtain⟨h1,h2,h3⟩:=Qq p (bw e1);rw[dm]at e2
  split at e2<;>cases e2
  exact⟨h2,h1,[],h3,.nil⟩
end
section
variable{X:Cx}{B0 B H0 H:Hp}{σ:St}{D:Ends}{δ:List Slot}{a:aR}{ps:List aR}{gs:List (List aj)}{pos px:Pos}{x:Str}
end
theorem K0{i:Nat}{x:aj}(h:ds[i]?=some x):(nW ds)[i]?=some (.tuple [.int i,x]):=by
 unfold nW;rw[aI,iV,h];simp
theorem vg{α:Type}(l:List α)(n:Nat):cutD l none (some (n:Int))=l.take n:=by
 unfold cutD;rw[HT.DF,HT.qt,ku,Nat.sub_zero];by_cases h:n<=l.length
 ·rw[nL h]
 ·rw[Nat.min_eq_right (by omega),cO (ay _),cO (by omega)]
theorem Hg:Lay 20 (.list []):=oN (n:=19) λd hd=>by cases hd
structure Nm(mg:Str->Option aE):Prop where
 len:mg "len"=none
 Hi:mg "enumerate"=none
 srt:mg "sorted"=none
 max:mg "max"=none
 min:mg "min"=none
 rng:mg "range"=none
 sum:mg "sum"=none
 X':mg "isinstance"=none
 tup:mg "tuple"=none
 lst:mg "list"=none
 int:mg "int"=none
 bool:mg "bool"=none
section
variable{P:bK}{w:cB}{A:dQ}{R:ug->aM->Prop}{it S:aR}{fp wr:List aR}{n:Nat}{V:Nat->aE->Prop}{St:Nat->dg->Prop}{Kp:dg->Prop}{bt:Nat->Nat->Bool}
end
section
variable{P:bK}{w:cB}{A:dQ}{E:aE->aM->Prop}{s:aM}
end
section
variable{X:Cx}
end
def IL(l:aR)(n:Nat):dg->Prop:=λh=>∃o es ep t,h.get? l=some o/\o.ExactSet/\o.data=.set es ep t/\t.fits es.size=true/\es.size=n
theorem IL.ok(x:IL l n h):gT P w H h l (.ext (IL l n)):=by
 refine⟨x,?_,λh1 h2 y k=>?_⟩
 ·obtain⟨o,_,_,_,e,_⟩:=x
  exact⟨o,e⟩
 ·obtain⟨o,es,ep,t,e,r⟩:=y
  exact⟨o,es,ep,t,k o e,r⟩
section
variable{X:Cx}
def dd:List Str->List Str->List Str
 |acc,[]=>acc
 |acc,x::l=>dd (if decide (x∈acc)=true then acc else acc ++ [x]) l
theorem Bc:∀(l:List Str)(acc m:List Str),dd acc (l++m)=dd (dd acc l) m
 | [],_,_=>rfl
 |x::l,acc,m=>Bc l _ m
theorem wc:∀(l acc:List Str),(dd acc l).length<=acc.length+l.length
 | [],_=>ay _
 |x::l,acc=>by
  have:=wc l (if decide (x∈acc)=true then acc else acc ++ [x])
  unfold dd
  split at this
  ·rename_i h;rw[qQ3 h];simp;omega
  ·rename_i h;rw[qQ2 h];simp at this ⊢;omega
theorem DU:∀{l acc:List Str},(acc++l).Nodup->dd acc l=acc++l
 | [],acc,_=>by rw[eI];rfl
 |x::l,acc,h=>by
  unfold dd;have hx:x∉acc:=λz=>by
   rw[cZ]at h;exact h.2.2 x z x aL rfl
  rw[qQ2 (by simpa using hx),DU (by simpa using h)]
  simp
theorem Bd:∀{ss:List Str}{its:List aE},dX (ss.map V.str) its->∀(i:Nat)v,its[i]?=some v->∃x t,ss[i]?=some x/\v=.str x t
 | [],_,r,i,v,e=>by cases r;simp at e
 |x::ss,_,r,i,v,e=>by
  cases r with
  |cons a t=>
   cases i with
   |zero=>obtain⟨t,rfl⟩:=a;simp at e;exact⟨x,t,rfl,e.symm⟩
   |succ i=>simpa using Bd t i v (by simpa using e)
theorem SetOf.ZH{S:Str->Bool}(x:h.SetOf (strKind P w) l S n):IL l n h:=by
 obtain⟨o,es,ep,t,ho,hex,hd,_,_,_,hf,hn⟩:=x;exact⟨o,es,ep,t,ho,hex,hd,hf,hn⟩
theorem As:jV X (.builtin "len") (λxs H Q=>∃p n,xs=[.ref p]/\H p=some (.ext (IL p n))/\n<10000/\Q (.int n) H):=by
 intro pins s σ H xs us Q I r h;obtain⟨p,n,rfl,hp,hn,q⟩:=h;obtain⟨u,rfl,rx⟩:=vals1 r;cases rx;obtain⟨⟨o,es,ep,t,ho,hex,hd,hf,hz⟩,_⟩:=I.hok p _ hp;exact call_len_set ho hex hd hf (by omega) ⟨.int n,H,I.tok _,⟨_,by rw[hz]⟩,q⟩
end
section
variable{X:Cx}{a b c e:bZ}{δ:List Slot}{d d1 d2 d3:aj}{ds:List aj}{pos p p2 tR:Pos}{k:Nat}
theorem cy.strs:∀{ss:List Str}{xs:List V},cy K H xs (ss.map .str)->xs=ss.map V.str
 | [],_,r=>by cases r;rfl
 |x::ss,_,r=>by cases r with|cons a t=>cases a;rw[cy.strs t];rfl
theorem yQ:PE X e (λ_ _ _=>False):=λ_ _ _ _ _ _ h=>h.elim
theorem jS{op}(h:VE X a δ d):VE X (.BoolOp op [a] pos) δ d:=.of (Rx c7) λB0 B σ H0 H Q f q=>h B0 B σ H0 H Q f q
theorem lB{k1 k2:Bool}(h1:VE X a δ (.bool k1))(h2:k1=true->VE X (.BoolOp .And (b::rest) pos) δ (.bool k2)):VE X (.BoolOp .And (a::b::rest) pos) δ (.bool (k1&&k2)):=by
 cases k1 with
 |true=>
  refine .of (J7 c7 c7) λB0 B σ H0 H Q f q=>h1 B0 B σ H0 H _ f λv H1 dO g r=>?_
  cases r;refine⟨true,rfl,?_⟩
  rw[qQ3 rfl];exact h2 rfl B0 B σ H1 dO _ (f.grow g) λu H2 jb g2 r2=>q u H2 jb (g.trans g2) r2
 |false=>
  refine .of (J7 c7 yQ) λB0 B σ H0 H Q f q=>h1 B0 B σ H0 H _ f λv H1 dO g r=>?_
  cases r;refine⟨false,rfl,?_⟩
  rw[qQ2 cz];exact q _ H1 dO g (.bl false)
theorem sj{k1 k2:Bool}(h1:VE X a δ (.bool k1))(h2:k1=false->VE X (.BoolOp .Or (b::rest) pos) δ (.bool k2)):VE X (.BoolOp .Or (a::b::rest) pos) δ (.bool (k1||k2)):=by
 cases k1 with
 |false=>
  refine .of (Qb c7 c7) λB0 B σ H0 H Q f q=>h1 B0 B σ H0 H _ f λv H1 dO g r=>?_
  cases r;refine⟨false,rfl,?_⟩
  rw[qQ2 cz];exact h2 rfl B0 B σ H1 dO _ (f.grow g) λu H2 jb g2 r2=>q u H2 jb (g.trans g2) r2
 |true=>
  refine .of (Qb c7 yQ) λB0 B σ H0 H Q f q=>h1 B0 B σ H0 H _ f λv H1 dO g r=>?_
  cases r;refine⟨true,rfl,?_⟩
  rw[qQ3 rfl];exact q _ H1 dO g (.bl true)
def qR:List Bool->Bool:=λl=>l.all id
theorem pL(hc:X.calm=true):jV X (.builtin "all") (λxs H Q=>∃p bs,xs=[.ref p]/\kW X.K H p (bs.map V.bl)/\Q (.bl (qR bs)) H):=by
 intro pins s σ H xs us Q I r h;obtain⟨p,bs,rfl,hq,q⟩:=h;obtain⟨u,rfl,rx⟩:=vals1 r;cases rx;obtain⟨its,rv,pl,hz⟩:=I.list hq;have hl:=rv.length;simp only[ai]at hl;refine call_all_walkS (mU pl.isList ?_)
 have B9:p≠s.heap.objs.size:=a9 (bf pl.isList.choose_spec.1);have ZI:∀(i:Nat)v,its.toArray[i]?=some v->v=.bool (bs.getD i false):=λi v hv=>by
  have Ke:its[i]?=some v:=by simpa using hv
  have e:=rv.getD i;have e2:its.getD i iZ=v:=by rw[aD,Ke];rfl
  have hi:i<bs.length:=by have:=(aO.mp Ke).1;omega
  have e3:(bs.map V.bl).getD i .non=.bl (bs.getD i false):=by
   rw[aD,aI,aD,aq hi];rfl
  rw[e2,e3]at e;exact e
 refine⟨_,_,_,_,_,_,_,λi=>bs.getD i false,rfl,(Walks.list (by simp[I.ok.hd hc]) _ p B9 its.toArray).toS,⟨⟨_,bA _ rfl,rfl,rfl⟩,pl.isList.push _⟩,?_,λs' hm=>?_⟩
 ·intro i v Q' E' s' hv q'
  rw[ZI i v hv];exact fx q'
 ·have ea:(aZ its.toArray.size).all (λi=>bs.getD i false)=qR bs:=by
   rw[bp,<-hl];unfold qR;rw[gZ,eO,eO]
   constructor
   ·intro h x hx
    obtain⟨i,hi⟩:=sP.mp hx;have:=h i (cL.mpr (aO.mp hi).1);rw[aD,hi]at this;exact this
   ·intro h i hi
    have hi:=cL.mp hi;rw[aD,aq hi];exact h _ (dR hi)
  rw[ea];obtain⟨h',g',d',Aa,Nx⟩:=s';have eg:g'=s.gens:=hm.gens;have ed:d'=s.drawn:=hm.drawn;have eo:Nx=s.os:=hm.os;subst eg;subst ed;subst eo;refine⟨.bl _,H,I.kept (t':=Aa) λb o e=>hm.heap b o ?_ (aF _ e),rfl,q⟩
  have:=bf e;simp only[aV];exact a9 this
theorem cy.ZJ:∀{bs:List Bool}{xs:List V},cy K H xs (bs.map .bool)->xs=bs.map V.bl
 | [],_,r=>by cases r;rfl
 |x::ss,_,r=>by cases r with|cons a t=>cases a;rw[cy.ZJ t];rfl
theorem Be{bs:List Bool}:nT K (λxs H Q=>∃p bs,xs=[.ref p]/\kW K H p (bs.map V.bl)/\Q (.bl (qR bs)) H) [.list (bs.map .bool)] (.bool (qR bs)):=λvs H0 H Q s r q=>by
 obtain⟨v,rfl,r1⟩:=r.one;cases r1 with
 |lst hq rs=>
  have e:=rs.ZJ;subst e;exact⟨_,bs,rfl,s.seq hq,q _ _ _ (.refl s) (.bl _)⟩
theorem Qr(hr:e8 k X.A)(hs:DN d2=true)(l1:Lay 20 d1)(l2:Lay 20 d2)(h1:VE X a δ d1)(h2:VE X b δ d2)(hm:behindInMarks .In b=false:=by with_unfolding_all rfl):VE X (.Compare a [.In] [b] pos) δ (.bool (vb d1 d2)):=o3 (KJ (Aq hr)) (Sn (neg:=false) hs l1 l2) h1 h2 hm
theorem K1(hr:e8 k X.A)(l1:Lay 20 d1)(l2:Lay 20 d2)(h1:VE X a δ d1)(h2:VE X b δ d2):VE X (.Compare a [.NotEq] [b] pos) δ (.bool (!cI d1 d2)):=o3 (KH (Aq hr)) (G' l1 l2) h1 h2 (gC _)
end
end L2
namespace L2
open PySem PySem.Spec PyProof.Rows PySem.Builtin PySem.Builtin.Str
variable{i n:Int}{ap:Pos}{K:au}
section
variable{X:Cx}
def Sx:V->List V->Hp->VK->Prop:=λx vs H Q=>∃z y,x=.str z/\vs=[.str y]/\(y.length==0)=false/\z.length+2<=sizeLine/\∀l,H l=none->Q (.ref l) (upd H l (.lst ((cJ z y).map V.str)))
theorem vh:∀(l:List (Str×Tok)),dX ((l.map (·.1)).map V.str) (strValues l)
 | []=>.nil
 |(x,t)::l=>.cons ⟨t,rfl⟩ (vh l)
theorem split_len{z y:Str}(hz:z.length+2<=sizeLine):(cJ z y).length<=sizeLine/\(partsBetween z (occurrences z y 0 z.length (z.length+1)) y.length).length<=sizeLine:=by
 have e1:=Di z y 0 z.length (z.length+1);have e2:(partsBetween z (occurrences z y 0 z.length (z.length+1)) y.length).length<=sizeLine:=by rw[xC];omega
 refine⟨?_,e2⟩
 unfold cJ
 split
 ·show 1<=sizeLine;omega
 ·split
  ·show 1<=sizeLine;omega
  ·exact e2
theorem K2:Ui X "str.split" Sx:=by
 intro pins s σ H x vs v us Q I rx rv h;obtain⟨z,y,rfl,rfl,hy,hz,q⟩:=h;obtain⟨t,rfl⟩:=rx;obtain⟨u,rfl,ru⟩:=rv.one;obtain⟨tu,rfl⟩:=ru;obtain⟨sl,sp⟩:=split_len (y:=y) hz;have fin:∀(l:List (Str×Tok))(k:Nat),l.map (·.1)=cJ z y->EP X pins σ Q (.ref s.heap.objs.size) { s with heap:=s.heap.push { cls:=.type "list",data:=.seq (strValues l).toArray },toks:=k }:=λl k e=>by
  refine⟨.ref s.heap.objs.size,_,I.laid (λb o e=>aF _ e) (ay _) (show gT X.prog X.w _ _ _ (.lst ((cJ z y).map V.str)) from⟨by rw[ai];exact sl,strValues l,0,by rw[<-e];exact vh l,bA _ rfl⟩),rfl,q _ (I.hok.fresh (ay _))⟩
 cases h1:(decide (z.length<y.length)||decide (strKind z<strKind y)) with
 |true=>exact kR Ag (uh _ _ _) ym (xD _ _) (meets_str_split_cannot_occur z y t tu h1) (fin [(z,t)] s.toks (by unfold cJ;rw[qQ3 h1];rfl))
 |false=>
  cases hf:(occurrences z y 0 z.length (z.length+1)).isEmpty with
  |true=>exact kR Ag (uh _ _ _) ym (xD _ _) (meets_str_split_not_found z y t tu h1 hy hf) (fin [(z,t)] s.toks (by unfold cJ;rw[qQ2 (by rw[h1];decide),qQ3 hf];rfl))
  |false=>
   refine kR Ag (uh _ _ _) ym (xD _ _) (meets_str_split_sep z y t tu h1 hy hf (by omega) sp) ?_
   rw[strsFrom_eq];exact fin (numbered s.toks _) _ ((numbered_texts _ _).trans (by unfold cJ;rw[qQ2 (by rw[h1];decide),qQ2 (by rw[hf];decide)]))
def rJoin(K:au):V->List V->Hp->VK->Prop:=λx vs H Q=>∃y p zs,x=.str y/\vs=[.ref p]/\(kW K H p (zs.map V.str)\/oH K H p (zs.map V.str))/\(zs.map (·.length)).sum+zs.length*y.length<=16777216/\Q (.str (c9 y zs)) H
theorem yR:∀{zs:List Str}{us:List aE},dX (zs.map V.str) us->StrsAre us zs
 | [],_,r=>by cases r;exact .nil
 |z::zs,_,r=>by cases r with|cons a t=>obtain⟨tk,rfl⟩:=a;exact .cons z tk (yR t)
theorem Ob:Ui X "str.join" (rJoin X.K):=by
 intro pins s σ H x vs v us Q I rx rv h;obtain⟨y,p,zs,rfl,rfl,hq,hz,q⟩:=h;obtain⟨t,rfl⟩:=rx;obtain⟨u,rfl,ru⟩:=rv.one;cases ru;have e:Txt.join y zs=c9 y zs:=StrLaws.glued_eq_join y zs;rcases hq with hq|hq
 ·obtain⟨its,r,pl,_⟩:=I.list hq
  exact join_list pl.isList (by simpa using yR r) hz λt' k=>⟨.str _,H,I.tok k,⟨t',by rw[e]⟩,q⟩
 ·obtain⟨its,r,pl,_⟩:=I.tuple hq
  exact join_tuple pl (by simpa using yR r) hz λt' k=>⟨.str _,H,I.tok k,⟨t',by rw[e]⟩,q⟩
theorem Au:jV X (.type "int") (λxs H Q=>∃x n,xs=[.str x]/\intText? x=some n/\x.length<=640/\Q (.int n) H):=by
 intro pins s σ H xs us Q I r h;obtain⟨x,n,rfl,hn,hl,q⟩:=h;obtain⟨u,rfl,t,rfl⟩:=vals1 r;exact PySem.W.KIN.call_text hn hl ⟨.int n,H,I.tok _,⟨_,rfl⟩,q⟩
def j3(x:Str):Nat->Str
 |0=>fY
 |n+1=>x++j3 x n
theorem Hj(x:Str):∀(n:Nat)(acc:Array Nat),(bh n x.cps).foldl (· ++ ·) acc=acc++(j3 x n).cps
 |0,acc=>by show acc=acc ++ #[];simp
 |n+1,acc=>by
  rw[d_,nA,Hj x n];show acc++x.cps++(j3 x n).cps=acc++(x.cps++(j3 x n).cps);rw[Array.append_assoc]
theorem Hn(x:Str):∀n,(j3 x n).length=n*x.length
 |0=>by show(fY).length=_;simp[fY,Str.length]
 |n+1=>by
  show(x++j3 x n).length=_
  rw[cD,Hn x n,Fe,Nat.add_comm]
theorem Oc:rV X (binaryOp .Mult) (λx y H Q=>∃z n,x=.str z/\y=.int n/\0<=n/\n<=1000/\z.length<=1000/\Q (.str (j3 z n.toNat)) H):=by
 intro pins s σ H x y v u Q I rx ry h;obtain⟨z,n,rfl,rfl,h0,h1,hz,q⟩:=h;obtain⟨t,rfl⟩:=rx;obtain⟨t',rfl⟩:=ry;have h63:(1000:Int)<2^63:=by decide
 have e63:(2:Int)^63=9223372036854775808:=by decide
 refine PySem.P.mul_str (by rw[qQ0 (by omega),qQ0 (by omega)];rfl) (λha _=>?_) (λ_ _=>?_) ?_
 ·have:((2:Int)^63-1)/n>=1000:=by
   rw[ge_iff_le,Int.le_ediv_iff_mul_le (by omega)]
   omega
  omega
 ·unfold tooLong
  rw[qQ0];rw[dA];have:z.length*n.toNat<=1000*1000:=iC hz (by omega)
  omega
 ·by_cases hn:n<1
  ·rw[qQ3 hn]
   have:n.toNat=0:=by omega
   rw[this]at q;exact⟨by decide,.str _,H,I.tok _,⟨_,rfl⟩,q⟩
  ·rw[qQ2 hn]
   by_cases hc:(n==1||z.length==0)=true
   ·rw[qQ3 hc]
    have e:j3 z n.toNat=z:=by
     rw[zZ]at hc;rcases hc with hc|hc
     ·have:n=1:=by simpa using hc
      subst this;show z++fY=z;cases z with|mk c=>show(⟨c ++ #[]⟩:Str)=⟨c⟩;simp
     ·have hz0:z.length=0:=by simpa using hc
      have:z=fY:=by cases z with|mk c=>simp[Str.length]at hz0;simp[fY,hz0]
      subst this;have:∀m,j3 fY m=fY:=by
       intro m
       induction m with
       |zero=>rfl
       |succ m ih=>show fY++j3 fY m=_;rw[ih];rfl
      exact this _
    rw[e]at q;exact⟨.str _,H,I.tok _,⟨_,rfl⟩,q⟩
   ·rw[qQ2 hc]
    have e:(⟨(bh n.toNat z.cps).foldl (· ++ ·) #[]⟩:Str)=j3 z n.toNat:=by rw[Hj];simp
    rw[e];refine⟨?_,.str _,H,I.tok _,⟨_,rfl⟩,q⟩
    rw[Hn,dA];have:n.toNat*z.length<=1000*1000:=iC (by omega) hz
    omega
def Its(x:Str):It:=⟨λi _=>i<x.cps.size,λi H v H'=>H'=H/\∃c,x.cps[i]?=some c/\v=.str ⟨#[c]⟩,λi _=>x.cps.size<=i⟩
theorem K3{P:bK}{w:cB}{tg:bZ}(it:aR)(x:Str)(t:Tok){ty:String}(hty:ty="str_ascii_iterator"\/ty="str_iterator"):Turn P w K tg (Its x) [it] it (λi h=>h.IsStrIter it ty x t i) where
 mem:=by simp
 obj:=λi h st b hb=>by
  have e:b=it:=by simpa using hb
  subst e;obtain⟨o,e,c,d⟩:=st;exact⟨o,e,λv z=>by rw[d]at z;cases z⟩
 keep:=λi h h' st k=>let⟨o,e,r⟩:=st;⟨o,k it (by simp) o e,r⟩
 item:=by
  intro X hP hw hK hc i pins s σ H E I hf st hg;subst hP hw hK;obtain⟨f0,f1,f2,f3,f4,f5⟩:=hf it (by simp)
  have hn:["enumerate","zip","dict_itemiterator","dict_reverseitemiterator","odict_iterator","itertools.zip_longest","itertools.pairwise"].contains ty=false:=by rcases hty with rfl|rfl<;>decide
  have fin:∀v h' tk,SignAt x i v->h'.IsStrIter it ty x t (i+1)->(∀b o,b∉[it]->s.heap.get? b=some o->h'.get? b=some o)->∃u,some v=some u/\wpAny (model X.prog X.w) X.A (letOwnedTupleGo tg (.ref it) u) (λ_ s2=>∃y H',Inv X pins σ H' s2/\RelV y u/\(Its x).U5 i H y H'/\s2.heap.IsStrIter it ty x t (i+1)/\∀b∈[it],H' b=none) E { s with heap:=h',toks:=tk }:=by
   intro v h' tk hv xY kk;obtain⟨c,u,hcu,rfl⟩:=hv;have I1:Inv X pins σ H { s with heap:=h',toks:=tk }:=I.turned (λb o hb e=>kk b o (by simpa using hb) e) f0 f1 f3 f4 f5
   obtain⟨o,e,cc,d⟩:=id xY;exact⟨_,rfl,Dx (s:={ s with heap:=h',toks:=tk }) e cc d hn ⟨.str ⟨#[c]⟩,H,I1,⟨u,rfl⟩,⟨rfl,c,hcu,rfl⟩,xY,λb hb=>(hf b hb).1⟩⟩
  rcases hty with rfl|rfl
  ·exact(Walks.strAscii (prog:=X.prog) (w:=X.w) (I.ok.hd hc) it x t).item i s _ _ hg st λv h' tk hv xY kk=>fin v h' tk hv xY kk
  ·exact(Walks.strWide (prog:=X.prog) (w:=X.w) (I.ok.hd hc) it x t).item i s _ _ hg st λv h' tk hv xY kk=>fin v h' tk hv xY kk
 done:=by
  intro X hP hw hK hc i pins s σ H E I hf st hg;subst hP hw hK;obtain⟨f0,f1,f2,f3,f4,f5⟩:=hf it (by simp)
  have hge:x.cps.size<=i:=hg;rcases hty with rfl|rfl
  ·exact wpAny_pyNext_ascii_end (I.ok.hd hc) st (by simp;exact hge) λh' eb=>⟨rfl,I.turned (t':=s.toks) (λb o hb e=>eb b o hb e) f0 f1 f3 f4 f5⟩
  ·exact wpAny_pyNext_wide_end (I.ok.hd hc) st (by simp;exact hge) λh' eb=>⟨rfl,I.turned (t':=s.toks) (λb o hb e=>eb b o hb e) f0 f1 f3 f4 f5⟩
 self:=λ_ _ _ _ _ st h=>by
  rcases hty with rfl|rfl
  ·exact wpAny_pyIter_striter_ascii st h
  ·exact wpAny_pyIter_striter_wide st h
def ZK(tl:TE):TI:=λσ H R=>tl σ H λv H1=>∃x,v=.str x/\R (Its x) H1
theorem Sy{tg l:bZ}{tl:TE}(hl:PE X l tl):PI X tg l (ZK tl):=by
 intro pins s σ H R I h;refine gK (hl pins s σ H _ I h) λv s1 ⟨y,H1,I1,r1,q1⟩=>?_
 obtain⟨x,e,q⟩:=q1;subst e;obtain⟨t,rfl⟩:=r1;have go:∀ty,(ty="str_ascii_iterator"\/ty="str_iterator")->∀o:Obj,o.cls=.type ty->o.data=.fields #[.str x t,.int (0:Nat) 0]->o.isFreed=false->YZ X pins σ tg R (.ref s1.heap.objs.size) { s1 with heap:=s1.heap.push o }:=λty hty o c d fr=>
  ⟨s1.heap.objs.size,[s1.heap.objs.size],_,_,H1,rfl,I1.kept (t':=s1.toks) λb o e=>aF _ e,K3 _ x t hty,⟨o,bA _ fr,c,d⟩,λb hb=>by
   have e:b=s1.heap.objs.size:=by simpa using hb
   subst e;exact I1.yp (ay _) (I1.hok.fresh (ay _)),q⟩
 cases ha:x.cps.all (·<128)
 ·exact wpAny_pyIter_wide ha (go "str_iterator" (.inr rfl) _ rfl rfl rfl)
 ·exact wpAny_pyIter_ascii ha (go "str_ascii_iterator" (.inl rfl) _ rfl rfl rfl)
end
section
variable{X:Cx}{tg a b c e:bZ}{es:List bZ}{δ:List Slot}{d d1 d2 d3:aj}{ds:List aj}{pos p p2 tR:Pos}{k:Nat}{x y z:Str}
def qz(x:Str):List aj:=x.cps.toList.map λc=>.str ⟨#[c]⟩
theorem Sz(h:VE X a δ (.str x)):VI X tg a δ (qz x):=⟨_,Sy c7,λB0 B σ H0 H R f q=>h B0 B σ H0 H _ f λv H1 dO g r=>by
 cases r;have hl:(qz x).length=x.cps.size:=by unfold qz;rw[ai,c0]
 refine⟨x,rfl,q _ H1 dO g λHa Hb s1 s2 i=>⟨λhi=>(show i<x.cps.size by omega),λhi=>(show x.cps.size<=i by omega),λv wX d hd ⟨e,c,hc,ev⟩=>?_⟩⟩
 subst e;subst ev;unfold qz at hd;rw[aI,rJ,hc]at hd;cases hd;exact⟨Ha,.refl s2,.str _⟩⟩
theorem odS(h:x.length+y.length<=sizeLine):Ao K (λx y H Q=>∃i j,x=.str i/\y=.str j/\i.length+j.length<=sizeLine/\Q (.str (i++j)) H) (.str x) (.str y) (.str (x++y)):=λv u H0 H Q s r1 r2 k=>by cases r1;cases r2;exact⟨_,_,rfl,rfl,h,k _ _ _ (.refl s) (.str _)⟩
theorem jd(h1:VE X a δ (.str x))(h2:VE X b δ (.str y))(h:x.length+y.length<=sizeLine):VE X (.BinOp a .Add b pos) δ (.str (x++y)):=um Fs (odS h) h1 h2
theorem SD(h0:0<=n)(h1:n<=1000)(hz:x.length<=1000):Ao K (λx y H Q=>∃z n,x=.str z/\y=.int n/\0<=n/\n<=1000/\z.length<=1000/\Q (.str (j3 z n.toNat)) H) (.str x) (.int n) (.str (j3 x n.toNat)):=λv u H0 H Q s r1 r2 k=>by cases r1;cases r2;exact⟨_,_,rfl,rfl,h0,h1,hz,k _ _ _ (.refl s) (.str _)⟩
theorem Ho(h1:VE X a δ (.str x))(h2:VE X b δ (.int n))(h0:0<=n)(hn:n<=1000)(hz:x.length<=1000):VE X (.BinOp a .Mult b pos) δ (.str (j3 x n.toNat)):=um Oc (SD h0 hn hz) h1 h2
theorem V'{c:Nat}(hz:x.length<=sizeLine)(h:nQ x.cps.toList i=some c):Ao K (X4 K) (.str x) (.int i) (.str ⟨#[c]⟩):=λv u H0 H Q s r1 r2 k=>by
 cases r1;cases r2;exact .inr (.inr ⟨x,i,c,rfl,rfl,hz,h,k _ _ _ (.refl s) (.str _)⟩)
theorem B_{c:Nat}(h1:VE X a δ (.str x))(h2:VE X b δ (.int i))(hz:x.length<=sizeLine)(h:nQ x.cps.toList i=some c)(hs:oI b:=by intro _ _;rfl):VE X (.Subscript a b pos) δ (.str ⟨#[c]⟩):=FE yB (V' hz h) h1 h2 hs
def Ca(x y:Str):Bool:=!(occurrences y x 0 y.length 1).isEmpty
theorem Wb:Ao K (λx y H Q=>∃i j,x=.str i/\y=.str j/\Q (.bl (!(occurrences j i 0 j.length 1).isEmpty)) H) (.str x) (.str y) (.bool (Ca x y)):=λv u H0 H Q s r1 r2 k=>by cases r1;cases r2;exact⟨_,_,rfl,rfl,k _ _ _ (.refl s) (.bl _)⟩
theorem SF(h1:VE X a δ (.str x))(h2:VE X b δ (.str y))(hm:behindInMarks .In b=false:=by with_unfolding_all rfl):VE X (.Compare a [.In] [b] pos) δ (.bool (Ca x y)):=o3 Ij Wb h1 h2 hm
theorem SG(hz:x.length<=sizeLine):nT K (λxs H Q=>∃z,xs=[.str z]/\z.length<=sizeLine/\Q (.int z.length) H) [.str x] (.int x.length):=λvs H0 H Q s r k=>by
 obtain⟨v,rfl,r1⟩:=r.one;cases r1;exact⟨x,rfl,hz,k _ _ _ (.refl s) (.int _)⟩
theorem Hq(h:VE X a δ (.str x))(hz:x.length<=sizeLine)(hm:X.mg "len"=none)(hg:Gl X "len":=by rfl)(hs:starEach [a] X.env=(false,eval a X.env)::starEach [] X.env:=by rfl):VE X (.Call (.Name "len" p) [a] [] pos) δ (.int x.length):=jG B3 (SG hz) (ao h aQ hs) hm tQ hg (he:=hs)
theorem SJ(h:i.natAbs.log2<1920):nT K (λxs H Q=>∃i,xs=[.int i]/\i.natAbs.log2<1920/\Q (.str (toString i)) H) [.int i] (.str (toString i)):=λvs H0 H Q s r k=>by
 obtain⟨v,rfl,r1⟩:=r.one;cases r1;exact⟨i,rfl,h,k _ _ _ (.refl s) (.str _)⟩
theorem SK(h:intText? x=some n)(hl:x.length<=640):nT K (λxs H Q=>∃x n,xs=[.str x]/\intText? x=some n/\x.length<=640/\Q (.int n) H) [.str x] (.int n):=λvs H0 H Q s r k=>by
 obtain⟨v,rfl,r1⟩:=r.one;cases r1;exact⟨x,n,rfl,h,hl,k _ _ _ (.refl s) (.int _)⟩
theorem sW(h:VE X a δ (.int i))(hl:i.natAbs.log2<1920)(hm:X.mg "str"=none)(hg:Gl X "str":=by rfl)(hs:starEach [a] X.env=(false,eval a X.env)::starEach [] X.env:=by rfl):VE X (.Call (.Name "str" p) [a] [] pos) δ (.str (toString i)):=jM BW (SJ hl) (ao h aQ hs) hm rfl hg (he:=hs)
theorem Od(h:VE X a δ (.str x))(hn:intText? x=some n)(hl:x.length<=640)(hm:X.mg "int"=none)(hg:Gl X "int":=by rfl)(hs:starEach [a] X.env=(false,eval a X.env)::starEach [] X.env:=by rfl):VE X (.Call (.Name "int" p) [a] [] pos) δ (.int n):=jM Au (SK hn hl) (ao h aQ hs) hm rfl hg (he:=hs)
theorem sk(h1:VE X a δ (.str x))(h2:VE X b δ (.str y))(hy:(y.length==0)=false)(hz:x.length+2<=sizeLine)
  (hs:starEach [b] X.env=(false,eval b X.env)::starEach [] X.env:=by rfl)(lz:attributeBase a "split" X.env (eval a X.env)=eval a X.env:=by rfl)
  (qw:((backTo pos (starEach [b] X.env)).all (λx=>!x.1)&&(backToKw pos (keywordEach [] X.env)).all (λx=>x.1.isSome)&&decide (([b]:List bZ).length+([]:List gR).length+(if([]:List gR).isEmpty then 0 else 1)<30))=true:=by rfl)
  (hline:(ap.endLine==pos.line)=true:=by rfl)(jz:(backTo pos (starEach [] X.env)).any (·.1)=false:=by rfl):VO X (.Call (.Attribute a "split" ap) [b] [] pos) δ ((cJ x y).map .str):=
 .of (u5 BI PySem.F.slot_str_split PySem.F.type_str_split K2 c7 (du c7 fF hs) lz qw hline hs jz) λB0 B σ H0 H Q f q=>h1 B0 B σ H0 H _ f λv H1 dO g r1=>by
  cases r1;refine⟨rfl,h2 B0 B σ H1 dO _ (f.grow g) λu H2 jb g2 r2=>?_⟩
  cases r2;refine⟨x,y,rfl,rfl,hy,hz,λl hl=>?_⟩
  have gg:=g.trans g2;refine q l _ H2 _ (gg.trans (.loose g2.sub hl)) (gg.big.free hl) (g2.sub.free hl) bq ?_
  have go:∀l:List Str,cy X.K H2 (l.map V.str) (l.map aK):=by
   intro l
   induction l with
   |nil=>exact .nil
   |cons z l ih=>exact .cons (.str z) ih
  exact go _
theorem sX{zs:List Str}(h1:VE X a δ (.str y))(h2:VE X b δ (.list (zs.map .str)))(hz:(zs.map (·.length)).sum+zs.length*y.length<=16777216)
  (hs:starEach [b] X.env=(false,eval b X.env)::starEach [] X.env:=by rfl)(lz:attributeBase a "join" X.env (eval a X.env)=eval a X.env:=by rfl)
  (qw:((backTo pos (starEach [b] X.env)).all (λx=>!x.1)&&(backToKw pos (keywordEach [] X.env)).all (λx=>x.1.isSome)&&decide (([b]:List bZ).length+([]:List gR).length+(if([]:List gR).isEmpty then 0 else 1)<30))=true:=by rfl)
  (hline:(ap.endLine==pos.line)=true:=by rfl)(jz:(backTo pos (starEach [] X.env)).any (·.1)=false:=by rfl):VE X (.Call (.Attribute a "join" ap) [b] [] pos) δ (.str (c9 y zs)):=
 .of (u5 BI PySem.F.slot_str_join PySem.F.type_str_join Ob c7 (du c7 fF hs) lz qw hline hs jz) λB0 B σ H0 H Q f q=>h1 B0 B σ H0 H _ f λv H1 dO g r1=>by
  cases r1;refine⟨rfl,h2 B0 B σ H1 dO _ (f.grow g) λu H2 jb g2 r2=>?_⟩
  cases r2 with
  |lst hq rs=>
   have e:=rs.strs;subst e;exact⟨y,_,zs,rfl,rfl,.inl (g2.sub.seq hq),hz,q _ H2 jb (g.trans g2) (.str _)⟩
end
end L2
namespace L2
open PySem PySem.Spec PyProof.Rows
variable{a it l l1 l2:aR}{items xs ys:Array aE}{X:Cx}{h:dg}{H:Hp}{pins:List (aR×Obj)}{elts:List bZ}{ds:List aj}{i:Nat}{d:Option aj}{o:Option V}{tp:Pos}{K:au}{s:aM}{x:aE}{Q:aE->aM->Prop}
def cF(kvs:List (Str×aj)):aj:=.dict (kvs.map λp=>(.str p.1,p.2))
def K4(kvs:List ((Str×Str)×aj)):aj:=.dict ((.none,.bool true)::kvs.map λp=>(.tuple [.str p.1.1,.str p.1.2],p.2))
def Oe(fs:List (Str×aj)):aj:=.dict ((.none,.none)::fs.map λp=>(.str p.1,p.2))
def gU{κ:Type}[DecidableEq κ](kvs:List (κ×aj))(k:κ):Option aj:=(kvs.find? λp=>decide (p.1=k)).map (·.2)
theorem fK{κ:Type}[DecidableEq κ]{p:κ×aj}{r:List (κ×aj)}{k:κ}(e:p.1=k):gU (p::r) k=some p.2:=by simp[gU,eY,e]
theorem cW{κ:Type}[DecidableEq κ]{p:κ×aj}{r:List (κ×aj)}{k:κ}(e:¬p.1=k):gU (p::r) k=gU r k:=by simp[gU,eY,e]
def DV(K:au)(H:Hp):Option V->Option aj->Prop
 |none,none=>True
 |some v,some d=>Rep K H v d
 |_,_=>False
theorem DV.some_of{d:aj}(h:DV K H o (some d)):∃v,o=some v/\Rep K H v d:=by
 cases o with
 |none=>exact h.elim
 |some v=>exact⟨v,rfl,h⟩
theorem DV.isSome(h:DV K H o d):o.isSome=d.isSome:=by
 cases o<;>cases d<;>first|rfl|exact h.elim
theorem DV.getD{v:V}{e:aj}(h:DV K H o d)(r:Rep K H v e):Rep K H (o.getD v) (d.getD e):=by
 cases o<;>cases d<;>first|exact r|exact h|exact h.elim
section
variable{K:au}{H:Hp}{v:V}
theorem Rep.kL{kvs:List (Str×aj)}(r:Rep K H v (cF kvs)):∃a ws,v=.ref a/\H a=some (.dK ws)/\ws.map (·.1)=kvs.map (λp=>(bG p.1:Key))/\cy K H (ws.map (·.2)) (kvs.map (·.2)):=by
 unfold cF at r
 generalize e:kvs.map (λp=>(aK p.1,p.2))=ds at r
 cases r with
 |dct h k t=>
  rename_i a ws
  refine⟨a,ws,rfl,h,?_,?_⟩
  ·have k2:ws.map (λp=>oX p.1)=kvs.map λp=>aK p.1:=by rw[<-k,<-e,aS];rfl
   clear k t h e
   induction ws generalizing kvs with
   |nil=>cases kvs with|nil=>rfl|cons p l=>simp at k2
   |cons q ws ih=>
    cases kvs with
    |nil=>simp at k2
    |cons p l=>
     rw[aH,aH]at k2 ⊢
     injection k2 with h1 h2
     rw[ih h2]
     congr 1
     cases eq:q.1 with
     |inl i=>rw[eq]at h1;cases h1
     |inr x=>rw[eq]at h1;injection h1 with h1;rw[h1]
  ·rw[<-e,aS]at t
   exact t
 |Ul _ _ _=>cases kvs with|nil=>simp at e|cons p l=>simp at e
 |obj _ _ _ _ _=>cases kvs with|nil=>simp at e|cons p l=>simp at e
 |Um _ _ _=>cases kvs with|nil=>simp at e|cons p l=>simp at e
theorem uq:∀{kvs:List (Str×aj)}{ws:List (Key×V)},ws.map (·.1)=kvs.map (λp=>(bG p.1:Key))->cy K H (ws.map (·.2)) (kvs.map (·.2))->∀k,DV K H (jQ ws (bG k)) (gU kvs k)
 | [],ws,e,_,k=>by
  have:ws=[]:=by simpa using e
  subst this;exact gw
 |p::kvs,ws,e,r,k=>by
  cases ws with
  |nil=>simp at e
  |cons q ws=>
   rw[aH,aH]at e r
   injection e with e1 e2
   cases r with
   |cons r1 r2=>
    by_cases h:p.1=k
    ·rw[fK h,pI (by rw[e1,h])];exact r1
    ·rw[cW h,mJ (λz=>h (by rw[e1]at z;injection z))];exact uq e2 r2 k
def wg(p:Str×Str):List Key:=[.inr p.1,.inr p.2]
theorem DW{p q:Str×Str}(e:wg p=wg q):p=q:=by
 unfold wg at e
 injection e with e1 e2
 injection e2 with e2 _
 injection e1 with e1
 injection e2 with e2
 exact Prod.ext e1 e2
theorem Rep.K5{kvs:List ((Str×Str)×aj)}(r:Rep K H v (K4 kvs)):∃a ws,v=.ref a/\H a=some (.dT ws)/\ws.map (·.1)=kvs.map (λp=>wg p.1)/\cy K H (ws.map (·.2)) (kvs.map (·.2)):=by
 unfold K4 at r
 generalize e:kvs.map (λp=>(gy [.str p.1.1,.str p.1.2],p.2))=ds at r
 cases r with
 |dct h k t=>
  rename_i a ws
  exfalso
  cases ws with
  |nil=>simp at k
  |cons q ws=>
   rw[aH,aH]at k
   injection k with k1 _
   cases eq:q.1 with
   |inl i=>rw[eq]at k1;cases k1
   |inr x=>rw[eq]at k1;cases k1
 |Ul h k t=>
  rename_i a ws
  refine⟨a,ws,rfl,h,?_,?_⟩
  ·have k2:ws.map (λp=>gy (p.1.map oX))=kvs.map λp=>gy [.str p.1.1,.str p.1.2]:=by rw[<-k,<-e,aS];rfl
   clear k t h e
   induction ws generalizing kvs with
   |nil=>cases kvs with|nil=>rfl|cons p l=>simp at k2
   |cons q ws ih=>
    cases kvs with
    |nil=>simp at k2
    |cons p l=>
     rw[aH,aH]at k2 ⊢
     injection k2 with h1 h2
     rw[ih h2]
     congr 1
     injection h1 with h1
     have one:∀(k:Key)(x:Str),oX k=.str x->k=.inr x:=λk x h=>by
      cases k with
      |inl i=>cases h
      |inr y=>injection h with h;rw[h]
     cases e0:q.1 with
     |nil=>rw[e0]at h1;cases h1
     |cons k1 l1=>
      rw[e0]at h1;rw[aH]at h1
      injection h1 with g1 g2
      cases l1 with
      |nil=>cases g2
      |cons k2 l2=>
       rw[aH]at g2
       injection g2 with g2 g3
       have:l2=[]:=by simpa using g3
       subst this;rw[one k1 _ g1,one k2 _ g2];rfl
  ·rw[<-e,aS]at t
   exact t
theorem K6:∀{kvs:List ((Str×Str)×aj)}{ws:List (List Key×V)},ws.map (·.1)=kvs.map (λp=>wg p.1)->cy K H (ws.map (·.2)) (kvs.map (·.2))->∀k,DV K H (jQ ws (wg k)) (gU kvs k)
 | [],ws,e,_,k=>by
  have:ws=[]:=by simpa using e
  subst this;exact gw
 |p::kvs,ws,e,r,k=>by
  cases ws with
  |nil=>simp at e
  |cons q ws=>
   rw[aH,aH]at e r
   injection e with e1 e2
   cases r with
   |cons r1 r2=>
    by_cases h:p.1=k
    ·rw[fK h,pI (by rw[e1,h])];exact r1
    ·rw[cW h,mJ (λz=>h (DW (by rw[<-e1];exact z)))];exact K6 e2 r2 k
theorem Rep.K7{fs:List (Str×aj)}(r:Rep K H v (Oe fs)):∃a C dx ws,v=.ref a/\H a=some (.ins C dx ws)/\DB K C/\(∀f∈ws.map (·.1),kB K C f)/\ws.map (·.1)=fs.map (·.1)/\cy K H (ws.map (·.2)) (fs.map (·.2)):=by
 unfold Oe at r
 generalize e:fs.map (λp=>(aK p.1,p.2))=ds at r
 cases r with
 |dct h k t=>
  rename_i a ws
  exfalso
  cases ws with
  |nil=>simp at k
  |cons q ws=>
   rw[aH,aH]at k
   injection k with k1 _
   cases eq:q.1 with
   |inl i=>rw[eq]at k1;cases k1
   |inr x=>rw[eq]at k1;cases k1
 |obj h c nn k t=>
  rename_i a C dx ws
  refine⟨a,C,dx,ws,rfl,h,c,nn,?_,?_⟩
  ·have k2:ws.map (λp=>aK p.1)=fs.map λp=>aK p.1:=by rw[<-k,<-e,aS];rfl
   clear k t h e nn
   induction ws generalizing fs with
   |nil=>cases fs with|nil=>rfl|cons p l=>simp at k2
   |cons q ws ih=>
    cases fs with
    |nil=>simp at k2
    |cons p l=>
     rw[aH,aH]at k2 ⊢
     injection k2 with h1 h2
     injection h1 with h1
     rw[ih h2,h1]
  ·rw[<-e,aS]at t
   exact t
theorem K8:∀{fs:List (Str×aj)}{ws:List (Str×V)},ws.map (·.1)=fs.map (·.1)->cy K H (ws.map (·.2)) (fs.map (·.2))->∀k d,gU fs k=some d->∃u,ws.lookup k=some u/\k∈ws.map (·.1)/\Rep K H u d
 | [],ws,e,_,k,d,h=>by cases h
 |p::fs,ws,e,r,k,d,h=>by
  cases ws with
  |nil=>simp at e
  |cons q ws=>
   obtain⟨q1,q2⟩:=q;rw[aH,aH]at e r
   injection e with e1 e2
   have e1:q1=p.1:=e1;cases r with
   |cons r1 r2=>
    by_cases hk:p.1=k
    ·rw[fK hk]at h
     cases h;refine⟨q2,?_,?_,r1⟩
     ·rw[eL,e1,hk];simp
     ·rw[aH,e1,hk];exact aL
    ·rw[cW hk]at h
     obtain⟨u,h1,h2,h3⟩:=K8 e2 r2 k d h;refine⟨u,?_,aT _ h2,h3⟩
     rw[eL];have:(k==q1)=false:=by rw[beq_eq_false_iff_ne,e1];exact λz=>hk z.symm
     rw[this];exact h1
end
section
variable{X:Cx}{a b c e:bZ}{δ:List Slot}{d d1 d2 d3:aj}{ds:List aj}{pos ap:Pos}{k:Nat}{kvs fs:List (Str×aj)}{tvs:List ((Str×Str)×aj)}{x y z:Str}
theorem M6(hr:e8 k X.A):X.A.units+1<cLine:=by have:=hr.un;omega
theorem m8{f:Str}(h:VE X a δ (Oe fs))(hf:gU fs f=some d)(hb:attributeBase a f X.env (eval a X.env)=eval a X.env:=by rfl):VE X (.Attribute a f pos) δ d:=
 .of (yt c7 hb) λB0 B σ H0 H Q fr q=>h B0 B σ H0 H _ fr λv H1 dO g r=>by
  obtain⟨p,C,dx,ws,rfl,hp,cl,nn,ke,rs⟩:=r.K7;obtain⟨u,h1,h2,h3⟩:=K8 ke rs f d hf;exact⟨p,C,dx,ws,u,rfl,g.sub _ _ hp,cl,nn f h2,h1,q u H1 dO g h3⟩
theorem fE(hr:e8 k X.A)(h1:VE X a δ (cF kvs))(h2:VE X b δ (.str x))(hx:gU kvs x=some d)(hs:Kn b:=by intro _ _;rfl):VE X (.Subscript a b pos) δ d:=
 .of (GZ (M6 hr) c7 c7 hs) λB0 B σ H0 H Q fr q=>h1 B0 B σ H0 H _ fr λv H1 dO g r=>h2 B0 B σ H1 dO _ (fr.grow g) λu H2 jb g2 r2=>by
  obtain⟨p,ws,rfl,hp,ke,rs⟩:=r.kL;cases r2;have o:=uq ke rs x;rw[hx]at o;obtain⟨w,hw,qk⟩:=o.some_of;refine⟨p,w,rfl,?_,q w H2 jb (g.trans g2) (qk.mono g2.fG)⟩
  rw[<-hw];exact rX.k (k:=.inr x) (g2.sub _ _ (g2.fG _ _ hp))
theorem FN(hr:e8 k X.A)(h2:VE X b δ (.str x))(h1:VE X a δ (cF kvs))(hm:behindInMarks .In a=false:=by with_unfolding_all rfl):VE X (.Compare b [.In] [a] pos) δ (.bool (gU kvs x).isSome):=
 .of (Fj (Ko (M6 hr) c7 c7) hm) λB0 B σ H0 H Q fr q=>h2 B0 B σ H0 H _ fr λu H1 dO g r2=>h1 B0 B σ H1 dO _ (fr.grow g) λv H2 jb g2 r=>by
  obtain⟨p,ws,rfl,hp,ke,rs⟩:=r.kL;cases r2;refine⟨p,jQ ws (.inr x),rfl,rX.k (k:=.inr x) (g2.sub _ _ hp),q _ H2 jb (g.trans g2) ?_⟩
  rw[(uq ke rs x).isSome];exact .bl _
theorem IQ(hr:e8 k X.A)(h2:VE X b δ (.str x))(h1:VE X a δ (cF kvs))(hm:behindInMarks .NotIn a=false:=by with_unfolding_all rfl):VE X (.Compare b [.NotIn] [a] pos) δ (.bool (!(gU kvs x).isSome)):=
 .of (Fj (IB (M6 hr) c7 c7) hm) λB0 B σ H0 H Q fr q=>h2 B0 B σ H0 H _ fr λu H1 dO g r2=>h1 B0 B σ H1 dO _ (fr.grow g) λv H2 jb g2 r=>by
  obtain⟨p,ws,rfl,hp,ke,rs⟩:=r.kL;cases r2;refine⟨p,jQ ws (.inr x),rfl,rX.k (k:=.inr x) (g2.sub _ _ hp),q _ H2 jb (g.trans g2) ?_⟩
  rw[(uq ke rs x).isSome];exact .bl _
theorem Og{x1}(hr:e8 k X.A)(h1:VE X a δ (.str x))(h2:VE X b δ (.str y))(h3:VE X c δ (K4 tvs))(hm:behindInMarks .In c=false:=by with_unfolding_all rfl)
  (hs:starEach [a,b] X.env=(false,eval a X.env)::starEach [b] X.env:=by rfl)(pA:starEach [b] X.env=(false,eval b X.env)::starEach [] X.env:=by rfl):VE X (.Compare (.Tuple [a,b] x1 tp) [.In] [c] pos) δ (.bool (gU tvs (x,y)).isSome):=
 .of (Fj (Ko (M6 hr) (yv (du c7 (du c7 fF pA) hs)) c7) hm) λB0 B σ H0 H Q fr q=>h1 B0 B σ H0 H _ fr λv H1 dO g r1=>h2 B0 B σ H1 dO _ (fr.grow g) λu H2 jb g2 r2=>by
  cases r1;cases r2;refine⟨by show 2<=sizeLine;rw[dA];decide,λt ht=>?_⟩
  have g3:=(g.trans g2).trans (eB.loose (o:=HO.tup [.str x,.str y]) g2.sub ht);refine h3 B0 B σ H2 _ _ (fr.grow g3) λv H4 ZL g4 r=>?_
  obtain⟨p,ws,rfl,hp,ke,rs⟩:=r.K5;refine⟨p,jQ ws (wg (x,y)),rfl,rX.t (k:=wg (x,y)) (g4.sub _ _ hp) (g4.big _ _ bq),q _ H4 ZL (g3.trans g4) ?_⟩
  rw[(K6 ke rs (x,y)).isSome];exact .bl _
end
section
variable{prog:bK}{w:cB}{A:dQ}{E:aE->aM->Prop}{s:aM}
theorem Wc:(dw l==iZ)=false:=rfl
theorem FP(hit:s.heap.IsTupleIter it l i)(hl:s.heap.IsTuple l items)(hx:items[i]?=some x)
  (hQ:∀h',h'.IsTupleIter it l (i+1)->iU it s.heap h'->Q x { s with heap:=h' }):wpAny (model prog w) A (df (.ref it)) Q E s:=by
 obtain⟨o,ho,hc,hd⟩:=id hit;obtain⟨ol,IU,K9,nl,JX⟩:=hl;unfold df;refine aA (jN (name:=oA "__next__") hit.typeIs kI (k6 kI hit.typeIs Dj ?_ (BJ _)))
 show wpAny _ _ (field (.ref it) 0 >>= _) _ _ s;refine aA (fS ho hd (x:=.ref l) rfl ?_)
 show wpAny _ _ (if(dw l==iZ)=true then _ else _) _ _ s
 rw[qQ2 (by rw[Wc];decide)]
 show wpAny _ _ (field (.ref it) 1 >>= _) _ _ s;refine aA (fS ho hd (x:=.int i 0) rfl ?_)
 show wpAny _ _ (seqItems? (.ref l) >>= _) _ _ s;refine aA (iS IU JX ?_)
 simp only[fu,hx];refine aA (wpAny_setField ho hd (by simp) (bj ⟨x,rfl,bj (hQ _ ?_ (Ah ..))⟩))
 refine⟨_,Fd _ ho (Obj.isFreed_of_fields (Obj.data_mapFields hd _)),(Obj.cls_mapFields ..).trans hc,?_⟩
 rw[Obj.data_mapFields hd];simp[rawInt]
theorem IV(hh:A.handled=none)(hit:s.heap.IsTupleIter it l i)(hl:s.heap.IsTuple l items)(hx:items[i]?=none)
  (hE:∀h' e,dg.ExtBut it s.heap h'->(∃o,h'.get? e=some o/\o.cls=.type "StopIteration")->E (.ref e) { s with heap:=h' }):wpAny (model prog w) A (df (.ref it)) Q E s:=by
 obtain⟨o,ho,hc,hd⟩:=id hit;obtain⟨ol,IU,K9,nl,JX⟩:=hl;unfold df;refine aA (jN (name:=oA "__next__") hit.typeIs kI (k6 kI hit.typeIs Dj ?_ (BJ _)))
 show wpAny _ _ (field (.ref it) 0 >>= _) _ _ s;refine aA (fS ho hd (x:=.ref l) rfl ?_)
 show wpAny _ _ (if(dw l==iZ)=true then _ else _) _ _ s
 rw[qQ2 (by rw[Wc];decide)]
 show wpAny _ _ (field (.ref it) 1 >>= _) _ _ s;refine aA (fS ho hd (x:=.int i 0) rfl ?_)
 show wpAny _ _ (seqItems? (.ref l) >>= _) _ _ s;refine aA (iS IU JX ?_)
 simp only[fu,hx];refine aA (uf (aA (wpAny_setField ho hd (by simp) ?_)))
 show wpAny _ _ (newExc (.type "StopIteration") [] >>= _) _ _ _;refine aA ?_
 simp only[newExc,newTuple];refine aA (eV ?_ (by size_fits))
 refine aA (m:=firstArgMember _ _) (wpAny_of_eq (a:=iZ) (by first|rfl|(simp only[firstArgMember];rfl)) ?_)
 refine eV ?_ (by size_fits)
 simp only[raiseNew];refine aA (wpAny_handled ?_)
 first|rw[show A.in1.handled=none from hh]|rw[hh]
 refine aA (bj (wpAny_throw ?_))
 exact hE _ _ (((Ah ..).extBut.push _).push _) ⟨_,bA _ rfl,rfl⟩
end
inductive FQ where|lst|tup
variable{k k1 k2:FQ}
def pM(k:FQ)(h:dg)(l:aR)(xs:Array aE):Prop:=match k with | .lst=>h.IsList l xs | .tup=>h.IsTuple l xs
def ur(k:FQ)(h:dg)(i l:aR)(n:Nat):Prop:=match k with | .lst=>h.IsListIter i l n | .tup=>h.IsTupleIter i l n
theorem ur.at{h': dg}{i: aR}{n:Nat}(x:ur k h i l n)(e:∀o,h.get? i=some o->h'.get? i=some o):ur k h' i l n:=by
 cases k with
 |lst=>obtain⟨o,a,r⟩:=(show h.IsListIter i l n from x);exact(⟨o,e o a,r⟩:h'.IsListIter i l n)
 |tup=>obtain⟨o,a,r⟩:=(show h.IsTupleIter i l n from x);exact(⟨o,e o a,r⟩:h'.IsTupleIter i l n)
theorem pM.at{h': dg}(x:pM k h l xs)(e:∀o,h.get? l=some o->h'.get? l=some o):pM k h' l xs:=by
 cases k with
 |lst=>obtain⟨o,a,r⟩:=(show h.IsList l xs from x);exact(⟨o,e o a,r⟩:h'.IsList l xs)
 |tup=>obtain⟨o,a,r⟩:=(show h.IsTuple l xs from x);exact(⟨o,e o a,r⟩:h'.IsTuple l xs)
theorem ur.get{i: aR}{n:Nat}(x:ur k h i l n):∃o,h.get? i=some o/\∀v,o.data≠.cell v:=by
 cases k with
 |lst=>obtain⟨o,a,_,d⟩:=(show h.IsListIter i l n from x);exact⟨o,a,λv z=>by rw[d]at z;cases z⟩
 |tup=>obtain⟨o,a,_,d⟩:=(show h.IsTupleIter i l n from x);exact⟨o,a,λv z=>by rw[d]at z;cases z⟩
theorem pM.get(x:pM k h l xs):∃o,h.get? l=some o:=by
 cases k with
 |lst=>obtain⟨o,a,_⟩:=(show h.IsList l xs from x);exact⟨o,a⟩
 |tup=>obtain⟨o,a,_⟩:=(show h.IsTuple l xs from x);exact⟨o,a⟩
section
variable{prog:bK}{w:cB}{A:dQ}{E:aE->aM->Prop}{s:aM}
theorem next_item(hit:ur k s.heap it l i)(hl:pM k s.heap l items)(hx:items[i]?=some x)
  (hQ:∀h',ur k h' it l (i+1)->iU it s.heap h'->Q x { s with heap:=h' }):wpAny (model prog w) A (df (.ref it)) Q E s:=by
 cases k with
 |lst=>exact wpAny_nextOf_list_item hit hl hx hQ
 |tup=>exact FP hit hl hx hQ
theorem next_end(hh:A.handled=none)(hit:ur k s.heap it l i)(hl:pM k s.heap l items)(hx:items[i]?=none)
  (hE:∀h' e,dg.ExtBut it s.heap h'->(∃o,h'.get? e=some o/\o.cls=.type "StopIteration")->E (.ref e) { s with heap:=h' }):wpAny (model prog w) A (df (.ref it)) Q E s:=by
 cases k with
 |lst=>exact wpAny_nextOf_list_end hh hit hl hx hE
 |tup=>exact IV hh hit hl hx hE
structure Zp(k1 k2:FQ)(h:dg)(z TI TO i1 i2 l1 l2:aR)(f0:aE)(a b:aE)(n1 n2:Nat)(xs ys:Array aE):Prop where
 hz:Dl h z TI TO f0
 hTI:rK h TI (.ref i1) (.ref i2)
 hTO:rK h TO a b
 h1:ur k1 h i1 l1 n1
 h2:ur k2 h i2 l2 n2
 s1:pM k1 h l1 xs
 s2:pM k2 h l2 ys
theorem IW{z TI TO i1 i2: aR}{n1 n2:Nat}{y a b: aE}{Q:Option aE->aM->Prop}(D:ZipApart z TI TO i1 i2 l1 l2)(Z:Zp k1 k2 s.heap z TI TO i1 i2 l1 l2 .none a b n1 n2 xs ys)(hx:xs[n1]?=some x)(hy:ys[n2]?=some y)
  (hQ:∀h',Zp k1 k2 h' z TI TO i1 i2 l1 l2 (rawInt s.heap.objs.size) x y (n1+1) (n2+1) xs ys->rK h' s.heap.objs.size x y->(∀c o,c≠z->c≠TO->c≠i1->c≠i2->s.heap.get? c=some o->h'.get? c=some o)->Q (some (.ref s.heap.objs.size)) { s with heap:=h' }):
  wpAny (model prog w) A (pyNext (.ref z)) Q E s:=by
 obtain⟨hz,hTI,hTO,h1,h2,s1,s2⟩:=Z;have hT:s.TypeIs (.ref z) "zip":=⟨_,hz,rfl⟩;unfold pyNext;refine aA (wpAny_attempt (jN (name:=oA "__next__") hT tU (k6 tU hT F.entry_zip_next ?_ (F.args_zip_next_1 _))))
 show wpAny _ _ (field (.ref z) 2 >>= _) _ _ _;refine aA (fS hz rfl (x:=.bool false) rfl ?_)
 show wpAny _ _ (field (.ref z) 3 >>= _) _ _ _;refine aA (fS hz rfl (x:=.ref TI) rfl (aA (iS hTI rfl ?_)))
 show wpAny _ _ (gq (.ref z) >>= _) _ _ _;refine aA ?_
 unfold gq;refine aA (fS hz rfl (x:=.none) rfl (bj ?_))
 simp only[if_true];refine aA (uf (aA (fS hz rfl (x:=.ref TO) rfl (aA (j8 hz (by simp) λha Qs sa=>?_)))))
 replace Qs:Dl ha z TI TO .ellipsis:=Qs
 refine aA ?_
 simp only[xU,List.zipIdx_nil,zY,List.forIn_nil];refine aA (aA (xV ?_))
 show wpAny _ _ (df (.ref i1) >>= _) _ _ _;refine aA (next_item (h1.at λo e=>sa.extBut _ o D.i1z e) (s1.at λo e=>sa.extBut _ o D.l1z e) hx λhb h1b sb=>bj ?_)
 have tb:rK hb TO a b:=sb.extBut _ _ D.TOi1 (sa.extBut _ _ D.TOz hTO);refine aA (iS tb rfl (aA (vU tb λhc tc sc=>?_)))
 replace tc:rK hc TO x b:=tc
 refine aA (wpAny_letGo (bj (aA (aA (xV ?_)))))
 show wpAny _ _ (df (.ref i2) >>= _) _ _ _;refine aA (next_item (h2.at λo e=>sc.extBut _ o D.TOi2.symm (sb.extBut _ o D.i12.symm (sa.extBut _ o D.i2z e))) (s2.at λo e=>sc.extBut _ o D.l2TO (sb.extBut _ o D.l2i1 (sa.extBut _ o D.l2z e))) hy λhd h2d sd=>bj ?_)
 have td:rK hd TO x b:=sd.extBut _ _ D.TOi2 tc;refine aA (iS td rfl (aA (vU td λhe te se=>?_)))
 replace te:rK he TO x y:=te
 refine aA (wpAny_letGo (bj (bj (aA (iS te rfl (aA (wpAny_newTuple ?_)))))))
 have hsz:he.objs.size=s.heap.objs.size:=by rw[se.1,sd.1,sc.1,sb.1,sa.1]
 have kp:∀c o,c≠z->c≠TO->c≠i1->c≠i2->s.heap.get? c=some o->he.get? c=some o:=λc o c1 c2 c3 c4 e=>se.extBut _ _ c2 (sd.extBut _ _ c4 (sc.extBut _ _ c2 (sb.extBut _ _ c3 (sa.extBut _ _ c1 e))))
 have ze:Dl he z TI TO .ellipsis:=se.extBut _ _ D.TOz.symm (sd.extBut _ _ D.i2z.symm (sc.extBut _ _ D.TOz.symm (sb.extBut _ _ D.i1z.symm Qs)));have h1e:ur k1 he i1 l1 (n1+1):=h1b.at λo e=>se.extBut _ o D.TOi1.symm (sd.extBut _ o D.i12 (sc.extBut _ o D.TOi1.symm e))
 have h2e:ur k2 he i2 l2 (n2+1):=h2d.at λo e=>se.extBut _ o D.TOi2.symm e
 show wpAny _ _ (oF (.ref z) (.ref he.objs.size) >>= _) _ _ _;refine aA ?_
 unfold oF;have zf:Dl (he.push { cls:=.type "tuple",data:=.seq #[x,y] }) z TI TO .ellipsis:=aF _ ze;refine aA (j8 zf (by simp) λhg zg sg=>?_)
 replace zg:Dl hg z TI TO (rawInt he.objs.size):=zg
 refine j8 zg (by simp) λhi zi si=>?_
 replace zi:Dl hi z TI TO (rawInt he.objs.size):=zi
 have up:∀c o,c≠z->he.get? c=some o->hi.get? c=some o:=λc o c1 e=>si.extBut _ _ c1 (sg.extBut _ _ c1 (aF _ e))
 have ti:rK hi he.objs.size x y:=si.extBut _ _ (gI (bf ze)) (sg.extBut _ _ (gI (bf ze)) (bA _ rfl));rw[hsz]at zi ti;refine bj ⟨_,rfl,?_⟩
 show wpAny _ _ (pure (some (dw he.objs.size))) _ _ _;rw[hsz];refine bj (hQ hi ⟨zi,up _ _ D.TIz (kp _ _ D.TIz D.TITO D.TIi1 D.TIi2 hTI),up _ _ D.TOz te,h1e.at λo e=>up _ o D.i1z e,h2e.at λo e=>up _ o D.i2z e,s1.at λo e=>up _ o D.l1z (kp _ o D.l1z D.l1TO D.l1i1 D.l1i2 e),s2.at λo e=>up _ o D.l2z (kp _ o D.l2z D.l2TO D.l2i1 D.l2i2 e)⟩ ti λc o c1 c2 c3 c4 e=>up c o c1 (kp c o c1 c2 c3 c4 e))
theorem K_{z TI TO i1 i2: aR}{n1 n2:Nat}{a b:aE}{Q:Option aE->aM->Prop}(hh:A.handled=none)(D:ZipApart z TI TO i1 i2 l1 l2)(Z:Zp k1 k2 s.heap z TI TO i1 i2 l1 l2 .none a b n1 n2 xs ys)(Oh:xs[n1]?=none\/ys[n2]?=none)
  (hQ:∀h',(∀c o,c≠z->c≠TO->c≠i1->c≠i2->s.heap.get? c=some o->h'.get? c=some o)->Q none { s with heap:=h' }):wpAny (model prog w) A (pyNext (.ref z)) Q E s:=by
 obtain⟨hz,hTI,hTO,h1,h2,s1,s2⟩:=Z;have hT:s.TypeIs (.ref z) "zip":=⟨_,hz,rfl⟩;have fin:∀h' e,(∀c o,c≠z->c≠TO->c≠i1->c≠i2->s.heap.get? c=some o->h'.get? c=some o)->(∃o,h'.get? e=some o/\o.cls=.type "StopIteration")->wpAny (model prog w) A (do if <-isInstance (.ref e) (.type "StopIteration")then pure none else throw (.ref e)) Q E { s with heap:=h' }:=by
  intro h' e hk ⟨o,ho,hc⟩;exact aA (wpAny_isInstance (T:="StopIteration") (b:=true) (s:={ s with heap:=h' }) ⟨o,ho,hc⟩ isSubtype_stop (bj (hQ _ hk)))
 unfold pyNext;refine aA (wpAny_attempt (jN (name:=oA "__next__") hT tU (k6 tU hT F.entry_zip_next ?_ (F.args_zip_next_1 _))))
 show wpAny _ _ (field (.ref z) 2 >>= _) _ _ _;refine aA (fS hz rfl (x:=.bool false) rfl ?_)
 show wpAny _ _ (field (.ref z) 3 >>= _) _ _ _;refine aA (fS hz rfl (x:=.ref TI) rfl (aA (iS hTI rfl ?_)))
 show wpAny _ _ (gq (.ref z) >>= _) _ _ _;refine aA ?_
 unfold gq;refine aA (fS hz rfl (x:=.none) rfl (bj ?_))
 simp only[if_true];refine aA (uf (aA (fS hz rfl (x:=.ref TO) rfl (aA (j8 hz (by simp) λha Qs sa=>?_)))))
 replace Qs:Dl ha z TI TO .ellipsis:=Qs
 refine aA ?_
 simp only[xU,List.zipIdx_nil,zY,List.forIn_nil];refine aA (aA (xV ?_))
 show wpAny _ _ (df (.ref i1) >>= _) _ _ _;cases hx:xs[n1]? with
 |none=>
  refine aA (next_end hh (h1.at λo e=>sa.extBut _ o D.i1z e) (s1.at λo e=>sa.extBut _ o D.l1z e) hx λhb e sb he=>?_)
  obtain⟨oe,SM,Wf⟩:=he;have zb:Dl hb z TI TO .ellipsis:=sb _ _ D.i1z.symm Qs;have ne:e≠z:=λx=>by subst x;rw[zb]at SM;cases SM;simp at Wf
  exact j8 zb (by simp) λhc _ sc=>fin hc e (λc o c1 _ c3 _ x=>sc.extBut _ _ c1 (sb _ _ c3 (sa.extBut _ _ c1 x))) ⟨oe,sc.extBut _ _ ne SM,Wf⟩
 |some x=>
  have hy:ys[n2]?=none:=by
   rcases Oh with h|h
   ·rw[hx]at h;cases h
   ·exact h
  refine aA (next_item (h1.at λo e=>sa.extBut _ o D.i1z e) (s1.at λo e=>sa.extBut _ o D.l1z e) hx λhb h1b sb=>bj ?_)
  have tb:rK hb TO a b:=sb.extBut _ _ D.TOi1 (sa.extBut _ _ D.TOz hTO);refine aA (iS tb rfl (aA (vU tb λhc tc sc=>?_)))
  refine aA (wpAny_letGo (bj (aA (aA (xV ?_)))))
  show wpAny _ _ (df (.ref i2) >>= _) _ _ _;refine aA (next_end hh (h2.at λo e=>sc.extBut _ o D.TOi2.symm (sb.extBut _ o D.i12.symm (sa.extBut _ o D.i2z e))) (s2.at λo e=>sc.extBut _ o D.l2TO (sb.extBut _ o D.l2i1 (sa.extBut _ o D.l2z e))) hy λhd e sd he=>?_)
  obtain⟨oe,SM,Wf⟩:=he;have zd:Dl hd z TI TO .ellipsis:=sd _ _ D.i2z.symm (sc.extBut _ _ D.TOz.symm (sb.extBut _ _ D.i1z.symm Qs));have ne:e≠z:=λx=>by subst x;rw[zd]at SM;cases SM;simp at Wf
  exact j8 zd (by simp) λhg _ sg=>fin hg e (λc o c1 c2 c3 c4 x=>sg.extBut _ _ c1 (sd _ _ c4 (sc.extBut _ _ c2 (sb.extBut _ _ c3 (sa.extBut _ _ c1 x))))) ⟨oe,sg.extBut _ _ ne SM,Wf⟩
def qS(k:FQ)(l:aR):Obj:=match k with | .lst=>{ cls:=.type "list_iterator",data:=.fields #[.ref l,.int 0 0] } | .tup=>{ cls:=.type "tuple_iterator",data:=.fields #[.ref l,.int 0 0] }
theorem Hr(hl:pM k s.heap l xs)(h:Q (.ref s.heap.objs.size) { s with heap:=s.heap.push (qS k l) }):wpAny (model prog w) A (pyIter (.ref l)) Q E s:=by
 cases k with
 |lst=>exact mU hl h
 |tup=>exact yk hl h
def E7(k1 k2:FQ)(h:dg)(l1 l2:aR):dg:=(h.push (qS k1 l1)).push (qS k2 l2)
def ZM(k1 k2:FQ)(h:dg)(l1 l2:aR):dg:=(((E7 k1 k2 h l1 l2).push { cls:=.type "tuple",data:=.seq #[.ref h.objs.size,.ref (h.push (qS k1 l1)).objs.size] }).push { cls:=.type "tuple",data:=.seq #[.none,.none] }).push
 { cls:=.type "zip",data:=.fields #[.none,.bool false,.bool false,.ref (E7 k1 k2 h l1 l2).objs.size,.ref ((E7 k1 k2 h l1 l2).push { cls:=.type "tuple",data:=.seq #[.ref h.objs.size,.ref (h.push (qS k1 l1)).objs.size] }).objs.size] }
theorem pM.push(x:pM k h l xs)(o:Obj):pM k (h.push o) l xs:=x.at λ_ e=>aF _ e
theorem FT(k1 k2:FQ)(l1 l2:aR)(xs ys:Array aE):Meets (rn.«zip.__new__» ⟨[.type "zip",.ref l1,.ref l2],[]⟩) (λ_ R s=>pM k1 s.heap l1 xs/\pM k2 s.heap l2 ys/\
  R (.ok (.ret (.ref (((E7 k1 k2 s.heap l1 l2).push { cls:=.type "tuple",data:=.seq #[.ref s.heap.objs.size,.ref (s.heap.push (qS k1 l1)).objs.size] }).push { cls:=.type "tuple",data:=.seq #[.none,.none] }).objs.size))) { s with heap:=ZM k1 k2 s.heap l1 l2 }):=
 .of_wp λprog w A R s h=>by
  obtain⟨hp,g,d,tk,os⟩:=s;obtain⟨M7,Qm,h⟩:=h;have Am:=sub_zip;have a1:pM k1 (aM.heap ⟨hp,g,d,tk,os⟩) l1 xs:=M7;have a2:pM k2 (aM.heap ⟨hp.push (qS k1 l1),g,d,tk,os⟩) l2 ys:=Qm.push _
  wp_walk using Hr a1,Hr a2
  exact⟨_,rfl,h⟩
theorem DX{i: aR}(e:h.get? i=some (qS k l)):ur k h i l 0:=by
 cases k with
 |lst=>exact(⟨_,e,rfl,rfl⟩:h.IsListIter i l 0)
 |tup=>exact(⟨_,e,rfl,rfl⟩:h.IsTupleIter i l 0)
theorem yS(k:FQ)(l:aR):(qS k l).isFreed=false:=by cases k<;>rfl
theorem IX(M7:pM k1 s.heap l1 xs)(Qm:pM k2 s.heap l2 ys)
  (h:∀h',Zp k1 k2 h' (s.heap.objs.size+4) (s.heap.objs.size+2) (s.heap.objs.size+3) s.heap.objs.size (s.heap.objs.size+1) l1 l2 .none .none .none 0 0 xs ys->(∀c o,s.heap.get? c=some o->h'.get? c=some o)->Q (.ref (s.heap.objs.size+4)) { s with heap:=h' }):
  wpAny (model prog w) A (call (.type "zip") [.ref l1,.ref l2]) Q E s:=by
 refine callType_new F.called_zip (by decide) (F.typeCall_zip_2 _ _) (F.newCall_zip_2 _ _) (λobj=>F.args_object_init_3 obj _ _) F.entry_zip_new (FT k1 k2 l1 l2 xs ys) ⟨M7,Qm,?_⟩
 have z1:(s.heap.push (qS k1 l1)).objs.size=s.heap.objs.size+1:=iA ..;have z2:(E7 k1 k2 s.heap l1 l2).objs.size=s.heap.objs.size+2:=by unfold E7;rw[iA,z1]
 generalize hT:({ cls:=.type "tuple",data:=.seq #[.ref s.heap.objs.size,.ref (s.heap.push (qS k1 l1)).objs.size] }:Obj)=tI
 generalize ZN:({ cls:=.type "tuple",data:=.seq #[.none,.none] }:Obj)=tO
 have z3:((E7 k1 k2 s.heap l1 l2).push tI).objs.size=s.heap.objs.size+3:=by rw[iA,z2]
 have z4:(((E7 k1 k2 s.heap l1 l2).push tI).push tO).objs.size=s.heap.objs.size+4:=by rw[iA,z3]
 have fI:tI.isFreed=false:=by rw[<-hT];rfl
 have fO:tO.isFreed=false:=by rw[<-ZN];rfl
 have eq:ZM k1 k2 s.heap l1 l2=(((E7 k1 k2 s.heap l1 l2).push tI).push tO).push { cls:=.type "zip",data:=.fields #[.none,.bool false,.bool false,.ref (s.heap.objs.size+2),.ref (s.heap.objs.size+3)] }:=by
  unfold ZM;rw[hT,ZN,z2,z3]
 rw[eq,z4];have g5:((((E7 k1 k2 s.heap l1 l2).push tI).push tO).push { cls:=.type "zip",data:=.fields #[.none,.bool false,.bool false,.ref (s.heap.objs.size+2),.ref (s.heap.objs.size+3)] }).get? (s.heap.objs.size+4)=some { cls:=.type "zip",data:=.fields #[.none,.bool false,.bool false,.ref (s.heap.objs.size+2),.ref (s.heap.objs.size+3)] }:=by
  rw[<-z4];exact bA _ rfl
 have up3:∀c o,((E7 k1 k2 s.heap l1 l2).push tI).get? c=some o->((((E7 k1 k2 s.heap l1 l2).push tI).push tO).push { cls:=.type "zip",data:=.fields #[.none,.bool false,.bool false,.ref (s.heap.objs.size+2),.ref (s.heap.objs.size+3)] }).get? c=some o:=λc o e=>aF _ (aF _ e)
 have Wh:∀c o,(E7 k1 k2 s.heap l1 l2).get? c=some o->_:=λc o e=>up3 c o (aF _ e)
 have ZO:∀c o,s.heap.get? c=some o->(E7 k1 k2 s.heap l1 l2).get? c=some o:=λc o e=>aF _ (aF _ e)
 refine⟨⟨_,g5,rfl⟩,h _ ⟨g5,?_,?_,?_,?_,?_,?_⟩ λc o e=>Wh c o (ZO c o e)⟩
 ·refine up3 _ _ ?_
  rw[<-z2];have:=bA (E7 k1 k2 s.heap l1 l2) fI;rw[this,<-hT,z1]
 ·refine aF _ ?_
  rw[<-z3];have:=bA ((E7 k1 k2 s.heap l1 l2).push tI) fO;rw[this,<-ZN]
 ·exact DX (Wh _ _ (aF _ (bA _ (yS k1 l1))))
 ·refine DX (Wh _ _ ?_)
  have:=bA (s.heap.push (qS k1 l1)) (yS k2 l2);rw[z1]at this;exact this
 ·exact M7.at λo e=>Wh _ o (ZO _ o e)
 ·exact Qm.at λo e=>Wh _ o (ZO _ o e)
end
def Hs(k:FQ)(K:au)(H:Hp)(a:aR)(xs:List V):Prop:=match k with | .lst=>kW K H a xs | .tup=>oH K H a xs
theorem Inv.sq{σ:St}{xs:List V}(I:Inv X pins σ H s)(h:Hs k X.K H a xs):∃its,dX xs its/\pM k s.heap a its.toArray/\xs.length<=sizeLine:=by
 cases k with
 |lst=>obtain⟨its,r,p,z⟩:=I.list h;exact⟨its,r,p.isList,z⟩
 |tup=>obtain⟨its,r,p,z⟩:=I.tuple h;exact⟨its,r,(show s.heap.IsTuple a its.toArray from p),z⟩
theorem Inv.La{σ:St}{xs ys:List V}(I:Inv X pins σ H s)(h:Hs k X.K H a xs)(h':Hs k X.K H a ys):xs=ys:=by
 cases k with
 |lst=>exact I.yo h h'
 |tup=>exact I.AZ h h'
theorem dv.Qt{H': Hp}{xs:List V}(e:dv H H')(h:Hs k K H a xs):Hs k K H' a xs:=by
 cases k with
 |lst=>exact e.seq h
 |tup=>exact e.oY h
def Itz(k1 k2:FQ)(K:au)(a b:aR):It:=
 ⟨λi H=>∃xs x ys y,Hs k1 K H a xs/\xs[i]?=some x/\Hs k2 K H b ys/\ys[i]?=some y,
  λi H v H'=>∃t x y,v=.ref t/\H t=none/\H'=upd H t (.tup [x,y])/\(∀xs,Hs k1 K H a xs->xs[i]?=some x)/\∀ys,Hs k2 K H b ys->ys[i]?=some y,
  λi H=>∃xs ys,Hs k1 K H a xs/\Hs k2 K H b ys/\(xs.length<=i\/ys.length<=i)⟩
theorem Lb{P:bK}{w:cB}{kk}{z TI TO i1 i2: aR}(D:ZipApart z TI TO i1 i2 l1 l2):
  Turn P w K (.Tuple elts kk tp) (Itz k1 k2 K l1 l2) [z,TI,TO,i1,i2] z (λi h=>Dl h z TI TO .none/\rK h TI (.ref i1) (.ref i2)/\(∃a b,rK h TO a b)/\ur k1 h i1 l1 i/\ur k2 h i2 l2 i) where
 mem:=by simp
 obj:=λi h st b hb=>by
  obtain⟨hz,hTI,⟨a,c,hTO⟩,h1,h2⟩:=st;simp only[aG,bu,or_false]at hb;rcases hb with rfl|rfl|rfl|rfl|rfl
  ·exact⟨_,hz,λv z=>by cases z⟩
  ·exact⟨_,hTI,λv z=>by cases z⟩
  ·exact⟨_,hTO,λv z=>by cases z⟩
  ·exact h1.get
  ·exact h2.get
 keep:=λi h h' st kp=>by
  obtain⟨hz,hTI,⟨a,c,hTO⟩,h1,h2⟩:=st;exact⟨kp z (by simp) _ hz,kp TI (by simp) _ hTI,⟨a,c,kp TO (by simp) _ hTO⟩,h1.at λo e=>kp i1 (by simp) o e,h2.at λo e=>kp i2 (by simp) o e⟩
 item:=by
  intro X hP hw hK hc i pins s σ H E I hf st hg;subst hP hw hK;obtain⟨hz,hTI,⟨a,c,hTO⟩,h1,h2⟩:=st;obtain⟨xs,x,ys,y,Lc,hx,FG,hy⟩:=hg;obtain⟨its,rv,p1,_⟩:=I.sq Lc;obtain⟨jts,M8,p2,_⟩:=I.sq FG;obtain⟨u,hu,ru⟩:=rv.get hx;obtain⟨u2,hu2,SN⟩:=M8.get hy;refine IW D ⟨hz,hTI,hTO,h1,h2,p1,p2⟩ (x:=u) (y:=u2) (by simpa using hu) (by simpa using hu2) λha Z ht hk=>?_
  obtain⟨az,aTI,aTO,a1,a2,_,_⟩:=Z;refine⟨.ref s.heap.objs.size,rfl,wpAny_letOwnedTupleGo_zip az λhb bz sb=>?_⟩
  have zlt:z<s.heap.objs.size:=bf hz;have k2:∀b o,b∉[z,TI,TO,i1,i2]->s.heap.get? b=some o->hb.get? b=some o:=λb o nb q=>by
   have n1:b≠z:=λe=>nb (by simp[e])
   have n2:b≠TO:=λe=>nb (by simp[e])
   have n3:b≠i1:=λe=>nb (by simp[e])
   have n4:b≠i2:=λe=>nb (by simp[e])
   exact(sb.2 b n1).trans (hk b o n1 n2 n3 n4 q)
  have I2:Inv X pins σ H { s with heap:=hb,toks:=s.toks }:=I.x5 k2 hf
  have Zu:rK hb s.heap.objs.size u u2:=(sb.2 _ (gI zlt)).trans ht;have fT:uW X pins H s.heap.objs.size:=I.yp (ay _) I.fresh;have I3:Inv X pins σ (upd H s.heap.objs.size (.tup [x,y])) { s with heap:=hb,toks:=s.toks }:=
   I2.track fT ⟨by show 2<=sizeLine;rw[dA];decide,[u,u2],.cons ru (.cons SN .nil),⟨_,Zu,rfl,_,rfl⟩⟩
  have up:∀b o,b≠z->ha.get? b=some o->hb.get? b=some o:=λb o nb q=>(sb.2 b nb).trans q
  refine⟨.ref s.heap.objs.size,_,I3,rfl,⟨_,x,y,rfl,I.fresh,rfl,λzs ZP=>by rw[I.La ZP Lc];exact hx,λzs ZP=>by rw[I.La ZP FG];exact hy⟩,⟨bz,up _ _ D.TIz aTI,⟨_,_,up _ _ D.TOz aTO⟩,a1.at λo q=>up _ o D.i1z q,a2.at λo q=>up _ o D.i2z q⟩,λb Wi=>?_⟩
  have nR:b<s.heap.objs.size:=by
   simp only[aG,bu,or_false]at Wi;rcases Wi with rfl|rfl|rfl|rfl|rfl
   ·exact zlt
   ·exact bf hTI
   ·exact bf hTO
   ·obtain⟨o,q,_⟩:=h1.get;exact bf q
   ·obtain⟨o,q,_⟩:=h2.get;exact bf q
  rw[aP (a9 nR)];exact(hf b Wi).1
 done:=by
  intro X hP hw hK hc i pins s σ H E I hf st hg;subst hP hw hK;obtain⟨hz,hTI,⟨a,c,hTO⟩,h1,h2⟩:=st;obtain⟨xs,ys,Lc,FG,hx⟩:=hg;obtain⟨its,rv,p1,_⟩:=I.sq Lc;obtain⟨jts,M8,p2,_⟩:=I.sq FG;have e1:=rv.length;have e2:=M8.length;refine K_ (I.ok.hd hc) D ⟨hz,hTI,hTO,h1,h2,p1,p2⟩ ?_ λh' hk=>⟨rfl,I.x5 (ch:=[z,TI,TO,i1,i2]) (t':=s.toks) (λb o hb q=>hk b o (λe=>hb (by simp[e])) (λe=>hb (by simp[e])) (λe=>hb (by simp[e])) (λe=>hb (by simp[e])) q) hf⟩
  rcases hx with hx|hx
  ·left;simp;omega
  ·right;simp;omega
 self:=λ_ _ _ _ _ st h=>wpAny_pyIter_zip st.1 h
def ZQ(k1 k2:FQ)(K:au)(ta:TA):TI:=λσ H R=>ta σ H λvs H1=>∃a b,vs=[.ref a,.ref b]/\(∃xs,Hs k1 K H1 a xs)/\(∃ys,Hs k2 K H1 b ys)/\R (Itz k1 k2 K a b) H1
theorem boot_zip:bootBuiltins "zip"=some (.type "zip"):=rfl
theorem SQ{a b:bZ}{ta:TA}{p pos: Pos}{kk}(k1 k2:FQ)(hg:Gl X "zip")(hm:X.mg "zip"=none)(ha:PA X [a,b] ta)(hs:starEach [a,b] X.env=[(false,eval a X.env),(false,eval b X.env)]:=by rfl)(pA:starEach [b] X.env=[(false,eval b X.env)]:=by rfl):
  PI X (.Tuple elts kk tp) (.Call (.Name "zip" p) [a,b] [] pos) (ZQ k1 k2 X.K ta):=by
 intro pins s σ H R I h;refine Call_ (vW I hg hm boot_zip (jx (gK (ha pos pins s σ H _ I h) λus s1 ⟨vs,H1,I1,r1,q1⟩=>?_) (by rw[hs,pA]) (by rw[pA];rfl)))
 obtain⟨l1,l2,e,⟨xs,Lc⟩,⟨ys,FG⟩,q⟩:=q1;subst e;obtain⟨u,u2,rfl,rx,rx2⟩:=vals2 r1;cases rx;cases rx2;obtain⟨its,rv,p1,_⟩:=I1.sq Lc;obtain⟨jts,M8,p2,_⟩:=I1.sq FG;obtain⟨o1,e1⟩:=p1.get;obtain⟨o2,e2⟩:=p2.get;have Ya:=bf e1;have Yb:=bf e2;refine IX p1 p2 λh' Z hk=>wpAny_pyIter_zip Z.hz ?_
 have I2:Inv X pins σ H1 { s1 with heap:=h' }:=I1.kept (t':=s1.toks) hk
 have D:ZipApart (s1.heap.objs.size+4) (s1.heap.objs.size+2) (s1.heap.objs.size+3) s1.heap.objs.size (s1.heap.objs.size+1) l1 l2:=by
  constructor
  ·exact a9 (jt (by decide) _)
  ·exact a9 (jt (by decide) _)
  ·exact a9 (qX (by decide))
  ·exact a9 (jt (by decide) _)
  ·exact a9 (jt (by decide) _)
  ·exact gI (qX (by decide))
  ·exact gI (jt (by decide) _)
  ·exact gI (qX (by decide))
  ·exact gI (jt (by decide) _)
  ·exact a9 (kF _)
  ·exact a9 (bY Ya (fc _ _))
  ·exact a9 (bY Ya (fc _ _))
  ·exact a9 Ya
  ·exact a9 (bY Ya (fc _ _))
  ·exact a9 (bY Yb (fc _ _))
  ·exact a9 (bY Yb (fc _ _))
  ·exact a9 Yb
  ·exact a9 (bY Yb (fc _ _))
 refine⟨_,[s1.heap.objs.size+4,s1.heap.objs.size+2,s1.heap.objs.size+3,s1.heap.objs.size,s1.heap.objs.size+1],_,_,H1,rfl,I2,Lb D,⟨Z.hz,Z.hTI,⟨_,_,Z.hTO⟩,Z.h1,Z.h2⟩,λb hb=>?_,q⟩
 have hle:s1.heap.objs.size<=b:=by
  simp only[aG,bu,or_false]at hb;rcases hb with rfl|rfl|rfl|rfl|rfl
  ·exact fc _ _
  ·exact fc _ _
  ·exact fc _ _
  ·exact ay _
  ·exact fc _ _
 exact I1.yp hle (I1.hok.fresh hle)
def xI(ds es:List aj):List aj:=(ds.zip es).map λp=>.tuple [p.1,p.2]
theorem sr(ds es:List aj):(xI ds es).length=min ds.length es.length:=by simp[xI]
theorem DY{es: List aj}{d:aj}(h:(xI ds es)[i]?=some d):∃x y,ds[i]?=some x/\es[i]?=some y/\d=.tuple [x,y]:=by
 unfold xI at h;rw[aI]at h;cases e:(ds.zip es)[i]? with
 |none=>rw[e]at h;cases h
 |some p=>
  rw[e]at h;cases h;rw[List.getElem?_zip_eq_some]at e
  exact⟨_,_,e.1,e.2,rfl⟩
def SR(k:FQ)(ds:List aj):aj:=match k with | .lst=>.list ds | .tup=>.tuple ds
theorem Rep.Qt{v:V}(r:Rep K H v (SR k ds)):∃a xs,v=.ref a/\Hs k K H a xs/\cy K H xs ds:=by
 cases k with
 |lst=>cases(show Rep K H v (.list ds)from r)with|lst h t=>exact⟨_,_,rfl,h,t⟩
 |tup=>cases(show Rep K H v (.tuple ds)from r)with|tup h t=>exact⟨_,_,rfl,h,t⟩
theorem Cb{a b:bZ}{δ:List Slot}{es: List aj}{p pos: Pos}{kk}(k1 k2:FQ)(h1:VE X a δ (SR k1 ds))(h2:VE X b δ (SR k2 es))(hm:X.mg "zip"=none)(hg:Gl X "zip":=by rfl)(hs:starEach [a,b] X.env=(false,eval a X.env)::starEach [b] X.env:=by rfl)(pA:starEach [b] X.env=(false,eval b X.env)::starEach [] X.env:=by rfl)(hn:starEach [] X.env=[]:=by rfl):
  VI X (.Tuple elts kk tp) (.Call (.Name "zip" p) [a,b] [] pos) δ (xI ds es):=
 ⟨_,SQ k1 k2 hg hm (du c7 (du c7 fF pA) hs) (by rw[hs,pA,hn]) (by rw[pA,hn]),λB0 B σ H0 H R f q=>h1 B0 B σ H0 H _ f λv H1 dO g r1=>h2 B0 B σ H1 dO _ (f.grow g) λu H2 jb g2 r2=>by
  obtain⟨a1,xs,rfl,Lc,SV⟩:=r1.Qt;obtain⟨a2,ys,rfl,FG,Qu⟩:=r2.Qt;have SV:=SV.mono g2.fG;have Lc:=g2.fG.Qt Lc;refine⟨a1,a2,rfl,⟨_,g2.sub.Qt Lc⟩,⟨_,g2.sub.Qt FG⟩,q _ H2 jb (g.trans g2) λHa Hb s1 s2 i=>?_⟩
  have l1:=SV.length;have l2:=Qu.length;have Up:=(s1.trans s2).Qt Lc;have ZR:=(s1.trans s2).Qt FG;refine⟨λhi=>?_,λhi=>⟨_,_,Up,ZR,by rw[sr]at hi;omega⟩,λx wX d hd ⟨t,x1,y1,e1,e2,e3,e4,e5⟩=>?_⟩
  ·rw[sr]at hi
   obtain⟨x,hx,_⟩:=SV.get (i:=i) (d:=ds[i]'(by omega)) (by simp)
   obtain⟨y,hy,_⟩:=Qu.get (i:=i) (d:=es[i]'(by omega)) (by simp)
   exact⟨_,x,_,y,Up,hx,ZR,hy⟩
  ·obtain⟨dx,dy,hx,hy,rfl⟩:=DY hd
   subst e1;subst e3;refine⟨upd Ha t (.tup [x1,y1]),.laid s2 e2,.tup (oH.of bq) (.cons ?_ (.cons ?_ .nil))⟩
   ·exact((SV.mono s1).at hx (e4 _ Up)).mono (eB.laid s2 e2).fG
   ·exact((Qu.mono s1).at hy (e5 _ ZR)).mono (eB.laid s2 e2).fG⟩
end L2
namespace L2
open PySem PySem.Spec PyProof.Rows
open AutoSeq1 (wpAny_loadPart')
theorem IY(l:aR)(items:Array aE)(n:Nat)(dd:Option aR)(sl:Array (Option aE))(x:aE)(e:aE->Bool)(i j:Nat)(t:Tok)(z_:i<=j)(hj:j<items.size)(qA:(j:Int)<2^63-1)
  (hit:e items[j]=true)(E5:∀m (hm:m<items.size),i<=m->m<j->e items[m]=false):
  Meets (rn.«list.index» ⟨[.ref l,x,.int i t],[]⟩)
   (λA R s=>s.heap.get? l=some { cls:=.type "list",dict:=dd,data:=.seq items n,slots:=sl }/\(∀y,y∈items->SeqAt.EqAt A.in1 s y x (e y))/\R (.ok (.ret (.int j s.toks))) { s with toks:=s.toks+1 }):=by
 intro prog w A R s h;obtain⟨hp,g,d,tk,os⟩:=s;obtain⟨hl,he,h⟩:=h
 wp_walk using gx hl
 have a1:((λi:Int=>if i<0 then max 0 (i+(items.size:Int))else i) ((some (i:Int)).getD 0))=((i:Nat):Int):=by
  show(if(i:Int)<0 then max 0 ((i:Int)+(items.size:Int)) else(i:Int))=_
  rw[qQ2 (by omega)]
 have a2:((λi:Int=>if i<0 then max 0 (i+(items.size:Int))else i) ((none:Option Int).getD (2^63-1)))=2^63-1:=by simp
 rw[a1,a2];exact⟨rH rL _,jq PySem.MeetsSeq.entry_index_loop (by
  rw[gG rL _];exact SeqAt.index_loopAt l items n dd sl x e (2^63-1) j hj qA hit _ i rfl z_ E5 prog w A R _ ⟨hl,he,h⟩)⟩
section
variable{X:Cx}{a b c e:bZ}{es:List bZ}{δ:List Slot}{d d1 d2 d3:aj}{ds:List aj}{pos:Pos}{k:Nat}
def Oi(K:au)(n:Nat):V->List V->Hp->VK->Prop:=λx vs H Q=>∃p ds y d i j,x=.ref p/\vs=[y,.int ((i:Nat):Int)]/\Rep K H (.ref p) (.list ds)/\Rep K H y d/\Lay n (.list ds)/\Lay n d/\i<=j/\(∃h:j<ds.length,cI ds[j] d=true)/\
 (∀m (h:m<ds.length),i<=m->m<j->cI ds[m] d=false)/\Q (.int j) H
theorem IZ{n:Nat}(hu:X.A.units+n+2<cLine):Ui X "list.index" (Oi X.K n):=by
 intro pins s σ H x vs v us Q I rx rv h;obtain⟨p,ds,y,d,i,j,rfl,rfl,r1,r2,l1,l2,z_,⟨hj,hit⟩,E5,q⟩:=h;cases rx;obtain⟨u,u2,rfl,ru,SN⟩:=vals2 rv;obtain⟨t2,rfl⟩:=SN;obtain⟨bs,rb⟩:=jh I d l2.1 r2 ru;cases r1 with
 |lst hq rs=>
  obtain⟨its,V7,⟨⟨cls,dd,data,sl⟩,m,eo,ec,_,ed⟩,hz⟩:=I.list hq;simp only at ec ed;subst ec ed;obtain⟨as,ra⟩:=mM I ds l1.1 rs V7;have hl:=V7.length;have Qm:=rs.length;have hm:=SeqAt.readsAll_map ds its as l1.1 ra;have rd:∀i (h1:i<its.length) (h2:i<ds.length),kz s.heap its[i]=ds[i]:=λi h1 h2=>by
   have e1:(its.map (kz s.heap))[i]?=some (kz s.heap its[i]):=by simp[h1]
   rw[hm]at e1;rw[aq h2]at e1;exact(cR e1).symm
  have h1:=l2.2;have hn:=qo;have ZC:sizeLine=16777216:=dA;refine kR F.slot_list_index ⟨_,eo,rfl⟩ F.entry_list_index (F.args_list_index_3 _ _ _) (IY p its.toArray m dd sl u (λy=>cI (kz s.heap y) d) i j t2 z_ (by simp;omega) (by omega) ?_ ?_) ⟨eo,?_,?_⟩
  ·have:=rd j (by omega) hj
   simp only[ng];rw[this];exact hit
  ·intro i' hi ZS ZT
   simp only[bp]at hi;have:=rd i' hi (by omega)
   simp only[ng];rw[this];exact E5 i' (by omega) ZS ZT
  ·exact SeqAt.items_eqAt (by simpa using ra) rb l1.1 l2.1 (by omega)
  ·exact⟨.int j,H,I.tok _,⟨_,rfl⟩,q⟩
theorem I0{i j:Nat}{ap:Pos}(hr:e8 k X.A)(h1:VE X a δ (.list ds))(h2:VE X b δ d)(h3:VE X c δ (.int (i:Nat)))(l1:Lay 20 (.list ds))(l2:Lay 20 d)(z_:i<=j)(hj:∃h:j<ds.length,cI ds[j] d=true)(E5:∀m (h:m<ds.length),i<=m->m<j->cI ds[m] d=false)
  (hs:starEach [b,c] X.env=(false,eval b X.env)::starEach [c] X.env:=by rfl)(pA:starEach [c] X.env=(false,eval c X.env)::starEach [] X.env:=by rfl)(lz:attributeBase a "index" X.env (eval a X.env)=eval a X.env:=by rfl)
  (qw:((backTo pos (starEach [b,c] X.env)).all (λx=>!x.1)&&(backToKw pos (keywordEach [] X.env)).all (λx=>x.1.isSome)&&decide (([b,c]:List bZ).length+([]:List gR).length+(if([]:List gR).isEmpty then 0 else 1)<30))=true:=by rfl)
  (hline:(ap.endLine==pos.line)=true:=by rfl)(jz:(backTo pos (starEach [c] X.env)).any (·.1)=false:=by rfl):VE X (.Call (.Attribute a "index" ap) [b,c] [] pos) δ (.int j):=
 .of (u5 fy AQ AU (IZ (Aq hr)) c7 (du c7 (du c7 fF pA) hs) lz qw hline hs jz) λB0 B σ H0 H Q f q=>h1 B0 B σ H0 H _ f λv H1 dO g r1=>by
  cases r1 with
  |lst hq rs=>
   refine⟨.inl ⟨rfl,_,g.sub.seq hq⟩,h2 B0 B σ H1 dO _ (f.grow g) λu H2 jb g2 r2=>h3 B0 B σ H2 jb _ ((f.grow g).grow g2) λu3 H3 x6 g3 r3=>?_⟩
   cases r3;have gg:=g2.trans g3;exact⟨_,ds,u,d,i,j,rfl,rfl,.lst (gg.sub.seq (gg.fG.seq hq)) (rs.mono (gg.fG.trans gg.sub)),(r2.mono g3.fG).mono g3.sub,l1,l2,z_,hj,E5,q _ H3 x6 (g.trans gg) (.int _)⟩
theorem x9{d1 d2:List aj}(h1:VE X a δ (.tuple d1))(h2:VE X b δ (.tuple d2))(hn:d1≠[])(hz:d1.length+d2.length<=sizeLine):VE X (.BinOp a .Add b pos) δ (.tuple (d1++d2)):=by
 refine .of (GN NK c7 c7) λB0 B σ H0 H Q f q=>h1 B0 B σ H0 H _ f λv H1 dO g1 r1=>h2 B0 B σ H1 dO _ (f.grow g1) λu H2 jb g2 r2=>?_
 cases r1 with
 |tup hq r1=>
  cases r2 with
  |tup FG r2=>
   have gg:=g1.trans g2;have e1:=r1.length;have hx:∀xs:List V,xs.length=d1.length->xs≠[]:=λxs h z=>by rw[z]at h;exact hn (jF h.symm)
   refine⟨_,_,_,_,rfl,rfl,g2.sub.oY (g2.fG.oY hq),g2.sub.oY FG,hx _ e1,by rw[e1,r2.length];exact hz,λhy=>?_,λ_ p hp=>q _ _ _ (gg.trans (.laid g2.sub hp)) (.tup (oH.of bq) (((r1.mono g2.fG).append r2).mono (eB.laid g2.sub hp).fG))⟩
   subst hy;cases r2;rw[eI]at q;exact q _ H2 jb gg (.tup (g2.fG.oY hq) (r1.mono g2.fG))
end
end L2
namespace L2
open PySem PySem.Spec PyProof.Rows
variable{a p q:aR}{H:Hp}{kvs:List (Key×V)}{as:List aR}{xs:List V}{ig:Nat}{pt:Pos}{P:bK}{d:aj}{K:au}{Q:aE->aM->Prop}{w:cB}
def Le(K:au)(b:aR)(ws:List Str):Prop:=∃(o:Obj)(its:Array aE)(n:Nat),K.lookup b=some o/\o.cls=.type "tuple"/\o.data=.seq its n/\its.size<=sizeLine/\dX (ws.map V.str) its.toList
inductive GE(pr:BG)(K:au):List wO->List (Str×List Str)->Prop
 |nil:GE pr K [] []
 |cons {h:Int} {k:Str} {t:Tok} {b:aR} {ws:List Str} {es:List wO} {kvs:List (Str×List Str)}:h=aj.keyHash pr k->Le K b ws->GE pr K es kvs->GE pr K (⟨h,.str k t,.ref b⟩::es) ((k,ws)::kvs)
structure GD(pr:BG)(K:au)(a:aR)(kvs:List (Str×List Str)):Prop where
 nm:(a==sysModules)=false
 nd:(kvs.map (·.1)).Nodup
 ob:∃o es ep,K.lookup a=some o/\o.ExactDict/\o.data=.dict es ep/\GE pr K es.toList kvs
def ky(kvs:List (Str×List Str))(k:Str):Option (List Str):=(kvs.find? λp=>decide (p.1=k)).map (·.2)
theorem GE.pairs{P:bK}{w:cB}{K:au}:∀{es:List wO}{kvs:List (Str×List Str)},GE w.params K es kvs->∃vs:List (Key×aE),Pairs (eZ P w) es vs/\vs.map (·.1)=kvs.map (λp=>(bG p.1:Key))/\
  (∀e∈es,∃k,(eZ P w).is k e.key=true/\e.hash=(eZ P w).hash k)/\∀k,match ky kvs k with|none=>valueAt vs (bG k)=none|some ws=>∃b,valueAt vs (bG k)=some (.ref b)/\Le K b ws
 |_,_,.nil=>⟨[],.nil,rfl,λe h=>by(cases h),λk=>rfl⟩
 |_,_,@GE.cons _ _ hh k t b ws es kvs e kt r=>by
  obtain⟨vs,h1,h2,h3,h4⟩:=GE.pairs (P:=P) r;refine⟨(.inr k,.ref b)::vs,.cons (rQ P w k t) rfl h1,by rw[aH,aH,h2],λx hx=>?_,λj=>?_⟩
  ·rcases aG.mp hx with rfl|hx
   ·exact⟨.inr k,rQ P w k t,by rw[e];rfl⟩
   ·exact h3 x hx
  ·by_cases hj:k=j
   ·subst hj
    have:ky ((k,ws)::kvs) k=some ws:=by simp[ky,eY]
    rw[this];exact⟨b,by simp[valueAt,eY],kt⟩
   ·have:ky ((k,ws)::kvs) j=ky kvs j:=by simp[ky,eY,hj]
    rw[this];have e2:valueAt ((bG k,dw b)::vs) (bG j:Key)=valueAt vs (bG j):=by
     have:¬(bG k:Key)=bG j:=λz=>hj (by injection z)
     simp[valueAt,eY,this]
    rw[e2];exact h4 j
theorem GD.dict{h:dg}{kvs:List (Str×List Str)}(g:GD w.params K a kvs)(UM:K.In h):∃vs:List (Key×aE),h.DictOf (eZ P w) a vs/\∀k,match ky kvs k with|none=>valueAt vs (bG k)=none|some ws=>∃b,valueAt vs (bG k)=some (.ref b)/\Le K b ws:=by
 obtain⟨o,es,ep,h1,h2,h3,h4⟩:=g.ob;obtain⟨vs,p1,p2,p3,p4⟩:=h4.pairs (P:=P);refine⟨vs,⟨o,es,ep,UM a o h1,h2,h3,λe he=>p3 e (by simpa using he),p1,?_⟩,p4⟩
 rw[p2];have nd:=g.nd
 clear p2 p4 h4
 induction kvs with
 |nil=>exact lO
 |cons p l ih=>
  rw[aH,eX]at nd ⊢;refine⟨λz=>nd.1 ?_,?_⟩
  ·obtain⟨q,hq,e⟩:=av.mp z
   injection e with e
   exact av.mpr ⟨q,hq,e⟩
  ·have go:∀l:List (Str×List Str),(l.map (·.1)).Nodup->(l.map λp=>(bG p.1:Key)).Nodup:=by
    intro l
    induction l with
    |nil=>intro _;exact lO
    |cons p l ih=>
     intro nd;rw[aH,eX]at nd ⊢;refine⟨λz=>nd.1 ?_,ih nd.2⟩
     obtain⟨q,hq,e⟩:=av.mp z
     injection e with e
     exact av.mpr ⟨q,hq,e⟩
   exact go l nd.2
section
variable{X:Cx}{a b c e:bZ}{δ:List Slot}{pos p:Pos}{k:Nat}{x y:Str}{kvs:List (Str×List Str)}{ws:List Str}{g:aR}
theorem wj:∀l:List Str,cy K H (l.map V.str) (l.map aK)
 | []=>.nil
 |z::l=>.cons (.str z) (wj l)
theorem Ht(hm:X.mg x=some (.ref g))(G:GD X.w.params X.K g kvs)(h:VE X b δ (.str y))(hk:ky kvs y=some ws)(hg:Gl X x:=by rfl)(hs:Kn b:=by intro _ _;rfl)(hd:(x==("__debug__":Str))=false:=by decide):VE X (.Subscript (.Name x p) b pos) δ (.tuple (ws.map .str)):=by
 have pe:PE X (.Subscript (.Name x p) b pos) (λσ H Q=>cE X b σ H λv H1=>v=.str y/\∀q,Le X.K q ws->Q (.ref q) H1):=by
  intro pins s σ H Q I hw;refine GY zX.lookup hs (gK (xX (pos:=p) hg hm (v:=.ref g) rfl hd pins s σ H (λv H'=>v=.ref g/\H'=H) I ⟨rfl,rfl⟩) λu s1 ⟨vx,H1,I1,rx,ex,eH⟩=>?_)
  subst ex eH;obtain rfl:u=dw g:=rx;refine gK (hw pins s1 I1) λiv s2 ⟨v,H2,I2,rv,ev,q⟩=>?_
  subst ev;obtain⟨vs,dd,hv⟩:=G.dict (P:=X.prog) I2.BM;have hv:=hv y;rw[hk]at hv;obtain⟨bb,hb,kt⟩:=hv;refine⟨dd.typeIs,wpAny_getItem_of (rW (k:=.inr y) rv) dd.mapOf hb ?_⟩
  exact⟨.ref bb,H2,I2.tok _,rfl,q bb kt⟩
 exact .of pe λB0 B σ H0 H Q f q=>h B0 B σ H0 H _ f λv H1 dO g1 r=>by
  cases r;exact⟨rfl,λb' hb=>q _ H1 dO g1 (.tup (.inr hb) (wj ws))⟩
theorem Bf(hm:X.mg x=some (.ref g))(G:GD X.w.params X.K g kvs)(h:VE X b δ (.str y))(hg:Gl X x:=by rfl)(hd:(x==("__debug__":Str))=false:=by decide)(hmk:behindInMarks .NotIn (.Name x p)=false:=by with_unfolding_all rfl):VT X (.Compare b [.NotIn] [.Name x p] pos) δ (!(ky kvs y).isSome):=by
 have pc:PC X .NotIn b (.Name x p) (λσ H Q=>cE X b σ H λv H1=>v=.str y/\Q (.bl (!(ky kvs y).isSome)) H1):=by
  intro pins s σ H Q I hw;refine gK (hw pins s I) λiv s1 ⟨v,H1,I1,rv,ev,q⟩=>?_
  subst ev;refine gK (xX (pos:=p) hg hm (v:=.ref g) rfl hd pins s1 σ H1 (λv H'=>v=.ref g/\H'=H1) I1 ⟨rfl,rfl⟩) λu s2 ⟨vx,H2,I2,rx,ex,eH⟩=>?_
  subst ex eH;obtain rfl:u=dw g:=rx;obtain⟨vs,dd,hv⟩:=G.dict (P:=X.prog) I2.BM;have hv:=hv y;refine wpAny_notIn_of (rW (k:=.inr y) rv) G.nm dd.mapOf ?_
  have e:(valueAt vs (bG y)).isSome=(ky kvs y).isSome:=by
   cases el:ky kvs y with
   |none=>rw[el]at hv;rw[hv];rfl
   |some ws=>rw[el]at hv;obtain⟨bb,hb,_⟩:=hv;rw[hb];rfl
  rw[e];exact⟨.bl _,H2,I2.tok _,rfl,q⟩
 exact .of (Rv pc hmk) λB0 B σ H0 H Q f q=>h B0 B σ H0 H _ f λv H1 dO g1 r=>by
  cases r;exact⟨rfl,_,rfl,q H1 dO g1⟩
end
section
variable{X:Cx}{a b c e:bZ}{δ:List Slot}{d d1 d2:aj}{ds:List aj}{pos px py p:Pos}{x y:Str}{k:Nat}{kvs:List (Str×aj)}
theorem SW:X3 X (λx lo hi H Q=>∃z,x=.str z/\z.length<=sizeLine/\Q (.str (kJ z lo hi)) H):=by
 intro pins s σ H x v vl vu lo hi sl Q I rx hs pl pu h;obtain⟨z,rfl,hz,q⟩:=h;obtain⟨t,rfl⟩:=rx;refine⟨"str",_,PySem.F.slot_str_getitem.lookup,uh _ _ _,?_⟩
 have fin:∀(l u:Option (Int×Tok)),l.map (·.1)=lo->u.map (·.1)=hi->s.heap.IsSlice sl l u none->wpAny (model X.prog X.w) X.A (getItem (.str z t) (.ref sl)) (EP X pins σ Q) X.xe s:=by
  intro l u e1 e2 hl;subst e1 e2;refine wpAny_getItem_str_slice (l:=l) (u:=u) (st:=none) hl rfl (post_val_or_str ⟨cp (Ff z _ _) hz,λt' k=>?_⟩)
  exact⟨.str (kJ z _ _),H,I.tok _,⟨t',rfl⟩,q⟩
 obtain⟨os,h1,h2,h3⟩:=hs;cases pl with
 |none=>cases pu with
  |none=>exact fin none none rfl rfl ⟨os,h1,h2,h3⟩
  |int j t2=>exact fin none (some (j,t2)) rfl rfl ⟨os,h1,h2,h3⟩
 |int i t1=>cases pu with
  |none=>exact fin (some (i,t1)) none rfl rfl ⟨os,h1,h2,h3⟩
  |int j t2=>exact fin (some (i,t1)) (some (j,t2)) rfl rfl ⟨os,h1,h2,h3⟩
theorem Bg{lo hi:Option bZ}{l u:Option Int}{p2:Pos}(h:VE X a δ (.str x))(hz:x.length<=sizeLine)(hl:tX X δ lo l)(hh:tX X δ hi u):VE X (.Subscript a (.Slice lo hi none p2) pos) δ (.str (kJ x l u)):=by
 obtain⟨tl,pl,ql⟩:=hl.ok;obtain⟨th,ph,qh⟩:=hh.ok;refine .of (yz SW c7 pl ph) λB0 B σ H0 H Q f q=>h B0 B σ H0 H _ f λv H1 dO g r=>ql B0 B σ H1 dO _ (f.grow g) λH2 jb g2=>qh B0 B σ H2 jb _ ((f.grow g).grow g2) λH3 x6 g3=>?_
 cases r;exact⟨x,rfl,hz,q _ _ _ ((g.trans g2).trans g3) (.str _)⟩
inductive VP(X:Cx)(δ:List Slot):List (Option bZ)->List bZ->List (Str×aj)->Prop
 |nil:VP X δ [] [] []
 |cons {k v:bZ} {ks vs} {x:Str} {d:aj} {r}:VE X k δ (.str x)->VE X v δ d->VP X δ ks vs r->VP X δ (some k::ks) (v::vs) ((x,d)::r)
theorem VP.ok{keys vals}(h:VP X δ keys vals kvs):keys.all (·.isSome)=true/\keys.length=vals.length/\keys.length=kvs.length/\∃Iw,VB X pos keys vals Iw/\∀B0 B σ H0 H Q,fJ X.K B0 B H0 H σ δ->
  (∀dS H' (ws:List (Key×V)),eB H0 H dS H'->ws.map (·.1)=kvs.map (λp=>(bG p.1:Key))->cy X.K dS (ws.map (·.2)) (kvs.map (·.2))->Q (ws.map λkv=>(kV kv.1,kv.2)) H')->B4 Iw σ H Q:=by
 induction h with
 |nil=>exact⟨rfl,rfl,rfl,[],NX,λB0 B σ H0 H Q f q=>q _ _ [] (.refl f.sub) rfl .nil⟩
 | @cons k v ks vs x d r hk hv _ ih=>
  obtain⟨a1,a2,a3,Iw,pp,ht⟩:=ih;refine⟨by simpa using a1,by simp[a2],by simp[a3],_,Ks c7 c7 pp,λB0 B σ H0 H Q f q=>?_⟩
  refine hk B0 B σ H0 H _ f λu H1 dO g1 r1=>hv B0 B σ H1 dO _ (f.grow g1) λw H2 jb g2 r2=>?_
  cases r1;refine ht B0 B σ H2 jb _ ((f.grow g1).grow g2) λH3 x6 ws g3 e1 rs=>?_
  exact q H3 x6 ((bG x,w)::ws) ((g1.trans g2).trans g3) (by simp[e1]) (.cons (r2.mono g3.fG) rs)
theorem Oj:∀{kvs:List (Key×V)}{k:Key}{v:V},k∉kvs.map (·.1)->putK kvs k v=kvs ++ [(k,v)]:=by
 intro kvs k v h;unfold putK
 first
  |(rw[qQ2];simpa using h)
  |(simp at h;simp[h])
theorem Bh:∀{more kvs:List (Key×V)},((kvs++more).map (·.1)).Nodup->rZ kvs more=kvs++more
 | [],kvs,_=>by simp[rZ]
 |p::more,kvs,h=>by
  show rZ (putK kvs p.1 p.2) more=_;have hp:p.1∉kvs.map (·.1):=λz=>by
   rw[aU,aH]at h;exact(cZ.mp h).2.2 _ z _ (aL) rfl
  rw[Oj hp,Bh (by simpa using h)]
  simp
theorem Cd{keys vals}(h:VP X δ keys vals kvs)(hn:(kvs.map (·.1)).Nodup)(h0:kvs≠[])(h15:kvs.length<=15):VE X (.Dict keys vals pos) δ (cF kvs):=by
 obtain⟨a1,a2,a3,Iw,pp,ht⟩:=h.ok (pos:=pos);refine .of (NZ pp a1 a2 (λz=>h0 (List.length_eq_zero_iff.mp (by rw[<-a3,z];rfl))) (by omega)) λB0 B σ H0 H Q f q=>λp hp=>?_
 refine ht B0 B σ H0 _ _ (f.grow (.loose f.sub hp)) λH1 dO ws g e1 rs=>?_
 have gp:=g.big _ _ (bq (H:=H) (a:=p) (o:=HO.dK []));have ZU:H1 p=none:=g.still (f.sub.free hp) bq;have wl:ws.length=kvs.length:=by have:=qQ6 fq e1;simpa using this
 refine⟨gp,ws,rfl,by omega,?_⟩
 rw[Bh (by
  rw[nB,e1];have:(kvs.map λp=>(bG p.1:Key))=(kvs.map (·.1)).map (bG:Str->Key):=by rw[aS];rfl
  rw[this];exact AV _ (λa b Uq z=>Uq (rC z)) hn),nB]
 refine q (.ref p) (upd H1 p (.dK ws)) _ ⟨λb u eb=>?_,λb u eb=>?_,λb u eb=>?_,λb eb=>?_⟩ ?_
 ·have hb:b≠p:=bN eb hp
  rw[aP hb];exact g.big _ _ (by rw[aP hb];exact eb)
 ·have hb:b≠p:=bN eb (f.sub.free hp)
  rw[aP hb];exact g.fG _ _ eb
 ·by_cases hb:b=p
  ·subst hb;rw[bq]at eb ⊢;exact eb
  ·rw[aP hb]at eb ⊢;exact g.sub _ _ eb
 ·by_cases hb:b=p
  ·subst hb;exact .inr hp
  ·rw[aP hb]at eb
   rcases g.new b eb with z|z
   ·exact .inl z
   ·rw[aP hb]at z;exact .inr z
 ·refine .dct (kvs:=ws) bq ?_ ?_
  ·rw[aS]
   have:ws.map (λp=>oX p.1)=(ws.map (·.1)).map oX:=by rw[aS];rfl
   rw[this,e1,aS];rfl
  ·rw[aS]
   refine(rs.mono λb u eb=>?_)
   rw[aP (bN eb ZU)];exact eb
theorem Lf{ap:Pos}(hr:e8 k X.A)(h3:VE X c δ (cF kvs))(h1:VE X a δ (.str x))(h4:VE X e δ d)(m:M2 X c "get" ap a e pos:=by exact⟨rfl,rfl,rfl,rfl⟩):VE X (.Call (.Attribute c "get" ap) [a,e] [] pos) δ ((gU kvs x).getD d):=
 .of (Ku (M6 hr) c7 c7 c7 m) λB0 B σ H0 H Q fr q=>h3 B0 B σ H0 H _ fr λv H1 dO g r=>by
  obtain⟨p,ws,rfl,hp,ke,rs⟩:=r.kL;refine⟨p,rfl,.inl ⟨ws,.inl (g.sub _ _ hp)⟩,?_⟩
  refine h1 B0 B σ H1 dO _ (fr.grow g) λv H2 jb g2 r1=>h4 B0 B σ H2 jb _ ((fr.grow g).grow g2) λu H3 x6 g3 r2=>?_
  cases r1;have gg:=g2.trans g3;refine⟨jQ ws (bG x),.inl ⟨ws,bG x,.inl (gg.big _ _ (g.sub _ _ hp)),rfl,rfl⟩,q _ H3 x6 (g.trans gg) ?_⟩
  exact(uq ke (rs.mono gg.fG) x).getD r2
theorem SX(i j:Int):nT K (λxs H Q=>∃i j,xs=[.int i,.int j]/\Q (.int (if j<i then j else i)) H) [.int i,.int j] (.int (if j<i then j else i)):=λvs H0 H Q s r q=>by
 obtain⟨v,u,rfl,r1,r2⟩:=r.two;cases r1;cases r2;exact⟨i,j,rfl,q _ _ _ (.refl s) (.int _)⟩
end
section
variable{X:Cx}{a b c e e1 e2:bZ}{δ:List Slot}{d d1 d2:aj}{ds M4 ds2:List aj}{pos px py p:Pos}{x y:Str}{k:Nat}
theorem Ol(i j:Nat){Fm: Pos}{kt k2}(h1:VO X a δ M4)(h2:VO X b δ ds2)(hc:X.calm=true)(hN:X.N.Nodup)(z_:i≠j)(hi:X.N[i]?=some x:=by rfl)(hj:X.N[j]?=some y:=by rfl)(hx:X.env.scope.names.lookup x=some .local:=by rfl)(hy:X.env.scope.names.lookup y=some .local:=by rfl)
  (hw:swappedStores [.Tuple [.Name x px,.Name y py] kt pt] (.Tuple [a,b] k2 Fm) X.env=pure (some [x,y]):=by rfl)(hs:swapsWithSole [.Tuple [.Name x px,.Name y py] kt pt] (.Tuple [a,b] k2 Fm) pos.line X.env=pure false:=by rfl)
  (Qp:starEach [a,b] X.env=(false,eval a X.env)::starEach [b] X.env:=by rfl)(pA:starEach [b] X.env=(false,eval b X.env)::starEach [] X.env:=by rfl):
  VS X (.Assign [.Tuple [.Name x px,.Name y py] kt pt] (.Tuple [a,b] k2 Fm) pos) δ (.nx ((δ.set i (.own M4)).set j (.own ds2))):=λB0 B σ H0 H D f ok pins s I=>by
 refine J_ hc hN hi hj z_ hx hy (du c7 (du c7 fF pA) Qp) hw hs pins s σ H D I ?_
 refine h1 B0 B σ H0 H _ f λp xs H1 dO g a1 a2 a3 a4=>h2 B0 B σ H1 dO _ (f.grow g) λq ys H2 jb g2 b1 b2 b3 b4=>?_
 have gg:=g.trans g2;have fs:=f.grow gg;have npq:p≠q:=λz=>by rw[z,b1]at a3;cases a3
 have f1:=fs.yI (i:=i) (g2.big _ _ a3) (g2.still a2 a3) (f.ent.big.free a1) (a4.mono g2.fG) λj es e2 e3=>by
  obtain⟨p',xs',g1,g2,_⟩:=f.slot j _ e2;rw[e3]at g1;cases g1;rw[a1]at g2;cases g2
 refine⟨_,_,rfl,ok _ H2 jb gg.fG (f1.yI b3 b2 ((f.grow g).ent.big.free b1) b4 λj es e2 e3=>?_)⟩
 by_cases hji:j=i
 ·subst hji
  have hl:j < σ.length:=by
   have:=(aO.mp e3).1;simpa using this
  rw[bx hl]at e3;cases e3;exact npq rfl
 ·rw[aX (bV hji)]at e2 e3
  obtain⟨p',xs',z1,z2,_⟩:=(f.grow g).slot j _ e2;rw[e3]at z1;cases z1;rw[b1]at z2;cases z2
end
section
variable{X:Cx}{K:au}{B0 B H0 H dS H' C0 C Ha Hb:Hp}{σ σ':St}{δ δ':List Slot}{a:aR}{ps:List aR}{gs:List (List aj)}
theorem vP.rep2(G:vP K B0 B a ps gs H0 H σ δ):∃Ha,dv H0 Ha/\eB B0 B Ha H/\Rep K Ha (.ref a) (.list (gs.map .list)):=by
 have s0:dv H0 (λq=>if q=a\/q∈ps then H q else H0 q):=λb u e=>by
  show(if b=a\/b∈ps then H b else H0 b)=some u
  split
  ·exact G.fr.sub b u e
  ·exact e
 refine⟨λq=>if q=a\/q∈ps then H q else H0 q,s0,⟨G.fr.ent.big,G.fr.ent.fG.trans s0,λb u e=>?_,λb e=>?_⟩,?_⟩
 ·have e:(if b=a\/b∈ps then H b else H0 b)=some u:=e
  split at e
  ·exact e
  ·exact G.fr.sub b u e
 ·have e:(if b=a\/b∈ps then H b else H0 b)≠none:=e
  split at e
  ·rename_i z
   rcases z with rfl|z
   ·exact .inr G.aB
   ·obtain⟨i,hi⟩:=sP.mp z
    have hl:i<gs.length:=by rw[<-G.len];exact(aO.mp hi).1
    exact .inr (G.cell i b gs[i] hi (by simp[hl])).2.1
  ·exact G.fr.ent.new b e
 ·refine .lst (kW.of (by show(if a=a\/a∈ps then H a else H0 a)=_;rw[qQ3 (.inl rfl)];exact G.arr)) ?_
  have go:∀(l:List aR)(m:List (List aj)),l.length=m.length->(∀(i:Nat)p ds,l[i]?=some p->m[i]?=some ds->p∈ps/\∃xs,H p=some (.lst xs)/\cy K H0 xs ds)->cy K (λq=>if q=a\/q∈ps then H q else H0 q) (l.map V.ref) (m.map .list):=by
   intro l
   induction l with
   |nil=>
    intro m hm _;cases m with
    |nil=>exact .nil
    |cons _ _=>cases hm
   |cons p l ih=>
    intro m hm hc;cases m with
    |nil=>cases hm
    |cons ds m=>
     obtain⟨hp,xs,h1,h2⟩:=hc 0 p ds rfl rfl;refine .cons (.lst (kW.of (by show(if p=a\/p∈ps then H p else H0 p)=_;rw[qQ3 (.inr hp)];exact h1)) (h2.mono s0)) (ih m (by simpa using hm) λi p' E6 e1 e2=>hc (i+1) p' E6 (by simpa using e1) (by simpa using e2))
  exact go ps gs G.len λi p ds e1 e2=>by
   obtain⟨_,_,xs,h1,h2⟩:=G.cell i p ds e1 e2;exact⟨bw e1,xs,h1,h2⟩
theorem vP.freeze(G:vP K B0 B a ps gs H0 H σ δ)(Ur:δ[ig]?=some (.ref a)):∃Ha,dv H0 Ha/\fJ K B0 B Ha H σ (δ.set ig (.val (.list (gs.map .list)))):=by
 obtain⟨Ha,sm,g,r⟩:=G.rep2;have hs:σ[ig]?=some (some (.ref a)):=G.fr.slot ig _ Ur;have f0:fJ K B0 B Ha H σ δ:=by
  refine⟨g,G.fr.len,λi sl e=>?_,G.fr.apart⟩
  have q:=G.fr.slot i sl e;cases sl with
  |un=>trivial
  |ref _=>exact q
  |val d=>obtain⟨v,g1,g2⟩:=q;exact⟨v,g1,g2.mono sm⟩
  |own ds=>exact qQ7 e (lA G.no i ds)
 have f1:=f0.k_ (i:=ig) (v:=.ref a) (sl:=.val (.list (gs.map .list))) ⟨_,rfl,r⟩ rfl;have e:σ.set ig (some (.ref a))=σ:=by
  apply iW;intro i;by_cases h:i=ig
  ·subst h;rw[bx (aO.mp hs).1,hs]
  ·rw[aX (bV h)]
 rw[e]at f1;exact⟨Ha,sm,f1⟩
end
section
variable{X:Cx}{B0 B H0 H dS H' Ha Hb:Hp}{σ σ':St}{D:Ends}{st:ia}{rest body orelse:List ia}{δ δ':List Slot}{a:aR}{ps:List aR}{gs:List (List aj)}{e c tg iter e1 e2 ea:bZ}{d:aj}{ds:List aj}{pos px yH:Pos}{x y:Str}
def oC{α:Type}(l:List α)(i:Nat)(y:α):List α:=l.take i++y::l.drop i
def Om:V->List V->Hp->VK->Prop:=λx vs H Q=>∃(l:aR)(xs:List V)(j:Int)(y:V),x=.ref l/\vs=[.int j,y]/\H l=some (.lst xs)/\0<=j/\j<=xs.length/\xs.length<sizeLine/\Q .non (upd H l (.lst (oC xs j.toNat y)))
theorem dX.ins{us:List aE}{y:V}{u:aE}(r:dX xs us)(ru:RelV y u)(i:Nat):dX (oC xs i y) (oC us i u):=(r.take i).append (.cons ru (r.drop i))
theorem I_:Ui X "list.insert" Om:=by
 intro pins s σ H x vs v us Q I rx rv h;obtain⟨l,xs,j,y,rfl,rfl,hH,h0,hi,hz,q⟩:=h;cases rx;obtain⟨u1,u2,rfl,ru1,SN⟩:=rv.two;obtain⟨t,rfl⟩:=ru1;obtain⟨z,its,n,r,hl,e⟩:=I.Vu hH;have SY:vO j=true:=by
  have:=dA;unfold vO;simp;omega
 refine kR F.slot_list_insert ⟨_,e,rfl⟩ F.entry_list_insert (F.args_list_insert_3 _ _ _) (PySem.AutoSeq1.list_insert_list_int_val_1 l its.toArray n j t u2 (by rw[SY];decide) (by rw[bp];omega)) ⟨e,?_⟩
 refine⟨.non,_,I.Vt (its':=oC its j.toNat u2) hH e ?_ (r.ins SN j.toNat) ?_,rfl,q⟩
 ·show(its.toArray.extract 0 (if j<0 then(j+((its.toArray.size:Nat):Int)).toNat else min j.toNat its.toArray.size)).push u2++its.toArray.extract (if j<0 then(j+((its.toArray.size:Nat):Int)).toNat else min j.toNat its.toArray.size)=_
  rw[qQ2 (by omega),bp,nL (by omega)]
  unfold oC;apply Array.toList_inj.mp;simp;rw[cO (by simp)]
 ·unfold oC
  rw[aY,bJ,b9,b_];omega
theorem cy.ins{v:V}(r:cy K H xs ds)(rv:Rep K H v d)(i:Nat):cy K H (oC xs i v) (oC ds i d):=(r.take i).append (.cons rv (r.drop i))
theorem Lg(G:vP X.K B0 B a ps gs H0 H σ δ)(ig:Nat){j m:Nat}{p0 p4 ap:Pos}(Ur:δ[ig]?=some (.ref a))(ha:VE X ea δ (.int j))(hp:ps[j]?=some p)(hg:gs[j]?=some ds)(h1:VE X e1 (δ.set ig (.val (.list (gs.map .list)))) (.int m))(hn1:noOwn (δ.set ig (.val (.list (gs.map .list))))=true)(hm:m<=ds.length)(h2:VE X e2 δ d)(hz:ds.length<sizeLine)
  (q:∀σ' dS H',vP X.K B0 B a ps (gs.set j (oC ds m d)) dS H' σ' δ->D.nx σ' H')(hig:X.N[ig]?=some x:=by rfl)
  (hv:AX X.env.scope x:=by first|exact a7 rfl|exact cj (a7 rfl)|exact cj (cj rfl))(hd:(x==("__debug__":Str))=false:=by decide)(oB:(x==("__classdict__":Str))=false:=by decide)(qp:oI ea:=by intro _ _;rfl)
  (hs:starEach [e1,e2] X.env=(false,eval e1 X.env)::starEach [e2] X.env:=by rfl)(pA:starEach [e2] X.env=(false,eval e2 X.env)::starEach [] X.env:=by rfl)(lz:attributeBase (.Subscript (.Name x p0) ea p4) "insert" X.env (eval (.Subscript (.Name x p0) ea p4) X.env)=eval (.Subscript (.Name x p0) ea p4) X.env:=by rfl)
  (qw:((backTo px (starEach [e1,e2] X.env)).all (λx=>!x.1)&&(backToKw px (keywordEach [] X.env)).all (λx=>x.1.isSome)&&decide (([e1,e2]:List bZ).length+([]:List gR).length+(if([]:List gR).isEmpty then 0 else 1)<30))=true:=by rfl)
  (hline:(ap.endLine==px.line)=true:=by rfl)(jz:(backTo px (starEach [e2] X.env)).any (·.1)=false:=by rfl)(An:swapsWith (.Call (.Attribute (.Subscript (.Name x p0) ea p4) "insert" ap) [e1,e2] [] px) none pos.line X.env=pure false:=by rfl):
  cS X (.Expr (.Call (.Attribute (.Subscript (.Name x p0) ea p4) "insert" ap) [e1,e2] [] px) pos) D σ H:=λpins s I=>by
 refine qj (u5 fy PySem.F.slot_list_insert PySem.F.type_list_insert I_ (GV yB (jO hig hv hd oB) c7 qp) (du c7 (du c7 fF pA) hs) lz qw hline hs jz) An pins s σ H D I ?_
 refine⟨.ref a,G.fr.slot ig _ Ur,?_⟩
 refine ha H0 H σ H0 H _ G.own λv H1 dO g r=>?_
 cases r;have G1:=G.go (G.own.grow g) G.no;obtain⟨c1,c2,xs,c3,c4⟩:=G1.cell j p ds hp hg;refine .inl ⟨a,_,_,.ref p,rfl,rfl,kW.of G1.arr,bE (by rw[aI,hp];rfl),.inl ⟨rfl,_,kW.of c3⟩,?_⟩
 obtain⟨Ha,sm,ff⟩:=G1.freeze Ur;refine h1 Ha dO σ Ha dO _ (ff.re hn1 (.refl ff.sub)) λv Hb H2 g2 r2=>?_
 cases r2;have G2:vP X.K B0 B a ps gs H1 H2 σ δ:=G1.go (G1.own.grow (.far G1.fr.sub g2.big)) G1.no;refine h2 H1 H2 σ H1 H2 _ G2.own λw H3 x6 g3 r3=>?_
 have G3:=G2.go (G2.own.grow g3) G2.no;obtain⟨k1,k2,ys,k3,k4⟩:=G3.cell j p ds hp hg;refine⟨p,ys,m,w,rfl,rfl,k3,by omega,by rw[k4.length];omega,by rw[k4.length];exact hz,q σ H3 _ ?_⟩
 have hjl:j<gs.length:=(aO.mp hg).1;have Qv:a≠p:=λz=>G.na (by rw[z];exact bw hp)
 refine⟨G3.fr.touch k1 k2 (lA G.no),G.no,by rw[aP Qv];exact G3.arr,G3.a0,G.aB,G.na,G.nd,by rw[k7];exact G.len,λi p' E6 e1 e2=>?_⟩
 by_cases hi:i=j
 ·subst hi
  rw[hp]at e1;cases e1;rw[bx hjl]at e2;cases e2;exact⟨k1,k2,_,bq,by rw[fu];exact k4.ins r3 m⟩
 ·rw[aX (bV hi)]at e2
  obtain⟨k1,k2,ys,k3,k4⟩:=G3.cell i p' E6 e1 e2;have np:p'≠p:=λz=>by
   subst z;have l1:=(aO.mp e1);have l2:=(aO.mp hp);exact hi ((List.getElem_inj G.nd (h₀:=l1.1) (h₁:=l2.1)).mp (by rw[l1.2,l2.2]))
  exact⟨k1,k2,ys,by rw[aP np];exact k3,k4⟩
theorem S0(G:vP X.K B0 B a ps gs H0 H σ δ){o:Out}(Ur:δ[ig]?=some (.ref a))(h:pC X rest (δ.set ig (.val (.list (gs.map .list)))) o)(q:∀Ha,dv H0 Ha->qY X.K B0 B Ha D o):B6 X rest D σ H:=by
 obtain⟨Ha,sm,ff⟩:=G.freeze Ur;exact h B0 B σ Ha H D ff (q Ha sm)
end
section
variable{X:Cx}{a b c:bZ}{δ:List Slot}{d1 d2 d3:aj}{pos px py pz:Pos}{x y z:Str}
theorem cy.three{vs:List V}(r:cy K H vs [d1,d2,d3]):∃v w u,vs=[v,w,u]/\Rep K H v d1/\Rep K H w d2/\Rep K H u d3:=by
 cases r with|cons a t=>cases t with|cons b t=>cases t with|cons c t=>cases t;exact⟨_,_,_,rfl,a,b,c⟩
theorem Oo(i j k:Nat){Fm: Pos}{kt k2}(h1:VE X a δ d1)(h2:VE X b δ d2)(h3:VE X c δ d3)(hc:X.calm=true)(hN:X.N.Nodup)(z_:i≠j)(hik:i≠k)(DL:j≠k)(hi:X.N[i]?=some x:=by rfl)(hj:X.N[j]?=some y:=by rfl)(hk:X.N[k]?=some z:=by rfl)(hx:X.env.scope.names.lookup x=some .local:=by rfl)(hy:X.env.scope.names.lookup y=some .local:=by rfl)(hz:X.env.scope.names.lookup z=some .local:=by rfl)
  (hw:swappedStores [.Tuple [.Name x px,.Name y py,.Name z pz] kt pt] (.Tuple [a,b,c] k2 Fm) X.env=pure (some [x,y,z]):=by rfl)(hs:swapsWithSole [.Tuple [.Name x px,.Name y py,.Name z pz] kt pt] (.Tuple [a,b,c] k2 Fm) pos.line X.env=pure false:=by rfl)
  (Qp:starEach [a,b,c] X.env=(false,eval a X.env)::starEach [b,c] X.env:=by rfl)(pA:starEach [b,c] X.env=(false,eval b X.env)::starEach [c] X.env:=by rfl)(VL:starEach [c] X.env=(false,eval c X.env)::starEach [] X.env:=by rfl):
  VS X (.Assign [.Tuple [.Name x px,.Name y py,.Name z pz] kt pt] (.Tuple [a,b,c] k2 Fm) pos) δ (.nx (((δ.set i (.val d1)).set j (.val d2)).set k (.val d3))):=λB0 B σ H0 H D f ok pins s I=>by
 obtain⟨t,ha,qa⟩:=ao h1 (ao h2 (ao h3 aQ VL) pA) Qp;have h:=qa B0 B σ H0 H (λvs H1=>∃v w u,vs=[v,w,u]/\D.nx (((σ.set i (some v)).set j (some w)).set k (some u)) H1) f λvs H1 dO g rs=>by
  obtain⟨v,w,u,rfl,r1,r2,r3⟩:=rs.three;exact⟨v,w,u,rfl,ok _ H1 dO g.fG ((((f.grow g).set r1).set r2).set r3)⟩
 rw[exec_Assign_arm];refine aA (rE ?_)
 rw[hs];refine aA (bj ?_)
 rw[qQ2 (by decide)]
 refine aA (Tuple_ (gK (ha _ pins s σ H _ I h) λus s1 ⟨vs,H1,I1,r1,q1⟩=>?_))
 obtain⟨v,w,u,e1,q1⟩:=q1;subst e1;obtain⟨u1,u2,u3,rfl,rv,qk,ru⟩:∃u1 u2 u3,us=[u1,u2,u3]/\RelV v u1/\RelV w u2/\RelV u u3:=by
  cases r1 with
  |cons p q=>
   cases q with
   |cons p' q'=>
    cases q' with
    |cons p2 q2=>
     cases q2;exact⟨_,_,_,rfl,p,p',p2⟩
 refine eV ?_ (by show 3<=sizeLine;decide)
 have I2:Inv X pins σ H1 { s1 with heap:=s1.heap.push { cls:=.type "tuple",data:=.seq [u1,u2,u3].toArray } }:=I1.kept (t':=s1.toks) λb o e=>aF _ e
 rw[hw];refine aA (bj ?_)
 show wpAny (model X.prog X.w) X.A (do rule "assign.swapped-stores";let items <-unpackItems (.ref s1.heap.objs.size) 3 none;assignInOrder [λv=>bindName X.env z v,λv=>bindName X.env y v,λv=>bindName X.env x v] items.reverse;pure Dt) _ _ _
 refine aA (uf (aA (unpackItems_tuple (items:=#[u1,u2,u3]) (I.ok.hd hc) (qd s1.heap _) λh' YY=>?_)))
 have I3:=I2.kept (h':=h') (t':=s1.toks) λb o e=>YY b o (a9 (bf e)) e
 show wpAny _ _ (assignInOrder [λv=>bindName X.env z v,λv=>bindName X.env y v,λv=>bindName X.env x v] [u3,u2,u1] >>= λ_=>pure Dt) _ _ _
 refine aA (j7 (qe (nP I3 hN hk (.inl hz) ru (λs2 I4=>?_) (.inr hz))))
 refine j7 (qe (nP I4 hN hj (.inl hy) qk (λs3 I5=>?_) (.inr hy)))
 refine j7 (qe (nP I5 hN hi (.inl hx) rv (λs4 I6=>Ac (bj ?_)) (.inr hx)))
 have e:((σ.set k (some u)).set j (some w)).set i (some v)=((σ.set i (some v)).set j (some w)).set k (some u):=by
  rw[uQ _ _ (bV DL),uQ _ _ (bV hik),uQ _ _ (bV z_)]
 rw[e]at I6;exact⟨_,H1,I6,q1⟩
theorem vi{k:Bool}(h:VE X a δ (.bool k)):VE X (.UnaryOp .Not a pos) δ (.bool (!k)):=.of (Ry c7) λB0 B σ H0 H Q f q=>h B0 B σ H0 H _ f λv H1 dO g r=>by
 cases r;exact⟨k,rfl,q _ H1 dO g (.bl _)⟩
theorem yT{st:List ia}{o:Out}(h:∀B0 B σ H0 H D,fJ X.K B0 B H0 H σ δ->qY X.K B0 B H0 D o->B6 X st D σ H):pC X st δ o:=h
end
section
variable{X:Cx}{a:bZ}{δ:List Slot}{pos p:Pos}{x:Str}{ds:List aj}
theorem Av:jV X (.type "str") (λxs H Q=>∃x,xs=[.str x]/\Q (.str x) H):=by
 intro pins s σ H xs us Q I r h;obtain⟨x,rfl,q⟩:=h;obtain⟨u,rfl,t,rfl⟩:=vals1 r;exact PySem.P.str_of_str ⟨.str x,H,I,⟨t,rfl⟩,q⟩
theorem S1:nT K (λxs H Q=>∃x,xs=[.str x]/\Q (.str x) H) [.str x] (.str x):=λvs H0 H Q s r k=>by
 obtain⟨v,rfl,r1⟩:=r.one;cases r1;exact⟨x,rfl,k _ _ _ (.refl s) (.str _)⟩
theorem Oq(h:VE X a δ (.str x))(hm:X.mg "str"=none)(hg:Gl X "str":=by rfl)(hs:starEach [a] X.env=(false,eval a X.env)::starEach [] X.env:=by rfl):VE X (.Call (.Name "str" p) [a] [] pos) δ (.str x):=jM Av S1 (ao h aQ hs) hm rfl hg (he:=hs)
theorem Ot:KN K (λxs H Q=>∃p ys,xs=[.ref p]/\(kW K H p ys\/oH K H p ys)/\∀l,H l=none->Q (.ref l) (upd H l (.lst ys))) [.tuple ds] ds:=λvs H0 H Q s r q=>by
 obtain⟨v,rfl,r1⟩:=r.one;cases r1 with
 |tup hq rs=>
  refine⟨_,_,rfl,.inr (s.oY hq),λl hl=>?_⟩
  exact q l _ H0 _ (.loose s hl) hl (s.free hl) bq rs
end
section
variable{prog:bK}{w:cB}{A:dQ}{E:aE->aM->Prop}{s:aM}
theorem Aw{l:aR}{items:Array aE}(hh:A.handled=none)(hl:s.heap.IsTuple l items)(T:Nat->dg->Prop)
  (t0:∀led h',h'.get? s.heap.objs.size=some (j9 led)->(∀b o,s.heap.get? b=some o->h'.get? b=some o)->T 0 h')
  (keep:∀i h h',T i h->(∀b o,b≠s.heap.objs.size+1->h.get? b=some o->h'.get? b=some o)->T i h')
  (add:∀i v (s':aM) (Q:Bool->aM->Prop) (E:aE->aM->Prop),i<items.size->items[i]?=some v->T i s'.heap->(∀h' tk b,s'.toks<=tk->iU s.heap.objs.size s'.heap h'->T (i+1) h'->Q b { s' with heap:=h',toks:=tk })->wpAny (model prog w) A.in1.in1.in1 (setAdd s.heap.objs.size v) Q E s')
  (h:∀(h':dg)(tk:Nat),T items.size h'->(∀b o,b<s.heap.objs.size->s.heap.get? b=some o->h'.get? b=some o)->Q (.ref s.heap.objs.size) { s with heap:=h',toks:=tk }):
  wpAny (model prog w) A (call (.type "set") [.ref l]) Q E s:=by
 obtain⟨c,tl,zfj⟩:=kS.mro;have zcL:=kS.made;have Am:=kS.sub;refine wpAny_call (codeAny_of_tree ?_)
 show wpAny _ _ (callAny (.type "set") _) _ _ _;refine bj ⟨Code.quiet_builtin _ (by symm),jq F.entry_type_call ?_⟩
 rw[dQ.under_plain (weight_type_call_type "set" [.ref l] []) rfl];have h1:=kS.notType;have h2:=kS.canCreate;have hct:=F.typeCall_set_1 (.ref l)
 repeat (any_goals (first|assumption|wp_step))
 refine pE (code_set_new_1 (.ref l) (E:=E) (Q₁:=λobj s₁=>∃led:Bool,obj=.ref s.heap.objs.size/\s₁={ s with heap:=s.heap.push (j9 led) }) λled=>⟨led,rfl,rfl⟩) λr s₁ hr=>?_
 cases r with
 |error e=>exact hr
 |ok fl=>
  cases fl with
  |ret obj=>
   obtain⟨led,rfl,rfl⟩:=hr;have hS:(s.heap.push (j9 led)).get? s.heap.objs.size=some (j9 led):=bA _ rfl;have hT:aM.TypeIs { s with heap:=s.heap.push (j9 led) } (.ref s.heap.objs.size) "set":=⟨_,hS,rfl⟩
   have hli:=kS.init.lookup;have hbi:=kS.init.bind (.ref s.heap.objs.size)
   repeat (any_goals (first|assumption|wp_step))
   refine pE (codeAny_call_builtin (R:=wants (λr s₂=>r=.none/\∃h' tk,s₂={ s with heap:=h',toks:=tk }/\T items.size h'/\(∀b o,b<s.heap.objs.size->s.heap.get? b=some o->h'.get? b=some o)) E) kS.init.plain F.entry_set_init (check_set_init_1 hT ?_)) λr₂ s₂ ZV=>?_
   ·obtain⟨ol,IU,K9,nl,JX⟩:=hl
    obtain⟨ZW,Qw,Wj,Lh⟩:=ol;simp only at K9 JX;subst K9;subst JX;have ZX:(s.heap.push (j9 led)).get? l=some { cls:=.type "tuple",dict:=Qw,data:=.seq items nl,slots:=Lh }:=aF _ IU;have zfk:=F.sub_tuple_set;have zfl:=F.sub_tuple_frozenset;have B9:(uO "tuple"==uO "dict")=false:=by decide
    have M7:(s.heap.push (j9 led)).IsTuple l items:=⟨_,ZX,rfl,nl,rfl⟩;unfold rn.«set.__init__» noKeywords rn.Frozenset.updateFrom
    generalize hPI:pyIter=PI
    wp_walk
    subst hPI;refine yk M7 ?_
    refine aA (wpAny_runValue ?_)
    have Wk:l<s.heap.objs.size:=bf IU;have hh3:A.in1.in1.in1.handled=none:=by simp[hh]
    have BZ:(s.heap.push (j9 led)).objs.size=s.heap.objs.size+1:=iA _ _;have S2:l≠(s.heap.push (j9 led)).objs.size:=by rw[BZ];exact a9 (lW Wk)
    have N0:s.heap.objs.size∉[(s.heap.push (j9 led)).objs.size,l]:=by
     rw[BZ];simp only[aG,aV,bu,or_false,not_or];exact⟨a9 (kF _),gI Wk⟩
    refine Kw ((Walks.tuple hh3 _ l S2 items).toS) s.heap.objs.size N0 T (λi h h' t k=>keep i h h' t λb o hb e=>k b o ?_ e) (λi v s' Q E hi hv t q=>add i v s' Q E hi hv t q) (items.size-0) 0 _ (by omega) (bF _)
     ⟨⟨_,bA _ rfl,rfl,rfl⟩,(M7.push _)⟩ ?hS0 ?hR
    ·rw[BZ]
     intro z;rw[aV]at z;exact hb z
    case hS0=>
     exact t0 led _ (aF _ hS) λb o e=>aF _ (aF _ e)
    case hR=>
     intro s' hm N1;obtain⟨h',g',d',Aa,Nx⟩:=s';have eg:g'=s.gens:=hm.gens;have ed:d'=s.drawn:=hm.drawn;have eo:Nx=s.os:=hm.os;subst eg;subst ed;subst eo;show wpAny _ _ _ _ _ _;refine bj ?_
     show wpAny _ _ (ret iZ) _ _ _;refine bj ⟨rfl,h',Aa,rfl,N1,λb o hb e=>?_⟩
     have ZY:b≠s.heap.objs.size:=a9 hb;have Ou:b≠(s.heap.push (j9 led)).objs.size:=by rw[BZ];exact a9 (lW hb)
     exact hm.heap b o (by simp only[aG,aV,bu,or_false,not_or];exact⟨ZY,Ou⟩) (aF _ (aF _ e))
   ·cases r₂ with
    |error e=>exact ZV
    |ok fl₂=>
     cases fl₂ with
     |ret r=>
      obtain⟨rfl,h',tk,rfl,N1,hk'⟩:=ZV
      repeat (any_goals (first|assumption|wp_step))
      exact h _ _ N1 hk'
     |_=>exact ZV.elim
  |_=>exact hr.elim
end
section
variable{X:Cx}{a b c e:bZ}{δ:List Slot}{d d1 d2:aj}{ds:List aj}{pos p p2 tR:Pos}{k:Nat}
def S3(K:au):List V->Hp->VK->Prop:=λxs H Q=>∃(a:aR)(ss:List Str),xs=[.ref a]/\oH K H a (ss.map V.str)/\ss.length<4000/\∀l,H l=none->Q (.ref l) (upd H l (.ext (IL l (dd [] ss).length)))
theorem yU(hc:X.calm=true):jV X (.type "set") (S3 X.K):=by
 intro pins s σ H xs us Q I r h;obtain⟨a,ss,rfl,hq,h4,q⟩:=h;obtain⟨u,rfl,rx⟩:=vals1 r;cases rx;obtain⟨its,rv,pl,hz⟩:=I.tuple hq;have ZZ:=rv.length;simp only[ai]at ZZ;have hsz:its.toArray.size=ss.length:=by simp only[bp];omega
 refine Aw (I.ok.hd hc) (show s.heap.IsTuple _ _ from pl) (λi h=>(∀b o,s.heap.get? b=some o->h.get? b=some o)/\h.SetOf (strKind X.prog X.w) s.heap.objs.size (λk=>decide (k∈dd [] (ss.take i))) (dd [] (ss.take i)).length) (λled h' e k=>?_) (λi h h' ⟨k1,T⟩ k=>?_) (λi v s' Q' E' hi hv ⟨k1,T⟩ q'=>?_) (λh' tk ⟨k1,T⟩ _=>?_)
 ·have n0:dd [] (ss.take 0)=[]:=by rw[List.take_zero];rfl
  refine⟨k,?_⟩
  rw[n0];refine⟨_,#[],0,.fresh 0 0 led,e,⟨rfl,rfl,rfl⟩,rfl,(λe he=>by cases he),(λk=>⟨λz=>by simp at z,λ⟨e,he,_⟩=>by cases he⟩),(by show 0<scanBound;unfold scanBound;omega),rfl,rfl⟩
 ·refine⟨λb o e=>k b o ?_ (k1 b o e),?_⟩
  ·have:=bf e
   exact a9 (lW this)
  ·obtain⟨o,es,ep,t,ho,rest⟩:=T
   exact⟨o,es,ep,t,k _ _ (a9 (kF _)) ho,rest⟩
 ·rw[hsz]at hi
  have Ke:its[i]?=some v:=by simpa using hv
  obtain⟨x,t,hx,rfl⟩:=Bd rv i v Ke;have his:(strKind X.prog X.w).is x (.str x t)=true:=by show uJ x (.str x t)=true;simp[uJ]
  have hle:=wc (ss.take i) [];simp only[cN,i_,b9]at hle;have JY:ss.take (i+1)=ss.take i ++ [x]:=by rw[dH,hx];rfl
  unfold setAdd;refine jw (aA ((strKind X.prog X.w).pyHash his ?_))
  refine wpAny_setAddHashed_of (knd:=strKind X.prog X.w) (s:={ s' with toks:=s'.toks+1 }) his rfl T (by unfold scanBound;omega) λh' sb T'=>q' h' _ _ (pZ _) sb ⟨λb o e=>?_,?_⟩
  ·have hb:=bf e
   rw[sb.2 b (a9 hb)];exact k1 b o e
  ·have ed:dd [] (ss.take (i+1))=if decide (x∈dd [] (ss.take i))=true then dd [] (ss.take i)else dd [] (ss.take i) ++ [x]:=by rw[JY,Bc];rfl
   rw[ed];by_cases hm:decide (x∈dd [] (ss.take i))=true
   ·rw[qQ3 hm]at T' ⊢
    refine SetOf_congr T' (λk=>?_) rfl
    by_cases hk:k=x
    ·subst hk;rw[hm];rfl
    ·simp[hk]
   ·rw[qQ2 hm]at T' ⊢
    refine SetOf_congr T' (λk=>?_) (by simp)
    rw[gZ];simp
 ·rw[hsz,ju]at T
  exact⟨.ref s.heap.objs.size,_,I.laid k1 (ay _) (SetOf.ZH T).ok,rfl,q _ (I.hok.fresh (ay _))⟩
theorem DZ{ss:List Str}(h:VE X a δ (.tuple (ss.map .str)))(hl:ss.length<4000)(hc:X.calm=true)(m1:X.mg "len"=none)(m2:X.mg "set"=none)(hg:Gl X "len":=by rfl)(Qn:Gl X "set":=by rfl)
  (hs:starEach [a] X.env=(false,eval a X.env)::starEach [] X.env:=by rfl)(pA:starEach [.Call (.Name "set" p2) [a] [] tR] X.env=(false,eval (.Call (.Name "set" p2) [a] [] tR) X.env)::starEach [] X.env:=by rfl)(qp:(backTo tR (starEach [] X.env)).any (·.1)=false:=by rfl)(Li:(backTo pos (starEach [] X.env)).any (·.1)=false:=by rfl):
  VE X (.Call (.Name "len" p) [.Call (.Name "set" p2) [a] [] tR] [] pos) δ (.int (dd [] ss).length):=
 .of (yx As hg m1 tQ (du (lY (yU hc) Qn m2 (by rfl) (du c7 fF hs) (by decide) (by decide) hs qp) fF pA) (by decide) (by decide) pA Li) λB0 B σ H0 H Q f q=>h B0 B σ H0 H _ f λv H1 dO g r=>by
  cases r with
  |tup hq rs=>
   have e:=rs.strs;subst e;have:=wc ss [];exact⟨_,ss,rfl,g.sub.oY hq,hl,λl hl'=>⟨l,_,rfl,bq,by simp at this;omega,q _ H1 _ (g.trans (.loose g.sub hl')) (.int _)⟩⟩
def yV:List Bool->Bool:=λl=>l.any id
theorem Lj(hc:X.calm=true):jV X (.builtin "any") (λxs H Q=>∃p bs,xs=[.ref p]/\kW X.K H p (bs.map V.bl)/\Q (.bl (yV bs)) H):=by
 intro pins s σ H xs us Q I r h;obtain⟨p,bs,rfl,hq,q⟩:=h;obtain⟨u,rfl,rx⟩:=vals1 r;cases rx;obtain⟨its,rv,pl,hz⟩:=I.list hq;have hl:=rv.length;simp only[ai]at hl;refine call_any_walkS (mU pl.isList ?_)
 have B9:p≠s.heap.objs.size:=a9 (bf pl.isList.choose_spec.1);have ZI:∀(i:Nat)v,its.toArray[i]?=some v->v=.bool (bs.getD i false):=λi v hv=>by
  have Ke:its[i]?=some v:=by simpa using hv
  have e:=rv.getD i;have e2:its.getD i iZ=v:=by rw[aD,Ke];rfl
  have hi:i<bs.length:=by have:=(aO.mp Ke).1;omega
  have e3:(bs.map V.bl).getD i .non=.bl (bs.getD i false):=by
   rw[aD,aI,aD,aq hi];rfl
  rw[e2,e3]at e;exact e
 refine⟨_,_,_,_,_,_,_,λi=>bs.getD i false,rfl,(Walks.list (by simp[I.ok.hd hc]) _ p B9 its.toArray).toS,⟨⟨_,bA _ rfl,rfl,rfl⟩,pl.isList.push _⟩,?_,λs' hm=>?_⟩
 ·intro i v Q' E' s' hv q'
  rw[ZI i v hv];exact fx q'
 ·have ea:(aZ its.toArray.size).any (λi=>bs.getD i false)=yV bs:=by
   rw[bp,<-hl];unfold yV;rw[gZ,kE,kE]
   constructor
   ·rintro⟨i,hi,h⟩
    have hi:=cL.mp hi;rw[aD,aq hi]at h;exact⟨_,dR hi,h⟩
   ·rintro⟨x,hx,h⟩
    obtain⟨i,hi⟩:=sP.mp hx;refine⟨i,cL.mpr (aO.mp hi).1,?_⟩
    rw[aD,hi];exact h
  rw[ea];obtain⟨h',g',d',Aa,Nx⟩:=s';have eg:g'=s.gens:=hm.gens;have ed:d'=s.drawn:=hm.drawn;have eo:Nx=s.os:=hm.os;subst eg;subst ed;subst eo;refine⟨.bl _,H,I.kept (t':=Aa) λb o e=>hm.heap b o ?_ (aF _ e),rfl,q⟩
  have:=bf e;simp only[aV];exact a9 this
theorem Wm{bs:List Bool}:nT K (λxs H Q=>∃p bs,xs=[.ref p]/\kW K H p (bs.map V.bl)/\Q (.bl (yV bs)) H) [.list (bs.map .bool)] (.bool (yV bs)):=λvs H0 H Q s r q=>by
 obtain⟨v,rfl,r1⟩:=r.one;cases r1 with
 |lst hq rs=>
  have e:=rs.ZJ;subst e;exact⟨_,bs,rfl,s.seq hq,q _ _ _ (.refl s) (.bl _)⟩
theorem wm:fillsNumberSlot (.type "tuple") "mul"=pure false:=
 PySem.fillsNumberSlot_seq (id:="tuple.__mul__") (r:=some (.builtin "tuple.__rmul__")) rM.lookup (by symm) F.slot_tuple_rmul.lookup (by symm)
theorem Ce:seqRepeat? (.type "tuple")=pure (some (.builtin "tuple.__mul__")):=by
 unfold seqRepeat?;rw[PySem.seqSlot_of (T:="tuple") (name:="__mul__") (id:="tuple.__mul__") rM.lookup (by symm),PySem.seqSlot_of (T:="tuple") (name:="__rmul__") (id:="tuple.__rmul__") F.slot_tuple_rmul.lookup (by symm)]
 rfl
theorem yW(i:Int)(t:Tok)(l:aR)(items:Array aE)(n:Nat)(dd:Option aR)(sl:Array (Option aE)):
  Meets (rn.«int.__rmul__» ⟨[.int i t,.ref l],[]⟩) (λ_ R s=>s.heap.get? l=some { cls:=.type "tuple",dict:=dd,data:=.seq items n,slots:=sl }/\R (.ok (.ret aE.notImplemented)) s):=
 .of_wp λprog w A R s h=>by obtain⟨hp,g,d,tk,os⟩:=s;obtain⟨hl,h⟩:=h;wp_walk;exact⟨_,rfl,h⟩
theorem Ax(l:aR)(items:Array aE)(n:Nat)(dd:Option aR)(sl:Array (Option aE))(t:Tok):
  Meets (rn.«tuple.__mul__» ⟨[.ref l,.int 1 t],[]⟩) (λ_ R s=>s.heap.get? l=some { cls:=.type "tuple",dict:=dd,data:=.seq items n,slots:=sl }/\R (.ok (.ret (.ref l))) s):=
 .of_wp λprog w A R s h=>by
  obtain⟨hp,g,d,tk,os⟩:=s;obtain⟨hl,h⟩:=h;have f1:=GH;have f2:=z0;have c1:(items.isEmpty||(1:Int)==1)=true:=by simp
  wp_walk using gx hl
  exact⟨_,rfl,h⟩
theorem yX(l:aR)(its:List aE)(n:Nat)(dd:Option aR)(sl:Array (Option aE))(k:Int)(t:Tok)(hk:2<=k)(hk2:k<2^63)(B9:its≠[])(hsz:its.length*k.toNat<=sizeLine):
  Meets (rn.«tuple.__mul__» ⟨[.ref l,.int k t],[]⟩) (λ_ R s=>s.heap.get? l=some { cls:=.type "tuple",dict:=dd,data:=.seq its.toArray n,slots:=sl }/\R (.ok (.ret (.ref s.heap.objs.size))) { s with heap:=s.heap.push { cls:=uO "tuple",data:=Data.seq (bh k.toNat its).flatten.toArray } }):=
 .of_wp λprog w A R s h=>by
  obtain⟨hp,g,d,tk,os⟩:=s;obtain⟨hl,h⟩:=h;have f1:=GH;have f2:=z0;have Wn:its.toArray.isEmpty=false:=by cases its with|nil=>exact qQ7 rfl B9|cons _ _=>rfl
  have zfr:its.toArray.size*k.toNat<=sizeLine:=by rw[bp];exact hsz
  have Wo:List.foldl (λx1 x2=>x1++x2) #[] (bh k.toNat its.toArray)=(bh k.toNat its).flatten.toArray:=by
   have:=foldl_rep its k.toNat [];rw[nB]at this;exact this
  generalize hI:its.toArray=items at *
  have Yc:¬(decide (k < -2^63)||decide (k>=2^63))=true:=by simp;omega
  have hc1:¬(items.isEmpty||k==1)=true:=by rw[Wn];simp;omega
  have X2:¬(decide (k<=0)||items.isEmpty)=true:=by rw[Wn];simp;omega
  have hmul:(items.size:Int)*k=((items.size*k.toNat:Nat):Int):=by rw[Int.natCast_mul,Int.toNat_of_nonneg (by omega)]
  have hsl:(sizeLine:Int)<=(2^63-1)/8:=by decide
  have hc3:¬((items.size:Int)*k>(2^63-1)/8):=by rw[hmul];omega
  have hc4:¬uU ((items.size:Int)*k)=true:=by unfold uU;rw[hmul];simp only[gt_iff_lt,decide_eq_true_eq];omega
  wp_walk using gx hl
  refine lP (qQ0 Yc) ?_
  wp_walk using gx hl
  refine lP (qQ0 hc1) ?_
  wp_walk using gx hl
  refine lP (qQ0 X2) ?_
  wp_walk using gx hl
  refine lP (qQ0 hc3) ?_
  wp_walk using gx hl
  refine lP (qQ0 hc4) ?_
  wp_walk using gx hl
  rw[Wo];refine lP (qQ0 ?_) ?_
  ·rw[bp,len_rep]
   have:items.size=its.length:=by rw[<-hI,bp]
   rw[Nat.mul_comm];omega
  wp_walk
  exact⟨_,rfl,h⟩
def Wp(K:au):R2:=λx y H Q=>∃a k xs,x=.ref a/\y=.int k/\oH K H a xs/\1<=k/\k<2^63/\xs≠[]/\xs.length*k.toNat<=sizeLine/\(k=1->Q (.ref a) H)/\(k≠1->∀p,H p=none->Q (.ref p) (upd H p (.tup (bh k.toNat xs).flatten)))
theorem Ov:rV X (binaryOp .Mult) (Wp X.K):=by
 intro pins s σ H x y v u Q I rx ry h;obtain⟨a,k,xs,rfl,rfl,ha,h1,h2,hx,hz,q1,q2⟩:=h;cases rx;obtain⟨t,rfl⟩:=ry;obtain⟨its,r1,p1,_⟩:=I.tuple ha;obtain⟨⟨cls,dd,data,sl⟩,ho,hc,n,hd⟩:=id p1;simp only at hc hd;subst hc hd;refine wpAny_binaryOp_repeat_ref (T:="tuple") (U:="int") (by decide) ⟨_,ho,rfl⟩ (λs'=>typeIs_int s' k t) wm F.fills_int_mul F.slot_int_rmul Ce F.slot_int_index.lookup
  (kR F.slot_int_rmul (typeIs_int s k t) F.entry_int_rmul (F.args_int_rmul_2 _ _) (yW k t a its.toArray n dd sl) ⟨ho,rfl,⟨_,ho,rfl⟩,?_⟩)
 by_cases hk:k=1
 ·subst hk
  exact kR rM ⟨_,ho,rfl⟩ F.entry_tuple_mul (F.args_tuple_mul_2 _ _) (Ax a its.toArray n dd sl t) ⟨ho,.ref a,H,I,rfl,q1 rfl⟩
 ·refine kR rM ⟨_,ho,rfl⟩ F.entry_tuple_mul (F.args_tuple_mul_2 _ _) (yX a its n dd sl k t (by omega) h2 (λz=>hx (r1.xZ.mp z)) (by rw[<-r1.length];exact hz)) ⟨ho,?_⟩
  refine⟨.ref s.heap.objs.size,_,I.laid (t':=s.toks) (o:=.tup (bh k.toNat xs).flatten) (λb ob q=>aF _ q) (ay _) ?_,rfl,q2 hk _ (I.hok.fresh (ay _))⟩
  exact⟨by rw[len_rep,Nat.mul_comm];exact hz,_,r1.rep k.toNat,qd _ _⟩
theorem Ow{n:Int}(h1:VE X a δ (.tuple ds))(h2:VE X b δ (.int n))(hn:1<=n)(Ue:n<=1000)(hz:ds.length<=100)(B9:ds≠[]):VE X (.BinOp a .Mult b pos) δ (.tuple (bh n.toNat ds).flatten):=by
 refine .of (GN Ov c7 c7) λB0 B σ H0 H Q f q=>h1 B0 B σ H0 H _ f λv H1 dO g1 r1=>h2 B0 B σ H1 dO _ (f.grow g1) λu H2 jb g2 r2=>?_
 cases r2;cases r1 with
 |tup hq rs=>
  rename_i ad xs
  have gg:=g1.trans g2;have hl:=rs.length;have h63:(1000:Int)<2^63:=by decide
  have Qu:=rs.mono g2.fG;have go:∀m,cy X.K H2 (bh m xs).flatten (bh m ds).flatten:=by
   intro m
   induction m with
   |zero=>exact .nil
   |succ m ih=>rw[d_,fU,d_,fU];exact Qu.append ih
  refine⟨_,n,_,rfl,rfl,g2.sub.oY (g2.fG.oY hq),hn,by omega,λz=>?_,?_,λe=>?_,λ_ p hp=>?_⟩
  ·rw[z]at hl
   exact B9 (jF hl.symm)
  ·rw[dA,hl]
   have:n.toNat<=1000:=by omega
   have:=iC hz this;omega
  ·refine q _ H2 jb gg ?_
   have e2:(bh n.toNat ds).flatten=ds:=by rw[e];simp
   rw[e2];exact .tup (g2.fG.oY hq) Qu
  ·exact q _ _ _ (gg.trans (.laid g2.sub hp)) (.tup (oH.of bq) ((go _).mono (eB.laid g2.sub hp).fG))
end
def qZ(as:List aR)(H H0:Hp):Hp:=λq=>if q∈as then H q else H0 q
theorem sY{H0: Hp}(h:q∈as):qZ as H H0 q=H q:=qQ3 h
theorem vj{H0: Hp}(h:q∉as):qZ as H H0 q=H0 q:=qQ2 h
abbrev OR:=Hp->Hp->List aR->Prop
def su(R:OR):Prop:=∀H0 H Ha Hb as,R H0 H as->dv H0 Ha->(∀a∈as,Hb a=H a)->R Ha Hb as
structure OF(K:au)(B0 B:Hp)(R:OR)(H0 H:Hp)(σ:St)(δ:List Slot):Prop where
 fr:fJ K B0 B H0 H σ δ
 no:noOwn δ=true
 ex:∃as:List aR,(∀a∈as,H0 a=none/\B a=none/\H a≠none)/\R H0 H as
section
variable{K:au}{B0 B H0 H dS H' C0 C Ha Hb:Hp}{σ σ':St}{δ δ':List Slot}{R R':OR}
theorem dv.eq{H': Hp}(s:dv H H')(h:H a≠none):H' a=H a:=by
 cases e:H a with
 |none=>exact qQ7 e h
 |some o=>exact s a o e
theorem OF.go(m:su R)(G:OF K B0 B R H0 H σ δ)(f':fJ K H0 H Ha Hb σ' δ')(hn:noOwn δ'=true):OF K B0 B R Ha Hb σ' δ':=by
 obtain⟨as,h1,h2⟩:=G.ex;refine⟨f'.re hn (G.fr.ent.trans f'.ent),hn,as,λa ha=>?_,m _ _ _ _ _ h2 f'.ent.fG λa ha=>f'.ent.big.eq (h1 a ha).2.2⟩
 obtain⟨z1,z2,z3⟩:=h1 a ha;cases e:H a with
 |none=>exact qQ7 e z3
 |some o=>exact⟨f'.ent.still z1 e,z2,f'.ent.big.ne z3⟩
theorem OF.from(G:OF K B0 B R H0 H σ δ)(g:eB C0 B H0 H):OF K C0 B R H0 H σ δ:=⟨G.fr.re G.no g,G.no,G.ex⟩
theorem OF.own(G:OF K B0 B R H0 H σ δ):fJ K H0 H H0 H σ δ:=G.fr.re G.no (.refl G.fr.sub)
theorem OF.forget(m:su R)(G:OF K B0 B R H0 H σ δ)(hf:JW δ δ')(hn:noOwn δ'=true):OF K B0 B R H0 H σ δ':=G.go m (G.own.forget hf.len hf.at) hn
theorem pN(sb:dv H0 H):dv H0 (qZ as H H0):=λb u e=>by
 by_cases hb:b∈as
 ·rw[sY hb];exact sb b u e
 ·rw[vj hb];exact e
theorem Cg(sb:dv H0 H):dv (qZ as H H0) H:=λb u e=>by
 by_cases hb:b∈as
 ·rw[sY hb]at e;exact e
 ·rw[vj hb]at e;exact sb b u e
theorem OF.look(G:OF K B0 B R H0 H σ δ){i:Nat}(hi:δ[i]?=some (.ref p))(hR:∀Ha Hb as,dv Ha Hb->R Ha Hb as->Rep K (qZ as Hb Ha) (.ref p) d):∃C0,fJ K C0 H C0 H σ (δ.set i (.val d)):=by
 obtain⟨as,h1,h2⟩:=G.ex;have sm:=pN (as:=as) G.fr.sub;have hs:σ[i]?=some (some (.ref p)):=G.fr.slot i _ hi;have f0:fJ K (qZ as H H0) H (qZ as H H0) H σ δ:=by
  refine⟨.refl (Cg G.fr.sub),G.fr.len,λi sl e=>?_,G.fr.apart⟩
  have q:=G.fr.slot i sl e;cases sl with
  |un=>trivial
  |ref _=>exact q
  |val d=>obtain⟨v,g1,g2⟩:=q;exact⟨v,g1,g2.mono sm⟩
  |own ds=>exact qQ7 e (lA G.no i ds)
 have f1:=f0.k_ (i:=i) (v:=.ref p) (sl:=.val d) ⟨_,rfl,hR H0 H as G.fr.sub h2⟩ rfl;have e:σ.set i (some (.ref p))=σ:=by
  apply iW;intro j;by_cases h:j=i
  ·subst h;rw[bx (aO.mp hs).1,hs]
  ·rw[aX (bV h)]
 rw[e]at f1;exact⟨_,f1⟩
theorem OF.rep(G:OF K B0 B R H0 H σ δ)(hR:∀Ha Hb as,dv Ha Hb->R Ha Hb as->Rep K (qZ as Hb Ha) (.ref p) d):∃Ha,eB B0 B Ha H/\Rep K Ha (.ref p) d:=by
 obtain⟨as,h1,h2⟩:=G.ex;refine⟨qZ as H H0,⟨G.fr.ent.big,G.fr.ent.fG.trans (pN G.fr.sub),Cg G.fr.sub,λb e=>?_⟩,hR H0 H as G.fr.sub h2⟩
 by_cases hb:b∈as
 ·exact .inr (h1 b hb).2.1
 ·rw[vj hb]at e;exact G.fr.ent.new b e
end
section
variable{X:Cx}{B0 B H0 H dS H' Ha Hb:Hp}{σ σ':St}{D:Ends}{st:ia}{rest body orelse:List ia}{δ δ':List Slot}{a p:aR}{e c tg iter:bZ}{d dp:aj}{ds:List aj}{pos px yH:Pos}{x y:Str}{R:OR}
theorem lC(m:su R)(G:OF X.K B0 B R H0 H σ δ)(h:VS X st δ (.nx δ'))(hn:noOwn δ'=true)(q:∀σ' dS H',OF X.K B0 B R dS H' σ' δ'->D.nx σ' H'):cS X st D σ H:=
 h H0 H σ H0 H D G.own λσ' Ha Hb sm f'=>q σ' Ha Hb (G.go m f' hn)
theorem S4(m:su R)(G:OF X.K B0 B R H0 H σ δ)(i j:Nat)(hi:δ[i]?=some (.ref p))(hR:∀Ha Hb as,dv Ha Hb->R Ha Hb as->Rep X.K (qZ as Hb Ha) (.ref p) dp)(h:VE X e (δ.set i (.val dp)) d)(hs:KR d=true)(hn:noOwn (δ.set j (.val d))=true)(q:∀σ' dS H',OF X.K B0 B R dS H' σ' (δ.set j (.val d))->D.nx σ' H')(hN:X.N.Nodup)
  (hj:X.N[j]?=some y:=by rfl)(hx:Loc X.env.scope y:=by first|exact a7 rfl|exact cj rfl)(An:swapsWith e (some (.Name y px)) pos.line X.env=pure false:=by rfl)(hf:X.fn y=true\/X.env.scope.names.lookup y=some .local:=by first|exact .inl rfl|exact .inr rfl):
  cS X (.Assign [.Name y px] e pos) D σ H:=λpins s I=>by
 refine rS (i:=j) hN hj hx c7 An hf pins s σ H D I ?_
 obtain⟨C0,f1⟩:=G.look hi hR;refine h C0 H σ C0 H _ f1 λv C1 H1 g1 r=>?_
 have G1:OF X.K B0 B R H0 H1 σ δ:=G.go m (G.own.grow (.far G.fr.sub g1.big)) G.no;exact q _ H0 H1 (G1.go m (G1.own.k_ (v:=v) (sl:=.val d) ⟨_,rfl,r.V6 hs⟩ rfl) hn)
theorem Wq{tgt:IJ}(Rs:Nat->OR)(m:∀k,su (Rs k))(G:OF X.K B0 B (Rs 0) H0 H σ δ)(hp:tN (model X.prog X.w) X.A X.env X.xe)(hc:X.calm=true)(hi:VI X tg iter δ ds)(hg:PG X tg (KQ X.K tgt))
  (step:∀k d,ds[k]?=some d->∃δ',Ar tgt d δ=some δ'/\noOwn δ'=true/\∀(D:Ends)C0 σ' dS H',OF X.K C0 B (Rs k) dS H' σ' δ'->(∀σ2 Ha Hb,OF X.K C0 B (Rs (k+1)) Ha Hb σ2 δ->D.nx σ2 Hb)->B6 X body D σ' H')
  (q:∀σ2 Ha Hb,OF X.K B0 B (Rs ds.length) Ha Hb σ2 δ->D.nx σ2 Hb)
  (hs:∀x,foldedSetIterable iter X.env x=pure x:=by intro _;rfl):cS X (.For tg iter body [] pos) D σ H:=λpins s I=>by
 obtain⟨wi,pi,qi⟩:=hi;refine BV hp hc pi hg mN hs pins s σ H D I ?_
 refine qi H0 H σ H0 H _ G.own λJ H1 dO g it=>?_
 have G1:=G.go (m 0) (G.own.grow g) G.no;refine⟨λi mm σ' H'=>i<=ds.length/\mm=ds.length-i/\∃Ha,OF X.K H1 B (Rs i) Ha H' σ' δ,⟨ds.length,bF _,rfl,H1,G1.from ⟨G1.fr.ent.big,dv.refl _,G1.fr.sub,λ_ z=>.inl z⟩⟩,?_⟩
 rintro i mm σ' H' ⟨hi,rfl,Ha,Ga⟩
 obtain⟨i1,i2,i3⟩:=it Ha H' Ga.fr.ent.fG Ga.fr.sub i;by_cases nR:i<ds.length
 ·have hd:ds[i]?=some ds[i]:=by simp[nR]
  obtain⟨δ',e1,e2,e3⟩:=step i _ hd;refine .inr ⟨i1 nR,λσ'' wX=>∃Hb,OF X.K H1 B (Rs (i+1)) Hb wX σ'' δ,λσ'' wX ⟨Hb,z⟩=>⟨ds.length-(i+1),by omega,nR,rfl,Hb,z⟩,λv H2 y=>?_⟩
  obtain⟨Hb,g2,rx⟩:=i3 v H2 _ hd y;refine r9 (Ga.own.grow g2) rx e1 λσ3 f3=>?_
  exact e3 _ H1 σ3 Hb H2 (Ga.go (m i) f3 e2) λσ2 Hc Hd z=>⟨Hc,z⟩
 ·have e:i=ds.length:=by omega
  subst e;refine .inl ⟨i2 (ay _),q σ' Ha H' (Ga.from ⟨Ga.fr.ent.big,G1.fr.ent.fG.trans Ga.fr.ent.fG,Ga.fr.sub,λb z=>?_⟩)⟩
  rcases Ga.fr.ent.new b z with z|z
  ·exact G1.fr.ent.new b z
  ·exact .inr z
theorem Wr(G:OF X.K B0 B R H0 H σ δ)(i:Nat)(hi:δ[i]?=some (.ref p))(hR:∀Ha Hb as,dv Ha Hb->R Ha Hb as->Rep X.K (qZ as Hb Ha) (.ref p) d)(q:∀v dS H',eB B0 B dS H'->Rep X.K dS v d->D.rt v H')
  (hN:X.N[i]?=some x:=by rfl)(hv:AX X.env.scope x:=by first|exact a7 rfl|exact cj (a7 rfl)|exact cj (cj rfl))(hd:(x==("__debug__":Str))=false:=by decide)(oB:(x==("__classdict__":Str))=false:=by decide):
  cS X (.Return (some (.Name x px)) pos) D σ H:=λpins s I=>vX (jO hN hv hd oB) pins s σ H D I (by
 obtain⟨Ha,g,r⟩:=G.rep hR;exact⟨_,G.fr.slot i _ hi,q _ Ha H g r⟩)
def Lk(K:au)(S:Type)(PR:aR->S->OR)(ok:S->aj->S->Prop):Sp:=λvs H Q _=>∃(H0:Hp)(p:aR)(v:V)(as:List aR)(s s':S)(d:aj),vs=[.ref p,v]/\dv H0 H/\Rep K H0 v d/\(∀a∈as,H0 a=none/\H a≠none)/\PR p s H0 H as/\ok s d s'/\
 ∀(dS H':Hp)(as':List aR),dv H0 dS->dv dS H'->(∀a,dS a≠none->H0 a≠none\/H a=none)->(∀a∈as',dS a=none/\H' a≠none/\(a∈as\/H a=none))->(∀b o,H b=some o->b∉as->H' b=some o)->PR p s' dS H' as'->Q .non H'
theorem Ws{S:Type}{PR:aR->S->OR}{ok:S->aj->S->Prop}{k:Nat}{f:Str}{ps:List Str}{p0 p1 pc:Pos}{s s':S}(C:bD X.prog X.w X.K X.mg X.base k f ps (Lk X.K S PR ok))(hr:e8 k X.A)(G:OF X.K B0 B (PR p s) H0 H σ δ)(m:su (PR p s))(i:Nat)(hi:δ[i]?=some (.ref p))(h:VE X e δ d)(hok:ok s d s')
  (q:∀dS H',OF X.K B0 B (PR p s') dS H' σ δ->D.nx σ H')
  (hN:X.N[i]?=some x:=by rfl)(hv:AX X.env.scope x:=by first|exact a7 rfl|exact cj (a7 rfl)|exact cj (cj rfl))(hd:(x==("__debug__":Str))=false:=by decide)(oB:(x==("__classdict__":Str))=false:=by decide)
  (hg:Gl X f:=by rfl)(oW:(f==("__debug__":Str))=false:=by decide)(he:starEach [.Name x p0,e] X.env=(false,eval (.Name x p0) X.env)::starEach [e] X.env:=by rfl)(VN:starEach [e] X.env=(false,eval e X.env)::starEach [] X.env:=by rfl)(qp:(backTo pc (starEach [e] X.env)).any (·.1)=false:=by rfl)
  (An:swapsWith (.Call (.Name f p1) [.Name x p0,e] [] pc) none pos.line X.env=pure false:=by rfl):
  cS X (.Expr (.Call (.Name f p1) [.Name x p0,e] [] pc) pos) D σ H:=λpins s0 I=>by
 obtain⟨fa,fd,F,hm,hk,hb⟩:=C;refine qj (uX F hr hg hm hk hb .nil A6 (du (jO hN hv hd oB) (du c7 fF VN) he) oW he qp) An pins s0 σ H D I ?_
 refine⟨.ref p,G.fr.slot i _ hi,?_⟩
 refine h H0 H σ H0 H _ G.own λv H1 dO g r=>?_
 have G1:=G.go m (G.own.grow g) G.no;obtain⟨as,h1,h2⟩:=G1.ex;refine⟨H1,p,v,as,s,s',d,rfl,G1.fr.sub,r,λa ha=>⟨(h1 a ha).1,(h1 a ha).2.2⟩,h2,hok,λdS H' as' a1 a2 a3 a4 a5 a6=>?_⟩
 have hB:∀b,B b≠none->b∉as:=λb hb z=>hb (h1 b z).2.1
 refine q dS H' ⟨⟨⟨λb u e=>a5 b u (G1.fr.ent.big b u e) (hB b (by rw[e];simp)),G1.fr.ent.fG.trans a1,a2,λb z=>?_⟩,G1.fr.len,λj sl e=>?_,G1.fr.apart⟩,G.no,as',λa ha=>?_,a6⟩
 ·rcases a3 b z with z|z
  ·exact G1.fr.ent.new b z
  ·exact .inr (G1.fr.ent.big.free z)
 ·have qq:=G1.fr.slot j sl e
  cases sl with
  |un=>trivial
  |ref _=>exact qq
  |val d=>obtain⟨v,g1,g2⟩:=qq;exact⟨v,g1,g2.mono a1⟩
  |own ds=>exact qQ7 e (lA G.no j ds)
 ·obtain⟨z1,z2,z3⟩:=a4 a ha
  refine⟨z1,?_,z2⟩
  rcases z3 with z3|z3
  ·exact(h1 a z3).2.1
  ·exact G1.fr.ent.big.free z3
end
section
variable{X:Cx}{pins:List (aR×Obj)}{σ:St}{H:Hp}{s:aM}{a:aR}{kvs:List (Key×V)}{k:Key}{d:V}{u r:aE}{A:dQ}{E:aE->aM->Prop}
theorem Ln(I:Inv X pins σ H s)(e:H a=some (.dK kvs))(ry:RelV (kV k) u)(rd:RelV d r)(hl:kvs.length<sizeLine)(h1:∀v w' s',jQ kvs k=some v->Inv X pins σ H s'->RelV v w'->Q w' s')
  (h2:∀s',jQ kvs k=none->Inv X pins σ (upd H a (.dK (putK kvs k d))) s'->Q r s'):wpAny (model X.prog X.w) A (call (.builtin "dict.setdefault") [.ref a,u,r]) Q E s:=by
 obtain⟨z,hd,vs,rel,dd⟩:=A8 I.hok e;have rv:=rel.val k;refine call_meetsIn xE dd.typeIs PySem.F.entry_dict_setdefault (PySem.F.args_dict_setdefault_3 _ _ _) (kt_meets_setdefault (eZ X.prog X.w) a (rW ry) hd r) ⟨vs,dd,by rw[<-rel.length];exact z,λv hv=>?_,λhn h' DI hs=>?_⟩
 ·rw[hv]at rv
  cases ev:jQ kvs k with
  |none=>rw[ev]at rv;exact rv.elim
  |some w=>rw[ev]at rv;exact h1 w v _ ev (I.tok _) rv
 ·have Qm:(putK kvs k d).length<=sizeLine:=by have:=mK kvs k d;omega
  have he:∃q,h'.get? a=some q:=let⟨q,_,_,hq,_⟩:=DI;⟨q,hq⟩;rw[hn]at rv;refine h2 _ ?_ (x3 I (by rw[e];exact gw) hs he (yE Qm hd (rel.put k rd) DI))
  cases ev:jQ kvs k with
  |none=>rfl
  |some w=>rw[ev]at rv;exact rv.elim
end
def Wt(td ty tx:TE):TE:=λσ H Q=>td σ H λx H1=>∃a,x=.ref a/\Zk H1 a/\ty σ H1 λy H2=>tx σ H2 λz H3=>∃kvs k,H3 a=some (.dK kvs)/\y=kV k/\kvs.length<sizeLine/\
 (∀v,jQ kvs k=some v->Q v H3)/\(jQ kvs k=none->Q z (upd H3 a (.dK (putK kvs k z))))
section
variable{X:Cx}{o e f:bZ}{apos qv:Pos}{td ty tx:TE}
theorem Ox(ho:PE X o td)(he:PE X e ty)(hf:PE X f tx)(m:M2 X o "setdefault" apos e f qv):PE X (.Call (.Attribute o "setdefault" apos) [e,f] [] qv) (Wt td ty tx):=by
 intro pins s σ H Q I h;refine wpAny_Call_method m.base m.few m.line AO xE PySem.F.type_dict_setdefault (gK (ho pins s σ H _ I h) λu s1 ⟨x,H1,I1,rx,a,ex,d,q1⟩=>?_)
 subst ex;obtain rfl:u=dw a:=rx;obtain⟨t1,t2,_⟩:=Kt I1 d;refine⟨t1,t2,?_⟩
 rw[m.trees];refine qU rfl (tP (kZ (gK (he pins s1 σ H1 _ I1 q1) λiv s2 ⟨y,H2,I2,ry,q2⟩=>
  kZ (gK (hf pins s2 σ H2 _ I2 q2) λfv s3 ⟨z,H3,I3,rz,kvs,k,ea,ey,hl,q3,q4⟩=>vR ?_))))
 subst ey;exact Ln I3 ea ry rz hl (λv w' s' ev I4 qk=>⟨v,H3,I4,qk,q3 v ev⟩) λs' ev I4=>⟨z,_,I4,rz,q4 ev⟩
end
section
variable{X:Cx}{B0 B H0 H:Hp}{σ:St}{D:Ends}{st:ia}{rest body orelse:List ia}{δ δ':List Slot}{a p C dx:aR}{e c ek ev:bZ}{d:aj}{pos px po ps pa pc:Pos}{x y fl:Str}{fs:List (Str×V)}{k:Nat}
theorem D0(f:fJ X.K B0 B H0 H σ δ)(h:VS X st δ (.nx δ'))(q:∀σ' Ha Hb,dv H0 Ha->fJ X.K B0 B Ha Hb σ' δ'->D.nx σ' Hb):cS X st D σ H:=h B0 B σ H0 H D f q
theorem wZ(f:fJ X.K B0 B H0 H σ δ)(h:VT X c δ true)(q:∀Ha Hb,eB H0 H Ha Hb->B6 X body D σ Hb):cS X (.If c body orelse pos) D σ H:=λpins s I=>
 Dw oZ mN nD pins s σ H D I (h B0 B σ H0 H _ f λH1 dO g=>NT (q H1 dO g))
theorem nh(f:fJ X.K B0 B H0 H σ δ)(h:VT X c δ false)(q:∀Ha Hb,eB H0 H Ha Hb->B6 X orelse D σ Hb):cS X (.If c body orelse pos) D σ H:=λpins s I=>
 Dw oZ nD mN pins s σ H D I (h B0 B σ H0 H _ f λH1 dO g=>NS (q H1 dO g))
theorem S5(i:Nat){fi:aR}{fd:gJ}{ps':List Str}{sp:Sp}{j:Nat}{p0 pk:Pos}(M:Mk X.K C fi)(F:ft X.prog X.w X.K X.mg X.base jP j fi fd ps' sp)(hr:e8 (j+1) X.A)(hm:X.mg x=some (.ref C))(hb:Binds X.K fd ps' [])
  (q:∀p dx E,H p=none->H dx=none->dx≠p->sp [.ref p] (upd (upd H dx (.own p)) p (.ins C dx [])) (λv H2=>v=.non/\D.nx (σ.set i (some (.ref p))) H2) E)
  (hN:X.N.Nodup)(hi:X.N[i]?=some y:=by rfl)(hx:Loc X.env.scope y:=by first|exact a7 rfl|exact cj rfl)(hs:swapsWith (.Call (.Name x p0) [] [] pk) (some (.Name y px)) pos.line X.env=pure false:=by rfl)(hf:X.fn y=true\/X.env.scope.names.lookup y=some .local:=by first|exact .inl rfl|exact .inr rfl)
  (hg:Gl X x:=by rfl)(oW:(x==("__debug__":Str))=false:=by decide):cS X (.Assign [.Name y px] (.Call (.Name x p0) [] [] pk) pos) D σ H:=λpins s I=>by
 refine rS (i:=i) hN hi hx (Kh M F hr hg hm hb .nil A6 oW) hs hf pins s σ H D I ?_
 exact λp dx h1 h2 h3=>q p dx _ h1 h2 h3
theorem Qx(f:fJ X.K B0 B H0 H σ δ)(hr:e8 k X.A)(i:Nat)(hi:δ[i]?=some (.ref p))(ins:H p=some (.ins C dx fs))(cl:DB X.K C)(na:kB X.K C fl)(lk:fs.lookup fl=some (.ref a))(hd:H a=some (.dK kvs))(hk:VE X ek δ (.str y))(hv:VE X ev δ d)(hl:kvs.length<sizeLine)
  (q:∀v Ha Hb,eB H0 H Ha Hb->Rep X.K Ha v d->D.nx σ (upd Hb a (.dK (putK kvs (bG y) v))))
  (hN:X.N[i]?=some x:=by rfl)(wo:AX X.env.scope x:=by first|exact a7 rfl|exact cj (a7 rfl)|exact cj (cj rfl))(oW:(x==("__debug__":Str))=false:=by decide)(oB:(x==("__classdict__":Str))=false:=by decide)
  (hb:attributeBase (.Name x px) fl X.env (eval (.Name x px) X.env)=eval (.Name x px) X.env:=by rfl)(hs:swapsWith ev (some (.Subscript (.Attribute (.Name x px) fl po) ek ps)) pos.line X.env=pure false:=by rfl):
  cS X (.Assign [.Subscript (.Attribute (.Name x px) fl po) ek ps] ev pos) D σ H:=λpins s I=>by
 refine x4 (M6 hr) (yt (jO hN wo oW oB) hb) c7 c7 hs pins s σ H D I ?_
 refine hv B0 B σ H0 H _ f λv H1 dO g1 r1=>?_
 refine⟨.ref p,f.slot i _ hi,p,C,dx,fs,.ref a,rfl,g1.big _ _ ins,cl,na,lk,?_⟩
 refine hk B0 B σ H1 dO _ (f.grow g1) λu H2 jb g2 r2=>?_
 cases r2;exact⟨a,_,rfl,Al.k (k:=bG y) (g2.big _ _ (g1.big _ _ hd)) hl,q v H2 jb (g1.trans g2) (r1.mono g2.fG)⟩
theorem S6(f:fJ X.K B0 B H0 H σ δ)(hr:e8 k X.A)(i:Nat){kvs:List (List Key×V)}{e1 e2:bZ}{z1 z2:Str}{x1}(hi:δ[i]?=some (.ref p))(ins:H p=some (.ins C dx fs))(cl:DB X.K C)(na:kB X.K C fl)(lk:fs.lookup fl=some (.ref a))(hd:H a=some (.dT kvs))(Uk:VE X e1 δ (.str z1))(hk2:VE X e2 δ (.str z2))(hv:VE X ev δ d)(hl:kvs.length<sizeLine)
  (q:∀v t Ha Hb,eB H0 H Ha Hb->Hb t=none->Rep X.K Ha v d->D.nx σ (upd (upd Hb t (.tup [.str z1,.str z2])) a (.dT (putK kvs (wg (z1,z2)) v))))
  (hN:X.N[i]?=some x:=by rfl)(wo:AX X.env.scope x:=by first|exact a7 rfl|exact cj (a7 rfl)|exact cj (cj rfl))(oW:(x==("__debug__":Str))=false:=by decide)(oB:(x==("__classdict__":Str))=false:=by decide)
  (hb:attributeBase (.Name x px) fl X.env (eval (.Name x px) X.env)=eval (.Name x px) X.env:=by rfl)(hs:swapsWith ev (some (.Subscript (.Attribute (.Name x px) fl po) (.Tuple [e1,e2] x1 pt) ps)) pos.line X.env=pure false:=by rfl)
  (Qp:starEach [e1,e2] X.env=(false,eval e1 X.env)::starEach [e2] X.env:=by rfl)(pA:starEach [e2] X.env=(false,eval e2 X.env)::starEach [] X.env:=by rfl):
  cS X (.Assign [.Subscript (.Attribute (.Name x px) fl po) (.Tuple [e1,e2] x1 pt) ps] ev pos) D σ H:=λpins s I=>by
 refine x4 (M6 hr) (yt (jO hN wo oW oB) hb) (yv (du c7 (du c7 fF pA) Qp)) c7 hs pins s σ H D I ?_
 refine hv B0 B σ H0 H _ f λv H1 dO g1 r1=>?_
 refine⟨.ref p,f.slot i _ hi,p,C,dx,fs,.ref a,rfl,g1.big _ _ ins,cl,na,lk,?_⟩
 refine Uk B0 B σ H1 dO _ (f.grow g1) λu H2 jb g2 r2=>?_
 cases r2;refine hk2 B0 B σ H2 jb _ ((f.grow g1).grow g2) λu H3 x6 g3 r3=>?_
 cases r3;have gg:=(g1.trans g2).trans g3;refine⟨by show 2<=sizeLine;rw[dA];decide,λt ht=>?_⟩
 have Qy:(upd x6 t (.tup [.str z1,.str z2])) a=some (.dT kvs):=by rw[aP (bN (gg.big _ _ hd) ht)];exact gg.big _ _ hd
 exact⟨a,_,rfl,Al.t (k:=wg (z1,z2)) Qy bq hl,q v t H3 x6 gg ht ((r1.mono g2.fG).mono g3.fG)⟩
theorem D1(f:fJ X.K B0 B H0 H σ δ)(i:Nat)(hi:δ[i]?=some (.ref p))(ins:H p=some (.ins C dx fs))(cl:DB X.K C)(na:kB X.K C fl)(lk:fs.lookup fl=some (.ref a))(hd:H a=some (.lst xs))(hv:VE X e δ d)(hl:xs.length<sizeLine)
  (q:∀v Ha Hb,eB H0 H Ha Hb->Rep X.K Ha v d->D.nx σ (upd Hb a (.lst (xs ++ [v]))))
  (hN:X.N[i]?=some x:=by rfl)(wo:AX X.env.scope x:=by first|exact a7 rfl|exact cj (a7 rfl)|exact cj (cj rfl))(oW:(x==("__debug__":Str))=false:=by decide)(oB:(x==("__classdict__":Str))=false:=by decide)
  (hb:attributeBase (.Name x px) fl X.env (eval (.Name x px) X.env)=eval (.Name x px) X.env:=by rfl)(lz:attributeBase (.Attribute (.Name x px) fl po) "append" X.env (eval (.Attribute (.Name x px) fl po) X.env)=eval (.Attribute (.Name x px) fl po) X.env:=by rfl)
  (hs:starEach [e] X.env=(false,eval e X.env)::starEach [] X.env:=by rfl)
  (qw:((backTo pc (starEach [e] X.env)).all (λx=>!x.1)&&(backToKw pc (keywordEach [] X.env)).all (λx=>x.1.isSome)&&decide (([e]:List bZ).length+([]:List gR).length+(if([]:List gR).isEmpty then 0 else 1)<30))=true:=by rfl)
  (hline:(pa.endLine==pc.line)=true:=by rfl)(jz:(backTo pc (starEach [] X.env)).any (·.1)=false:=by rfl)(An:swapsWith (.Call (.Attribute (.Attribute (.Name x px) fl po) "append" pa) [e] [] pc) none pos.line X.env=pure false:=by rfl):
  cS X (.Expr (.Call (.Attribute (.Attribute (.Name x px) fl po) "append" pa) [e] [] pc) pos) D σ H:=λpins s I=>by
 refine qj (u5 fy kG kH pH (yt (jO hN wo oW oB) hb) (du c7 fF hs) lz qw hline hs jz) An pins s σ H D I ?_
 refine⟨.ref p,f.slot i _ hi,p,C,dx,fs,.ref a,rfl,ins,cl,na,lk,.inl ⟨rfl,_,kW.of hd⟩,?_⟩
 refine hv B0 B σ H0 H _ f λv H1 dO g1 r1=>?_
 exact⟨a,xs,v,rfl,rfl,g1.big _ _ hd,hl,q v H1 dO g1 r1⟩
theorem Lp(f:fJ X.K B0 B H0 H σ δ)(i:Nat){pl Us Ut:Pos}(hi:δ[i]?=some (.ref p))(ins:H p=some (.ins C dx fs))(cl:DB X.K C)(na:kB X.K C fl)(lk:fs.lookup fl=some (.ref a))(hd:H a=some (.dK kvs))(hk:VE X ek δ (.str y))(hv:VE X e δ d)(hl:kvs.length<sizeLine)(E5:noOwn δ=true)(Z0:H0 a=none)
  (hc:∀v,jQ kvs (bG y)=some v->∃c xs,v=.ref c/\H c=some (.lst xs)/\xs.length<sizeLine)
  (q1:∀c xs v t Ha Hb,jQ kvs (bG y)=some (.ref c)->H c=some (.lst xs)->H t=none->eB H0 H Ha Hb->Ha t=none->Rep X.K Ha v d->D.nx σ (upd Hb c (.lst (xs ++ [v]))))
  (q2:∀v c Ha Hb,jQ kvs (bG y)=none->H c=none->dv H0 Ha->dv Ha Hb->(∀b,Ha b≠none->H0 b≠none\/H b=none)->(∀b o,H b=some o->b≠a->Hb b=some o)->Hb a=some (.dK (putK kvs (bG y) (.ref c)))->Hb c=some (.lst [])->Ha c=none->Ha a=none->Rep X.K Ha v d->D.nx σ (upd Hb c (.lst [v])))
  (hN:X.N[i]?=some x:=by rfl)(wo:AX X.env.scope x:=by first|exact a7 rfl|exact cj (a7 rfl)|exact cj (cj rfl))(oW:(x==("__debug__":Str))=false:=by decide)(oB:(x==("__classdict__":Str))=false:=by decide)
  (hb:attributeBase (.Name x px) fl X.env (eval (.Name x px) X.env)=eval (.Name x px) X.env:=by rfl)(m:M2 X (.Attribute (.Name x px) fl po) "setdefault" Us ek (.List [] pl) Ut:=by exact⟨rfl,rfl,rfl,rfl⟩)
  (lz:attributeBase (.Call (.Attribute (.Attribute (.Name x px) fl po) "setdefault" Us) [ek,.List [] pl] [] Ut) "append" X.env (eval (.Call (.Attribute (.Attribute (.Name x px) fl po) "setdefault" Us) [ek,.List [] pl] [] Ut) X.env)=eval (.Call (.Attribute (.Attribute (.Name x px) fl po) "setdefault" Us) [ek,.List [] pl] [] Ut) X.env:=by rfl)
  (hs:starEach [e] X.env=(false,eval e X.env)::starEach [] X.env:=by rfl)
  (qw:((backTo pc (starEach [e] X.env)).all (λx=>!x.1)&&(backToKw pc (keywordEach [] X.env)).all (λx=>x.1.isSome)&&decide (([e]:List bZ).length+([]:List gR).length+(if([]:List gR).isEmpty then 0 else 1)<30))=true:=by rfl)
  (hline:(pa.endLine==pc.line)=true:=by rfl)(jz:(backTo pc (starEach [] X.env)).any (·.1)=false:=by rfl)(An:swapsWith (.Call (.Attribute (.Call (.Attribute (.Attribute (.Name x px) fl po) "setdefault" Us) [ek,.List [] pl] [] Ut) "append" pa) [e] [] pc) none pos.line X.env=pure false:=by rfl):
  cS X (.Expr (.Call (.Attribute (.Call (.Attribute (.Attribute (.Name x px) fl po) "setdefault" Us) [ek,.List [] pl] [] Ut) "append" pa) [e] [] pc) pos) D σ H:=λpins s I=>by
 refine qj (u5 fy kG kH pH (Ox (yt (jO hN wo oW oB) hb) c7 (BX fF) m) (du c7 fF hs) lz qw hline hs jz) An pins s σ H D I ?_
 refine⟨.ref p,f.slot i _ hi,p,C,dx,fs,.ref a,rfl,ins,cl,na,lk,a,rfl,.inl ⟨kvs,.inl hd⟩,?_⟩
 refine hk B0 B σ H0 H _ f λu H1 dO g1 r1=>?_
 cases r1;refine⟨by show 0<=sizeLine;exact bF _,λt ht=>?_⟩
 have Z1:a≠t:=bN (g1.big _ _ hd) ht;have gl:eB H0 H H1 (upd dO t (.lst [])):=g1.trans (.loose g1.sub ht);refine⟨kvs,bG y,by rw[aP Z1];exact g1.big _ _ hd,rfl,hl,λv D2=>?_,λhn=>?_⟩
 ·obtain⟨c,xs,rfl,K9,Wu⟩:=hc v D2
  have hct:c≠t:=bN (g1.big _ _ K9) ht;refine⟨.inl ⟨rfl,_,kW.of (by rw[aP hct];exact g1.big _ _ K9)⟩,?_⟩
  refine hv B0 B σ H1 _ _ (f.grow gl) λv H2 jb g2 r2=>?_
  have gg:=gl.trans g2;refine⟨c,xs,v,rfl,rfl,gg.big _ _ K9,Wu,q1 c xs v t H2 jb D2 K9 (g1.big.free ht) gg ?_ r2⟩
  exact g2.still (g1.sub.free ht) bq
 ·have hca:t≠a:=bV Z1
  have ga:(upd dO t (.lst [])) a=some (.dK kvs):=by rw[aP Z1];exact g1.big _ _ hd
  refine⟨.inl ⟨rfl,_,kW.of (by rw[aP hca];exact bq)⟩,?_⟩
  have h1a:H1 a=none:=g1.still Z0 hd;have h1t:H1 t=none:=g1.sub.free ht
  generalize hM:upd (upd dO t (.lst [])) a (.dK (putK kvs (bG y) (.ref t)))=Hm
  have m0:∀b o,H b=some o->b≠a->Hm b=some o:=λb o e hb=>by
   rw[<-hM,aP hb,aP (bN (g1.big _ _ e) ht)];exact g1.big _ _ e
  have m1:Hm a=some (.dK (putK kvs (bG y) (.ref t))):=by rw[<-hM];exact bq
  have m2:Hm t=some (.lst []):=by rw[<-hM,aP hca];exact bq
  have sm:dv H1 Hm:=λb u e=>by
   rw[<-hM,aP (bN e h1a),aP (bN e h1t)];exact g1.sub b u e
  have fm:fJ X.K H1 Hm H1 Hm σ δ:=by
   have f1:=f.grow g1;refine⟨.refl sm,f1.len,λj sl e=>?_,f1.apart⟩
   have qq:=f1.slot j sl e;cases sl with
   |un=>trivial
   |ref _=>exact qq
   |val d=>exact qq
   |own ds=>exact qQ7 e (lA E5 j ds)
  refine hv H1 Hm σ H1 Hm _ fm λv H2 jb g2 r2=>?_
  refine⟨t,[],v,rfl,rfl,g2.big _ _ m2,by show 0<sizeLine;rw[dA];decide,?_⟩
  refine q2 v t H2 jb hn (g1.big.free ht) (g1.fG.trans g2.fG) g2.sub (λb z=>?_) (λb o e hb=>g2.big _ _ (m0 b o e hb)) (g2.big _ _ m1) (g2.big _ _ m2) (g2.still h1t m2) (g2.still h1a m1) r2
  rcases g2.new b z with z|z
  ·exact g1.new b z
  ·refine .inr ?_
   cases e:H b with
   |none=>rfl
   |some o=>
    exfalso
    by_cases hb:b=a
    ·subst hb;rw[m1]at z;cases z
    ·rw[m0 b o e hb]at z;cases z
end
section
variable{X:Cx}{a b e:bZ}{δ:List Slot}{d:aj}{ds:List aj}{pos:Pos}{k:Nat}
theorem Oy{k:Key}{v:aE}(h:(eZ P w).is k v=true):RelV (kV k) v:=by
 rcases hZ h with⟨i,t,rfl,rfl⟩|⟨x,t,rfl,rfl⟩
 ·exact⟨t,rfl⟩
 ·exact⟨t,rfl⟩
end
end L2
namespace PySem
variable{tk:Tok}
theorem Ci:typeLookup (.type "list") "keys"=pure none:=by rw[typeLookup_type,builtinLookup_eq_fast];kernel_rfl
theorem xJ:typeLookup (.type "list") "__getattr__"=pure none:=by rw[typeLookup_type,builtinLookup_eq_fast];kernel_rfl
section
variable{prog:bK}{w:cB}{A:dQ}{E:aE->aM->Prop}{h:dg}{g:Array tM}{d:Drawn}{t:Nat}{os:OsState}{a:aR}{items:Array aE}{n:Nat}{sl}
theorem xK{Q:Fin->aM->Prop}(hx:h.get? a=some { cls:=.type "list",dict:=none,data:=.seq items n,slots:=sl })(hh:A.handled=none)
  (hq:∀h' Aa e,rN h h' e (.ref a) "keys"->E (.ref e) ⟨h',g,d,Aa,os⟩):
  wpAny (model prog w) A (rn.«object.__getattribute__» ⟨[.ref a,.str "keys" tk],[]⟩) Q E ⟨h,g,d,t,os⟩:=by
 have hT:(⟨h,g,d,t,os⟩:aM).TypeIs (.ref a) "list":=⟨_,hx,rfl⟩;have f4:=Ci
 repeat (any_goals (first|assumption|with_reducible refine wpAny_raiseAttrError hh (λh' Aa e k=>hq h' Aa e k) (by symm)|wp_step))
theorem yZ{R:ug->aM->Prop}(hx:h.get? a=some { cls:=.type "list",dict:=none,data:=.seq items n,slots:=sl })(hh:A.handled=none)
  (hq:∀h' Aa e,rN h h' e (.ref a) "keys"->R (.error (.ref e)) ⟨h',g,d,Aa,os⟩):
  codeAny (model prog w) A (.call (.builtin "list.__getattribute__") ⟨[.ref a,.str "keys" tk],[]⟩) R ⟨h,g,d,t,os⟩:=
 codeAny_call_builtin lj.plain F.entry_list_ga (lj.check _ _ _ _ _ _ _ _ (show(⟨h,g,d,t,os⟩:aM).TypeIs (.ref a) "list" from⟨_,hx,rfl⟩) (F.args_list_getattribute_2 _ _) (xK hx hh hq))
theorem Cj{Q:aE->aM->Prop}(hx:h.get? a=some { cls:=.type "list",dict:=none,data:=.seq items n,slots:=sl })(hh:A.handled=none)
  (hq:∀h' Aa e,rN h h' e (.ref a) "keys"->E (.ref e) ⟨h',g,d,Aa,os⟩):
  wpAny (model prog w) A (getAttrBy (.ref a) (.str "keys" tk) false) Q E ⟨h,g,d,t,os⟩:=by
 have hT:(⟨h,g,d,t,os⟩:aM).TypeIs (.ref a) "list":=⟨_,hx,rfl⟩;have f2:=lj.lookup;have f3:=lj.bind (.ref a);have f4:=xJ;have f5:=sub_AttributeError
 repeat (any_goals (first|assumption|wp_step))
 refine yZ hx hh (λh' Aa e k=>?_)
 have hTe:(⟨h',g,d,Aa,os⟩:aM).TypeIs (.ref e) "AttributeError":=by
  obtain⟨_,_,he⟩:=k.there;exact⟨_,he,rfl⟩
 repeat (any_goals (first|assumption|wp_step))
 exact hq _ _ _ k
theorem y0{Q:Option aE->aM->Prop}(hx:h.get? a=some { cls:=.type "list",dict:=none,data:=.seq items n,slots:=sl })(hh:A.handled=none)
  (hq:∀h' Aa e,rN h h' e (.ref a) "keys"->Q none ⟨h',g,d,Aa,os⟩):
  wpAny (model prog w) A (getAttr? (.ref a) "keys") Q E ⟨h,g,d,t,os⟩:=by
 unfold getAttr? getAttrBy?;refine aA (wpAny_mkText (aA (wpAny_attempt (Cj hx hh (λh' Aa e k=>?_)))))
 have hTe:(⟨h',g,d,Aa,os⟩:aM).TypeIs (.ref e) "AttributeError":=by
  obtain⟨_,_,he⟩:=k.there;exact⟨_,he,rfl⟩
 have f5:=sub_AttributeError;have hQ:=hq h' Aa e k
 repeat (any_goals (first|assumption|wp_step))
end
end PySem
namespace PySem.F
theorem lD:entryFor table "dict.update.loop"=some rn.«dict.update.loop»:=entryFor_of_tree (by kernel_rfl)
theorem hC:plainId "dict.update.loop"=true:=by symm
end PySem.F
namespace L2
open PySem PySem.Spec PyProof.Rows
variable{H:Hp}{d:aj}
section
variable{prog:bK}{w:cB}{A:dQ}{R:ug->aM->Prop}{I:aR}{fp wr:List aR}{G:Array tM->Array tM->Prop}{n:Nat}{P:Nat->aE->Prop}{St:Nat->aM->Prop}
theorem Ja(W:WalksS prog w A.in1 I fp wr G n P St)(S:aR)(N0:S∉fp)(T:Nat->dg->Prop)(keep:∀i h h',T i h->(∀b o,b∉wr->h.get? b=some o->h'.get? b=some o)->T i h')
  (add:∀i v (s:aM),i<n->P i v->T i s.heap->∃a x y,v=.ref a/\s.heap.IsTuple a #[x,y]/\∀(Q:Unit->aM->Prop)(E:aE->aM->Prop),(∀h' tk,s.toks<=tk->iU S s.heap h'->T (i+1) h'->Q () { s with heap:=h',toks:=tk })->wpAny (model prog w) A.in1 (dictSet S x y) Q E s):
  ∀(k i:Nat)(j:Int)(u:Tok)(s:aM),n-i=k->i<=n->St i s->T i s.heap->(∀s',Moved (S::wr) G s s'->T n s'.heap->R (.ok (.ret .none)) s')->
   codeAny (model prog w) A (.builtin "dict.update.loop" ⟨[.ref S,.ref I,.int j u,.none],[]⟩) R s:=by
 have hSw:S∉wr:=λh=>N0 (W.sub _ h)
 have Am:∀b∈wr,b∈S::wr:=λb hb=>aT _ hb
 intro k
 induction k with
 |zero=>
  intro i j u s hk hi J9 hS hR;have IC:i=n:=by omega
  subst IC;refine jq F.lD ?_
  rw[gG F.hC _];show wpAny _ A.in1 (pyNext (.ref I) >>= _) _ _ s;refine aA (W.done s _ _ J9 λs' hm=>?_)
  show wpAny _ A.in1 (rn.Dict.addKeywords S [] >>= _) _ _ s';refine aA (bj ?_)
  exact bj (hR s' (hm.mono Am) (keep _ _ _ hS λb o hb e=>hm.heap b o hb e))
 |succ k ih=>
  intro i j u s hk hi J9 hS hR;have nR:i<n:=by omega
  refine jq F.lD ?_
  rw[gG F.hC _];show wpAny _ A.in1 (pyNext (.ref I) >>= _) _ _ s;refine aA (W.item i s _ _ nR J9 λv s' hP Sb hm=>?_)
  have N1:T i s'.heap:=keep _ _ _ hS λb o hb e=>hm.heap b o hb e
  obtain⟨a,x,y,rfl,⟨o,ho,hc,m,hd⟩,q⟩:=add i v s' nR hP N1;refine aA (jw ?_)
  refine aA (wpAny_tryCatch ?_)
  unfold rn.Dict.pairItems;refine aA (Ae (T:="tuple") ⟨_,ho,hc⟩ ?_)
  refine aA (iS ho hd ?_)
  refine bj ?_
  show wpAny _ A.in1 (holding [x,y] (dictSet S x y)) _ _ s';refine jw (q _ _ λh' tk Ug Kx hT=>?_)
  refine bj ⟨rH F.hC _,ih (i+1) _ _ _ (by omega) nR (W.frame _ s' _ _ Sb Ug λb hb o e=>?_) hT λNy Sd Se=>?_⟩
  ·rw[Kx.2 b (λh:b=S=>N0 (by rw[<-h];exact hb))];exact e
  ·refine hR Ny (Moved.trans W.gtrans ((hm.mono Am).then_heap Ug λb o hb e=>?_) Sd) Se
   rw[Kx.2 b (λh:b=S=>hb (by rw[h];exact aL))];exact e
end
section
variable{prog:bK}{w:cB}{A:dQ}{E:aE->aM->Prop}{s:aM}
theorem Ay{l:aR}{items:Array aE}{Q:aE->aM->Prop}(hh:A.handled=none)(hx:PlainL s.heap l items)(T:Nat->dg->Prop)
  (t0:∀h',h'.get? s.heap.objs.size=some { cls:=.type "dict",data:=.dict #[] }->(∀b o,s.heap.get? b=some o->h'.get? b=some o)->T 0 h')
  (keep:∀i h h' c,s.heap.objs.size<c->T i h->(∀b o,b≠c->h.get? b=some o->h'.get? b=some o)->T i h')
  (add:∀i v (s':aM),i<items.size->items[i]?=some v->T i s'.heap->∃a x y,v=.ref a/\s'.heap.IsTuple a #[x,y]/\∀(Q:Unit->aM->Prop)(E:aE->aM->Prop),(∀h' tk,s'.toks<=tk->iU s.heap.objs.size s'.heap h'->T (i+1) h'->Q () { s' with heap:=h',toks:=tk })->wpAny (model prog w) A.in1.in1 (dictSet s.heap.objs.size x y) Q E s')
  (h:∀(h':dg)(tk:Nat),T items.size h'->(∀b o,b<s.heap.objs.size->s.heap.get? b=some o->h'.get? b=some o)->Q (.ref s.heap.objs.size) { s with heap:=h',toks:=tk }):
  wpAny (model prog w) A (call (.type "dict") [.ref l]) Q E s:=by
 refine callType_codes (Q₁:=λobj s₁=>obj=.ref s.heap.objs.size/\s₁={ s with heap:=s.heap.push { cls:=.type "dict",data:=.dict #[] } }) F.kt_called_dict (F.kt_typeCall_dict_1 _) F.entry_dict_init (kt_code_dict_new _ ⟨rfl,rfl⟩) ?_
 rintro obj s₁ ⟨rfl,rfl⟩
 obtain⟨⟨ZW,Qw,Wj,Lh⟩,m,ho,hc,FU,hd⟩:=hx;simp only at hc FU hd;subst hc FU hd;have hS:(s.heap.push { cls:=.type "dict",data:=.dict #[] }).get? s.heap.objs.size=some { cls:=.type "dict",data:=.dict #[] }:=bA _ rfl;have hT:aM.TypeIs { s with heap:=s.heap.push { cls:=.type "dict",data:=.dict #[] } } (.ref s.heap.objs.size) "dict":=⟨_,hS,rfl⟩
 have BO:=aF (o:={ cls:=.type "dict",data:=.dict #[] }) ho;refine⟨hT,F.args_dict_init_2 _ _,?_⟩
 unfold rn.«dict.__init__»;refine aA ?_
 unfold rn.Dict.selfAndRest;refine aA (wpAny_notOrdered_dict hT ?_)
 show wpAny _ _ (pure (s.heap.objs.size,[dw l])) _ _ _;refine bj ?_
 show wpAny _ _ (xF "dict.__init__" s.heap.objs.size (.ref l) [] .none) _ _ _;unfold xF;refine aA (Ae (T:="list") ⟨_,BO,rfl⟩ ?_)
 rw[qQ3 (by decide)]
 refine aA (y0 BO (by simp[hh]) λh1 Wv e ne=>?_)
 simp only[Option.isNone_none,if_true];refine aA (uf ?_)
 have M7:h1.IsList l items:=⟨_,ne.keeps _ _ BO,rfl,m,rfl⟩;refine aA (mU (s:={ s with heap:=h1,toks:=Wv }) M7 ?_)
 have Up:h1.get? s.heap.objs.size=some { cls:=.type "dict",data:=.dict #[] }:=ne.keeps _ _ hS;have Yd:s.heap.objs.size<h1.objs.size:=bf Up;have Wk:l<s.heap.objs.size:=bf ho;have S2:l≠h1.objs.size:=a9 (xB Wk Yd);have N0:s.heap.objs.size∉[h1.objs.size,l]:=by
  simp only[aG,aV,bu,or_false,not_or];exact⟨a9 Yd,gI Wk⟩
 refine bj ⟨rH F.hC _,?_⟩
 refine Ja ((Walks.list (by simp[hh]) h1.objs.size l S2 items).toS) s.heap.objs.size N0 T (λi h h' t k=>keep i h h' h1.objs.size Yd t λb o hb e=>k b o (by rwa [aV]) e) (λi v s' hi hv t=>add i v s' hi hv t) (items.size-0) 0 _ _ _ (by omega) (bF _)
  ⟨⟨_,bA _ rfl,rfl,rfl⟩,(M7.push _)⟩ ?hS0 ?hR
 case hS0=>
  exact t0 _ (aF _ Up) λb o e=>aF _ (ne.keeps _ _ (aF _ e))
 case hR=>
  intro s' hm N1;obtain⟨h',g',d',Aa,Nx⟩:=s';have eg:g'=s.gens:=hm.gens;have ed:d'=s.drawn:=hm.drawn;have eo:Nx=s.os:=hm.os;subst eg;subst ed;subst eo;refine⟨rfl,h h' Aa N1 λb o hb e=>?_⟩
  have ZY:b≠s.heap.objs.size:=a9 hb;have Ou:b≠h1.objs.size:=a9 (xB hb Yd);exact hm.heap b o (by simp only[aG,aV,bu,or_false,not_or];exact⟨ZY,Ou⟩) (aF _ (ne.keeps _ _ (aF _ e)))
end
section
variable{X:Cx}
end
section
variable{ε:Type}{X:Cx}{sc:nz}{own N:List Str}{cap:List Nat}{cl:List (Str×aR)}{tg elt iter:bZ}{ifs:List bZ}{δ:List Slot}{ds:List aj}{pos:Pos}{tgt:IJ}{Er:Hp->V->ε->Prop}
end
section
variable{X:Cx}{a b c:bZ}{δ:List Slot}{d:aj}{pos p:Pos}{k:Nat}{z1 z2:Str}
end
inductive qT:aj->Prop
 |non:qT .none
 |bl (b:Bool):qT (.bool b)
 |int (i:Int):qT (.int i)
 |str (x:Str):qT (.str x)
 |lst {ds:List aj}:(∀d∈ds,qT d)->qT (.list ds)
 |tup {ds:List aj}:(∀d∈ds,qT d)->qT (.tuple ds)
def nX(H:Hp)(p:aR):Hp:=λq=>if q=p then none else H q
theorem gu{p q:aR}(h:q≠p):nX H p q=H q:=qQ2 h
theorem yb{p:aR}:nX H p p=none:=qQ3 rfl
section
variable{K:au}{H:Hp}{p:aR}{kvs:List (Key×V)}
theorem Rep.cut(hp:H p=some (.dK kvs)){v:V}(r:Rep K H v d):qT d->Rep K (nX H p) v d:=by
 have ne:∀{a:aR}{o:HO},H a=some o->(∀k,o≠.dK k)->a≠p:=λe h z=>by
  subst z;rw[hp]at e;cases e;exact h _ rfl
 refine Rep.rec (motive_1:=λv d _=>qT d->Rep K (nX H p) v d) (motive_2:=λxs ds _=>(∀d∈ds,qT d)->cy K (nX H p) xs ds) ?_ ?_ ?_ ?_ ?_ ?_ ?_ ?_ ?_ ?_ ?_ ?_ r
 ·exact λ_=>.non
 ·exact λb _=>.bl b
 ·exact λi _=>.int i
 ·exact λx _=>.str x
 ·intro a xs ds h _ t n
  cases n with
  |lst n=>
   refine .lst ?_ (t n)
   rcases h with(h|⟨o,h⟩)|h
   ·exact .inl (.inl (by rw[gu (ne h (by intro k z;cases z))];exact h))
   ·exact .inl (.inr ⟨o,by rw[gu (ne h (by intro k z;cases z))];exact h⟩)
   ·exact .inr h
 ·intro a xs ds h _ t n
  cases n with
  |tup n=>
   refine .tup ?_ (t n)
   rcases h with(h|⟨o,h⟩)|h
   ·exact .inl (.inl (by rw[gu (ne h (by intro k z;cases z))];exact h))
   ·exact .inl (.inr ⟨o,by rw[gu (ne h (by intro k z;cases z))];exact h⟩)
   ·exact .inr h
 ·intro a kvs ds _ _ _ _ n;cases n
 ·intro a kvs ds _ _ _ _ n;cases n
 ·intro a C dx fs ds _ _ _ _ _ _ n;cases n
 ·intro a o kvs ds _ _ _ _ n;cases n
 ·exact λ_=>.nil
 ·intro x d xs ds _ _ a t n
  exact .cons (a (n d aL)) (t λd hd=>n d (aT _ hd))
theorem cy.cutD(hp:H p=some (.dK kvs)):∀{ds:List aj}{xs:List V},cy K H xs ds->(∀d∈ds,qT d)->cy K (nX H p) xs ds
 | [],_,r,_=>by cases r;exact .nil
 |d::ds,_,r,n=>by cases r with|cons a t=>exact .cons (a.cut hp (n d aL)) (cy.cutD hp t λd hd=>n d (aT _ hd))
end
def k_(kv:List (Str×aj))(y:Str)(d:aj):List (Str×aj):=kv.map λq=>if q.1=y then(q.1,d)else q
theorem Hu{K:au}{y:Str}{v:V}(r:Rep K H v d):∀{kv:List (Str×aj)}{kvs:List (Key×V)},(kv.map λp=>(aK p.1,p.2)).map (·.1)=kvs.map (λp=>oX p.1)->cy K H (kvs.map (·.2)) ((kv.map λp=>(aK p.1,p.2)).map (·.2))->
  ((k_ kv y d).map λp=>(aK p.1,p.2)).map (·.1)=(kvs.map λq=>if q.1=bG y then(q.1,v)else q).map (λp=>oX p.1)/\cy K H ((kvs.map λq=>if q.1=bG y then(q.1,v)else q).map (·.2)) (((k_ kv y d).map λp=>(aK p.1,p.2)).map (·.2))
 | [],[],_,_=>⟨rfl,.nil⟩
 | [],_::_,e,_=>by simp at e
 |_::_,[],e,_=>by simp at e
 |q::kv,z::kvs,e,t=>by
  simp only[aH,List.cons.injEq]at e;obtain⟨e1,e2⟩:=e;simp only[aH]at t;cases t with
  |cons a t=>
   obtain⟨g1,g2⟩:=Hu r (kv:=kv) (kvs:=kvs) e2 t;have ek:z.1=bG q.1:=by
    obtain⟨k,u⟩:=z;cases k with
    |inl i=>cases e1
    |inr x=>cases e1;rfl
   unfold k_ at g1 g2 ⊢;simp only[aH,ek,bG.injEq];by_cases h:q.1=y
   ·simp only[h,if_true]
    exact⟨by rw[g1];rfl,.cons r g2⟩
   ·simp only[h,if_false,ek]
    exact⟨by rw[g1];rfl,.cons a g2⟩
section
variable{X:Cx}{B0 B H0 H:Hp}{σ:St}{D:Ends}{δ:List Slot}{ev:bZ}{d:aj}{pos px ps pk:Pos}{x y:Str}{k:Nat}{jk}
theorem FV{st:List ia}(h:pC X st δ (.rt d))(f:fJ X.K B0 B H0 H σ δ)(ok:∀v dS H',eB B0 B dS H'->Rep X.K dS v d->D.rt v H'):B6 X st D σ H:=h B0 B σ H0 H D f ok
def Kept(δ δ2:List Slot)(i:Nat)(d2:aj):Prop:=∀j sl,δ2[j]?=some sl->sl=.un\/(j=i/\sl=.val d2)\/(δ[j]?=some sl/\∃d,sl=.val d/\qT d)
theorem Lq{δ2:List Slot}(f:fJ X.K B0 B H0 H σ δ)(hr:e8 k X.A)(nb:∀b kvs,B0 b≠some (.dK kvs))(i:Nat){kv:List (Str×aj)}(hi:δ[i]?=some (.val (cF kv)))(hlen:δ2.length=δ.length)(hδ:Kept δ δ2 i (cF (k_ kv y d)))(Ww:∀q∈kv,qT q.2)(hy:y∈kv.map (·.1))(hv:VE X ev δ d)(hd:qT d)(hl:kv.length<sizeLine)
  (q:∀dS H',fJ X.K B0 B dS H' σ δ2->D.nx σ H')
  (hN:X.N[i]?=some x:=by rfl)(wo:AX X.env.scope x:=by first|exact a7 rfl|exact cj (a7 rfl)|exact cj (cj rfl))(oW:(x==("__debug__":Str))=false:=by decide)(oB:(x==("__classdict__":Str))=false:=by decide)
  (hs:swapsWith ev (some (.Subscript (.Name x px) (.Constant (.str y) jk pk) ps)) pos.line X.env=pure false:=by rfl):
  cS X (.Assign [.Subscript (.Name x px) (.Constant (.str y) jk pk) ps] ev pos) D σ H:=λpins s I=>by
 refine x4 (M6 hr) (jO hN wo oW oB) (ty:=cE X (.Constant (.str y) jk pk)) c7 c7 hs pins s σ H D I ?_
 refine hv B0 B σ H0 H _ f λv H1 dO g1 r1=>?_
 obtain⟨u,hu,ru⟩:=(f.grow g1).val hi;refine⟨u,hu,?_⟩
 refine(aN (X:=X) (δ:=δ)) B0 B σ H1 dO _ (f.grow g1) λt H2 jb g2 r2=>?_
 cases r2;have f2:=(f.grow g1).grow g2;have SN:=ru.mono g2.fG;have M8:=r1.mono g2.fG;obtain⟨a,kvs,rfl,ha,VD,Z2⟩:=SN.kL;have hk:(kv.map λp=>(aK p.1,p.2)).map (·.1)=kvs.map (λp=>oX p.1):=by
  have e:=qQ6 (oG oX) VD;rw[aS,aS]at e;rw[aS];exact e.symm
 have Wx:cy X.K H2 (kvs.map (·.2)) ((kv.map λp=>(aK p.1,p.2)).map (·.2)):=by
  rw[aS];exact Z2
 ·have zcT:kvs.length=kv.length:=by
   have:=qQ6 fq hk;simp only[ai]at this;exact this.symm
  have Wy:B a=none:=by
   rcases f2.ent.new a (by rw[ha];simp)with z|z
   ·cases e:B0 a with
    |none=>exact qQ7 e z
    |some o=>
     have:=f2.ent.fG _ _ e;rw[ha]at this;cases this;exact qQ7 e (nb a kvs)
   ·exact z
  have Z3:B0 a=none:=by
   cases e:B0 a with
   |none=>rfl
   |some o=>
    have:=f2.ent.fG _ _ e;rw[ha]at this;cases this;exact qQ7 e (nb a kvs)
  refine⟨a,_,rfl,Al.k (k:=bG y) (f2.sub _ _ ha) (by omega),?_⟩
  have Z4:(kvs.any λz=>decide (z.1=(bG y:Key)))=true:=by
   rw[kE];obtain⟨w,hw,rfl⟩:=av.mp hy;have hm:aK w.1∈kvs.map (λp=>oX p.1):=by
    rw[<-hk,aS];exact av.mpr ⟨w,hw,rfl⟩
   obtain⟨z,hz,ez⟩:=av.mp hm;refine⟨z,hz,qQ1 ?_⟩
   obtain⟨k,u⟩:=z;cases k with
   |inl i=>cases ez
   |inr x=>cases ez;rfl
  have Z5:putK kvs (bG y) v=kvs.map λz=>if z.1=bG y then(z.1,v)else z:=by
   unfold putK;rw[qQ3 Z4]
  rw[Z5]
  generalize Jb:(kvs.map λz=>if z.1=(bG y:Key) then(z.1,v)else z)=Wz
  have Z6:cy X.K (nX H2 a) (kvs.map (·.2)) ((kv.map λp=>(aK p.1,p.2)).map (·.2)):=Wx.cutD ha λd hd=>by
   simp only[aS,av,z8]at hd;obtain⟨w,hw,rfl⟩:=hd;exact Ww w hw
  obtain⟨p1,p2⟩:=Hu (y:=y) (M8.cut ha hd) hk Z6;rw[Jb]at p1 p2;have hup:dv (nX H2 a) (upd (nX H2 a) a (.dK Wz)):=λb o e=>by
   rw[aP (λz=>by subst z;rw[yb]at e;cases e)];exact e
  refine q (upd (nX H2 a) a (.dK Wz)) _ ⟨⟨?_,?_,?_,?_⟩,by rw[hlen];exact f2.len,λj sl e=>?_,λj l ds es p hjl e1 e2 e3=>?_⟩
  ·intro b o e
   rw[aP (bN e Wy)];exact f2.ent.big _ _ e
  ·intro b o e
   have hb:=bN e Z3;rw[aP hb,gu hb];exact f2.ent.fG _ _ e
  ·intro b o e
   by_cases hb:b=a
   ·subst hb;rw[bq]at e ⊢;exact e
   ·rw[aP hb]at e ⊢;rw[gu hb]at e;exact f2.sub _ _ e
  ·intro b e
   by_cases hb:b=a
   ·subst hb;exact .inr Wy
   ·rw[aP hb,gu hb]at e;exact f2.ent.new b e
  ·rcases hδ j sl e with rfl|⟨rfl,rfl⟩|⟨e',dd,rfl,hn⟩
   ·trivial
   ·exact⟨.ref a,hu,.dct bq p1 (p2.mono hup)⟩
   ·obtain⟨vv,h1,h2⟩:=f2.slot j _ e'
    exact⟨vv,h1,(h2.cut ha hn).mono hup⟩
  ·exfalso
   rcases hδ j _ e1 with z|⟨_,z⟩|⟨_,dd,z,_⟩<;>cases z
end
end L2
namespace L2
open PySem
section
variable{M:Model}{A:dQ}{E:aE->aM->Prop}{s:aM}
end
section
variable{prog:bK}{w:cB}{A:dQ}{E:aE->aM->Prop}{R:ug->aM->Prop}{h:dg}{g:Array tM}{d:Drawn}{t:Nat}{os:OsState}
variable{nm q:Str}{C N:aR}{bs bm bmB:List aE}{Z7:Bool}{sn:List Str}{sub:List aE}{ab:Bool}{col:Option Bool}{dd:Option aR}{k0 k1 k2 k3 k5:Option aE}{B newId S7:String}
end
end L2
namespace L2
open PySem PySem.Spec PyProof.Rows
section
variable{prog:bK}{w:cB}{A:dQ}{E:aE->aM->Prop}{R:ug->aM->Prop}{h:dg}{g:Array tM}{d:Drawn}{t:Nat}{os:OsState}
variable{nm q:Str}{C N e t0:aR}{bs bm bmB:List aE}{Z7:Bool}{sn:List Str}{sub:List aE}{ab:Bool}{col:Option Bool}{dd dx:Option aR}{k0 k1 k2 k3 k5:Option aE}{B newId S7:String}{sl:Array (Option aE)}
end
section
variable{prog:bK}{w:cB}{A:dQ}{E:aE->aM->Prop}{s:aM}{K:au}{C e t0 dx:aR}{sl:Array (Option aE)}{name:Str}{v:aE}{mA:Str->Option aE}
end
section
variable{X:Cx}{pins:List (aR×Obj)}{σ:St}{H:Hp}{s:aM}{C e dx:aR}{f:Str}{y:V}{u:aE}{fs:List (Str×V)}{A:dQ}{E:aE->aM->Prop}
end
section
variable{X:Cx}{o value a1 a2:bZ}{f x y:Str}{pos pos' p p2 ap p3 p4:Pos}{j4:Nat}{ta tv:TE}{C M dx:aR}{i:Nat}
end
section
variable{X:Cx}{CX:JR}{k:Nat}{f C:aR}{fd:gJ}{ps:List Str}{sp:Sp}{E:XK}
end
section
variable{H:Hp}{ex:List aR}{e T b:aR}{o1 o2:HO}
end
section
variable{P:bK}{w:cB}{fs ex:List aR}{H0 H:Hp}{h0 h h':dg}{L e T:aR}{oe:Obj}{o1 o2:HO}
end
section
variable{P:bK}{w:cB}{K:au}{mg:Str->Option aE}{base:dg}{N:List Str}{qual:Str}{scope:nz}{f:aR}{cd:aE}{A:dQ}{outer:List Env}{s0:aM}{H0:Hp}{E:XK}
variable{pins:List (aR×Obj)}{σ:St}{H:Hp}{s:aM}
end
section
variable{X:Cx}{B0 B H0 H:Hp}{σ:St}{D:Ends}{δ:List Slot}{a1 a2 tg iter:bZ}{p:Int}{wd x y:Str}{np qv pos:Pos}{k:Nat}{fI C:aR}{fd:gJ}{body:List ia}{ds:List aj}
end
section
variable{M:Model}{A:dQ}{E:aE->aM->Prop}{s:aM}
end
section
variable{X:Cx}{pins:List (aR×Obj)}{σ:St}{H:Hp}{s:aM}{C M e dx T:aR}{E:aE->aM->Prop}
end
section
variable{X:Cx}{B0 B H0 H:Hp}{σ:St}{D:Ends}{δ:List Slot}{pins:List (aR×Obj)}{s:aM}
end
section
variable{X:Cx}{CX:JR}{k:Nat}{f:aR}{fd:gJ}{ps:List Str}{sp:Sp}{E:XK}{Ex:aE->aM->Prop}
end
section
variable{X:Cx}{B0 B H0 H:Hp}{σ:St}{D:Ends}{δ:List Slot}{C M fa:aR}{fd:gJ}{ps:List Str}{ds:List aj}{R:List aj->Int->Str->Prop}{k jn jc:Nat}{p:Int}{wd y g xM n xc:Str}{a:bZ}{as:List bZ}{p1 p2 p3 p4 p5 p6 p7 p8 hp pos:Pos}
end
end L2
namespace L2
open PySem PySem.Spec PyProof.Rows PySem.W
section
variable{prog:bK}{w:cB}{A:dQ}{E:aE->aM->Prop}{s:aM}{K:au}{x C:aR}{ox:Obj}{od:Option Obj}{name:Str}
end
end L2
namespace L2
open PySem PySem.Spec PyProof.Rows
variable{a:aR}{H:Hp}{kv:List (Str×aj)}{d:aj}{K:au}{y:Str}{v:V}
section
variable{X:Cx}{pins:List (aR×Obj)}{σ:St}{H H':Hp}{s:aM}{e C:aR}{p:Int}{wd f x:Str}
end
section
variable{X:Cx}{δ:List Slot}{pos px:Pos}{a b e:bZ}{x:Str}{d:aj}{ds:List aj}{k:Int}{j:Nat}
theorem cy.put(rv:Rep K H v d):∀{xs:List V}{ds:List aj}(j:Nat),cy K H xs ds->cy K H (xs.set j v) (ds.set j d)
 |_,_,_,.nil=>.nil
 |_,_,0,.cons _ r=>.cons rv r
 |_,_,j+1,.cons a r=>.cons a (cy.put rv j r)
theorem S8(i:Nat)(hi:δ[i]?=some (.own ds))(h:VE X b δ (.int (j:Nat)))(ha:ds[j]?=some d)(hs:oI b:=by intro _ _;rfl)(hN:X.N[i]?=some x:=by rfl)(hv:AX X.env.scope x:=by first|exact a7 rfl|exact cj (a7 rfl)|exact cj (cj rfl))(hd:(x==("__debug__":Str))=false:=by decide)
  (oB:(x==("__classdict__":Str))=false:=by decide):VE X (.Subscript (.Name x px) b pos) δ d:=
 .of (GV GW (jO hN hv hd oB) c7 hs) λB0 B σ H0 H Q f q=>by
  obtain⟨p,xs,h1,h2,h3,h4,h5⟩:=f.slot i _ hi;refine⟨.ref p,h1,h B0 B σ H0 H _ f λv H1 dO g r=>?_⟩
  cases r;obtain⟨z,hz,rz⟩:=(h5.mono g.fG).get ha;exact⟨p,xs,_,z,rfl,rfl,kW.of (g.big _ _ h2),bE hz,q z H1 dO g rz⟩
theorem fJ.put{B0 B H0: Hp}{σ:St}(f:fJ K B0 B H0 H σ δ){i:Nat}{p:aR}{xs:List V}{y:V}(hi:δ[i]?=some (.own ds))(hp:σ[i]?=some (some (.ref p)))(h1:H p=some (.lst xs))(ry:Rep K H0 y d):
  fJ K B0 B H0 (upd H p (.lst (xs.set j y))) σ (δ.set i (.own (ds.set j d))):=by
 obtain⟨p',xs',e1,e2,e3,e4,e5⟩:=f.slot i _ hi;rw[hp]at e1;cases e1;rw[h1]at e2;cases e2;have hl:i < δ.length:=(aO.mp hi).1;refine⟨⟨λb u e=>?_,f.ent.fG,λb u e=>?_,f.ent.new⟩,by simp[f.len],λj sl e=>?_,λj k E6 es q DL a1 a2 a3=>?_⟩
 ·have:b≠p:=bN e e4
  rw[aP this];exact f.ent.big b u e
 ·have:b≠p:=bN e e3
  rw[aP this];exact f.ent.sub b u e
 ·by_cases hj:j=i
  ·subst hj
   rw[bx hl]at e;cases e;exact⟨p,_,hp,bq,e3,e4,e5.put ry _⟩
  ·rw[aX (bV hj)]at e
   have q:=f.slot j sl e;cases sl with
   |un=>trivial
   |ref a=>exact q
   |val d=>exact q
   |own E6=>
    obtain⟨p2,VR,g1,g2,g3,g4,g5⟩:=q;have:p2≠p:=λz=>by subst z;exact f.apart i j ds E6 p2 (bV hj) hi e hp g1
    exact⟨p2,VR,g1,by rw[aP this];exact g2,g3,g4,g5⟩
 ·have c1:∃M4,δ[j]?=some (.own M4):=by
   by_cases hj:j=i
   ·subst hj;exact⟨_,hi⟩
   ·rw[aX (bV hj)]at a1;exact⟨_,a1⟩
  have c2:∃M4,δ[k]?=some (.own M4):=by
   by_cases hk:k=i
   ·subst hk;exact⟨_,hi⟩
   ·rw[aX (bV hk)]at a2;exact⟨_,a2⟩
  obtain⟨d1,c1⟩:=c1;obtain⟨d2,c2⟩:=c2;exact f.apart j k d1 d2 q DL c1 c2 a3
theorem Hv{b:Bool}(h:(match d with | .none=>false|_=>true)=b):Ao K (λx y H Q=>y=.non/\Q (.bl (!decide (x=.non))) H) d .none (.bool b):=λv u H0 H Q s r1 r2 k=>by
 cases r2;subst h;refine⟨rfl,k _ _ _ (.refl s) ?_⟩
 cases r1<;>exact .bl _
end
def nY(kv:List (Str×aj))(y:Str)(d:aj):List (Str×aj):=if(kv.any λq=>decide (q.1=y))=true then k_ kv y d else kv ++ [(y,d)]
def DR(K:au)(a:aR)(kv:List (Str×aj)):OR:=λH0 H as=>as=[a]/\∃kvs:List (Key×V),H a=some (.dK kvs)/\kvs.map (·.1)=kv.map (λp=>(bG p.1:Key))/\cy K H0 (kvs.map (·.2)) (kv.map (·.2))
theorem DR.mono:su (DR K a kv):=λH0 H Ha Hb as ⟨e,kvs,h1,h2,h3⟩ sm hb=>⟨e,kvs,by rw[hb a (by rw[e];simp)];exact h1,h2,h3.mono sm⟩
theorem DR.rep(Ha Hb:Hp)(as:List aR)(s:dv Ha Hb)(h:DR K a kv Ha Hb as):Rep K (qZ as Hb Ha) (.ref a) (cF kv):=by
 obtain⟨e,kvs,h1,h2,h3⟩:=h;refine .dct (kvs:=kvs) (by rw[sY (by rw[e];simp)];exact h1) ?_ ?_
 ·have e2:=qQ6 (oG oX) h2
  rw[aS,aS]at e2;rw[aS];exact e2.symm
 ·rw[aS]
  exact h3.mono (pN s)
theorem Hw:∀{kv:List (Str×aj)}{kvs:List (Key×V)},kvs.map (·.1)=kv.map (λp=>(bG p.1:Key))->(kvs.any λz=>decide (z.1=(bG y:Key)))=kv.any λq=>decide (q.1=y)
 | [],[],_=>rfl
 | [],_::_,e=>by simp at e
 |_::_,[],e=>by simp at e
 |q::kv,z::kvs,e=>by
  rw[aH,aH]at e
  injection e with e1 e2
  rw[mW,mW,Hw e2,e1]
  congr 1
  by_cases h:q.1=y
  ·rw[qQ1 h,qQ1 (by rw[h])]
  ·rw[qQ0 h,qQ0 λz=>h (rC z)]
theorem Lr(r:Rep K H v d):∀{kv:List (Str×aj)}{kvs:List (Key×V)},kvs.map (·.1)=kv.map (λp=>(bG p.1:Key))->cy K H (kvs.map (·.2)) (kv.map (·.2))->
  (kvs.map λq=>if q.1=bG y then(q.1,v)else q).map (·.1)=(k_ kv y d).map (λp=>(bG p.1:Key))/\cy K H ((kvs.map λq=>if q.1=bG y then(q.1,v)else q).map (·.2)) ((k_ kv y d).map (·.2))
 | [],[],_,_=>⟨rfl,.nil⟩
 | [],_::_,e,_=>by simp at e
 |_::_,[],e,_=>by simp at e
 |q::kv,z::kvs,e,t=>by
  rw[aH,aH]at e t
  injection e with e1 e2
  cases t with
  |cons a t=>
   obtain⟨g1,g2⟩:=Lr r e2 t;unfold k_ at g1 g2 ⊢;rw[aH,aH,aH,aH,aH,aH];by_cases h:q.1=y
   ·have hz:z.1=(bG y:Key):=by rw[e1,h]
    rw[qQ3 h,qQ3 hz,g1];exact⟨by rw[e1],.cons r g2⟩
   ·have hz:¬z.1=(bG y:Key):=λz'=>h (rC (e1.symm.trans z'))
    rw[qQ2 h,qQ2 hz,g1];exact⟨by rw[e1],.cons a g2⟩
theorem Oz(r:Rep K H v d){kvs:List (Key×V)}(h1:kvs.map (·.1)=kv.map (λp=>(bG p.1:Key)))(h2:cy K H (kvs.map (·.2)) (kv.map (·.2))):
  (putK kvs (bG y) v).map (·.1)=(nY kv y d).map (λp=>(bG p.1:Key))/\cy K H ((putK kvs (bG y) v).map (·.2)) ((nY kv y d).map (·.2)):=by
 unfold putK nY;rw[Hw h1]
 split
 ·exact Lr r h1 h2
 ·rw[aU,aU,aU,aU,h1]
  exact⟨rfl,h2.append (.cons r .nil)⟩
section
variable{K:au}{B0 B H0 H:Hp}{σ:St}{δ:List Slot}{R:OR}{d:aj}{p:aR}
theorem OF.done(G:OF K B0 B R H0 H σ δ){i:Nat}(hi:δ[i]?=some (.ref p))(hR:∀Ha Hb as,dv Ha Hb->R Ha Hb as->Rep K (qZ as Hb Ha) (.ref p) d):∃Ha,dv H0 Ha/\fJ K B0 B Ha H σ (δ.set i (.val d)):=by
 obtain⟨as,h1,h2⟩:=G.ex;have sm:=pN (as:=as) G.fr.sub;have hs:σ[i]?=some (some (.ref p)):=G.fr.slot i _ hi;have f0:fJ K B0 B (qZ as H H0) H σ δ:=by
  refine⟨⟨G.fr.ent.big,G.fr.ent.fG.trans sm,Cg G.fr.sub,λb e=>?_⟩,G.fr.len,λi sl e=>?_,G.fr.apart⟩
  ·by_cases hb:b∈as
   ·exact .inr (h1 b hb).2.1
   ·rw[vj hb]at e;exact G.fr.ent.new b e
  have q:=G.fr.slot i sl e;cases sl with
  |un=>trivial
  |ref _=>exact q
  |val d=>obtain⟨v,g1,g2⟩:=q;exact⟨v,g1,g2.mono sm⟩
  |own ds=>exact qQ7 e (lA G.no i ds)
 have f1:=f0.k_ (i:=i) (v:=.ref p) (sl:=.val d) ⟨_,rfl,hR H0 H as G.fr.sub h2⟩ rfl;have e:σ.set i (some (.ref p))=σ:=by
  apply iW;intro j;by_cases h:j=i
  ·subst h;rw[bx (aO.mp hs).1,hs]
  ·rw[aX (bV h)]
 rw[e]at f1;exact⟨_,sm,f1⟩
end
section
variable{X:Cx}{B0 B H0 H:Hp}{σ:St}{D:Ends}{δ:List Slot}{a:aR}{ek ev:bZ}{d:aj}{pos px pd ps:Pos}{x y:Str}{kv:List (Str×aj)}{k:Nat}
theorem Ls(f:fJ X.K B0 B H0 H σ δ)(i:Nat)(hN:X.N.Nodup)(hn:∀p,noOwn (δ.set i (.ref p))=true)(q:∀p σ' H',OF X.K B0 B (DR X.K p []) H0 H' σ' (δ.set i (.ref p))->D.nx σ' H')
  (hi:X.N[i]?=some x:=by rfl)(hx:Loc X.env.scope x:=by first|exact a7 rfl|exact cj rfl)(hs:swapsWith (.Dict [] [] pd) (some (.Name x px)) pos.line X.env=pure false:=by rfl)(hf:X.fn x=true\/X.env.scope.names.lookup x=some .local:=by first|exact .inl rfl|exact .inr rfl):
  cS X (.Assign [.Name x px] (.Dict [] [] pd) pos) D σ H:=λpins s I=>by
 refine rS (i:=i) hN hi hx rY hs hf pins s σ H D I λp hp=>?_
 refine q p _ _ ⟨(f.grow (.loose f.sub hp)).k_ (v:=.ref p) (sl:=.ref p) rfl rfl,hn p,[p],λb hb=>?_,rfl,[],bq,rfl,.nil⟩
 rw[aV.mp hb];exact⟨f.sub.free hp,f.ent.big.free hp,by rw[bq];simp⟩
theorem Ck(G:OF X.K B0 B (DR X.K a kv) H0 H σ δ)(hr:e8 k X.A)(i:Nat)(hi:δ[i]?=some (.ref a))(hk:VE X ek δ (.str y))(hv:VE X ev δ d)(hl:kv.length<sizeLine)(q:∀dS H',OF X.K B0 B (DR X.K a (nY kv y d)) dS H' σ δ->D.nx σ H')
  (hN:X.N[i]?=some x:=by rfl)(wo:AX X.env.scope x:=by first|exact a7 rfl|exact cj (a7 rfl)|exact cj (cj rfl))(oW:(x==("__debug__":Str))=false:=by decide)(oB:(x==("__classdict__":Str))=false:=by decide)
  (hs:swapsWith ev (some (.Subscript (.Name x px) ek ps)) pos.line X.env=pure false:=by rfl):
  cS X (.Assign [.Subscript (.Name x px) ek ps] ev pos) D σ H:=λpins s I=>by
 refine x4 (M6 hr) (jO hN wo oW oB) c7 c7 hs pins s σ H D I ?_
 refine hv H0 H σ H0 H _ G.own λv H1 dO g1 r1=>?_
 have G1:=G.go DR.mono (G.own.grow g1) G.no;refine⟨.ref a,G1.fr.slot i _ hi,hk H1 dO σ H1 dO _ G1.own λu H2 jb g2 r2=>?_⟩
 cases r2;have G2:=G1.go DR.mono (G1.own.grow g2) G1.no;obtain⟨as,h1,e,kvs,ha,Uk,D2⟩:=G2.ex;subst e;obtain⟨p1,p2⟩:=Oz (y:=y) (r1.mono g2.fG) Uk D2;obtain⟨z1,z2,z3⟩:=h1 a (by simp)
 have hlen:kvs.length=kv.length:=by have:=qQ6 fq Uk;simpa using this
 refine⟨a,_,rfl,Al.k (k:=bG y) ha (by omega),q H2 _ ⟨G2.fr.touch z1 z2 (lA G2.no),G2.no,[a],λb hb=>?_,rfl,_,bq,p1,p2⟩⟩
 rw[aV.mp hb];exact⟨z1,z2,by rw[bq];simp⟩
end
def nZ(lo:Int)(n:Nat):List aj:=(aZ n).map λ(i:Nat)=>fN (lo+i)
section
variable{X:Cx}{a b:bZ}{δ:List Slot}{pos tR p p2:Pos}
theorem w8:jV X (.type "range") (λxs H Q=>∃i j:Int,xs=[.int i,.int j]/\∀l,H l=none->Q (.ref l) (upd H l (.rng i j))):=by
 intro pins s σ H xs us Q I r h;obtain⟨i,j,rfl,q⟩:=h;obtain⟨u,u',rfl,⟨t,rfl⟩,⟨t',rfl⟩⟩:=vals2 r;exact call_range_2 ⟨.ref _,_,I.laid (λb o e=>aF _ e) (ay _) (show gT X.prog X.w _ _ _ (.rng i j) from⟨_,_,_,bA _ rfl⟩),rfl,q _ (I.hok.fresh (ay _))⟩
theorem y6(hc:X.calm=true):jV X (.type "list") (λxs H Q=>∃(p:aR)(lo:Int)(n:Nat),xs=[.ref p]/\H p=some (.rng lo (lo+n))/\0<=lo/\lo<=100000/\n<=1000/\∀l,H l=none->Q (.ref l) (upd H l (.lst ((aZ n).map λ(i:Nat)=>.int (lo+i))))):=by
 intro pins s σ H xs us Q I r h;obtain⟨p,lo,n,rfl,hp,h0,h1,hn,q⟩:=h;obtain⟨u,rfl,rx⟩:=vals1 r;cases rx;obtain⟨t,u,v,ho⟩:=I.hok p _ hp;have h62:(200000:Int)<2^62:=by decide
 refine call_list_range (I.ok.hd hc) ho (small_one (by omega) (by omega) (by omega) (by omega)) (n:=n) (by rw[rangeSize_one];split<;>omega) (by omega) λh' tk acc c k e it=>?_
 have rel:∀(l:List aE)(m:Nat),(∀(j:Nat)v,l[j]?=some v->∃t,v=.int (lo+(m+j:Nat)) t)->dX ((List.range' m l.length).map λ(i:Nat)=>V.int (lo+i)) l:=by
  intro l
  induction l with
  |nil=>intro m _;exact .nil
  |cons x l ih=>
   intro m hx;rw[bJ,List.range'_succ,aH];obtain⟨t,e⟩:=hx 0 x rfl;refine .cons ⟨t,by simpa using e⟩ (ih (m+1) λj v hj=>?_)
   obtain⟨t,e⟩:=hx (j+1) v (by simpa using hj)
   exact⟨t,by rw[e];congr 2;omega⟩
 have hl:acc.toList.length=n:=by simpa using it.1
 have rv:=rel acc.toList 0 λj v hj=>by
  obtain⟨t,e⟩:=it.2 j v (by rw[<-rJ];exact hj)
  exact⟨t,by rw[e,Int.mul_one,i_]⟩
 rw[hl,<-GJ]at rv;exact⟨.ref _,_,I.laid k (ay _) (show gT X.prog X.w _ h' _ (.lst _) from⟨by rw[ai,bW,dA];omega,acc.toList,c,rv,by simpa using e⟩),rfl,q _ (I.hok.fresh (ay _))⟩
theorem tZ{lo:Int}{n:Nat}(h1:VE X a δ (.int lo))(h2:VE X b δ (.int (lo+n)))(h0:0<=lo)(Qg:lo<=100000)(hn:n<=1000)(hc:X.calm=true)(m1:X.mg "list"=none)(m2:X.mg "range"=none)(hg:Gl X "list":=by rfl)(Qn:Gl X "range":=by rfl)
  (hs:starEach [a,b] X.env=(false,eval a X.env)::starEach [b] X.env:=by rfl)(Kx:starEach [b] X.env=(false,eval b X.env)::starEach [] X.env:=by rfl)(pA:starEach [.Call (.Name "range" p2) [a,b] [] tR] X.env=(false,eval (.Call (.Name "range" p2) [a,b] [] tR) X.env)::starEach [] X.env:=by rfl)(qp:(backTo tR (starEach [b] X.env)).any (·.1)=false:=by rfl)(Li:(backTo pos (starEach [] X.env)).any (·.1)=false:=by rfl):
  VO X (.Call (.Name "list" p) [.Call (.Name "range" p2) [a,b] [] tR] [] pos) δ (nZ lo n):=
 .of (lY (y6 hc) hg m1 (by rfl) (du (lY w8 Qn m2 (by rfl) (du c7 (du c7 fF Kx) hs) (by decide) (by decide) hs qp) fF pA) (by decide) (by decide) pA Li) λB0 B σ H0 H Q f q=>h1 B0 B σ H0 H _ f λv Ha Z8 ga ra=>by
  cases ra;refine h2 B0 B σ Ha Z8 _ (f.grow ga) λv H1 dO gb rb=>?_
  cases rb;have g:=ga.trans gb;refine⟨lo,lo+n,rfl,λl hl=>⟨l,lo,n,rfl,bq,h0,Qg,hn,λm hm=>?_⟩⟩
  have nl:dO m=none:=by
   by_cases e:m=l
   ·subst e;rw[bq]at hm;cases hm
   ·rw[aP e]at hm;exact hm
  have g2:=g.trans (eB.loose (o:=HO.rng lo (lo+n)) g.sub hl);refine q m _ H1 _ (g2.trans (.loose g2.sub hm)) (g.big.free nl) (g.sub.free nl) bq ?_
  have go:∀l:List Nat,cy X.K H1 (l.map λ(i:Nat)=>V.int (lo+i)) (l.map λ(i:Nat)=>fN (lo+i)):=by
   intro l
   induction l with
   |nil=>exact .nil
   |cons x l ih=>exact .cons (.int _) ih
  exact go _
end
end L2
namespace PySem
open Sem (wp)
section
variable{prog:bK}{w:cB}{A:dQ}{E:aE->aM->Prop}{s:aM}{r:aR}{a b c:Int}{t u v:Tok}{n:Nat}
theorem xN{R:ug->aM->Prop}{S:aR}{c₀:Nat}(hh:A.handled=none)(hr:IsRange s.heap r a b c t u v)(qA:lQ a b c=true)(hn:iI a b c=n)(hlen:n<=2^24)(hS:s.heap.get? S=some { cls:=.type "list",data:=.seq #[] c₀ })
  (hR:∀h' tk FW c',(∀b o,b≠S->s.heap.get? b=some o->h'.get? b=some o)->h'.get? S=some { cls:=.type "list",dict:=none,data:=.seq FW c',slots:=#[] }->
   ItemsOf (λi v=>∃t,v=.int (a+i*c) t) FW n->R (.ok (.ret (.ref S))) { s with heap:=h',toks:=tk }) :
  codeAny (model prog w) A (.builtin "list.__iadd__" ⟨[.ref S,.ref r],[]⟩) R s:=by
 refine jq F.entry_list_iadd ?_
 rw[gG F.plain_list_iadd _];exact wpAny_extend_range hh hr qA hn hlen S (.ref S) c₀ hS hR
theorem tS{Q:List aE->aM->Prop}(hh:A.handled=none)(hr:IsRange s.heap r a b c t u v)(qA:lQ a b c=true)(hn:iI a b c=n)(hlen:n<=2^24)
  (hQ:∀h' tk FW,(∀b o,s.heap.get? b=some o->h'.get? b=some o)->ItemsOf (λi v=>∃t,v=.int (a+i*c) t) FW n->Q FW.toList { s with heap:=h',toks:=tk }):wpAny (model prog w) A (collect (.ref r)) Q E s:=by
 unfold collect;refine aA (wpAny_runValue (jq F.entry_proto_collect ?_))
 rw[gG F.plain_proto_collect _];show wpAny _ A.in1 (newList [] >>= λl=>again (.builtin "list.__iadd__" ⟨[l,.ref r],[]⟩)) _ _ s
 refine aA (eV ?_)
 have hS₁:(s.heap.push { cls:=.type "list",data:=.seq ([]:List aE).toArray }).get? s.heap.objs.size=some { cls:=.type "list",data:=.seq ([]:List aE).toArray }:=bA _ rfl;refine bj ⟨rH F.plain_list_iadd _,xN (s:={ s with heap:=s.heap.push { cls:=.type "list",data:=.seq ([]:List aE).toArray } }) hh (aF _ hr) qA hn hlen hS₁ λh' tk FW c' k e it=>?_⟩
 show wpAny _ A (load s.heap.objs.size >>= _) _ _ _;refine aA (wpAny_load e ?_)
 exact bj (hQ h' tk FW (λb o q=>k b o (λz=>by rw[z]at q;exact qQ7 (bf q) (j5 _)) (aF _ q)) it)
end
theorem q_(r:aR)(a b c:Int)(t u v:Tok)(n:Nat)(qA:lQ a b c=true)(hn:iI a b c=n)(hlen:n<=1000):
  Meets (rn.«tuple.__new__» ⟨[.type "tuple",.ref r],[]⟩)
   (λA R s=>A.handled=none/\IsRange s.heap r a b c t u v/\∀(h':dg)(tk:Nat)(acc:Array aE),(∀b o,s.heap.get? b=some o->h'.get? b=some o)->ItemsOf (λi v=>∃t,v=.int (a+i*c) t) acc n->
    R (.ok (.ret (.ref h'.objs.size))) { s with heap:=h'.push { cls:=.type "tuple",data:=.seq acc },toks:=tk }):=
 .of_wp λprog w A R s h=>by
  obtain⟨hh,hr,h⟩:=h;have Am:=sub_tuple_self;have zcV:=init_tuple_lookup;have hmh:=madeHere_tuple;have hT:s.TypeIs (.ref r) "range":=⟨_,hr,rfl⟩;have hh1:A.in1.handled=none:=hh
  wp_walk using Ae hT,tS hh1 hr qA hn (cp hlen (by decide))
  intro h' tk acc hk OB;show wpAny _ _ (fW acc.toList.toArray >>= λv=>ret v) _ _ _
  unfold fW;refine aA (eV ?_ (show acc.toList.toArray.size<=sizeLine by simp only[Array.toArray_toList];rw[OB.1,dA];omega))
  refine bj ⟨_,rfl,?_⟩
  have e:acc.toList.toArray=acc:=by simp
  rw[e];exact h h' tk acc hk OB
section
variable{prog:bK}{w:cB}{A:dQ}{E:aE->aM->Prop}{s:aM}{r:aR}{a b c:Int}{t u v:Tok}{n:Nat}
theorem wq{Q:aE->aM->Prop}(hh:A.handled=none)(hr:IsRange s.heap r a b c t u v)(qA:lQ a b c=true)(hn:iI a b c=n)(hlen:n<=1000)
  (h:∀(h':dg)(tk:Nat)(acc:Array aE),(∀b o,s.heap.get? b=some o->h'.get? b=some o)->ItemsOf (λi v=>∃t,v=.int (a+i*c) t) acc n->Q (.ref h'.objs.size) { s with heap:=h'.push { cls:=.type "tuple",data:=.seq acc },toks:=tk }):
  wpAny (model prog w) A (call (.type "tuple") [.ref r]) Q E s:=by
 refine callType_new F.called_tuple (by decide) (F.typeCall_tuple_1 _) (F.newCall_tuple_1 _) (λobj=>F.args_object_init_2 obj _) F.entry_tuple_new
  (q_ r a b c t u v n qA hn hlen) ⟨hh,hr,λh' tk acc hk OB=>⟨⟨_,bA _ rfl,rfl⟩,?_⟩⟩
 exact h h' tk acc hk OB
end
end PySem
namespace L2
open PySem PySem.Spec PyProof.Rows
variable{a p t:aR}{tg:bZ}{H:Hp}{kvs ws:List (Key×V)}{kv l:List (Str×aj)}{ok:List (Str×aj)->aj->List (Str×aj)->Prop}{ps:List Str}{k:Nat}{P:bK}{d:aj}{K:au}{v:V}{w:cB}
section
variable{X:Cx}{a b:bZ}{δ:List Slot}{pos tR p p2:Pos}
theorem xO(hc:X.calm=true):jV X (.type "tuple") (λxs H Q=>∃(p:aR)(lo:Int)(n:Nat),xs=[.ref p]/\H p=some (.rng lo (lo+n))/\0<=lo/\lo<=100000/\n<=1000/\∀l,H l=none->Q (.ref l) (upd H l (.tup ((aZ n).map λ(i:Nat)=>.int (lo+i))))):=by
 intro pins s σ H xs us Q I r h;obtain⟨p,lo,n,rfl,hp,h0,h1,hn,q⟩:=h;obtain⟨u,rfl,rx⟩:=vals1 r;cases rx;obtain⟨t,u,v,ho⟩:=I.hok p _ hp;have h62:(200000:Int)<2^62:=by decide
 refine wq (I.ok.hd hc) ho (small_one (by omega) (by omega) (by omega) (by omega)) (n:=n) (by rw[rangeSize_one];split<;>omega) hn λh' tk acc kp it=>?_
 have rel:∀(l:List aE)(m:Nat),(∀(j:Nat)v,l[j]?=some v->∃t,v=.int (lo+(m+j:Nat)) t)->dX ((List.range' m l.length).map λ(i:Nat)=>V.int (lo+i)) l:=by
  intro l
  induction l with
  |nil=>intro m _;exact .nil
  |cons x l ih=>
   intro m hx;rw[bJ,List.range'_succ,aH];obtain⟨t,e⟩:=hx 0 x rfl;refine .cons ⟨t,by simpa using e⟩ (ih (m+1) λj v hj=>?_)
   obtain⟨t,e⟩:=hx (j+1) v (by simpa using hj)
   exact⟨t,by rw[e];congr 2;omega⟩
 have hl:acc.toList.length=n:=by simpa using it.1
 have rv:=rel acc.toList 0 λj v hj=>by
  obtain⟨t,e⟩:=it.2 j v (by rw[<-rJ];exact hj)
  exact⟨t,by rw[e,Int.mul_one,i_]⟩
 rw[hl,<-GJ]at rv;have I1:Inv X pins σ H { s with heap:=h',toks:=tk }:=I.kept (t':=tk) kp
 have ea:acc.toList.toArray=acc:=by simp
 have I2:Inv X pins σ (upd H h'.objs.size (.tup ((aZ n).map λ(i:Nat)=>.int (lo+i)))) { s with heap:=h'.push { cls:=.type "tuple",data:=.seq acc },toks:=tk }:=by
  rw[<-ea];exact I1.laid (t':=tk) (λb o e=>aF _ e) (ay _) (show gT X.prog X.w _ _ _ (.tup _) from⟨by rw[ai,bW,dA];omega,acc.toList,rv,qd _ _⟩)
 exact⟨.ref h'.objs.size,_,I2,rfl,q _ (I1.hok.fresh (ay _))⟩
theorem y8{lo:Int}{n:Nat}(h1:VE X a δ (.int lo))(h2:VE X b δ (.int (lo+n)))(h0:0<=lo)(Qg:lo<=100000)(hn:n<=1000)(hc:X.calm=true)(m1:X.mg "tuple"=none)(m2:X.mg "range"=none)(hg:Gl X "tuple":=by rfl)(Qn:Gl X "range":=by rfl)
  (hs:starEach [a,b] X.env=(false,eval a X.env)::starEach [b] X.env:=by rfl)(Kx:starEach [b] X.env=(false,eval b X.env)::starEach [] X.env:=by rfl)(pA:starEach [.Call (.Name "range" p2) [a,b] [] tR] X.env=(false,eval (.Call (.Name "range" p2) [a,b] [] tR) X.env)::starEach [] X.env:=by rfl)(qp:(backTo tR (starEach [b] X.env)).any (·.1)=false:=by rfl)(Li:(backTo pos (starEach [] X.env)).any (·.1)=false:=by rfl):
  VE X (.Call (.Name "tuple" p) [.Call (.Name "range" p2) [a,b] [] tR] [] pos) δ (.tuple (nZ lo n)):=
 .of (lY (xO hc) hg m1 (by rfl) (du (lY w8 Qn m2 (by rfl) (du c7 (du c7 fF Kx) hs) (by decide) (by decide) hs qp) fF pA) (by decide) (by decide) pA Li) λB0 B σ H0 H Q f q=>h1 B0 B σ H0 H _ f λv Ha Z8 ga ra=>by
  cases ra;refine h2 B0 B σ Ha Z8 _ (f.grow ga) λv H1 dO gb rb=>?_
  cases rb;have g:=ga.trans gb;refine⟨lo,lo+n,rfl,λl hl=>⟨l,lo,n,rfl,bq,h0,Qg,hn,λm hm=>?_⟩⟩
  have g2:=g.trans (eB.loose (o:=HO.rng lo (lo+n)) g.sub hl);refine q (.ref m) _ _ (g2.trans (.laid g2.sub hm)) (.tup (oH.of bq) ?_)
  have go:∀l:List Nat,cy X.K (upd H1 m (.tup ((aZ n).map λ(i:Nat)=>.int (lo+i)))) (l.map λ(i:Nat)=>V.int (lo+i)) (l.map λ(i:Nat)=>fN (lo+i)):=by
   intro l
   induction l with
   |nil=>exact .nil
   |cons x l ih=>exact .cons (.int _) ih
  exact go _
end
section
variable{X:Cx}{B0 B H0 H:Hp}{σ:St}{D:Ends}{body:List ia}{tg iter:bZ}{ds:List aj}{pos:Pos}
theorem FX{tgt:IJ}(Rs:Nat->OR)(δs:Nat->List Slot)(m:∀k,su (Rs k))(G:OF X.K B0 B (Rs 0) H0 H σ (δs 0))(hp:tN (model X.prog X.w) X.A X.env X.xe)(hc:X.calm=true)(hi:VI X tg iter (δs 0) ds)(hg:PG X tg (KQ X.K tgt))
  (step:∀k d,ds[k]?=some d->∃δ',Ar tgt d (δs k)=some δ'/\noOwn δ'=true/\∀(D:Ends)C0 σ' dS H',OF X.K C0 B (Rs k) dS H' σ' δ'->(∀σ2 Ha Hb,OF X.K C0 B (Rs (k+1)) Ha Hb σ2 (δs (k+1))->D.nx σ2 Hb)->B6 X body D σ' H')
  (q:∀σ2 Ha Hb,OF X.K B0 B (Rs ds.length) Ha Hb σ2 (δs ds.length)->D.nx σ2 Hb)
  (hs:∀x,foldedSetIterable iter X.env x=pure x:=by intro _;rfl):cS X (.For tg iter body [] pos) D σ H:=λpins s I=>by
 obtain⟨wi,pi,qi⟩:=hi;refine BV hp hc pi hg mN hs pins s σ H D I ?_
 refine qi H0 H σ H0 H _ G.own λJ H1 dO g it=>?_
 have G1:=G.go (m 0) (G.own.grow g) G.no;refine⟨λi mm σ' H'=>i<=ds.length/\mm=ds.length-i/\∃Ha,OF X.K H1 B (Rs i) Ha H' σ' (δs i),⟨ds.length,bF _,rfl,H1,G1.from ⟨G1.fr.ent.big,dv.refl _,G1.fr.sub,λ_ z=>.inl z⟩⟩,?_⟩
 rintro i mm σ' H' ⟨hi,rfl,Ha,Ga⟩
 obtain⟨i1,i2,i3⟩:=it Ha H' Ga.fr.ent.fG Ga.fr.sub i;by_cases nR:i<ds.length
 ·have hd:ds[i]?=some ds[i]:=by simp[nR]
  obtain⟨δ',e1,e2,e3⟩:=step i _ hd;refine .inr ⟨i1 nR,λσ'' wX=>∃Hb,OF X.K H1 B (Rs (i+1)) Hb wX σ'' (δs (i+1)),λσ'' wX ⟨Hb,z⟩=>⟨ds.length-(i+1),by omega,nR,rfl,Hb,z⟩,λv H2 y=>?_⟩
  obtain⟨Hb,g2,rx⟩:=i3 v H2 _ hd y;refine r9 (Ga.own.grow g2) rx e1 λσ3 f3=>?_
  exact e3 _ H1 σ3 Hb H2 (Ga.go (m i) f3 e2) λσ2 Hc Hd z=>⟨Hc,z⟩
 ·have e:i=ds.length:=by omega
  subst e;refine .inl ⟨i2 (ay _),q σ' Ha H' (Ga.from ⟨Ga.fr.ent.big,G1.fr.ent.fG.trans Ga.fr.ent.fG,Ga.fr.sub,λb z=>?_⟩)⟩
  rcases Ga.fr.ent.new b z with z|z
  ·exact G1.fr.ent.new b z
  ·exact .inr z
end
def mD(kvs:List (Key×V))(l:List (Key×V)):List (Key×V):=l.foldl (λkvs q=>putK kvs q.1 q.2) kvs
theorem sv:∀(l kvs:List (Key×V)),(mD kvs l).length<=kvs.length+l.length
 | [],kvs=>ay _
 |q::l,kvs=>by
  have h1:=sv l (putK kvs q.1 q.2);have h2:=mK kvs q.1 q.2
  show(mD (putK kvs q.1 q.2) l).length<=kvs.length+(l.length+1)
  omega
theorem Cm(kvs l:List (Key×V))(q:Key×V):mD kvs (l ++ [q])=putK (mD kvs l) q.1 q.2:=by
 unfold mD;rw[gS];rfl
theorem w_:∀(l kvs:List (Key×V)),((kvs++l).map (·.1)).Nodup->mD kvs l=kvs++l
 | [],kvs,_=>(eI _).symm
 |q::l,kvs,h=>by
  have hn:(kvs.any λz=>decide (z.1=q.1))=false:=by
   rw[List.any_eq_false];intro z hz e;have e:=qQ4 e;rw[aU,aH,cZ]at h;exact h.2.2 z.1 (av.mpr ⟨z,hz,rfl⟩) q.1 aL e
  have hp:putK kvs q.1 q.2=kvs ++ [q]:=by unfold putK;rw[hn,qQ2 cz]
  show mD (putK kvs q.1 q.2) l=_;rw[hp,w_ l (kvs ++ [q]) (by rw[cP];exact h),cP]
  rfl
section
variable{X:Cx}
def Lv(K:au):List V->Hp->VK->Prop:=λxs H Q=>∃(p:aR)(qs:List (aR×Key×V)),xs=[.ref p]/\kW K H p (qs.map λq=>.ref q.1)/\
 (∀q∈qs,oH K H q.1 [kV q.2.1,q.2.2])/\∀l,H l=none->Q (.ref l) (upd H l (.dK (mD [] (qs.map (·.2)))))
theorem wt(hc:X.calm=true):jV X (.type "dict") (Lv X.K):=by
 intro pins s σ H xs us Q I r h;obtain⟨p,qs,rfl,hp,hqs,q⟩:=h;obtain⟨u,rfl,rx⟩:=vals1 r;cases rx;obtain⟨its,rv,pl,hz⟩:=I.list hp;have ZZ:=rv.length;simp only[ai]at ZZ hz;have hsz:its.toArray.size=qs.length:=by simp only[bp];omega
 refine Ay (I.ok.hd hc) pl (λi h=>(∀b o,s.heap.get? b=some o->h.get? b=some o)/\∃vs,KV (mD [] ((qs.take i).map (·.2))) vs/\h.DictOf (eZ X.prog X.w) s.heap.objs.size vs)
  (λh' e k=>⟨k,[],.nil,?_⟩) (λi h h' c hc ⟨k1,vs,kv,dd⟩ k=>?_) (λi v s' hi hv ⟨k1,vs,kv,dd⟩=>?_) (λh' tk ⟨k1,vs,kv,dd⟩ _=>?_)
 ·exact⟨_,#[],0,e,⟨rfl,rfl,rfl⟩,rfl,(by intro _ h;exact nomatch h),.nil,lO⟩
 ·obtain⟨o,es,ep,ho,rest⟩:=dd
  exact⟨λb o e=>k b o (a9 (xB (bf e) hc)) (k1 b o e),vs,kv,o,es,ep,k _ _ (a9 hc) ho,rest⟩
 ·rw[hsz]at hi
  have Ke:its[i]?=some v:=by simpa using hv
  have Ye:qs[i]?=some qs[i]:=aq hi
  generalize qs[i]=q0 at Ye
  obtain⟨u0,hu0,ru0⟩:=rv.get (i:=i) (x:=.ref q0.1) (by rw[aI,Ye];rfl)
  rw[Ke]at hu0;cases hu0;cases ru0;obtain⟨it2,M8,Z9,_⟩:=I.tuple (hqs q0 (bw Ye));obtain⟨u1,u2,rfl,r1,r2⟩:∃u1 u2,it2=[u1,u2]/\RelV (kV q0.2.1) u1/\RelV q0.2.2 u2:=by
   cases M8 with|cons a t=>cases t with|cons b t2=>cases t2;exact⟨_,_,rfl,a,b⟩
  obtain⟨o2,Uh,WB⟩:=Z9;refine⟨q0.1,u1,u2,rfl,⟨o2,k1 _ _ Uh,WB⟩,λQ' E' q'=>?_⟩
  have JY:qs.take (i+1)=qs.take i ++ [q0]:=by rw[dH,Ye];rfl
  have Wu:vs.length<=sizeLine:=by
   have e1:=kv.length;have e2:=sv ((qs.take i).map (·.2)) []
   simp only[cN,ai,b9,i_]at e2;omega
  refine wpAny_dictSet_pairs (rW r1) dd (λh' DI sb=>q' h' _ (fc _ _) sb ⟨λb o e=>?_,_,?_,DI⟩) Wu
  ·rw[sb.2 b (a9 (bf e))]
   exact k1 b o e
  ·rw[JY,aU,aH,gF,Cm]
   exact kv.put q0.2.1 r2
 ·rw[hsz,ju]at kv
  have hlen:=sv (qs.map (·.2)) []
  simp only[cN,ai,i_]at hlen;exact⟨.ref s.heap.objs.size,_,I.laid (o:=.dK (mD [] (qs.map (·.2)))) k1 (ay _) (yE (by omega) (beq_eq_false_iff_ne.mpr (bV (a9 I.big))) kv dd),rfl,q _ (I.hok.fresh (ay _))⟩
def pairD(q:Str×aj):aj:=.tuple [.str q.1,q.2]
theorem D3:∀{l:List (Str×aj)}{xs:List V},cy K H xs (l.map pairD)->∃qs:List (aR×Key×V),xs=qs.map (λq=>.ref q.1)/\(∀q∈qs,oH K H q.1 [kV q.2.1,q.2.2])/\qs.map (·.2.1)=l.map (λp=>(bG p.1:Key))/\cy K H (qs.map (·.2.2)) (l.map (·.2))
 | [],_,.nil=>⟨[],rfl,(by intro _ h;cases h),rfl,.nil⟩
 |q::l,_,.cons a r=>by
  obtain⟨qs,e1,e2,e3,e4⟩:=D3 r;cases a with
  |tup hq rs=>
   cases rs with
   |cons b rs=>
    cases b;cases rs with
    |cons c rs=>
     cases rs;refine⟨(_,.inr q.1,_)::qs,by rw[e1];rfl,λz hz=>?_,by rw[aH,aH,e3],.cons c e4⟩
     rcases aG.mp hz with rfl|hz
     ·exact hq
     ·exact e2 z hz
theorem OD(hn:(l.map (·.1)).Nodup):nT K (Lv K) [.list (l.map pairD)] (cF l):=λvs H0 H Q s r k=>by
 obtain⟨v,rfl,rv⟩:=r.one;cases rv with
 |lst hq rs=>
  obtain⟨qs,e1,e2,e3,e4⟩:=D3 rs;subst e1;have WC:((qs.map (·.2)).map (·.1)).Nodup:=by
   rw[aS]
   show(qs.map (·.2.1)).Nodup
   rw[e3,show(l.map λp=>(bG p.1:Key))=(l.map (·.1)).map (bG:Str->Key) by rw[aS];rfl]
   exact AV _ (λa b Uq z=>Uq (rC z)) hn
  refine⟨_,qs,rfl,s.seq hq,λq Ip=>s.oY (e2 q Ip),λp hp=>?_⟩
  rw[w_ _ [] (by rw[nB];exact WC),nB]
  have g:=eB.laid s (o:=.dK (qs.map (·.2))) hp
  refine k (.ref p) _ _ g (.dct (kvs:=qs.map (·.2)) bq ?_ ?_)
  ·have e:=qQ6 (oG oX) e3
   simp only[aS]at e ⊢;exact e.symm
  ·simp only[aS]
   exact e4.mono g.fG
end
section
variable{X:Cx}{a:bZ}{δ:List Slot}{pos p:Pos}
theorem D4(h:VE X a δ (.list (l.map pairD)))(hn:(l.map (·.1)).Nodup)(hc:X.calm=true)(hm:X.mg "dict"=none)(hg:Gl X "dict":=by rfl)(hs:starEach [a] X.env=(false,eval a X.env)::starEach [] X.env:=by rfl):VE X (.Call (.Name "dict" p) [a] [] pos) δ (cF l):=jM (wt hc) (OD hn) (ao h aQ hs) hm rfl hg (he:=hs)
end
def Jc(kvs:List (Str×aj)):aj:=.dict ((.none,.int 1)::kvs.map λp=>(.str p.1,p.2))
section
variable{K:au}{H:Hp}{v:V}
theorem Hz:∀{kvs:List (Str×aj)}{ws:List (Key×V)},(ws.map λp=>oX p.1)=(kvs.map λp=>aK p.1)->ws.map (·.1)=kvs.map (λp=>(bG p.1:Key))
 | [],ws,e=>by cases ws with|nil=>rfl|cons q l=>simp at e
 |p::kvs,ws,e=>by
  cases ws with
  |nil=>simp at e
  |cons q ws=>
   rw[aH,aH]at e ⊢
   injection e with h1 h2
   rw[Hz h2]
   congr 1
   cases eq:q.1 with
   |inl i=>rw[eq]at h1;cases h1
   |inr x=>rw[eq]at h1;injection h1 with h1;rw[h1]
theorem Rep.D5{kvs:List (Str×aj)}(r:Rep K H v (Jc kvs)):∃a o ws,v=.ref a/\H a=some (.rA o (.dK ws))/\ws.map (·.1)=kvs.map (λp=>(bG p.1:Key))/\cy K H (ws.map (·.2)) (kvs.map (·.2)):=by
 unfold Jc at r
 generalize e:kvs.map (λp=>(aK p.1,p.2))=ds at r
 cases r with
 |dct h k t=>
  rename_i a ws
  exfalso
  cases ws with
  |nil=>simp at k
  |cons q ws=>
   rw[aH,aH]at k
   injection k with k1 _
   cases eq:q.1 with
   |inl i=>rw[eq]at k1;cases k1
   |inr x=>rw[eq]at k1;cases k1
 |Um h k t=>
  rename_i a o ws
  refine⟨a,o,ws,rfl,h,Hz ?_,?_⟩
  ·rw[<-k,<-e,aS];rfl
  ·rw[<-e,aS]at t
   exact t
def OG(H:Hp)(p:aR):Prop:=∀o,H p=some o->∀xs,o≠.lst xs/\o≠.tup xs/\∀u,o≠.rA u (.lst xs)/\o≠.rA u (.tup xs)
theorem Rep.Lw(hp:OG H p)(r:Rep K H v d):qT d->Rep K (nX H p) v d:=by
 refine Rep.rec (motive_1:=λv d _=>qT d->Rep K (nX H p) v d) (motive_2:=λxs ds _=>(∀d∈ds,qT d)->cy K (nX H p) xs ds) ?_ ?_ ?_ ?_ ?_ ?_ ?_ ?_ ?_ ?_ ?_ ?_ r
 ·exact λ_=>.non
 ·exact λb _=>.bl b
 ·exact λi _=>.int i
 ·exact λx _=>.str x
 ·intro a xs ds h _ t n
  cases n with
  |lst n=>
   refine .lst ?_ (t n)
   rcases h with(h|⟨o,h⟩)|h
   ·exact .inl (.inl (by rw[gu (λz=>by subst z;exact(hp _ h xs).1 rfl)];exact h))
   ·exact .inl (.inr ⟨o,by rw[gu (λz=>by subst z;exact((hp _ h xs).2.2 o).1 rfl)];exact h⟩)
   ·exact .inr h
 ·intro a xs ds h _ t n
  cases n with
  |tup n=>
   refine .tup ?_ (t n)
   rcases h with(h|⟨o,h⟩)|h
   ·exact .inl (.inl (by rw[gu (λz=>by subst z;exact(hp _ h xs).2.1 rfl)];exact h))
   ·exact .inl (.inr ⟨o,by rw[gu (λz=>by subst z;exact((hp _ h xs).2.2 o).2 rfl)];exact h⟩)
   ·exact .inr h
 ·intro a kvs ds _ _ _ _ n;cases n
 ·intro a kvs ds _ _ _ _ n;cases n
 ·intro a C dx fs ds _ _ _ _ _ _ n;cases n
 ·intro a o kvs ds _ _ _ _ n;cases n
 ·exact λ_=>.nil
 ·intro x d xs ds _ _ a t n
  exact .cons (a (n d aL)) (t λd hd=>n d (aT _ hd))
theorem cy.Lw(hp:OG H p):∀{ds:List aj}{xs:List V},cy K H xs ds->(∀d∈ds,qT d)->cy K (nX H p) xs ds
 | [],_,r,_=>by cases r;exact .nil
 |d::ds,_,r,n=>by cases r with|cons a t=>exact .cons (a.Lw hp (n d aL)) (cy.Lw hp t λd hd=>n d (aT _ hd))
theorem OI(h:H p=some (.dK ws)):OG H p:=λo e xs=>by
 rw[h]at e;cases e;exact⟨nofun,nofun,λu=>⟨nofun,nofun⟩⟩
theorem Lx{ob:Obj}(h:H p=some (.rA ob (.dK ws))):OG H p:=λo e xs=>by
 rw[h]at e;cases e;exact⟨nofun,nofun,λu=>⟨nofun,nofun⟩⟩
theorem HB{o:HO}:dv (nX H p) (upd (nX H p) p o):=λb u e=>by
 rw[aP (λz=>by subst z;rw[yb]at e;cases e)];exact e
end
section
variable{X:Cx}{pins:List (aR×Obj)}{σ:St}{H:Hp}{s:aM}{a:aR}{ws:List (Key×V)}
theorem Inv.freeze(I:Inv X pins σ H s)(h:H a=some (.dK ws)):∃o,Inv X pins σ (upd H a (.rA o (.dK ws))) s:=by
 obtain⟨z,hd,vs,rel,dd⟩:=A8 I.hok h;obtain⟨o,es,ep,ho,rest⟩:=id dd;refine⟨o,?_⟩
 have:=I.write (x:=a) (e:=a) (h':=s.heap) (t':=s.toks) (o:=.rA o (.dK ws)) (by rw[h];trivial) (.inl rfl) (λb u _ q=>q) ⟨o,ho⟩ ⟨ho,z,hd,vs,rel,dd⟩
 exact this
theorem Inv.Z_{o:Obj}(I:Inv X pins σ H s)(h:H a=some (.rA o (.dK ws)))(hn:∀o u,X.H₀ a≠some (.rA o u)):Inv X pins σ (upd H a (.dK ws)) s:=by
 have ne:∀{b:aR},H b=none->b≠a:=λe z=>by subst z;rw[h]at e;cases e
 have ob:gT X.prog X.w H s.heap a (.dK ws):=(Rd.ok (.inr ⟨o,h⟩) I.hok);refine⟨I.ok,I.os,I.bare,⟨I.base.keep,I.base.slot,λb u e n hx=>?_,I.base.there,λb xs e=>?_,λb ob u e=>?_,λb ps e=>?_⟩,I.loc,I.cell,?_,λx c e=>?_,λp hp=>?_,λb u e=>?_,I.len⟩
 ·have q:=I.base.free b u e n hx
  rw[aP (ne q)];exact q
 ·have q:=I.base.tups b xs e
  rw[aP (λz=>by subst z;rw[h]at q;cases q)];exact q
 ·have q:=I.base.vV b ob u e
  rw[aP (λz=>by subst z;exact hn _ _ e)];exact q
 ·obtain⟨more,q⟩:=I.base.yn b ps e
  exact⟨more,by rw[aP (λz=>by subst z;rw[h]at q;cases q)];exact q⟩
 ·rw[aP (ne I.free)];exact I.free
 ·rw[aP (ne (I.pF x c e))];exact I.pF x c e
 ·obtain⟨q1,q2,q3⟩:=I.pin p hp
  exact⟨q1,by rw[aP (ne q2)];exact q2,q3⟩
 ·have st:∀{b:aR}{u:HO},gT X.prog X.w H s.heap b u->gT X.prog X.w (upd H a (.dK ws)) s.heap b u:=λx=>
   x.stay (λc v _ q=>q) (λc q=>by rw[aP (λz=>by subst z;rw[h]at q;cases q)];exact q) λc xs q=>by rw[aP (λz=>by subst z;rw[h]at q;cases q)];exact q
  by_cases hb:b=a
  ·subst hb;rw[bq]at e;cases e;exact st ob
  ·rw[aP hb]at e;exact st (I.hok b u e)
end
section
variable{X:Cx}{e:bZ}{δ δ':List Slot}{es:List aj}{kvs:List (Str×aj)}
theorem Jd(i:Nat)(hi:δ[i]?=some (.val (cF kvs)))(hl:δ'.length=δ.length)(hδ:∀j sl,δ'[j]?=some sl->sl=.un\/(j=i/\sl=.val (Jc kvs)))(Ww:∀q∈kvs,qT q.2)(hes:∀d∈es,qT d)(h:VO X e δ' es):VO X e δ es:=λB0 B σ H0 H Q f q pins s I=>by
 obtain⟨v,hv,rv⟩:=f.val hi;obtain⟨a,ws,rfl,ha,ke,rs⟩:=rv.kL;have Z':H a=some (.dK ws):=f.sub _ _ ha;obtain⟨o,I'⟩:=I.freeze Z';have hn:∀o u,X.H₀ a≠some (.rA o u):=λo u z=>by
  have:=I.base.vV a o u z;rw[Z']at this;cases this
 have zaa:dv (upd (nX H0 a) a (.rA o (.dK ws))) (upd H a (.rA o (.dK ws))):=λb u z=>by
  by_cases hb:b=a
  ·subst hb;rw[bq]at z ⊢;exact z
  ·rw[aP hb,gu hb]at z;rw[aP hb];exact f.sub _ _ z
 have f':fJ X.K (upd (nX H0 a) a (.rA o (.dK ws))) (upd H a (.rA o (.dK ws))) (upd (nX H0 a) a (.rA o (.dK ws))) (upd H a (.rA o (.dK ws))) σ δ':=by
  refine⟨.refl zaa,by rw[hl];exact f.len,λj sl z=>?_,λj k ds es p DL z1 z2 z3=>?_⟩
  ·rcases hδ j sl z with rfl|⟨rfl,rfl⟩
   ·trivial
   ·refine⟨.ref a,hv,.Um bq ?_ ?_⟩
    ·have:=qQ6 (oG oX) ke
     rw[aS,aS]at this;rw[aS];exact this.symm
    ·rw[aS]
     refine(cy.Lw (OI ha) (ds:=kvs.map (·.2)) rs λd hd=>?_).mono HB
     obtain⟨w,hw,rfl⟩:=av.mp hd;exact Ww w hw
  ·rcases hδ j _ z1 with z|⟨_,z⟩<;>cases z
 refine gK (h _ _ σ _ _ (λv H'=>H' a=some (.rA o (.dK ws))/\Q v (upd H' a (.dK ws))) f' (λp xs Ha Hb g h1 h2 h3 r=>?_) pins s I') λu s1 ⟨v,H1,I1,r1,hfz,q1⟩=>⟨v,_,I1.Z_ hfz hn,r1,q1⟩
 have hHa:Ha a=some (.rA o (.dK ws)):=g.fG _ _ bq;have hHb:Hb a=some (.rA o (.dK ws)):=g.big _ _ bq;have Qv:p≠a:=λz=>by subst z;rw[hHa]at h2;cases h2
 refine⟨hHb,q p xs (upd (nX Ha a) a (.dK ws)) (upd Hb a (.dK ws)) ⟨λb u z=>?_,λb u z=>?_,λb u z=>?_,λb z=>?_⟩ (by rw[aP Qv]at h1;exact h1) (by rw[aP Qv,gu Qv];exact h2) (by rw[aP Qv];exact h3) ((cy.Lw (Lx hHa) r hes).mono HB)⟩
 ·by_cases hb:b=a
  ·subst hb;rw[bq];rw[Z']at z;exact z
  ·rw[aP hb];exact g.big _ _ (by rw[aP hb];exact z)
 ·by_cases hb:b=a
  ·subst hb;rw[bq];rw[ha]at z;exact z
  ·rw[aP hb,gu hb];exact g.fG _ _ (by rw[aP hb,gu hb];exact z)
 ·by_cases hb:b=a
  ·subst hb;rw[bq]at z ⊢;exact z
  ·rw[aP hb,gu hb]at z;rw[aP hb];exact g.sub _ _ z
 ·by_cases hb:b=a
  ·subst hb;exact .inl (by rw[ha];exact nofun)
  ·rw[aP hb,gu hb]at z
   rcases g.new b z with y|y
   ·rw[aP hb,gu hb]at y;exact .inl y
   ·rw[aP hb]at y;exact .inr y
end
def Itk(a:aR)(o:Obj)(kvs:List (Key×V)):It:=⟨λi H=>i<kvs.length/\H a=some (.rA o (.dK kvs)),λi H x H'=>H'=H/\∃q,kvs[i]?=some q/\x=kV q.1,λi H=>kvs.length<=i/\H a=some (.rA o (.dK kvs))⟩
section
variable{X:Cx}{pins:List (aR×Obj)}{σ:St}{H:Hp}{s:aM}{a it:aR}{kvs:List (Key×V)}{o:Obj}{es:Array wO}{ep:Nat}
theorem uv(I:Inv X pins σ H s)(h:H a=some (.rA o (.dK kvs))):(a==sysModules)=false/\∃vs es ep,KV kvs vs/\o.data=.dict es ep/\s.heap.DictAt (eZ X.prog X.w) a vs ep:=by
 obtain⟨ho,z,hd,vs,rel,o',es,ep,BO,c1,c2,c3⟩:=(show gT X.prog X.w H s.heap a (.rA o (.dK kvs))from I.hok a _ h)
 rw[ho]at BO;cases BO;exact⟨hd,vs,es,ep,rel,c2,o,es,ho,c1,c2,c3⟩
theorem Je(a it:aR)(he:o.data=.dict es ep):Turn P w K tg (Itk a o kvs) [it] it (λi h=>h.IsKeyIter it a i kvs.length ep) where
 mem:=by simp
 obj:=λi h st b hb=>by
  have e:b=it:=by simpa using hb
  subst e;obtain⟨o,e,c,d⟩:=st;exact⟨o,e,λv z=>by rw[d]at z;cases z⟩
 keep:=λi h h' st k=>let⟨o,e,r⟩:=st;⟨o,k it (by simp) o e,r⟩
 item:=by
  intro X hP hw hK hc i pins s σ H E I hf st hg;subst hP hw hK;obtain⟨f0,f1,f2,f3,f4,f5⟩:=hf it (by simp)
  obtain⟨hi,ha⟩:=hg;obtain⟨hd,vs,UQ,UT,rel,WD,dd⟩:=uv I ha;rw[he]at WD;cases WD;have hl:=rel.length;obtain⟨q,hq⟩:∃q,kvs[i]?=some q:=⟨kvs[i],aq hi⟩;obtain⟨⟨k,x⟩,hx⟩:∃p,vs[i]?=some p:=⟨vs[i]'(by omega),aq (by omega)⟩
  have hk:q.1=k:=by
   have e1:=qQ6 (·[i]?) rel.keys
   simp only[aI,hq,hx,jK]at e1;exact cR e1
  refine wpAny_pyNext_dict_item (kvs:=vs) (by rw[<-hl];exact st) dd hx λkey h' RT xY sb=>?_
  have I1:Inv X pins σ H { s with heap:=h' }:=I.turned (t':=s.toks) (λb o hb e=>(sb.2 b hb).trans e) f0 f1 f3 f4 f5
  obtain⟨o,e,c,d⟩:=id xY;exact⟨key,rfl,Dx (s:={ s with heap:=h' }) e c d (by decide) ⟨kV q.1,H,I1,by rw[hk];exact Oy RT,⟨rfl,q,hq,rfl⟩,by rw[hl];exact xY,λb hb=>(hf b hb).1⟩⟩
 done:=by
  intro X hP hw hK hc i pins s σ H E I hf st hg;subst hP hw hK;obtain⟨f0,f1,f2,f3,f4,f5⟩:=hf it (by simp)
  obtain⟨hi,ha⟩:=hg;obtain⟨hd,vs,UQ,UT,rel,WD,dd⟩:=uv I ha;rw[he]at WD;cases WD;have hl:=rel.length;exact wpAny_pyNext_dict_end (kvs:=vs) (I.ok.hd hc) (by rw[<-hl];exact st) dd (eR (by omega)) λh' eb=>⟨rfl,I.turned (t':=s.toks) (λb o hb e=>eb b o hb e) f0 f1 f3 f4 f5⟩
 self:=λ_ _ _ _ _ st h=>wpAny_pyIter_keyiter st h
def WG(tl:TE):TI:=λσ H R=>tl σ H λv H1=>∃a o kvs,v=.ref a/\H1 a=some (.rA o (.dK kvs))/\R (Itk a o kvs) H1
theorem OJ{l: bZ}{tl:TE}(hl:PE X l tl):PI X tg l (WG tl):=by
 intro pins s σ H R I h;refine gK (hl pins s σ H _ I h) λv s1 ⟨y,H1,I1,r1,q1⟩=>?_
 obtain⟨a,o,kvs,e,ha,q⟩:=q1;subst e;cases r1;obtain⟨hd,vs,es,ep,rel,he,dd⟩:=uv I1 ha;refine wpAny_pyIter_dict hd dd ?_
 rw[<-rel.length];refine⟨s1.heap.objs.size,[s1.heap.objs.size],_,_,H1,rfl,I1.kept (t':=s1.toks) λb o e=>aF _ e,Je a _ he,⟨_,bA _ rfl,rfl,rfl⟩,λb hb=>?_,q⟩
 have e:b=s1.heap.objs.size:=by simpa using hb
 subst e;exact I1.yp (ay _) (I1.hok.fresh (ay _))
end
section
variable{X:Cx}{tg a b:bZ}{δ:List Slot}{d:aj}{kvs:List (Str×aj)}{pos p:Pos}{k:Nat}{x:Str}
theorem Ly(h:VE X a δ (Jc kvs)):VI X tg a δ (kvs.map λq=>.str q.1):=⟨_,OJ c7,λB0 B σ H0 H R f q=>h B0 B σ H0 H _ f λv H1 dO g r=>by
 obtain⟨p,o,ws,rfl,hp,ke,rs⟩:=r.D5;have hl:ws.length=kvs.length:=by have:=qQ6 fq ke;simpa using this
 refine⟨p,o,ws,rfl,g.sub _ _ hp,q _ H1 dO g λHa Hb s1 s2 i=>⟨λhi=>⟨by simpa[hl]using hi,s2 _ _ (s1 _ _ hp)⟩,λhi=>⟨by simpa[hl]using hi,s2 _ _ (s1 _ _ hp)⟩,λx wX d hd ⟨e,z,hz,ex⟩=>?_⟩⟩
 subst e;subst ex;have e1:=qQ6 (·[i]?) ke
 simp only[aI,hz,jK]at e1;rw[aI]at hd;cases hk:kvs[i]? with
 |none=>rw[hk]at hd;cases hd
 |some w=>
  rw[hk]at hd e1;cases hd;have e2:z.1=bG w.1:=cR e1;rw[e2];exact⟨Ha,.refl s2,.str w.1⟩⟩
theorem Lz(hr:e8 k X.A)(h1:VE X a δ (Jc kvs))(h2:VE X b δ (.str x))(hx:gU kvs x=some d)(hs:Kn b:=by intro _ _;rfl):VE X (.Subscript a b pos) δ d:=
 .of (GZ (M6 hr) c7 c7 hs) λB0 B σ H0 H Q fr q=>h1 B0 B σ H0 H _ fr λv H1 dO g r=>h2 B0 B σ H1 dO _ (fr.grow g) λu H2 jb g2 r2=>by
  obtain⟨p,o,ws,rfl,hp,ke,rs⟩:=r.D5;cases r2;have ov:=uq ke rs x;rw[hx]at ov;obtain⟨w,hw,qk⟩:=ov.some_of;refine⟨p,w,rfl,?_,q w H2 jb (g.trans g2) (qk.mono g2.fG)⟩
  rw[<-hw];exact .inl ⟨ws,.inr x,.inr ⟨o,g2.sub _ _ (g2.fG _ _ hp)⟩,rfl,rfl⟩
theorem y9:jV X (.type "dict") (λxs H Q=>∃p kvs,xs=[.ref p]/\Rd H p (.dK kvs)/\∀l,H l=none->Q (.ref l) (upd H l (.dK kvs))):=by
 intro pins s σ H xs us Q I r h;obtain⟨p,kvs,rfl,hp,q⟩:=h;obtain⟨u,rfl,rx⟩:=vals1 r;cases rx;exact Kv I hp λl s' hl I'=>⟨.ref l,_,I',rfl,q l hl⟩
theorem OL:nT K (λxs H Q=>∃p kvs,xs=[.ref p]/\Rd H p (.dK kvs)/\∀l,H l=none->Q (.ref l) (upd H l (.dK kvs))) [cF kvs] (cF kvs):=λvs H0 H Q s r q=>by
 obtain⟨v,rfl,r1⟩:=r.one;obtain⟨a,ws,rfl,ha,ke,rs⟩:=r1.kL;refine⟨a,ws,rfl,.inl (s _ _ ha),λl hl=>?_⟩
 have g:=eB.laid s (o:=.dK ws) hl;refine q (.ref l) _ _ g (.dct (kvs:=ws) bq ?_ ?_)
 ·have:=qQ6 (oG oX) ke
  rw[aS,aS]at this;rw[aS];exact this.symm
 ·rw[aS]
  exact rs.mono g.fG
theorem LC(h:VE X a δ (cF kvs))(hm:X.mg "dict"=none)(hg:Gl X "dict":=by rfl)(hs:starEach [a] X.env=(false,eval a X.env)::starEach [] X.env:=by rfl):VE X (.Call (.Name "dict" p) [a] [] pos) δ (cF kvs):=jM y9 OL (ao h aQ hs) hm rfl hg (he:=hs)
end
def Cp(P:bK)(w:cB)(A:dQ)(s:aM)(u v:aE):Prop:=∀(E:aE->aM->Prop)(Q:Bool->aM->Prop),Q true s->wpAny (model P w) A (eqBool u v) Q E s
theorem OO{prog:bK}{A:dQ}{E:aE->aM->Prop}{s:aM}{l b:aR}{i1 i2 j1 j2:aE}{Q:aE->aM->Prop}(hl:s.heap.IsTuple l [i1,i2].toArray)(hb:s.heap.IsTuple b [j1,j2].toArray)(hu:A.units<cLine)
  (e1:Cp prog w A.in1 s i1 j1)(e2:Cp prog w A.in1 s i2 j2)(h:Q (.bool true) s):wpAny (model prog w) A (compareOp .Eq (.ref l) (.ref b)) Q E s:=by
 obtain⟨oa,hoa,ca,na,Qy⟩:=id hl;obtain⟨ob,hob,cb,nb,oW⟩:=id hb;have hTa:s.TypeIs (.ref l) "tuple":=⟨oa,hoa,ca⟩;have hTb:s.TypeIs (.ref b) "tuple":=⟨ob,hob,cb⟩;refine wpAny_richCompare_same_room (op:=.Eq) hTa hTb Dm (k6 Dm hTa PySem.F.entry_tuple_eq ?_ (PySem.F.args_tuple_eq_2 _ _)) hu
 show wpAny _ _ (isInstance (.ref b) (.type "tuple") >>= _) _ _ s;refine aA (wpAny_isInstance hTb isSubtype_tuple_tuple ?_)
 simp only[Bool.not_true,Bool.false_eq_true,if_false];refine aA (wpAny_tupleItemsOf hoa Qy ?_)
 refine aA (wpAny_tupleItemsOf hob oW ?_)
 refine aA ?_
 refine wpAny_forIn_list _ (λrest r s'=>r.1=none/\s'=s/\∃i,rest=([(i1,j1),(i2,j2)]:List (aE×aE)).drop i) _ ?_ ?_ _ _ ⟨rfl,rfl,0,rfl⟩
 ·rintro⟨u,v⟩ rest r s' ⟨hr,rfl,i,hz⟩
  have he:Cp prog w A.in1 s' u v/\rest=([(i1,j1),(i2,j2)]:List (aE×aE)).drop (i+1):=by
   match i,hz with
   |0,hz=>cases hz;exact⟨e1,rfl⟩
   |1,hz=>cases hz;exact⟨e2,rfl⟩
   |n+2,hz=>simp at hz
  refine aA (he.1 _ _ ?_)
  simp only[Bool.not_true,Bool.false_eq_true,if_false];exact bj ⟨rfl,rfl,i+1,he.2⟩
 ·rintro⟨r1,r2⟩ s' ⟨hr,rfl,_⟩
  simp only at hr;subst hr;exact bj ⟨_,rfl,(λz=>nomatch z),h⟩
section
variable{X:Cx}{pins:List (aR×Obj)}{σ:St}{H:Hp}{s:aM}{A:dQ}
theorem eq_self(I:Inv X pins σ H s){v': V}{u u':aE}(hl:Lay 20 d)(r:Rep X.K H v d)(r':Rep X.K H v' d)(q:RelV v u)(q':RelV v' u')(hu:A.units+20<cLine):SeqAt.EqAt A s u u' true:=by
 obtain⟨as,ra⟩:=jh I d hl.1 r q;obtain⟨bs,rb⟩:=jh I d hl.1 r' q';have:=SeqAt.eqAt_reads d d A s u u' as bs ra rb hl.1 hl.1 (by have:=hl.2;omega)
 rw[SeqAt.eqv_refl d hl.1]at this;exact this
theorem HC(I:Inv X pins σ H s)(hu:A.units+20<cLine){kb:List (Key×aE)}:∀{l:List (Str×aj)}{ws:List (Key×V)}{ka:List (Key×aE)},ws.map (·.1)=l.map (λp=>(bG p.1:Key))->cy X.K H (ws.map (·.2)) (l.map (·.2))->KV ws ka->(∀q∈l,Lay 20 q.2)->
  (∀q∈l,∃v y,valueAt kb (bG q.1)=some y/\Rep X.K H v q.2/\RelV v y)->PySem.W.KeqHits A s kb ka true
 | [],ws,ka,e,_,kv,_,_=>by
  have:ws=[]:=by simpa using e
  subst this;cases kv;exact .nil
 |p::l,ws,ka,e,r,kv,hl,hb=>by
  cases ws with
  |nil=>simp at e
  |cons q ws=>
   rw[aH,aH]at e r
   injection e with e1 e2
   cases r with
   |cons r1 r2=>
    cases kv with
    |cons k1 k2=>
     rename_i z ka
     obtain⟨zk,zv⟩:=z;obtain⟨g1,g2⟩:=k1;obtain⟨v,y,h1,h2,h3⟩:=hb p aL;have:PySem.W.KeqHits A s kb ((zk,zv)::ka) (true&&true):=.hit (y:=y) (by rw[<-show q.1=zk from g1,e1];exact h1) (eq_self I (hl p aL) r1 h2 g2 h3 hu) (HC I hu e2 r2 k2 (λw hw=>hl w (aT _ hw)) λw hw=>hb w (aT _ hw))
     exact this
theorem lE:∀{l:List (Str×aj)},(l.map (·.1)).Nodup->∀q∈l,gU l q.1=some q.2
 | [],_,q,h=>by cases h
 |p::l,hn,q,h=>by
  rw[aH,eX]at hn;rcases aG.mp h with rfl|h
  ·exact fK rfl
  ·rw[cW (λz=>hn.1 (by rw[z];exact av.mpr ⟨q,h,rfl⟩))]
   exact lE hn.2 q h
theorem eq_dicts(I:Inv X pins σ H s)(hu:A.units+21<cLine){v': V}{u u':aE}(hl:∀q∈l,Lay 20 q.2)(r:Rep X.K H v (cF l))(r':Rep X.K H v' (cF l))(q:RelV v u)(q':RelV v' u'):Cp X.prog X.w A s u u':=by
 obtain⟨a,ws,rfl,ha,ke,rs⟩:=r.kL;obtain⟨b,ws',rfl,hb,ke',rs'⟩:=r'.kL;cases q;cases q';by_cases Uq:a=b
 ·subst Uq;exact λE Q hq=>SeqAt.EqAt.same _ X.prog X.w E Q hq
 intro E Q hq;unfold eqBool;refine jw ?_
 refine wpAny_ite_split (λhx=>qQ7 (by have:=eq_of_beq hx;injection this) Uq) (λ_=>?_)
 refine aA ?_
 obtain⟨z,hd,vs,rel,dd⟩:=A8 I.hok ha;obtain⟨z',Rr,vs',S9,DI⟩:=A8 I.hok hb;have KZ:(l.map (·.1)).Nodup:=by
  obtain⟨_,_,_,_,_,_,_,_,hn⟩:=id DI;rw[<-S9.keys,ke']at hn;rw[show(l.map λp=>(bG p.1:Key))=(l.map (·.1)).map (bG:Str->Key) by rw[aS];rfl]at hn
  exact List.Pairwise.of_map _ (λa b h z=>h (by rw[z])) hn
 have h1:=qQ6 fq ke;have h2:=qQ6 fq ke';simp only[ai]at h1 h2;have h3:=rel.length;have h4:=S9.length;refine PySem.W.keq_eq (knd:=eZ X.prog X.w) (r:=true) hd Rr dd DI (by omega) (λ_=>HC I (by show A.units+1+20<cLine;omega) ke rs rel hl λq hq=>?_) ?_
 ·have o1:=uq ke' rs' q.1
  rw[lE KZ q hq]at o1;obtain⟨v,hv,rv⟩:=o1.some_of;have o2:=S9.val (bG q.1);rw[hv]at o2;cases hy:valueAt vs' (bG q.1) with
  |none=>rw[hy]at o2;exact o2.elim
  |some y=>rw[hy]at o2;exact⟨v,y,rfl,rv,o2⟩
 ·rw[show(vs.length==vs'.length)=true by rw[beq_iff_eq];omega]
  exact fx hq
theorem OQ(hu:X.A.units+22<cLine):rV X (compareOp .Eq) (λx y H Q=>∃l1 l2,Rep X.K H x (.tuple [cF l1,cF l2])/\Rep X.K H y (.tuple [cF l1,cF l2])/\(∀q∈l1,Lay 20 q.2)/\(∀q∈l2,Lay 20 q.2)/\Q (.bl true) H):=by
 intro pins s σ H x y v u Q I rx ry ⟨l1,l2,r1,r2,y1,y2,q⟩;cases r1 with
 |tup t1 SV=>
  cases r2 with
  |tup t2 Qu=>
   cases rx;cases ry;obtain⟨v1,v2,rfl,a1,a2⟩:=SV.two;obtain⟨w1,w2,rfl,b1,b2⟩:=Qu.two;obtain⟨its,rv,pl,_⟩:=I.tuple t1;obtain⟨Ir,M8,Z9,_⟩:=I.tuple t2;obtain⟨i1,i2,rfl,c1,c2⟩:∃u1 u2,its=[u1,u2]/\RelV v1 u1/\RelV v2 u2:=by
    cases rv with|cons a t=>cases t with|cons b t2=>cases t2;exact⟨_,_,rfl,a,b⟩
   obtain⟨j1,j2,rfl,e1,e2⟩:∃u1 u2,Ir=[u1,u2]/\RelV w1 u1/\RelV w2 u2:=by
    cases M8 with|cons a t=>cases t with|cons b t2=>cases t2;exact⟨_,_,rfl,a,b⟩
   exact OO (show s.heap.IsTuple _ [i1,i2].toArray from pl) (show s.heap.IsTuple _ [j1,j2].toArray from Z9) (by omega) (eq_dicts I (by show X.A.units+1+21<cLine;omega) y1 a1 b1 c1 e1) (eq_dicts I (by show X.A.units+1+21<cLine;omega) y2 a2 b2 c2 e2) ⟨.bl true,H,I,rfl,q⟩
theorem zac{l1 l2:List (Str×aj)}(h1:∀q∈l1,Lay 20 q.2)(h2:∀q∈l2,Lay 20 q.2):Ao K (λx y H Q=>∃l1 l2,Rep K H x (.tuple [cF l1,cF l2])/\Rep K H y (.tuple [cF l1,cF l2])/\(∀q∈l1,Lay 20 q.2)/\(∀q∈l2,Lay 20 q.2)/\Q (.bl true) H) (.tuple [cF l1,cF l2]) (.tuple [cF l1,cF l2]) (.bool true):=λx y H0 H Q s r1 r2 k=>
 ⟨l1,l2,r1.mono s,r2.mono s,h1,h2,k _ _ _ (.refl s) (.bl true)⟩
theorem OS{a b:bZ}{δ:List Slot}{pos:Pos}{l1 l2:List (Str×aj)}(hr:e8 k X.A)(y1:∀q∈l1,Lay 20 q.2)(y2:∀q∈l2,Lay 20 q.2)(h1:VE X a δ (.tuple [cF l1,cF l2]))(h2:VE X b δ (.tuple [cF l1,cF l2])):VE X (.Compare a [.Eq] [b] pos) δ (.bool true):=
 o3 (OQ (Aq hr)) (zac y1 y2) h1 h2 (gC _)
end
def LD(b:List ia)(i:Nat):bZ:=match b.getD i (.Pass ⟨0,0,0,0⟩) with
 | .While c _ _ _=>c
 |_=>.Name "" ⟨0,0,0,0⟩
abbrev UR:=Hp->V->Hp->Hp->Prop
variable{R:List aj->UR->Prop}
section
variable{X:Cx}{st:ia}{rest body orelse:List ia}{δ δ':List Slot}{o:Out}{a b c e:bZ}{d:aj}{ds:List aj}{pos px:Pos}{x:Str}{w:Str}
theorem wu(hp:tN (model X.prog X.w) X.A X.env X.xe)(δs:Nat->List Slot)(m:Nat)(h0:δs 0=δ)(ht:∀k,k<m->VT X c (δs k) true)(hb:∀k,k<m->pC X body (δs k) (.nx (δs (k+1))))
  (fin:(VT X c (δs m) false/\o=.nx (δs m))\/(VT X c (δs m) true/\DS o=true/\pC X body (δs m) o)):VS X (.While c body [] pos) δ o:=λB0 B σ H0 H D f ok pins s I=>by
 refine J' hp oZ mN pins s σ H D I ?_
 refine⟨λmm σ' H'=>∃i Ha,i<=m/\mm=m-i/\dv H0 Ha/\fJ X.K B0 B Ha H' σ' (δs i),⟨m,0,H0,bF _,rfl,dv.refl _,by rw[h0];exact f⟩,?_⟩
 rintro mm σ' H' ⟨i,Ha,hi,rfl,sm,fa⟩
 by_cases nR:i<m
 ·refine ht i nR B0 B σ' Ha H' _ fa λHb H2 g=>?_
  refine NT ⟨λσ'' wX=>∃Hb,dv H0 Hb/\fJ X.K B0 B Hb wX σ'' (δs (i+1)),λσ'' wX ⟨Hb,z1,z2⟩=>⟨m-(i+1),by omega,i+1,Hb,nR,rfl,z1,z2⟩,?_⟩
  exact hb i nR B0 B σ' Hb H2 _ (fa.grow g) λσ4 Hc H4 s4 f4=>⟨Hc,(sm.trans g.fG).trans s4,f4⟩
 ·have e:i=m:=by omega
  subst e;rcases fin with⟨hf,rfl⟩|⟨hf,hr,e2⟩
  ·exact hf B0 B σ' Ha H' _ fa λHb H2 g=>NS (ok σ' Hb H2 (sm.trans g.fG) (fa.grow g))
  ·refine hf B0 B σ' Ha H' _ fa λHb H2 g=>NT ⟨λ_ _=>False,λ_ _ z=>z.elim,?_⟩
   exact e2 B0 B σ' Hb H2 _ (fa.grow g) (qY.ret (D:=D) (by rfl) hr ok)
theorem OU{rest:List ia}(hn:noOwn δ=true)(YJ:noOwn δ'=true)(h:∀σ H0 H D,fJ X.K H0 H H0 H σ δ->(∀σ' Ha Hb,fJ X.K H0 H Ha Hb σ' δ'->D.nx σ' Hb)->B6 X rest D σ H):pC X rest δ (.nx δ'):=λB0 B σ H0 H D f ok=>
 h σ H0 H D (f.re hn (.refl f.sub)) λσ' Ha Hb f'=>ok σ' Ha Hb f'.ent.fG (f'.re YJ (f.ent.trans f'.ent))
def VU(X:Cx)(e:bZ)(δ:List Slot)(U:UR):Prop:=∀B0 B σ H0 H Q,fJ X.K B0 B H0 H σ δ->(∀v dS H',eB H0 H dS H'->U H v dS H'->Q v H')->cE X e σ H Q
def Yf(K:au)(R:List aj->UR->Prop):Sp:=λvs H Q _=>∃H0 ds U,dv H0 H/\cy K H0 vs ds/\R ds U/\∀v dS H',eB H0 H dS H'->U H v dS H'->Q v H'
def LJ(U:UR):Prop:=∀B H v Ha Hb,dv B H->U H v Ha Hb->U B v Ha Hb
theorem OV{U:UR}(hm:LJ U)(h:VU X e δ U):VS X (.Return (some e) pos) δ (.ru U):=λB0 B σ H0 H D f ok pins s I=>
 vX c7 pins s σ H D I (h B0 B σ H0 H _ f λv H1 dO g u=>ok v H1 dO (f.ent.trans g) (hm _ _ _ _ _ f.ent.big u))
theorem HD{U:UR}{es:List bZ}{p:Pos}(C:bD X.prog X.w X.K X.mg X.base k x ps (Yf X.K R))(hr:e8 k X.A)(hm:LJ U)(ha:VA X (e::es) δ ds)(hp:R ds U)(hg:Gl X x:=by rfl)(oW:(x==("__debug__":Str))=false:=by decide)
  (he:starEach (e::es) X.env=(false,eval e X.env)::starEach es X.env:=by rfl)(qp:(backTo pos (starEach es X.env)).any (·.1)=false:=by rfl):VU X (.Call (.Name x p) (e::es) [] pos) δ U:=by
 obtain⟨f,fd,F,JV,hk,hb⟩:=C;obtain⟨t,pa,qa⟩:=ha;intro B0 B σ H0 H Q fr q pins s I;refine uX F hr hg JV hk hb .nil A6 pa oW he qp pins s σ H Q I (qa B0 B σ H0 H _ fr λvs H1 dO g1 rs=>?_)
 rw[eI];exact⟨H1,ds,U,g1.sub,rs,hp,λv H2 jb g2 u=>q v H2 jb (g1.trans g2) (hm _ _ _ _ _ g1.big u)⟩
theorem zad{w:cB}{mg:Str->Option aE}{base:dg}{x qual:Str}{st:ia}{f:aR}{fd:gJ}{N: List Str}(F:k9 K x qual st f fd)(S:cC N ps (bC st))(hl:∀ds U,R ds U->ds.length=ps.length)(hb:∀ds U,R ds U->Bb P w K mg base N qual st f k ds (.ru U)):ft P w K mg base jP (k+1) f fd ps (Yf K R):=by
 refine F.ok S (λvs H Q E h=>?_) (λfV A outer s H vs Q E hr h=>?_)
 ·obtain⟨H0,ds,d,_,r,hp,_⟩:=h
  rw[r.length,hl ds d hp]
 ·obtain⟨H0,ds,d,sm,r,hp,q⟩:=h
  exact⟨_,mN,hb ds d hp fV A outer s H E hr H0 H _ H0 H _ (.start sm r) q⟩
def uT(K:au)(w:Str)(ds:List aj):UR:=λB v H0 H=>∃t p xs,v=.ref t/\B t=none/\H0 t=none/\B p=none/\H0 p=none/\H t=some (.tup [.str w,.ref p])/\H p=some (.lst xs)/\cy K H0 xs ds
theorem Cq:LJ (uT K w ds):=λB H v Ha Hb s ⟨t,p,xs,h1,h2,h3,h4,h5,h6,h7,h8⟩=>⟨t,p,xs,h1,s.free h2,h3,s.free h4,h5,h6,h7,h8⟩
theorem OW{x1}(h1:VE X a δ (.str w))(h2:VO X b δ ds)(hs:starEach [a,b] X.env=(false,eval a X.env)::starEach [b] X.env:=by rfl)(pA:starEach [b] X.env=(false,eval b X.env)::starEach [] X.env:=by rfl):VU X (.Tuple [a,b] x1 pos) δ (uT X.K w ds):=λB0 B σ H0 H Q f q pins s I=>
 yv (du c7 (du c7 fF pA) hs) pins s σ H Q I (h1 B0 B σ H0 H _ f λv H1 dO g r=>h2 B0 B σ H1 dO _ (f.grow g) λp xs H2 jb g2 a1 a2 a3 a4=>⟨by show 2<=sizeLine;rw[dA];decide,λt ht=>by
  cases r;have gg:=g.trans g2;have OX:p≠t:=bN a3 ht;exact q _ H2 _ (gg.trans (.loose g2.sub ht)) ⟨t,p,xs,rfl,gg.big.free ht,g2.sub.free ht,g.big.free a1,a2,bq,by rw[aP OX];exact a3,a4⟩⟩)
theorem D6(i:Nat){x1}{p2:Pos}(hi:δ[i]?=some (.own ds))(h1:VE X a δ (.str w))(hN:X.N[i]?=some x:=by rfl)(hv:AX X.env.scope x:=by first|exact a7 rfl|exact cj (a7 rfl)|exact cj (cj rfl))(hd:(x==("__debug__":Str))=false:=by decide)(oB:(x==("__classdict__":Str))=false:=by decide)
  (hs:starEach [a,.Name x px] X.env=(false,eval a X.env)::starEach [.Name x px] X.env:=by rfl)(pA:starEach [.Name x px] X.env=(false,eval (.Name x px) X.env)::starEach [] X.env:=by rfl):
  VS X (.Return (some (.Tuple [a,.Name x px] x1 p2)) pos) δ (.ru (uT X.K w ds)):=λB0 B σ H0 H D f ok pins s I=>
 vX (yv (du c7 (du (jO hN hv hd oB) fF pA) hs)) pins s σ H D I (h1 B0 B σ H0 H _ f λv H1 dO g r=>by
  cases r;have f1:=f.grow g;obtain⟨p,xs,z1,z2,z3,z4,z5⟩:=f1.slot i _ hi;refine⟨_,z1,by show 2<=sizeLine;rw[dA];decide,λt ht=>?_⟩
  have OX:p≠t:=bN z2 ht;exact ok _ H1 _ (f1.ent.trans (.loose g.sub ht)) ⟨t,p,xs,rfl,f1.ent.big.free ht,g.sub.free ht,z4,z3,bq,by rw[aP OX];exact z2,z5⟩)
theorem S_{H0 Ha Hb: Hp}(g:eB H0 H Ha Hb)(u:uT K w ds H v Ha Hb):∃Hc,eB H0 H Hc Hb/\Rep K Hc v (.tuple [.str w,.list ds]):=by
 obtain⟨t,p,xs,rfl,h2,h3,h4,h5,h6,h7,h8⟩:=u;have npt:p≠t:=λe=>by subst e;rw[h7]at h6;cases h6
 have s1:dv Ha (upd Ha p (.lst xs)):=λb u e=>by rw[aP (bN e h5)];exact e
 have s2:dv (upd Ha p (.lst xs)) (upd (upd Ha p (.lst xs)) t (.tup [.str w,.ref p])):=λb u e=>by
  rw[aP (λz=>by subst z;rw[aP (bV npt),h3]at e;cases e)];exact e
 refine⟨upd (upd Ha p (.lst xs)) t (.tup [.str w,.ref p]),⟨g.big,(g.fG.trans s1).trans s2,λb u e=>?_,λb e=>?_⟩,.tup (oH.of bq) (.cons (.str _) (.cons (.lst (kW.of (by rw[aP npt];exact bq)) (h8.mono (s1.trans s2))) .nil))⟩
 ·by_cases hb:b=t
  ·subst hb;rw[bq]at e;rw[<-e];exact h6
  ·rw[aP hb]at e
   by_cases Ou:b=p
   ·subst Ou;rw[bq]at e;rw[<-e];exact h7
   ·rw[aP Ou]at e;exact g.sub b u e
 ·by_cases hb:b=t
  ·subst hb;exact .inr h2
  ·rw[aP hb]at e
   by_cases Ou:b=p
   ·subst Ou;exact .inr h4
   ·rw[aP Ou]at e;exact g.new b e
theorem WH(h:VU X e δ (uT X.K w ds)):VE X e δ (.tuple [.str w,.list ds]):=λB0 B σ H0 H Q f q=>h B0 B σ H0 H _ f λv Ha Hb g u=>by
 obtain⟨Hc,g2,r⟩:=S_ g u;exact q v Hc Hb g2 r
def TR(K:au)(t:aR)(w:Str)(ds:List aj):OR:=λH0 H as=>∃p xs,as=[t,p]/\t≠p/\H t=some (.tup [.str w,.ref p])/\H p=some (.lst xs)/\cy K H0 xs ds
theorem TR.mono:su (TR K t w ds):=λH0 H Ha Hb as ⟨p,xs,e,h0,h1,h2,h3⟩ sm hb=>⟨p,xs,e,h0,by rw[hb t (by rw[e];simp)];exact h1,by rw[hb p (by rw[e];simp)];exact h2,h3.mono sm⟩
theorem TR.rep(Ha Hb:Hp)(as:List aR)(s:dv Ha Hb)(h:TR K t w ds Ha Hb as):Rep K (qZ as Hb Ha) (.ref t) (.tuple [.str w,.list ds]):=by
 obtain⟨p,xs,e,_,h1,h2,h3⟩:=h;exact .tup (oH.of (by rw[sY (by rw[e];simp)];exact h1)) (.cons (.str _) (.cons (.lst (kW.of (by rw[sY (by rw[e];simp)];exact h2)) (h3.mono (pN s))) .nil))
end
section
variable{X:Cx}{B0 B H0 H:Hp}{σ:St}{D:Ends}{δ δ2:List Slot}{t p:aR}{e c:bZ}{d dp:aj}{ds:List aj}{pos px po pk pa pc:Pos}{x w:Str}{R:OR}{body:List ia}{k:Nat}
theorem S'(f:fJ X.K B0 B H0 H σ δ)(i:Nat)(h:VU X e δ (uT X.K w ds))(hN:X.N.Nodup)(hn:∀p,noOwn (δ.set i (.ref p))=true)(q:∀t σ' dS H',OF X.K B0 B (TR X.K t w ds) dS H' σ' (δ.set i (.ref t))->D.nx σ' H')
  (hi:X.N[i]?=some x:=by rfl)(hx:Loc X.env.scope x:=by first|exact a7 rfl|exact cj rfl)(hs:swapsWith e (some (.Name x px)) pos.line X.env=pure false:=by rfl)(hf:X.fn x=true\/X.env.scope.names.lookup x=some .local:=by first|exact .inl rfl|exact .inr rfl):
  cS X (.Assign [.Name x px] e pos) D σ H:=λpins s I=>by
 refine rS (i:=i) hN hi hx c7 hs hf pins s σ H D I (h B0 B σ H0 H _ f λv H1 dO g u=>?_)
 obtain⟨t,p,xs,rfl,h2,h3,h4,h5,h6,h7,h8⟩:=u;have OX:t≠p:=λz=>by subst z;rw[h6]at h7;cases h7
 refine q t _ H1 _ ⟨(f.grow g).k_ (v:=.ref t) (sl:=.ref t) rfl rfl,hn t,[t,p],λb hb=>?_,p,xs,rfl,OX,h6,h7,h8⟩
 simp only[aG,bu,or_false]at hb;rcases hb with rfl|rfl
 ·exact⟨h3,f.ent.big.free h2,by rw[h6];simp⟩
 ·exact⟨h5,f.ent.big.free h4,by rw[h7];simp⟩
theorem Ta(m:su R)(G:OF X.K B0 B R H0 H σ δ)(i:Nat)(hi:δ[i]?=some (.ref p))(hR:∀Ha Hb as,dv Ha Hb->R Ha Hb as->Rep X.K (qZ as Hb Ha) (.ref p) dp)(h:VT X c (δ.set i (.val dp)) false)(q:∀H',OF X.K B0 B R H0 H' σ δ->D.nx σ H'):
  cS X (.If c body [] pos) D σ H:=λpins s I=>by
 refine Dw oZ nD BR pins s σ H D I ?_
 obtain⟨C0,f1⟩:=G.look hi hR;exact h C0 H σ C0 H _ f1 λC1 H1 g1=>NS (q H1 (G.go m (G.own.grow (.far G.fr.sub g1.big)) G.no))
theorem Tb{j}(G:OF X.K B0 B (TR X.K t w ds) H0 H σ δ)(i:Nat)(hi:δ[i]?=some (.ref t))(hv:VE X e δ d)(hl:ds.length<sizeLine)(q:∀dS H',OF X.K B0 B (TR X.K t w (ds ++ [d])) dS H' σ δ->D.nx σ H')
  (hN:X.N[i]?=some x:=by rfl)(wo:AX X.env.scope x:=by first|exact a7 rfl|exact cj (a7 rfl)|exact cj (cj rfl))(oW:(x==("__debug__":Str))=false:=by decide)(oB:(x==("__classdict__":Str))=false:=by decide)
  (hix:oI (.Constant (.int 1) j pk):=by intro _ _;rfl)(lz:attributeBase (.Subscript (.Name x px) (.Constant (.int 1) j pk) po) "append" X.env (eval (.Subscript (.Name x px) (.Constant (.int 1) j pk) po) X.env)=eval (.Subscript (.Name x px) (.Constant (.int 1) j pk) po) X.env:=by rfl)
  (hs:starEach [e] X.env=(false,eval e X.env)::starEach [] X.env:=by rfl)
  (qw:((backTo pc (starEach [e] X.env)).all (λx=>!x.1)&&(backToKw pc (keywordEach [] X.env)).all (λx=>x.1.isSome)&&decide (([e]:List bZ).length+([]:List gR).length+(if([]:List gR).isEmpty then 0 else 1)<30))=true:=by rfl)
  (hline:(pa.endLine==pc.line)=true:=by rfl)(jz:(backTo pc (starEach [] X.env)).any (·.1)=false:=by rfl)(An:swapsWith (.Call (.Attribute (.Subscript (.Name x px) (.Constant (.int 1) j pk) po) "append" pa) [e] [] pc) none pos.line X.env=pure false:=by rfl):
  cS X (.Expr (.Call (.Attribute (.Subscript (.Name x px) (.Constant (.int 1) j pk) po) "append" pa) [e] [] pc) pos) D σ H:=λpins s I=>by
 refine qj (u5 fy kG kH pH (GV yB (jO hN wo oW oB) J5 hix) (du c7 fF hs) lz qw hline hs jz) An pins s σ H D I ?_
 obtain⟨as,h0,p,xs,rfl,OX,h1,h2,h3⟩:=G.ex;refine⟨.ref t,G.fr.slot i _ hi,.inr (.inl ⟨t,_,1,.ref p,rfl,rfl,oH.of h1,rfl,.inl ⟨rfl,_,kW.of h2⟩,?_⟩)⟩
 refine hv H0 H σ H0 H _ G.own λv H1 dO g r=>?_
 have G1:=G.go TR.mono (G.own.grow g) G.no;obtain⟨z1,z2,z3⟩:=h0 p (by simp)
 obtain⟨y1,y2,y3⟩:=h0 t (by simp)
 have p1:H1 p=none:=g.still z1 h2;have t1:H1 t=none:=g.still y1 h1;refine⟨p,xs,v,rfl,rfl,g.big _ _ h2,by rw[h3.length];exact hl,q H1 _ ⟨G1.fr.touch p1 z2 (lA G1.no),G1.no,[t,p],λb hb=>?_,p,xs ++ [v],rfl,OX,by rw[aP OX];exact g.big _ _ h1,bq,(h3.mono g.fG).append (.cons r .nil)⟩⟩
 simp only[aG,bu,or_false]at hb;rcases hb with rfl|rfl
 ·exact⟨t1,y2,by rw[aP OX,g.big _ _ h1];simp⟩
 ·exact⟨p1,z2,by rw[bq];simp⟩
end
def o6(H:Hp):Hp:=λq=>match H q with
 |some (.dK _)=>none
 |o=>o
theorem vk{o:HO}(h:H a=some o)(hn:∀k,o≠.dK k):o6 H a=some o:=by
 unfold o6;rw[h];cases o<;>first|rfl|exact qQ7 rfl (hn _)
theorem D7:dv (o6 H) H:=λb u e=>by
 unfold o6 at e;cases h:H b with
 |none=>rw[h]at e;cases e
 |some o=>rw[h]at e;cases o<;>first|exact e|cases e
theorem LK{b:aR}:o6 H b≠some (.dK kvs):=λe=>by
 have h:=D7 b _ e;unfold o6 at e;rw[h]at e;cases e
section
variable{K:au}{H:Hp}
theorem Rep.o6(r:Rep K H v d):qT d->Rep K (L2.o6 H) v d:=by
 refine Rep.rec (motive_1:=λv d _=>qT d->Rep K (L2.o6 H) v d) (motive_2:=λxs ds _=>(∀d∈ds,qT d)->cy K (L2.o6 H) xs ds) ?_ ?_ ?_ ?_ ?_ ?_ ?_ ?_ ?_ ?_ ?_ ?_ r
 ·exact λ_=>.non
 ·exact λb _=>.bl b
 ·exact λi _=>.int i
 ·exact λx _=>.str x
 ·intro a xs ds h _ t n
  cases n with
  |lst n=>
   refine .lst ?_ (t n)
   rcases h with(h|⟨o,h⟩)|h
   ·exact .inl (.inl (vk h (by intro k z;cases z)))
   ·exact .inl (.inr ⟨o,vk h (by intro k z;cases z)⟩)
   ·exact .inr h
 ·intro a xs ds h _ t n
  cases n with
  |tup n=>
   refine .tup ?_ (t n)
   rcases h with(h|⟨o,h⟩)|h
   ·exact .inl (.inl (vk h (by intro k z;cases z)))
   ·exact .inl (.inr ⟨o,vk h (by intro k z;cases z)⟩)
   ·exact .inr h
 ·intro a kvs ds _ _ _ _ n;cases n
 ·intro a kvs ds _ _ _ _ n;cases n
 ·intro a C dx fs ds _ _ _ _ _ _ n;cases n
 ·intro a o kvs ds _ _ _ _ n;cases n
 ·exact λ_=>.nil
 ·intro x d xs ds _ _ a t n
  exact .cons (a (n d aL)) (t λd hd=>n d (aT _ hd))
theorem cy.o6:∀{ds:List aj}{xs:List V},cy K H xs ds->(∀d∈ds,qT d)->cy K (L2.o6 H) xs ds
 | [],_,r,_=>by cases r;exact .nil
 |d::ds,_,r,n=>by cases r with|cons a t=>exact .cons (a.o6 (n d aL)) (cy.o6 t λd hd=>n d (aT _ hd))
theorem OY(h1:H a=some (.dK kvs))(h2:kvs.map (·.1)=kv.map (λp=>(bG p.1:Key)))(h3:cy K H (kvs.map (·.2)) (kv.map (·.2))):Rep K H (.ref a) (cF kv):=by
 refine .dct (kvs:=kvs) h1 ?_ ?_
 ·have e2:=qQ6 (oG oX) h2
  rw[aS,aS]at e2;rw[aS];exact e2.symm
 ·rw[aS]
  exact h3
end
def HF(K:au)(ok:List (Str×aj)->aj->List (Str×aj)->Prop):Sp:=λvs H Q _=>∃(H0:Hp)(p:aR)(v:V)(kv kv':List (Str×aj))(kvs:List (Key×V))(d:aj),vs=[.ref p,v]/\dv H0 H/\(∀b k,H0 b≠some (.dK k))/\H0 p=none/\H p=some (.dK kvs)/\kvs.map (·.1)=kv.map (λq=>(bG q.1:Key))/\cy K H0 (kvs.map (·.2)) (kv.map (·.2))/\Rep K H0 v d/\ok kv d kv'/\
 ∀dS H',dv H0 dS->dv dS H'->(∀b o,H b=some o->b≠p->H' b=some o)->(∀a,dS a≠none->H0 a≠none\/H a=none\/a=p)->Rep K dS (.ref p) (cF kv')->Q .non H'
section
variable{P:bK}{w:cB}{K:au}{mg:Str->Option aE}{base:dg}{x qual:Str}{st:ia}{f:aR}{fd:gJ}{N:List Str}{k:Nat}{a1 a2:Str}
theorem Tc(F:k9 K x qual st f fd)(Sc:cC N [a1,a2] (bC st))(hN:2<=N.length)
  (hb:∀kv d kv',ok kv d kv'->∀fV A outer s0 H E,e8 k (A.deeper (envOfC qual (bC st) s0.heap.objs.size f fV))->∀p B0 B σ H0 Hh (D:Ends),(∀b k,B0 b≠some (.dK k))->fJ K B0 B H0 Hh σ (.val (cF kv) :: .val d::bh (N.length-2) .un)->σ[0]?=some (some (.ref p))->
   (∀σ' δ' dS H',fJ K B0 B dS H' σ' δ'->δ'[0]?=some (.val (cF kv'))->σ'[0]?=some (some (.ref p))->D.nx σ' H')->
   B6 (pG jP P w K mg base N qual (bC st) f fV A outer s0 H E).Dq (fZ st) D σ Hh):ft P w K mg base jP (k+1) f fd [a1,a2] (HF K ok):=by
 refine F.ok Sc (λvs H Q E h=>?_) (λfV A outer s H vs Q E hr h=>?_)
 ·obtain⟨_,_,_,_,_,_,_,rfl,_⟩:=h
  rfl
 ·obtain⟨H0,p,v,kv,kv',kvs,d,rfl,sm,nb,ZU,hp,hk,Wx,rv,hok,q⟩:=h
  refine⟨_,mN,?_⟩
  have s1:dv H0 (upd H0 p (.dK kvs)):=λb u e=>by rw[aP (bN e ZU)];exact e
  have cb:dv (nX H p) H:=λb o e=>by
   by_cases hb:b=p
   ·subst hb;rw[yb]at e;cases e
   ·rw[gu hb]at e;exact e
  have f0:fJ K H0 (nX H p) (upd H0 p (.dK kvs)) H (start N [.ref p,v]) (.val (cF kv) :: .val d::bh (N.length-2) .un):=by
   refine⟨⟨cb,s1,λb u e=>?_,λb z=>?_⟩,by simp[L2.start],λi sl hi=>?_,λi j a b p' _ h1=>?_⟩
   ·by_cases hb:b=p
    ·subst hb;rw[bq]at e;rw[<-e];exact hp
    ·rw[aP hb]at e;exact sm b u e
   ·by_cases hb:b=p
    ·subst hb;exact .inr yb
    ·rw[aP hb]at z;exact .inl z
   ·match i,hi with
    |0,hi=>cases hi;exact⟨.ref p,rfl,OY bq hk (Wx.mono s1)⟩
    |1,hi=>cases hi;exact⟨v,rfl,rv.mono s1⟩
    |i+2,hi=>
     rw[lu,lu,dm]at hi
     split at hi<;>cases hi
     trivial
   ·match i,h1 with
    |0,h1=>cases h1
    |1,h1=>cases h1
    |i+2,h1=>
     rw[lu,lu,dm]at h1
     split at h1<;>cases h1
  refine hb kv d kv' hok fV A outer s H E hr p H0 (nX H p) _ _ H _ nb f0 rfl λσ' δ' dS H' f' hd hs=>?_
  obtain⟨u,hu,ru⟩:=f'.val hd;rw[hs]at hu;cases hu;refine q dS H' f'.ent.fG f'.sub (λb o e hb=>f'.ent.big b o (by rw[gu hb];exact e)) (λa ha=>?_) ru
  rcases f'.ent.new a ha with z|z
  ·exact .inl z
  ·by_cases hb:a=p
   ·exact .inr (.inr hb)
   ·rw[gu hb]at z;exact .inr (.inl z)
end
section
variable{X:Cx}{B0 B H0 H:Hp}{σ:St}{D:Ends}{δ δ2:List Slot}{e b:bZ}{d:aj}{ds:List aj}{pos px:Pos}{x:Str}{k:Nat}
theorem Td{kv': List (Str×aj)}{g:Str}{p0 p1 pc:Pos}(C:bD X.prog X.w X.K X.mg X.base k g ps (HF X.K ok))(hr:e8 k X.A)(f:fJ X.K B0 B H0 H σ δ)(nb:∀b kvs,B0 b≠some (.dK kvs))(i:Nat)(hi:δ[i]?=some (.val (cF kv)))(Ww:∀q∈kv,qT q.2)(hlen:δ2.length=δ.length)(hδ:Kept δ δ2 i (cF kv'))(h:VE X e δ d)(hd:qT d)(hok:ok kv d kv')
  (q:∀dS H',fJ X.K B0 B dS H' σ δ2->D.nx σ H')
  (hN:X.N[i]?=some x:=by rfl)(hv:AX X.env.scope x:=by first|exact a7 rfl|exact cj (a7 rfl)|exact cj (cj rfl))(oW:(x==("__debug__":Str))=false:=by decide)(oB:(x==("__classdict__":Str))=false:=by decide)
  (hg:Gl X g:=by rfl)(hdg:(g==("__debug__":Str))=false:=by decide)(he:starEach [.Name x p0,e] X.env=(false,eval (.Name x p0) X.env)::starEach [e] X.env:=by rfl)(VN:starEach [e] X.env=(false,eval e X.env)::starEach [] X.env:=by rfl)(qp:(backTo pc (starEach [e] X.env)).any (·.1)=false:=by rfl)
  (An:swapsWith (.Call (.Name g p1) [.Name x p0,e] [] pc) none pos.line X.env=pure false:=by rfl):
  cS X (.Expr (.Call (.Name g p1) [.Name x p0,e] [] pc) pos) D σ H:=λpins s0 I=>by
 obtain⟨fa,fd,F,hm,hk,hb⟩:=C;refine qj (uX F hr hg hm hk hb .nil A6 (du (jO hN hv oW oB) (du c7 fF VN) he) hdg he qp) An pins s0 σ H D I ?_
 obtain⟨u,hu,ru⟩:=f.val hi;obtain⟨a,kvs,rfl,ha,hke,Wx⟩:=ru.kL;refine⟨.ref a,hu,?_⟩
 refine h B0 B σ H0 H _ f λv H1 dO g1 r=>?_
 have f1:=f.grow g1;have Yg:=g1.fG _ _ ha;have Wy:B a=none:=by
  rcases f1.ent.new a (by rw[Yg];simp)with z|z
  ·cases e:B0 a with
   |none=>exact qQ7 e z
   |some o=>
    have:=f1.ent.fG _ _ e;rw[Yg]at this;cases this;exact qQ7 e (nb a kvs)
  ·exact z
 have hna:o6 H1 a=none:=by unfold o6;rw[Yg]
 refine⟨o6 H1,a,v,kv,kv',kvs,d,rfl,D7.trans f1.sub,λb k=>LK,hna,f1.sub _ _ Yg,hke,(Wx.mono g1.fG).o6 λd hd=>?_,r.o6 hd,hok,λdS H' a1 a2 a3 a4 a5=>?_⟩
 ·obtain⟨q,hq,rfl⟩:=av.mp hd
  exact Ww q hq
 ·refine q dS H' ⟨⟨λb u e=>a3 b u (f1.ent.big b u e) (bN e Wy),λb u e=>?_,a2,λb z=>?_⟩,by rw[hlen];exact f1.len,λj sl e=>?_,λj l ds es p _ e1=>?_⟩
  ·exact a1 b u (vk (f1.ent.fG b u e) λk z=>nb b k (by rw[e,z]))
  ·rcases a4 b z with z|z|z
   ·refine f1.ent.new b λy=>z ?_
    unfold o6;rw[y]
   ·exact .inr (f1.ent.big.free z)
   ·rw[z];exact .inr Wy
  ·rcases hδ j sl e with rfl|⟨rfl,rfl⟩|⟨e',dd,rfl,hn⟩
   ·trivial
   ·exact⟨.ref a,hu,a5⟩
   ·obtain⟨vv,h1,h2⟩:=f1.slot j _ e'
    exact⟨vv,h1,(h2.o6 hn).mono a1⟩
  ·exfalso
   rcases hδ j _ e1 with z|⟨_,z⟩|⟨_,dd,z,_⟩<;>cases z
theorem OZ(h:D.nx σ H):B6 X [] D σ H:=λpins s I=>BR pins s σ H D I h
theorem Te(f:fJ X.K B0 B H0 H σ δ)(i:Nat)(h:VE X e δ d)(hN:X.N.Nodup)(q:∀v Ha Hb,fJ X.K B0 B Ha Hb (σ.set i (some v)) (δ.set i (.val d))->D.nx (σ.set i (some v)) Hb)(hi:X.N[i]?=some x:=by rfl)(hx:Loc X.env.scope x:=by first|exact a7 rfl|exact cj rfl)(hs:swapsWith e (some (.Name x px)) pos.line X.env=pure false:=by rfl)(hf:X.fn x=true\/X.env.scope.names.lookup x=some .local:=by first|exact .inl rfl|exact .inr rfl):
  cS X (.Assign [.Name x px] e pos) D σ H:=λpins s I=>
 rS (i:=i) hN hi hx c7 hs hf pins s σ H D I (h B0 B σ H0 H _ f λv H1 dO g r=>q v H1 dO ((f.grow g).set r))
theorem O1(f:fJ X.K B0 B H0 H σ δ)(i:Nat)(h:VO X e δ ds)(hN:X.N.Nodup)(q:∀v Ha Hb,fJ X.K B0 B Ha Hb (σ.set i (some v)) (δ.set i (.own ds))->D.nx (σ.set i (some v)) Hb)(hi:X.N[i]?=some x:=by rfl)(hx:Loc X.env.scope x:=by first|exact a7 rfl|exact cj rfl)(hs:swapsWith e (some (.Name x px)) pos.line X.env=pure false:=by rfl)(hf:X.fn x=true\/X.env.scope.names.lookup x=some .local:=by first|exact .inl rfl|exact .inr rfl):
  cS X (.Assign [.Name x px] e pos) D σ H:=λpins s I=>
 rS (i:=i) hN hi hx c7 hs hf pins s σ H D I (h B0 B σ H0 H _ f λp xs H1 dO g h1 h2 h3 r=>q _ H1 dO ((f.grow g).yI h3 h2 (f.ent.big.free h1) r λj es e2 e3=>by
  obtain⟨p',xs',g1,g2,_⟩:=f.slot j _ e2;rw[e3]at g1;cases g1;rw[h1]at g2;cases g2))
theorem Bi{K:au}:∀{is:List Nat}{xs:List V}{ds:List aj}{σ:St}{δ:List Slot}{Q:St->Hp->Prop},fJ K B0 B H0 H σ δ->cy K H0 xs ds->ds.length=is.length->(∀σ',fJ K B0 B H0 H σ' (nV is ds δ)->(∀j,j∉is->σ'[j]?=σ[j]?)->Q σ' H)->B7 is xs σ H Q
 | [],xs,ds,σ,δ,Q,f,r,hl,q=>by
  have:ds=[]:=jF hl;subst this;cases r;exact⟨rfl,q σ f λ_ _=>rfl⟩
 |i::is,xs,ds,σ,δ,Q,f,r,hl,q=>by
  cases r with
  |nil=>cases hl
  |cons a t=>
   refine⟨_,_,rfl,Bi (is:=is) (f.set a) t (by simpa using hl) λσ' f' hj=>q σ' f' λj h=>?_⟩
   rw[hj j λz=>h (aT _ z),aX λz=>h (by rw[z];exact aL)]
theorem Tf(f:fJ X.K B0 B H0 H σ δ)(is:List Nat)(h:VE X e δ (.tuple ds))(hg:PG X tg (KQ X.K (.tup is)))(hl:ds.length=is.length)(q:∀σ' Ha Hb,fJ X.K B0 B Ha Hb σ' (nV is ds δ)->(∀j,j∉is->σ'[j]?=σ[j]?)->D.nx σ' Hb)
  (hs:swapsWithSole [tg] e pos.line X.env=pure false:=by rfl)(hw:swappedStores [tg] e X.env=pure none:=by rfl)(h1:(assignEach [tg] X.env).map (·.2)=[assign tg X.env]:=by rfl):cS X (.Assign [tg] e pos) D σ H:=λpins s I=>
 Fk c7 hg hs hw h1 pins s σ H D I (h B0 B σ H0 H _ f λv H1 dO g r=>by
  cases r with
  |tup hq r=>exact⟨_,_,rfl,g.sub.oY hq,by rw[r.length,hl],Bi (f.grow g) r hl λσ' f' hj=>q σ' H1 dO f' hj⟩)
theorem LN{j:Nat}(f:fJ X.K B0 B H0 H σ δ)(i:Nat){tp:Pos}(hi:δ[i]?=some (.own ds))(hb:VE X b δ (.int (j:Nat)))(hj:j<ds.length)(h:VE X e δ d)(q:∀Ha Hb,fJ X.K B0 B Ha Hb σ (δ.set i (.own (ds.set j d)))->D.nx σ Hb)(hN:X.N[i]?=some x:=by rfl)(hv:AX X.env.scope x:=by first|exact a7 rfl|exact cj (a7 rfl)|exact cj (cj rfl))(hd:(x==("__debug__":Str))=false:=by decide)
  (oB:(x==("__classdict__":Str))=false:=by decide)(hs:swapsWithSole [.Subscript (.Name x px) b tp] e pos.line X.env=pure false:=by rfl)(hw:swappedStores [.Subscript (.Name x px) b tp] e X.env=pure none:=by rfl)
  (h1:(assignEach [.Subscript (.Name x px) b tp] X.env).map (·.2)=[assign (.Subscript (.Name x px) b tp) X.env]:=by rfl)
  (ha:∀v,assign (.Subscript (.Name x px) b tp) X.env v=(do
   let ov <-holding [v] (eval (.Name x px) X.env)
   let iv <-holding [v,ov] (eval b X.env)
   standAt tp
   holding [v,ov,iv] (setItem ov iv v)
   release [v,ov,iv] []):=by intro _;rfl):cS X (.Assign [.Subscript (.Name x px) b tp] e pos) D σ H:=λpins s I=>by
 refine Fk c7 (RB (jO hN hv hd oB) c7 set_list ha) hs hw h1 pins s σ H D I (h B0 B σ H0 H _ f λv H1 dO g r=>?_)
 have f1:=f.grow g;obtain⟨p,xs,z1,z2,z3,z4,z5⟩:=f1.slot i _ hi;refine⟨.ref p,z1,hb B0 B σ H1 dO _ f1 λv2 H2 jb g2 r2=>?_⟩
 cases r2;have hl:=z5.length;refine⟨p,xs,_,j,rfl,rfl,g2.big _ _ z2,?_,q H2 _ ((f1.grow g2).put hi z1 (g2.big _ _ z2) (r.mono g2.fG))⟩
 rw[hl];unfold JT;rw[qQ3 (by omega),qQ3 (by omega),fu]
end
end L2
namespace Mg
open L2 PySem PyProof.Rows
def top(i:Nat):ia:=PySem.Challenge.pw_mergeline_k52_chains.main.body.getD i (.Pass ⟨0,0,0,0⟩)
theorem small{n:Nat}(h:n<=1000000):n<=sizeLine:=cp h (by rw[dA];decide)
theorem gj{n:Nat}(h:n<=1000000):n<sizeLine:=Nat.lt_of_le_of_lt h (by rw[dA];decide)
def lN(x:Str):Prop:=cx (.str x)=true
theorem bO(a b:Str):cI (.str a) (.str b)=decide (a=b):=by
 rw[cI,gZ];simp
theorem jX(a b:Int):cI (.int a) (.int b)=decide (a=b):=by
 rw[cI,gZ];simp
end Mg
namespace L2
open PySem PySem.Spec PyProof.Rows
section
variable{X:Cx}{a b c e:bZ}{δ:List Slot}{d d1 d2 d3:aj}{pos:Pos}{k:Nat}
theorem D8{op op':Fc}{r r':R2}{k1 k2:Bool}(ho:rV X (compareOp op) r)(BO:rV X (compareOp op') r')(od1:Ao X.K r d1 d2 (.bool k1))(od2:Ao X.K r' d2 d3 (.bool k2))(h1:VE X a δ d1)(h2:VE X b δ d2)(h3:k1=true->VE X c δ d3)
  (hm:lastMarks [op,op'] [b,c]=false:=by with_unfolding_all rfl):VE X (.Compare a [op,op'] [b,c] pos) δ (.bool (k1&&k2)):=by
 cases k1 with
 |true=>
  refine .of (Dz ho BO c7 c7 c7 hm) λB0 B σ H0 H Q f q=>h1 B0 B σ H0 H _ f λv H1 dO g1 r1=>h2 B0 B σ H1 dO _ (f.grow g1) λu H2 jb g2 r2=>od1 v u H2 jb _ g2.sub (r1.mono g2.fG) r2 λz H3 x6 g3 r3=>?_
  cases r3;refine⟨true,rfl,?_⟩
  rw[qQ3 rfl];exact h3 rfl B0 B σ H3 x6 _ (((f.grow g1).grow g2).grow g3) λx H4 ZL g4 r4=>od2 u x H4 ZL _ g4.sub ((r2.mono g3.fG).mono g4.fG) r4 λy H5 H5' g5 r5=>q y H5 H5' ((((g1.trans g2).trans g3).trans g4).trans g5) r5
 |false=>
  refine .of (Dz ho BO c7 c7 yQ hm) λB0 B σ H0 H Q f q=>h1 B0 B σ H0 H _ f λv H1 dO g1 r1=>h2 B0 B σ H1 dO _ (f.grow g1) λu H2 jb g2 r2=>od1 v u H2 jb _ g2.sub (r1.mono g2.fG) r2 λz H3 x6 g3 r3=>?_
  cases r3;refine⟨false,rfl,?_⟩
  rw[qQ2 cz];exact q _ H3 x6 ((g1.trans g2).trans g3) (.bl false)
theorem LQ{x:Str}{s:Str}{t:Tok}(hm:X.mg x=some (.str s t))(hg:Gl X x:=by rfl)(hd:(x==("__debug__":Str))=false:=by decide):VE X (.Name x pos) δ (.str s):=.of (xX hg hm (v:=.str s) ⟨t,rfl⟩ hd) λ_ _ _ _ _ _ f k=>k _ _ _ (.refl f.sub) (.str s)
theorem HG{x:Str}{i:Int}{t:Tok}(hm:X.mg x=some (.int i t))(hg:Gl X x:=by rfl)(hd:(x==("__debug__":Str))=false:=by decide):VE X (.Name x pos) δ (.int i):=.of (xX hg hm (v:=.int i) ⟨t,rfl⟩ hd) λ_ _ _ _ _ _ f k=>k _ _ _ (.refl f.sub) (.int i)
end
end L2
namespace Mg
open L2 PySem PyProof.Rows
seal L2.VE L2.VS L2.pC L2.VT L2.VO L2.Sr
variable{fd:gJ}{kinds:List (Str×Option Int)}{ds:List aj}{c i:Nat}{d:aj}{x:Str}
structure Nw(mg:Str->Option aE):Prop where
 len:mg "len"=none
 all:mg "all"=none
 Hi:mg "enumerate"=none
 let_:∃t,mg "LETTERS"=some (.str "abcdefghijklmnopqrstuvwxyz" t)
 fig:∃t,mg "FIGURES"=some (.str "0123456789" t)
 lna:∃t,mg "LONGEST_NAME"=some (.int 8 t)
 lnu:∃t,mg "LONGEST_NUMBER"=some (.int 6 t)
def one(c:Nat):Str:=⟨#[c]⟩
def o7(signs:Str)(longest:Int)(w:Str):Bool:=(decide (1<=(w.length:Int))&&decide ((w.length:Int)<=longest))&&w.cps.toList.all λc=>Ca (one c) signs
def Qz(signs:Str):aj->Option aj
 | .str x=>some (.bool (Ca x signs))
 |_=>none
theorem Jf(signs w:Str):(qz w).filterMap (Qz signs)=(w.cps.toList.map λc=>Ca (one c) signs).map .bool:=by
 unfold qz;rw[cY,aS];exact filterMap_some λc _=>rfl
def isName(w:Str):Bool:=o7 "abcdefghijklmnopqrstuvwxyz" 8 w
def isNumber(w:Str):Bool:=o7 "0123456789" 6 w&&(decide (w="0") || !decide ((w.cps.toList.head?.map one).getD fY="0"))
def wordsOf(row:Str):List Str:=(cJ row " ").filter λw=>decide (w≠"")
def rowsOf(text:Str):List (Nat×List Str):=(cJ text "\n").zipIdx.filterMap λp=>if(wordsOf p.1).isEmpty then none else some (p.2,wordsOf p.1)
theorem ni(x:Str):lN x↔∀c∈x.cps.toList,c<0x110000:=by
 show(x.cps.all λc=>decide (c<0x110000))=true↔_
 rw[<-Array.all_toList,eO];exact⟨λh c hc=>qQ4 (h c hc),λh c hc=>qQ1 (h c hc)⟩
theorem Tg(h:lN x)(hc:c∈x.cps.toList):lN (one c):=by
 rw[ni]at h ⊢;intro z hz;have:z=c:=by simpa[one]using hz
 rw[this];exact h c hc
def vm(x:Str):Prop:=x.length<=100000/\lN x
section
variable{P:bK}{w:cB}{K:au}{mg:Str->Option aE}{base:dg}{f:aR}{k:Nat}
abbrev WK:List Str:=["signs","longest","word"]
theorem WL:cC WK WK (bC (top 10)):=⟨rfl,rfl,rfl,by symm,rfl,by symm,by symm⟩
def Rmo(ds:List aj)(d:aj):Prop:=∃(signs:Str)(longest:Int)(x:Str),ds=[.str signs,.int longest,.str x]/\x.length<=100000/\d=.bool (o7 signs longest x)
theorem zaf(F:k9 K "is_made_of" "is_made_of" (top 10) f fd)(n:Nw mg):ft P w K mg base jP 1 f fd WK (g_ K Rmo):=
 jR F WL (λ_ _ h=>by obtain⟨_,_,_,rfl,_⟩:=h;rfl) λ_ _ h=>by
  obtain⟨signs,longest,x,rfl,hx,rfl⟩:=h;intro fV A outer s H E hr;have nc:(["sign","signs"]:List Str).Nodup:=by symm
  have hl:(qz x).length<=100000:=by unfold qz;rw[ai,c0];exact hx
  refine a_ (cg (VE.to (lB (D8 Dy Dy (Ap 1 x.length) (Ap x.length longest) ax (Hq (ae 2 rfl) (small (by omega)) n.len) (λ_=>ae 1 rfl)) (λ_=>jS (jG (pL rfl) Be (ao (VO.ve (VO.to (fD (own:=["sign"]) (cap:=[0]) (N:=["sign","signs"]) (tgt:=.one 0) (F:=Qz signs) (ds:=qz x) rfl ⟨rfl,by symm,by symm,rfl,rfl,?_⟩ (Sz (ae 2 rfl)) (λf s3 H3=>bL (i:=0) nc rfl (a7 rfl)) rfl
   (small (by omega)) (λd hd=>?_)) (Jf signs x))) aQ) n.all rfl))) ?_))
  ·intro j hj
   rcases aG.mp hj with rfl|hj
   ·exact⟨(by show(0:Nat)<3;decide),a7 rfl,rfl⟩
   ·cases hj
  ·obtain⟨c,_,rfl⟩:=av.mp hd
   exact⟨_,rfl,λf s3 H3=>f9,λr iP f s3 H3=>by cases iP;exact SF (ae 0 rfl) (ae 1 rfl)⟩
  ·unfold o7 qR
   rw[EZ];rfl
theorem WM:cC ["word"] ["word"] (bC (top 11)):=⟨rfl,rfl,rfl,by symm,rfl,by symm,by symm⟩
theorem WN:cC ["word"] ["word"] (bC (top 12)):=⟨rfl,rfl,rfl,by symm,rfl,by symm,by symm⟩
def WO(ds:List aj)(d:aj):Prop:=∃x:Str,ds=[.str x]/\x.length<=100000/\d=.bool (isName x)
def Yh(ds:List aj)(d:aj):Prop:=∃x:Str,ds=[.str x]/\vm x/\d=.bool (isNumber x)
theorem zag(F:k9 K "is_name" "is_name" (top 11) f fd)(n:Nw mg)(C:bD P w K mg base 1 "is_made_of" WK (g_ K Rmo)):ft P w K mg base jP 2 f fd ["word"] (g_ K WO):=
 jR F WM (λ_ _ h=>by obtain⟨_,rfl,_⟩:=h;rfl) λ_ _ h=>by
  obtain⟨x,rfl,hx,rfl⟩:=h;intro fV A outer s H E hr;obtain⟨t1,m1⟩:=n.let_;obtain⟨t2,m2⟩:=n.lna;exact a_ (cg (bH C hr (ao (LQ m1) (ao (HG m2) (ao (ae 0 rfl) aQ))) ⟨_,8,x,rfl,hx,rfl⟩))
theorem zah(F:k9 K "is_number" "is_number" (top 12) f fd)(n:Nw mg)(C:bD P w K mg base 1 "is_made_of" WK (g_ K Rmo)):ft P w K mg base jP 2 f fd ["word"] (g_ K Yh):=
 jR F WN (λ_ _ h=>by obtain⟨_,rfl,_⟩:=h;rfl) λ_ _ h=>by
  obtain⟨x,rfl,⟨hx,okx⟩,rfl⟩:=h;intro fV A outer s H E hr;obtain⟨t1,m1⟩:=n.fig;obtain⟨t2,m2⟩:=n.lnu;have o0:Lay 20 (.str "0"):=bB (by symm)
  cases em:o7 "0123456789" 6 x with
  |false=>
   refine a_ (cg (VE.to (lB (k1:=false) (k2:=false) (VE.to (bH C hr (ao (LQ m1) (ao (HG m2) (ao (ae 0 rfl) aQ))) ⟨_,6,x,rfl,hx,rfl⟩) (by rw[em])) (λz=>by cases z)) ?_))
   unfold isNumber;rw[em];rfl
  |true=>
   obtain⟨c,hc⟩:∃c,x.cps.toList.head?=some c:=by
    cases e:x.cps.toList with
    |cons c l=>exact⟨c,rfl⟩
    |nil=>
     exfalso
     have:x.length=0:=by
      have:=qQ6 fq e;rw[c0]at this;exact this
     unfold o7 at em;rw[this]at em;cases em
   have h0:nQ x.cps.toList 0=some c:=by
    cases e:x.cps.toList with
    |nil=>rw[e]at hc;cases hc
    |cons a l=>rw[e]at hc;cases hc;exact bE (j:=0) rfl
   have okc:lN (one c):=by
    have hm:c∈x.cps.toList:=by
     cases e:x.cps.toList with
     |nil=>rw[e]at hc;cases hc
     |cons a l=>rw[e]at hc;cases hc;exact aL
    exact Tg okx hm
   refine a_ (cg (VE.to (lB (k1:=true) (VE.to (bH C hr (ao (LQ m1) (ao (HG m2) (ao (ae 0 rfl) aQ))) ⟨_,6,x,rfl,hx,rfl⟩) (by rw[em])) (λ_=>jS (sj (oJ hr (bB okx) o0 (ae 0 rfl) aN) (λ_=>jS (K1 hr (bB okc) o0 (B_ (ae 0 rfl) ax (small (by omega)) h0) aN))))) ?_))
   unfold isNumber;rw[em,bO,bO,hc];rfl
end
theorem D9{y p:Str}:∀{zs:List Str},p∈zs->c∈p.cps.toList->c∈(c9 y zs).cps.toList
 | [],h,_=>by cases h
 | [x],h,hc=>by
  rw[aV]at h;subst h;exact hc
 |x::x2::zs,h,hc=>by
  show c∈(x++y++c9 y (x2::zs)).cps.toList;have e:(x++y++c9 y (x2::zs)).cps.toList=(x.cps.toList++y.cps.toList)++(c9 y (x2::zs)).cps.toList:=by
   show(x.cps++y.cps++(c9 y (x2::zs)).cps).toList=_
   simp
  rw[e];rcases aG.mp h with rfl|h
  ·exact dC _ (dC _ hc)
  ·exact b0 _ (D9 h hc)
theorem D_{y p: Str}(h:vm x)(hp:p∈cJ x y):vm p:=by
 refine⟨cp (part_short hp) h.1,(ni p).mpr λc hc=>(ni x).mp h.2 c ?_⟩
 have:=D9 (y:=y) hp hc;rw[nM]at this;exact this
def HJ:aj->Option aj
 | .str w=>if decide (w≠"")=true then some (.str w)else none
 |_=>none
theorem Jg(l:List Str):(l.map aK).filterMap HJ=(l.filter λw:Str=>decide (w≠"")).map aK:=by
 induction l with
 |nil=>rfl
 |cons w l ih=>
  rw[aH,jv];by_cases h:decide (w≠"")=true
  ·rw[qQ3 h,cX (f:=HJ) (b:=.str w) (by show(if _ then _ else _)=_;rw[qQ3 h]),ih];rfl
  ·rw[qQ2 h,eP (f:=HJ) (by show(if _ then _ else _)=_;rw[qQ2 h]),ih]
def y_(p:Nat×List Str):aj:=.tuple [.int p.1,.list (p.2.map .str)]
def qB(text:Str)(i:Nat):List (Nat×List Str):=((cJ text "\n").zipIdx.take i).filterMap λp=>if(wordsOf p.1).isEmpty then none else some (p.2,wordsOf p.1)
theorem xg{text row:Str}(h:(cJ text "\n")[i]?=some row):qB text (i+1)=qB text i++(if(wordsOf row).isEmpty then []else [(i,wordsOf row)]):=by
 unfold qB;rw[dH,iV,h];simp only[jK,uL,sO,i_]
 congr 1
 cases e:(wordsOf row).isEmpty
 ·rw[cX (b:=(i,wordsOf row)) (by simp only[e];rfl)];rfl
 ·rw[eP (by simp only[e];rfl)];rfl
theorem FY(text:Str):qB text (cJ text "\n").length=rowsOf text:=by
 unfold qB rowsOf;rw[cO (by simp)]
theorem FZ(text:Str)(i:Nat):(qB text i).length<=i:=by
 unfold qB;exact cp (p_ _ _) (by rw[b9];omega)
theorem xh{y: Str}(h:x.length<=100000):(cJ x y).length<=100002:=by
 have e1:=Di x y 0 x.length (x.length+1);unfold cJ
 split
 ·show 1<=100002;omega
 ·split
  ·show 1<=100002;omega
  ·rw[xC];omega
section
variable{P:bK}{w:cB}{K:au}{mg:Str->Option aE}{base:dg}{f:aR}{k:Nat}
theorem WQ:cC ["row"] ["row"] (bC (top 13)):=⟨rfl,rfl,rfl,by symm,rfl,by symm,by symm⟩
def Rwo(ds es:List aj):Prop:=∃x:Str,ds=[.str x]/\vm x/\es=(wordsOf x).map .str
theorem zai(F:k9 K "words_of" "words_of" (top 13) f fd):ft P w K mg base jP 1 f fd ["row"] (Ba K Rwo):=
 FK F WQ (λ_ _ h=>by obtain⟨_,rfl,_⟩:=h;rfl) λ_ _ h=>by
  obtain⟨x,rfl,ok,rfl⟩:=h;intro fV A outer s H E hr;have nc:(["word"]:List Str).Nodup:=by symm
  have hx:=ok.1;refine a_ (sU (VO.to (fD (own:=["word"]) (cap:=[]) (N:=["word"]) (cl:=[]) (tgt:=.one 0) (F:=HJ) (ds:=(cJ x " ").map aK) rfl ⟨rfl,by symm,by symm,rfl,rfl,by simp⟩ (g8 (VO.ve (sk (ae 0 rfl) aN rfl (small (by omega))))) (λf s3 H3=>bL (i:=0) nc rfl (a7 rfl)) rfl
   (small (by rw[ai];have:=xh (y:=" ") hx;omega)) (λd hd=>?_)) (Jg _)))
  obtain⟨p,hp,rfl⟩:=av.mp hd;have QB:=D_ ok hp;refine⟨_,rfl,λf s3 H3=>?_,λr iP f s3 H3=>?_⟩
  ·refine oK (VT.to (qQ (k:=0) hr (bB QB.2) (bB (x:="") (by symm)) (ae 0 rfl) aN) ?_)
   rw[bO]
   show(!decide (p=""))=(if decide (p≠"")=true then some (aK p)else none).isSome
   by_cases h:p=""
   ·subst h;rfl
   ·rw[qQ3 (by simpa using h),qQ0 h];rfl
  ·have Ti:(if decide (p≠"")=true then some (aK p)else none)=some r:=iP
   split at Ti
   ·cases Ti;exact ae 0 rfl
   ·cases Ti
abbrev Nro:List Str:=["text","rows","number","row","words"]
theorem QC:cC Nro ["text"] (bC (top 14)):=⟨rfl,rfl,rfl,by symm,rfl,by symm,by symm⟩
def Rro(ds es:List aj):Prop:=∃x:Str,ds=[.str x]/\vm x/\es=(rowsOf x).map y_
theorem zaj(F:k9 K "rows_of" "rows_of" (top 14) f fd)(n:Nw mg)(C:bD P w K mg base 1 "words_of" ["row"] (Ba K Rwo)):ft P w K mg base jP 2 f fd ["text"] (Ba K Rro):=
 FK F QC (λ_ _ h=>by obtain⟨_,rfl,_⟩:=h;rfl) λ_ _ h=>by
  obtain⟨x,rfl,ok,rfl⟩:=h;intro fV A outer s H E hr;have nd:Nro.Nodup:=QC.nd;have hx:=ok.1;have hc:=xh (y:="\n") hx;refine aJ (kP 1 (fe aQ) nd) ?_
  refine aJ (mh (tgt:=.tup [2,3]) (o:=.nx [.val (.str x),.own ((qB x (cJ x "\n").length).map y_),.un,.un,.un]) cK rfl (km (ds:=(cJ x "\n").map aK) (VO.ve (sk (ae 0 rfl) aN rfl (small (by omega)))) n.Hi)
   (gB rfl (bU (bL (i:=2) nd rfl (a7 rfl)) (bU (bL (i:=3) nd rfl (a7 rfl)) fh))) (λi=>[.val (.str x),.own ((qB x i).map y_),.un,.un,.un]) (cJ x "\n").length rfl (by rw[cv];simp) (λi d hi hd=>?_) (.inl ⟨by rw[cv];simp,rfl⟩)) ?_
  ·obtain⟨y,hy,rfl⟩:=gi hd
   obtain⟨row,wx⟩:∃row,(cJ x "\n")[i]?=some row:=⟨(cJ x "\n")[i],by simp[hi]⟩
   rw[aI,wx]at hy;cases hy;have Uu:=D_ ok (bw wx);have hle:=FZ x i;refine⟨_,rfl,?_⟩
   refine aJ (cA 4 (VO.ve (ko C hr (ao (ae 3 rfl) aQ) ⟨row,rfl,Uu,rfl⟩)) nd) ?_
   cases ew:(wordsOf row).isEmpty with
   |true=>
    refine jC (a_ (bX (VT.to (iD (ae 4 rfl) rfl) (by cases e:wordsOf row with|nil=>rfl|cons _ _=>rw[e]at ew;cases ew)) bM)) ⟨.inr rfl,.inr ?_,.inl rfl,.inl rfl,.inl rfl,trivial⟩
    rw[xg wx,ew,qQ3 rfl,eI]
   |false=>
    refine jC (a_ (dN (VT.to (iD (ae 4 rfl) rfl) (by cases e:wordsOf row with|nil=>rw[e]at ew;cases ew|cons _ _=>rfl)) (a_ (iF 1 rfl (d:=y_ (i,wordsOf row)) (eU (ao (ae 2 rfl) (ao (ae 4 rfl) aQ))) (gj (by rw[ai];omega)))))) ⟨.inr rfl,.inr ?_,.inl rfl,.inl rfl,.inl rfl,trivial⟩
    rw[xg wx,ew,qQ2 cz,aU];rfl
  ·rw[FY]
   exact a_ (He 1 rfl)
end
def iX(ns:List Int):aj:=.list (ns.map .int)
def cq(c k:Int):Int:=((c%2147483629+k*k*7919+11)*48271%2147483647)*((c%2147483629+k*k*7919+11)*48271%2147483647)%1999999973
theorem qC(c k:Int):0<=cq c k:=a8 _ (by decide)
theorem Cr(c k:Int):cq c k<1999999973:=bo _ (by decide)
abbrev ABC:Str:="abcdefghijklmnopqrstuvwxyz"
theorem Ea:(ABC:Str).cps.toList=(aZ 26).map (97 + ·):=by symm
def Ct(i:Int):Str:=one (97+i.toNat)
theorem F0{i:Int}(h0:0<=i)(h1:i<26):nQ (ABC:Str).cps.toList i=some (97+i.toNat):=by
 obtain⟨n,rfl⟩:=lK h0;refine bE (j:=n) ?_
 have hn:n<26:=by omega
 rw[Ea,aI,fk hn];rfl
def dM(x:Str):Prop:=1<=x.cps.toList.length/\x.cps.toList.length<=8/\∀c∈x.cps.toList,97<=c/\c<123
theorem O2(h:97<=c/\c<123):c∈(ABC:Str).cps.toList:=by
 rw[Ea];exact av.mpr ⟨c-97,cL.mpr (by omega),by omega⟩
theorem dM.is(h:dM x):isName x=true:=by
 obtain⟨h1,h2,h3⟩:=h;rw[c0]at h1 h2;have e:x.length=x.cps.size:=rfl;unfold isName o7;rw[qQ1 (by omega),qQ1 (by omega),j0,j0,eO]
 intro c hc;show Ca (one c) ABC=true;have:Ca (one c) ABC=decide (c∈(ABC:Str).cps.toList):=uV ..;rw[this];exact qQ1 (O2 (h3 c hc))
theorem dM.ok(h:dM x):vm x:=by
 obtain⟨h1,h2,h3⟩:=h;rw[c0]at h1 h2;refine⟨by show x.cps.size<=_;omega,(ni x).mpr λc hc=>?_⟩
 have:=h3 c hc;omega
theorem Eb(x:Str):∀n,(j3 x n).cps.toList=(bh n x.cps.toList).flatten
 |0=>rfl
 |n+1=>by
  have e:(j3 x (n+1)).cps.toList=x.cps.toList++(j3 x n).cps.toList:=by
   show(x.cps++(j3 x n).cps).toList=_
   simp
  rw[e,Eb x n];rfl
theorem yc(c n:Nat):(j3 (one c) n).cps.toList=bh n c:=by
 rw[Eb]
 induction n with
 |zero=>rfl
 |succ n ih=>
  rw[d_,fU,ih];rfl
def nameA(m:Int)(many k:Nat):Str:=j3 (Ct (m/3%26)) (many-k)
def stemOf(m:Int):Str:=j3 (Ct (m/4992%26)) (1+m/78%8).toNat
def pO(m:Int)(k:Nat):Str:=kJ (stemOf m) none (some (m/624%(1+m/78%8)))++Ct ((m/3+5*k)%26)++kJ (stemOf m) (some (m/624%(1+m/78%8)+1)) none
def namesOf(cell:Int)(many:Nat):List Str:=if cq cell 3%3=0/\many<9 then(aZ many).map (nameA (cq cell 3) many) else(aZ many).map (pO (cq cell 3))
theorem fL(cell:Int)(many:Nat):(namesOf cell many).length=many:=by unfold namesOf;split<;>simp
theorem sZ(m:Int):(stemOf m).cps.toList=bh (1+m/78%8).toNat (97+(m/4992%26).toNat):=yc _ _
theorem LR(m:Int){many k:Nat}(h:k<many)(h9:many<9):dM (nameA m many k):=by
 have e:(nameA m many k).cps.toList=bh (many-k) (97+(m/3%26).toNat):=yc _ _;refine⟨by rw[e,dq];omega,by rw[e,dq];omega,λc hc=>?_⟩
 rw[e]at hc;have:=(fB.mp hc).2;omega
theorem LV(m:Int)(k:Nat):dM (pO m k):=by
 have hs:=sZ m;have hl:(stemOf m).cps.toList.length=(1+m/78%8).toNat:=by rw[hs,dq]
 have b1:0<=m/78%8:=a8 _ (by decide)
 have b2:m/78%8<8:=bo _ (by decide)
 have p1:0<=m/624%(1+m/78%8):=a8 _ (by omega)
 have p2:m/624%(1+m/78%8)<1+m/78%8:=bo _ (by omega)
 have e1:kJ (stemOf m) none (some (m/624%(1+m/78%8)))=_:=rO (x:=stemOf m) ⟨p1,by rw[hl];omega⟩
 have e2:kJ (stemOf m) (some (m/624%(1+m/78%8)+1)) none=_:=qg (x:=stemOf m) ⟨by omega,by rw[hl];omega⟩
 have e:(pO m k).cps.toList=(stemOf m).cps.toList.take (m/624%(1+m/78%8)).toNat ++ [97+((m/3+5*k)%26).toNat]++(stemOf m).cps.toList.drop (m/624%(1+m/78%8)+1).toNat:=by
  unfold pO;rw[e1,e2]
  show((_++_++_:Array Nat)).toList=_
  simp only[ui,ku,Fg,Ct,one];rw[cO (l:=List.drop _ _) (by rw[b_];omega)]
 have l1:(pO m k).cps.toList.length=(1+m/78%8).toNat:=by
  rw[e,aY,aY,b9,b_,hl];simp only[iB];omega
 refine⟨by rw[l1];omega,by rw[l1];omega,λc hc=>?_⟩
 rw[e,hs]at hc;have q1:0<=(m/3+5*k)%26:=a8 _ (by decide)
 have q2:(m/3+5*k)%26<26:=bo _ (by decide)
 have r1:0<=m/4992%26:=a8 _ (by decide)
 have r2:m/4992%26<26:=bo _ (by decide)
 rcases bS.mp hc with hc|hc
 ·rcases bS.mp hc with hc|hc
  ·have:=(fB.mp (eA hc)).2
   omega
  ·have:=aV.mp hc
   omega
 ·have:=(fB.mp (dU hc)).2
  omega
theorem gQ{cell:Int}{many:Nat}(h:x∈namesOf cell many):dM x:=by
 unfold namesOf at h
 split at h
 ·rename_i hh
  obtain⟨k,hk,rfl⟩:=av.mp h;exact LR _ (cL.mp hk) hh.2
 ·obtain⟨k,hk,rfl⟩:=av.mp h
  exact LV _ _
abbrev Ng(mg:Str->Option aE):Prop:=Nm mg
section
variable{P:bK}{w:cB}{K:au}{mg:Str->Option aE}{base:dg}{f:aR}{k:Nat}
def Bj(ds:List aj)(d:aj):Prop:=∃(ns:List Int)(k:Nat),ds=[iX ns,.int k]/\d=.int (ns.getD k 0)
theorem O4:cC ["_law_script","_law_k"] ["_law_script","_law_k"] (bC (top 43)):=⟨rfl,rfl,rfl,by symm,rfl,by symm,by symm⟩
theorem Tj(m1:mg "len"=none)(h:Bj ds d):Bb P w K mg base ["_law_script","_law_k"] "_law_cell_at" (top 43) f k ds (.rt d):=by
 obtain⟨ns,n,rfl,rfl⟩:=h;intro fV A outer s H E hr;by_cases hn:n<ns.length
 ·refine di (dN (VT.to (DP (ae 1 rfl) (jA (ae 0 rfl) m1)) (by simp only[ai];exact qQ1 (by omega))) (a_ (cg (fj (ae 0 rfl) (ae 1 rfl) (bE ?_))))) rfl
  rw[aI,aD,aq hn];rfl
 ·refine aJ (bX (VT.to (DP (ae 1 rfl) (jA (ae 0 rfl) m1)) (by simp only[ai];exact qQ0 (by omega))) bM) ?_
  have e:ns.getD n 0=0:=by rw[aD,eR (by omega)];rfl
  rw[e];exact a_ (cg ax)
theorem Tn(F:k9 K "_law_cell_at" "_law_cell_at" (top 43) f fd)(m1:mg "len"=none):ft P w K mg base jP 1 f fd ["_law_script","_law_k"] (g_ K Bj):=jR F O4 (λ_ _ h=>by obtain⟨_,_,rfl,_⟩:=h;rfl) λ_ _ h=>Tj m1 h
def Az(ds:List aj)(d:aj):Prop:=∃(c k:Int),ds=[.int c,.int k]/\0<=k/\k<=1000/\d=.int (cq c k)
abbrev Tp:List Str:=["_law_cell","_law_k","_law_m"]
theorem LW:cC Tp ["_law_cell","_law_k"] (bC (top 44)):=⟨rfl,rfl,rfl,by symm,rfl,by symm,by symm⟩
theorem WR(h:Az ds d):Bb P w K mg base Tp "_law_mix" (top 44) f k ds (.rt d):=by
 obtain⟨c,n,rfl,h0,h1,rfl⟩:=h;intro fV A outer s H E hr;have nd:Tp.Nodup:=LW.nd;have q1:0<=(c%2147483629+n*n*7919+11)*48271%2147483647:=a8 _ (by decide)
 have q2:(c%2147483629+n*n*7919+11)*48271%2147483647<2147483647:=bo _ (by decide)
 refine aJ (cA 2 (cw (o4 (cQ (cQ (cw (ae 0 rfl) ax (by decide)) (o4 (o4 (ae 1 rfl) (ae 1 rfl) (.inl ⟨by omega,by omega⟩)) ax (.inr ⟨by decide,by decide⟩))) ax) ax (.inr ⟨by decide,by decide⟩)) ax (by decide)) nd) ?_
 exact a_ (cg (cw (o4 (ae 2 rfl) (ae 2 rfl) (.inl ⟨by omega,by omega⟩)) ax (by decide)))
theorem WT(F:k9 K "_law_mix" "_law_mix" (top 44) f fd):ft P w K mg base jP 1 f fd ["_law_cell","_law_k"] (g_ K Az):=jR F LW (λ_ _ h=>by obtain⟨_,_,rfl,_⟩:=h;rfl) λ_ _ h=>WR h
abbrev Nnm:List Str:=["_law_cell","_law_many","_law_letters","_law_m","_law_size","_law_place","_law_stem"]
theorem QD:cC Nnm ["_law_cell","_law_many"] (bC (top 45)):=⟨rfl,rfl,rfl,by symm,rfl,by symm,by symm⟩
def Yi(ds es:List aj):Prop:=∃(c:Int)(many:Nat),ds=[.int c,.int many]/\many<=60/\es=(namesOf c many).map .str
def FA(m:Int)(many:Nat):aj->Option aj
 | .int k=>some (.str (nameA m many k.toNat))
 |_=>none
def FB(m:Int):aj->Option aj
 | .int k=>some (.str (pO m k.toNat))
 |_=>none
theorem Tq(m:Int)(many:Nat):(jB many).filterMap (FA m many)=((aZ many).map (nameA m many)).map .str:=by
 unfold jB;rw[cY,aS];exact filterMap_some λk _=>by show some _=some _;rw[fu];rfl
theorem Tr(m:Int)(many:Nat):(jB many).filterMap (FB m)=((aZ many).map (pO m)).map .str:=by
 unfold jB;rw[cY,aS];exact filterMap_some λk _=>by show some _=some _;rw[fu];rfl
theorem wy:(ABC:Str).length<=sizeLine:=small (by symm)
theorem zak(F:k9 K "_law_names" "_law_names" (top 45) f fd)(n:Ng mg)(C:bD P w K mg base 1 "_law_mix" ["_law_cell","_law_k"] (g_ K Az)):ft P w K mg base jP 2 f fd ["_law_cell","_law_many"] (Ba K Yi):=
 FK F QD (λ_ _ h=>by obtain⟨_,_,rfl,_⟩:=h;rfl) λ_ _ h=>by
  obtain⟨c,many,rfl,hm,rfl⟩:=h;intro fV A outer s H E hr;have nd:Nnm.Nodup:=QD.nd;have nk:(["_law_k","_law_many","_law_letters","_law_m"]:List Str).Nodup:=by symm
  have lo:=qC c 3;refine aJ (cA 2 aN nd) ?_
  refine aJ (cA 3 (d:=.int (cq c 3)) (bH C hr (ao (ae 0 rfl) (ao ax aQ)) ⟨c,3,rfl,by decide,by decide,rfl⟩) nd) ?_
  by_cases hh:cq c 3%3=0/\many<9
  ·have e:namesOf c many=(aZ many).map (nameA (cq c 3) many):=by unfold namesOf;rw[qQ3 hh]
   rw[e];refine di (dN (VT.to (uo (bR (k:=1) (hr.mono (by omega)) (cu 20 _) (cu 20 _) (cw (ae 3 rfl) ax (by decide)) ax) (λ_=>DP (ae 1 rfl) ax)) ?_) (a_ (sU (VO.to (fD (own:=["_law_k"]) (cap:=[1,2,3]) (N:=["_law_k","_law_many","_law_letters","_law_m"]) (tgt:=.one 0) (F:=FA (cq c 3) many) (ds:=jB many) rfl ⟨rfl,by symm,by symm,rfl,rfl,?_⟩ (sf (n:=(many:Int)) (ae 1 rfl) n.rng (by omega) (by omega)) (λf s3 H3=>bL (i:=0) nk rfl (a7 rfl)) rfl
    (small (by rw[o5];omega)) (λd hd=>?_)) (Tq _ _))))) rfl
   ·rw[jX,qQ1 hh.1,qQ1 (by omega)];rfl
   ·intro j hj
    rcases aG.mp hj with rfl|hj
    ·exact⟨(by show(1:Nat)<7;decide),a7 rfl,rfl⟩
    ·rcases aG.mp hj with rfl|hj
     ·exact⟨(by show(2:Nat)<7;decide),a7 rfl,rfl⟩
     ·rcases aG.mp hj with rfl|hj
      ·exact⟨(by show(3:Nat)<7;decide),a7 rfl,rfl⟩
      ·cases hj
   ·obtain⟨i,hi,rfl⟩:=av.mp hd
    have hi:=cL.mp hi;refine⟨_,rfl,λf s3 H3=>f9,λr iP f s3 H3=>?_⟩
    cases iP;refine VE.to (Ho (B_ (ae 2 rfl) (cw (eK (ae 3 rfl) ax ⟨by decide,by decide⟩) ax (by decide)) wy (F0 (a8 _ (by decide)) (bo _ (by decide)))) (KL (ae 1 rfl) (ae 0 rfl)) (by omega) (by omega) (by show 1<=1000;decide)) ?_
    unfold nameA;have e:((many:Int)-(i:Int)).toNat=many-((i:Nat):Int).toNat:=by omega
    rw[e];rfl
  ·have e:namesOf c many=(aZ many).map (pO (cq c 3)):=by unfold namesOf;rw[qQ2 hh]
   rw[e];have nk2:(["_law_k","_law_letters","_law_m","_law_place","_law_stem"]:List Str).Nodup:=by symm
   have b1:0<=cq c 3/78%8:=a8 _ (by decide)
   have b2:cq c 3/78%8<8:=bo _ (by decide)
   have p1:0<=cq c 3/624%(1+cq c 3/78%8):=a8 _ (by omega)
   have p2:cq c 3/624%(1+cq c 3/78%8)<1+cq c 3/78%8:=bo _ (by omega)
   have sl:(stemOf (cq c 3)).length<=8:=by
    show(stemOf (cq c 3)).cps.size<=8
    rw[<-c0,sZ,dq];omega
   refine aJ (bX (VT.to (uo (bR (k:=1) (hr.mono (by omega)) (cu 20 _) (cu 20 _) (cw (ae 3 rfl) ax (by decide)) ax) (λ_=>DP (ae 1 rfl) ax)) ?_) bM) ?_
   ·rw[jX]
    by_cases h0:cq c 3%3=0
    ·rw[qQ1 h0,j0]
     exact qQ0 λz=>hh ⟨h0,by omega⟩
    ·rw[qQ0 h0];rfl
   refine aJ (cA 4 (cQ ax (cw (eK (ae 3 rfl) ax ⟨by decide,by decide⟩) ax (by decide))) nd) ?_
   refine aJ (cA 5 (cw (eK (ae 3 rfl) ax ⟨by decide,by decide⟩) (ae 4 rfl) (by omega)) nd) ?_
   refine aJ (cA 6 (d:=.str (stemOf (cq c 3))) (Ho (B_ (ae 2 rfl) (cw (eK (ae 3 rfl) ax ⟨by decide,by decide⟩) ax (by decide)) wy (F0 (a8 _ (by decide)) (bo _ (by decide)))) (ae 4 rfl) (by omega) (by omega) (by show 1<=1000;decide)) nd) ?_
   refine a_ (sU (VO.to (fD (own:=["_law_k"]) (cap:=[2,3,5,6]) (N:=["_law_k","_law_letters","_law_m","_law_place","_law_stem"]) (tgt:=.one 0) (F:=FB (cq c 3)) (ds:=jB many) rfl ⟨rfl,by symm,by symm,rfl,rfl,?_⟩ (sf (n:=(many:Int)) (ae 1 rfl) n.rng (by omega) (by omega)) (λf s3 H3=>bL (i:=0) nk2 rfl (a7 rfl)) rfl
    (small (by rw[o5];omega)) (λd hd=>?_)) (Tr _ _)))
   ·intro j hj
    rcases aG.mp hj with rfl|hj
    ·exact⟨(by show(2:Nat)<7;decide),a7 rfl,rfl⟩
    ·rcases aG.mp hj with rfl|hj
     ·exact⟨(by show(3:Nat)<7;decide),a7 rfl,rfl⟩
     ·rcases aG.mp hj with rfl|hj
      ·exact⟨(by show(5:Nat)<7;decide),a7 rfl,rfl⟩
      ·rcases aG.mp hj with rfl|hj
       ·exact⟨(by show(6:Nat)<7;decide),a7 rfl,rfl⟩
       ·cases hj
   ·obtain⟨i,hi,rfl⟩:=av.mp hd
    have hi:=cL.mp hi;refine⟨_,rfl,λf s3 H3=>f9,λr iP f s3 H3=>?_⟩
    cases iP;have l1:=Ff (stemOf (cq c 3)) none (some (cq c 3/624%(1+cq c 3/78%8)));have l2:=Ff (stemOf (cq c 3)) (some (cq c 3/624%(1+cq c 3/78%8)+1)) none;have l3:(Ct ((cq c 3/3+5*(i:Int))%26)).length=1:=rfl;refine VE.to (jd (jd (Bg (ae 4 rfl) (small (by omega)) .no (.yes (ae 3 rfl))) (B_ (ae 1 rfl) (cw (cQ (eK (ae 2 rfl) ax ⟨by decide,by decide⟩) (o4 ax (ae 0 rfl) (.inl ⟨by decide,by decide⟩))) ax (by decide)) wy (F0 (a8 _ (by decide)) (bo _ (by decide)))) (small ?_)) (Bg (ae 4 rfl) (small (by omega)) (.yes (cQ (ae 3 rfl) ax)) .no) (small ?_)) ?_
    ·show _+(Ct ((cq c 3/3+5*(i:Int))%26)).length<=_
     omega
    ·rw[cD]
     show _+(Ct ((cq c 3/3+5*(i:Int))%26)).length+_<=_;omega
    ·rfl
end
inductive Rl where
 |meet
 |gather (most age:Int)
 |many (most:Int)
 |rank (bound:Option Int)
 |turns (shares:List Int)
 |eldest
def m9:Option Int->aj
 |none=>.none
 |some i=>.int i
def n_:Rl->Str
 | .meet=>"meet"
 | .gather _ _=>"gather"
 | .many _=>"many"
 | .rank _=>"rank"
 | .turns _=>"turns"
 | .eldest=>"eldest"
def rB:Rl->List aj
 | .meet=>[]
 | .gather m a=>[.int m,.int a]
 | .many m=>[.int m]
 | .rank b=>[m9 b]
 | .turns s=>[.tuple (s.map .int)]
 | .eldest=>[]
def za(r:Rl):aj:=.tuple (.str (n_ r)::rB r)
def Cu(rest:Int)(k:Nat):Int:=1+rest/((k:Int)*k+1)%3
def jj(m:Int)(many:Nat):Rl:=
 if m%6=5/\1<many then .meet
 else if m%6=4 then .gather (1+m/6%4) (m/6/4%9)
 else if m%6=3 then .many (1+m/6%4)
 else if m%6=2 then .rank (if m/6%2=0 then none else some (m/6/2%9))
 else if m%6=1 then .turns ((aZ many).map (Cu (m/6)))
 else .eldest
def ck:Rl->Nat->Int
 | .many m,_=>m
 | .gather m _,_=>m
 | .meet,n=>n
 |_,_=>1
section
variable{P:bK}{w:cB}{K:au}{mg:Str->Option aE}{base:dg}{f:aR}{k:Nat}
abbrev Nrl:List Str:=["_law_m","_law_many","_law_rest"]
theorem QF:cC Nrl ["_law_m","_law_many"] (bC (top 46)):=⟨rfl,rfl,rfl,by symm,rfl,by symm,by symm⟩
def Rrl(ds:List aj)(d:aj):Prop:=∃(m:Int)(many:Nat),ds=[.int m,.int many]/\0<=m/\m<1999999973/\many<=60/\d=za (jj m many)
def LX(rest:Int):aj->Option aj
 | .int k=>some (.int (1+rest/(k*k+1)%3))
 |_=>none
theorem F1(rest:Int)(many:Nat):(jB many).filterMap (LX rest)=((aZ many).map (Cu rest)).map .int:=by
 unfold jB;rw[cY,aS];exact filterMap_some λk _=>rfl
theorem zam(F:k9 K "_law_rule" "_law_rule" (top 46) f fd)(n:Ng mg):ft P w K mg base jP 1 f fd ["_law_m","_law_many"] (g_ K Rrl):=
 jR F QF (λ_ _ h=>by obtain⟨_,_,rfl,_⟩:=h;rfl) λ_ _ h=>by
  obtain⟨m,many,rfl,h0,h1,hm,rfl⟩:=h;intro fV A outer s H E hr;have nd:Nrl.Nodup:=QF.nd;have nk:(["_law_k","_law_rest"]:List Str).Nodup:=by symm
  have r0:0<=m/6:=Int.ediv_nonneg h0 (by decide)
  have r1:m/6<1999999973:=by omega
  refine aJ (cA 2 (eK (ae 0 rfl) ax ⟨by decide,by decide⟩) nd) ?_
  have ev:∀j:Int,cI (.int (m%6)) (.int j)=decide (m%6=j):=λj=>jX _ _
  unfold jj;by_cases c5:m%6=5/\1<many
  ·rw[qQ3 c5]
   refine di (dN (VT.to (uo (bR hr (cu 20 _) (cu 20 _) (cw (ae 0 rfl) ax (by decide)) ax) (λ_=>yJ (ae 1 rfl) ax)) ?_) (a_ (cg (VE.to (eU (ao aN aQ)) rfl)))) rfl
   rw[ev,qQ1 c5.1,qQ1 (by omega)];rfl
  rw[qQ2 c5];refine aJ (bX (VT.to (uo (bR hr (cu 20 _) (cu 20 _) (cw (ae 0 rfl) ax (by decide)) ax) (λ_=>yJ (ae 1 rfl) ax)) ?_) bM) ?_
  ·rw[ev]
   by_cases h5:m%6=5
   ·rw[qQ1 h5,j0]
    exact qQ0 λz=>c5 ⟨h5,by omega⟩
   ·rw[qQ0 h5];rfl
  by_cases c4:m%6=4
  ·rw[qQ3 c4]
   refine di (dN (VT.to (bR hr (cu 20 _) (cu 20 _) (cw (ae 0 rfl) ax (by decide)) ax) (by rw[ev,qQ1 c4])) (a_ (cg (VE.to (eU (ao aN (ao (cQ ax (cw (ae 2 rfl) ax (by decide))) (ao (cw (eK (ae 2 rfl) ax ⟨by decide,by decide⟩) ax (by decide)) aQ)))) rfl)))) rfl
  rw[qQ2 c4];refine aJ (bX (VT.to (bR hr (cu 20 _) (cu 20 _) (cw (ae 0 rfl) ax (by decide)) ax) (by rw[ev,qQ0 c4])) bM) ?_
  by_cases c3:m%6=3
  ·rw[qQ3 c3]
   refine di (dN (VT.to (bR hr (cu 20 _) (cu 20 _) (cw (ae 0 rfl) ax (by decide)) ax) (by rw[ev,qQ1 c3])) (a_ (cg (VE.to (eU (ao aN (ao (cQ ax (cw (ae 2 rfl) ax (by decide))) aQ))) rfl)))) rfl
  rw[qQ2 c3];refine aJ (bX (VT.to (bR hr (cu 20 _) (cu 20 _) (cw (ae 0 rfl) ax (by decide)) ax) (by rw[ev,qQ0 c3])) bM) ?_
  by_cases c2:m%6=2
  ·rw[qQ3 c2]
   refine di (dN (VT.to (bR hr (cu 20 _) (cu 20 _) (cw (ae 0 rfl) ax (by decide)) ax) (by rw[ev,qQ1 c2])) (a_ (cg (VE.to (eU (ao aN (ao (fj (d:=m9 (if m/6%2=0 then none else some (m/6/2%9))) (VO.ve (fe (ao gP (ao (cw (eK (ae 2 rfl) ax ⟨by decide,by decide⟩) ax (by decide)) aQ)))) (cw (ae 2 rfl) ax (by decide)) ?_) aQ))) rfl)))) rfl
   rcases Int.emod_two_eq (m/6)with e|e
   ·rw[e,qQ3 rfl];rfl
   ·rw[e,qQ2 (by decide)];rfl
  rw[qQ2 c2];refine aJ (bX (VT.to (bR hr (cu 20 _) (cu 20 _) (cw (ae 0 rfl) ax (by decide)) ax) (by rw[ev,qQ0 c2])) bM) ?_
  by_cases c1:m%6=1
  ·rw[qQ3 c1]
   refine di (dN (VT.to (bR hr (cu 20 _) (cu 20 _) (cw (ae 0 rfl) ax (by decide)) ax) (by rw[ev,qQ1 c1])) (a_ (cg (VE.to (eU (ao aN (ao (jM kK vd (ao (VO.ve (VO.to (fD (own:=["_law_k"]) (cap:=[2]) (N:=["_law_k","_law_rest"]) (tgt:=.one 0) (F:=LX (m/6)) (ds:=jB many) rfl ⟨rfl,by symm,by symm,rfl,rfl,?_⟩ (sf (n:=(many:Int)) (ae 1 rfl) n.rng (by omega) (by omega)) (λf s3 H3=>bL (i:=0) nk rfl (a7 rfl)) rfl
    (small (by rw[o5];omega)) (λd hd=>?_)) (F1 _ _))) aQ) n.tup rfl) aQ))) rfl)))) rfl
   ·intro j hj
    rcases aG.mp hj with rfl|hj
    ·exact⟨(by show(2:Nat)<3;decide),a7 rfl,rfl⟩
    ·cases hj
   ·obtain⟨i,hi,rfl⟩:=av.mp hd
    have hi:=cL.mp hi;have hii:(0:Int)<=(i:Int)*i:=Int.mul_nonneg (by omega) (by omega)
    have zfS:(i:Int)*i<=60*60:=Int.mul_le_mul (by omega) (by omega) (by omega) (by omega)
    refine⟨_,rfl,λf s3 H3=>f9,λr iP f s3 H3=>?_⟩
    cases iP;exact cQ ax (cw (eK (ae 1 rfl) (cQ (o4 (ae 0 rfl) (ae 0 rfl) (.inl ⟨by omega,by omega⟩)) ax) ⟨by omega,by omega⟩) ax (by decide))
  rw[qQ2 c1];refine aJ (bX (VT.to (bR hr (cu 20 _) (cu 20 _) (cw (ae 0 rfl) ax (by decide)) ax) (by rw[ev,qQ0 c1])) bM) ?_
  exact a_ (cg (VE.to (eU (ao aN aQ)) rfl))
theorem WU:cC ["_law_rule_here","_law_many"] ["_law_rule_here","_law_many"] (bC (top 47)):=⟨rfl,rfl,rfl,by symm,rfl,by symm,by symm⟩
def Ts(ds:List aj)(d:aj):Prop:=∃(r:Rl)(many:Nat),ds=[za r,.int many]/\d=.int (ck r many)
theorem zan(F:k9 K "_law_greatest" "_law_greatest" (top 47) f fd):ft P w K mg base jP 1 f fd ["_law_rule_here","_law_many"] (g_ K Ts):=
 jR F WU (λ_ _ h=>by obtain⟨_,_,rfl,_⟩:=h;rfl) λ_ _ h=>by
  obtain⟨r,many,rfl,rfl⟩:=h;unfold za;intro fV A outer s H E hr;have hl:(rB r).length<=2:=by cases r<;>simp[rB]
  have x1:∃x,(aK (n_ r)::rB r ++ [.int 0])[1]?=some x/\((gU [(("many":Str),x),("gather",x),("meet",.int many)] (n_ r)).getD (.int 1))=.int (ck r many):=by
   cases r<;>exact⟨_,rfl,rfl⟩
  obtain⟨x,hx,hv⟩:=x1;have hn3:([(("many":Str),x),("gather",x),("meet",fN many)].map (·.1)).Nodup:=(show([("many":Str),"gather","meet"]).Nodup by symm)
  have hx1:nQ (aK (n_ r)::rB r ++ [.int 0]) 1=some x:=bE (j:=1) hx;have hx0:nQ (aK (n_ r)::rB r) 0=some (.str (n_ r)):=bE (j:=0) rfl;have hz:(aK (n_ r)::rB r).length + [fN 0].length<=sizeLine:=small (by simp only[bJ,cN];omega)
  have B9:(aK (n_ r)::rB r)≠[]:=by simp
  generalize rB r=ra at *
  generalize n_ r=qk at *
  refine a_ (cg (VE.to (Lf hr (Cd (kvs:=[(("many":Str),x),("gather",x),("meet",.int many)]) (.cons aN ?_ (.cons aN ?_ (.cons aN (ae 1 rfl) .nil))) hn3 (by simp) (by show 3<=15;decide)) (x:=qk) ?_ (d:=.int 1) ax) hv))
  ·exact bT (x9 (d1:=.str qk::ra) (d2:=[.int 0]) (ae 0 rfl) (eU (ao ax aQ)) B9 hz) ax hx1
  ·exact bT (x9 (d1:=.str qk::ra) (d2:=[.int 0]) (ae 0 rfl) (eU (ao ax aQ)) B9 hz) ax hx1
  ·exact bT (ds:=.str qk::ra) (ae 0 rfl) ax hx0
end
structure Dk where
 name:Str
 to:Str
 rule:Rl
 places:List Str
variable{iw:List Dk}
def cV(l:List Str):aj:=.list (l.map .str)
def cn(d:Dk):aj:=.tuple [.str d.name,.str d.to,za d.rule,.tuple (d.places.map .str)]
def fX(cell:Int)(nn k:Nat):Nat:=if k<nn then k else(cq cell (40+k)%nn).toNat
def zc(cell:Int)(k len:Nat):Nat:=(cq cell (60+k)%(len+1)).toNat
def dY(cell:Int)(nn:Nat)(places:List Str):Nat->List (List Str)
 |0=>bh nn []
 |k+1=>(dY cell nn places k).set (fX cell nn k) (oC ((dY cell nn places k).getD (fX cell nn k) []) (zc cell k ((dY cell nn places k).getD (fX cell nn k) []).length) (places.getD k ""))
def F2(cell:Int)(lines:List Str)(k:Nat):Str:=(lines ++ [("":Str)]).getD (cq cell (80+k)%(lines.length+1)).toNat ""
def zh(cell:Int)(names lines:List Str)(taken:List (List Str))(k:Nat):Dk:=⟨names.getD k "",F2 cell lines k,jj (cq cell (90+k)) (taken.getD k []).length,taken.getD k []⟩
def kX(cell:Int)(n:Nat):Nat:=(1+cq cell 32%(if(n:Int)<4 then(n:Int)else 4)).toNat
def bQ(cell:Int)(places lines:List Str):List Dk:=(aZ (kX cell places.length)).map (zh cell (namesOf (cq cell 31) (kX cell places.length)) lines (dY cell (kX cell places.length) places places.length))
theorem ic(cell:Int)(nn:Nat)(places:List Str):∀k,(dY cell nn places k).length=nn
 |0=>by simp[dY]
 |k+1=>by rw[dY,k7,ic cell nn places k]
theorem kY(cell:Int){n:Nat}(h:1<=n):1<=kX cell n/\kX cell n<=4/\kX cell n<=n:=by
 unfold kX
 split
 ·rename_i hn
  have a1:0<=cq cell 32%(n:Int):=a8 _ (by omega)
  have a2:cq cell 32%(n:Int)<n:=bo _ (by omega)
  omega
 ·have a1:0<=cq cell 32%4:=a8 _ (by omega)
  have a2:cq cell 32%4<4:=bo _ (by omega)
  omega
theorem Bk(cell:Int){nn:Nat}(h:1<=nn)(k:Nat):fX cell nn k<nn:=by
 unfold fX
 split
 ·assumption
 ·have a1:0<=cq cell (40+k)%(nn:Int):=a8 _ (by omega)
  have a2:cq cell (40+k)%(nn:Int)<nn:=bo _ (by omega)
  omega
theorem LY(cell:Int)(k len:Nat):zc cell k len<=len:=by
 unfold zc;have a1:0<=cq cell (60+k)%((len:Int)+1):=a8 _ (by omega)
 have a2:cq cell (60+k)%((len:Int)+1)<(len:Int)+1:=bo _ (by omega)
 omega
theorem xi{α:Type}(l:List α)(i:Nat)(y:α):(oC l i y).length=l.length+1:=by
 unfold oC;rw[aY,bJ,b9,b_];omega
theorem LZ{α:Type}{l:List α}{x y:α}(h:x∈oC l i y):x∈l\/x=y:=by
 unfold oC at h;rcases bS.mp h with h|h
 ·exact .inl (eA h)
 ·rcases aG.mp h with h|h
  ·exact .inr h
  ·exact .inl (dU h)
theorem tf(cell:Int)(nn:Nat)(places:List Str):∀k,∀row∈dY cell nn places k,row.length<=k/\(k<=places.length->∀x∈row,x∈places)
 |0,row,h=>by
  obtain⟨_,rfl⟩:=fB.mp h;exact⟨ay _,λ_ x hx=>by cases hx⟩
 |k+1,row,h=>by
  have ih:=tf cell nn places k;rcases BK (show row∈List.set _ _ _ from h)with h|h
  ·exact⟨Nat.le_succ_of_le (ih row h).1,λhk=>(ih row h).2 (by omega)⟩
  ·have hg:(dY cell nn places k).getD (fX cell nn k) []=[]\/(dY cell nn places k).getD (fX cell nn k) []∈dY cell nn places k:=by
    rw[aD];cases e:(dY cell nn places k)[fX cell nn k]? with
    |none=>exact .inl rfl
    |some r=>exact .inr (bw e)
   generalize(dY cell nn places k).getD (fX cell nn k) []=g at *
   subst h;have hgl:g.length<=k/\(k<=places.length->∀x∈g,x∈places):=by
    rcases hg with rfl|hg
    ·exact⟨bF _,λ_ x hx=>by cases hx⟩
    ·exact ih g hg
   refine⟨by rw[xi];omega,λhk x hx=>?_⟩
   rcases LZ hx with hx|rfl
   ·exact hgl.2 (by omega) x hx
   ·rw[aD,aq (by omega)]
    exact dR _
theorem Cv(cell:Int)(lines:List Str)(k:Nat):nQ ((lines ++ [("":Str)]).map aK) (cq cell (80+k)%((lines.length:Int)+1))=some (.str (F2 cell lines k))/\F2 cell lines k∈lines ++ [("":Str)]:=by
 have a1:0<=cq cell (80+k)%((lines.length:Int)+1):=a8 _ (by omega)
 have a2:cq cell (80+k)%((lines.length:Int)+1)<(lines.length:Int)+1:=bo _ (by omega)
 unfold F2
 generalize cq cell (80+k)%((lines.length:Int)+1)=j at *
 obtain⟨i,rfl⟩:=lK a1;have hi:i<(lines ++ [("":Str)]).length:=by simp;omega
 have e:(lines ++ [("":Str)]).getD ((i:Int)).toNat ""=(lines ++ [("":Str)])[i]:=by
  rw[fu,aD,aq hi];rfl
 rw[e];exact⟨bE (by rw[aI,aq hi];rfl),dR hi⟩
section
variable{P:bK}{w:cB}{K:au}{mg:Str->Option aE}{base:dg}{f:aR}{k:Nat}
abbrev Ndk:List Str:=["_law_cell","_law_places","_law_lines","_law_names_here","_law_taken","_law_k","_law_place","_law_at","_law_desks_here","_law_name","_law_to"]
theorem QG:cC Ndk ["_law_cell","_law_places","_law_lines"] (bC (top 48)):=⟨rfl,rfl,rfl,by symm,rfl,by symm,by symm⟩
def Rdk(ds es:List aj):Prop:=∃(cell:Int)(places lines:List Str),ds=[.int cell,cV places,cV lines]/\1<=places.length/\places.length<=12/\lines.length<=12/\es=(bQ cell places lines).map cn
theorem zao(F:k9 K "_law_desks" "_law_desks" (top 48) f fd)(n:Ng mg)(C1:bD P w K mg base 1 "_law_mix" ["_law_cell","_law_k"] (g_ K Az))(C2:bD P w K mg base 2 "_law_names" ["_law_cell","_law_many"] (Ba K Yi))(C3:bD P w K mg base 1 "_law_rule" ["_law_m","_law_many"] (g_ K Rrl)):ft P w K mg base jP 3 f fd ["_law_cell","_law_places","_law_lines"] (Ba K Rdk):=
 FK F QG (λ_ _ h=>by obtain⟨_,_,_,rfl,_⟩:=h;rfl) λ_ _ h=>by
  obtain⟨cell,places,lines,rfl,h1,h12,F3,rfl⟩:=h;intro fV A outer s H E hr;have nd:Ndk.Nodup:=QG.nd;have nc:(["_law_name"]:List Str).Nodup:=by symm
  have lR:e8 1 _:=hr.mono (by omega)
  obtain⟨nn1,nn4,nnp⟩:=kY cell h1;unfold bQ;have enn:((kX cell places.length:Nat):Int)=1+cq cell 32%(if(places.length:Int)<4 then(places.length:Int)else 4):=by
   unfold kX;have a1:0<=cq cell 32%(if(places.length:Int)<4 then(places.length:Int)else 4):=a8 _ (by split<;>omega)
   omega
  generalize kX cell places.length=nn at *
  have nl:=fL (cq cell 31) nn
  generalize hnm:namesOf (cq cell 31) nn=names at *
  refine aJ (cA 3 (d:=cV names) (VO.ve (ko C2 hr (ao (bH C1 lR (ao (ae 0 rfl) (ao ax aQ)) ⟨cell,31,rfl,by decide,by decide,rfl⟩) (ao (VE.to (k:=.int nn) (cQ ax (cw (bH C1 lR (ao (ae 0 rfl) (ao ax aQ)) ⟨cell,32,rfl,by decide,by decide,rfl⟩) (jG (Ik rfl) (SX 4 (places.length:Int)) (ao ax (ao (VE.to (jA (ae 1 rfl) n.len) (by simp)) aQ)) n.min rfl) (by split<;>omega))) (by rw[enn])) aQ)) ⟨cq cell 31,nn,rfl,by omega,by rw[hnm]⟩)) nd) ?_
  refine yT λB0 B σ H0 Hh D fr ok=>?_
  refine cH (Oa 4 (ds:=names.map aK) (own:=["_law_name"]) (cap:=[]) (N:=["_law_name"]) (cl:=[]) (tgt:=.one 0) fr rfl rfl ⟨rfl,by symm,by symm,rfl,rfl,by simp⟩ (g8 (ae 3 rfl)) (λf s3 H3=>bL (i:=0) nc rfl (a7 rfl)) rfl (small (by rw[ai];omega)) (λd hd=>⟨_,rfl⟩) nd (λσ1 a ps H1 dO G=>?_) (λa=>rfl))
  refine cH (V_ (tgt:=.tup [5,6]) (ds:=nW (places.map .str)) G cK rfl (km (ds:=places.map .str) (ae 1 rfl) n.Hi)
   (gB rfl (bU (bL (i:=5) nd rfl (a7 rfl)) (bU (bL (i:=6) nd rfl (a7 rfl)) fh))) (λi=>(dY cell nn places i).map λr=>r.map aK) ?_ (λi d hd=>?_) (λσ2 Ha Hb G2=>?_))
  ·show(bh nn []).map _=_
   rw[List.map_replicate,ai,nl];rfl
  ·obtain⟨x,hx,rfl⟩:=gi hd
   obtain⟨hip,rfl⟩:i<places.length/\x=.str (places.getD i ""):=by
    rw[aI]at hx;cases e:places[i]? with
    |none=>rw[e]at hx;cases hx
    |some p=>
     rw[e]at hx;cases hx;exact⟨(aO.mp e).1,by rw[aD,e];rfl⟩
   refine⟨[.val (.int cell),.val (cV places),.val (cV lines),.val (cV names),.ref a,.val (.int i),.val (.str (places.getD i "")),.un,.un,.un,.un],rfl,rfl,λD C0 σ' dS H' G q=>?_⟩
   have hR:=ic cell nn places i;have hj:=Bk cell nn1 i;have qp:ps.length=nn:=G.len.trans (by simp[hR])
   obtain⟨p,hp⟩:∃p,ps[fX cell nn i]?=some p:=⟨ps[fX cell nn i]'(by omega),aq _⟩
   have wx:(dY cell nn places i)[fX cell nn i]?=some ((dY cell nn places i).getD (fX cell nn i) []):=by
    rw[aD,aq (by omega)];rfl
   have mL:=bw wx;have hlen:=(tf cell nn places i _ mL).1;have egs:((dY cell nn places (i+1)).map λr=>r.map aK)=((dY cell nn places i).map λr=>r.map aK).set (fX cell nn i) (oC (((dY cell nn places i).getD (fX cell nn i) []).map aK) (zc cell i ((dY cell nn places i).getD (fX cell nn i) []).length) (.str (places.getD i ""))):=by
    show(List.set _ _ _).map _=_
    rw[E1]
    congr 1
    unfold oC;rw[aU,aH,Dn,qc]
   have hgj:((dY cell nn places i).map λr=>r.map aK)[fX cell nn i]?=some (((dY cell nn places i).getD (fX cell nn i) []).map aK):=by
    rw[aI,wx];rfl
   rw[egs]at q
   generalize(dY cell nn places i).getD (fX cell nn i) []=row at *
   refine cH (KY G (cA 7 (ae 5 rfl) nd) rfl λσ1 Ha Hb G1=>?_)
   refine cH (KY G1 (Ql (o:=.nx [.val (.int cell),.val (cV places),.val (cV lines),.val (cV names),.ref a,.val (.int i),.val (.str (places.getD i "")),.val (.int (fX cell nn i)),.un,.un,.un]) (Qk (ae 5 rfl) (jA (ae 3 rfl) n.len)) (λhk=>?_) (λhk=>?_)) rfl λσ2 Hc Hd G2=>?_)
   ·have hk:¬i<nn:=by
     have:=qQ4 hk;rw[ai,nl]at this;omega
    have e:((fX cell nn i:Nat):Int)=cq cell (40+i)%(nn:Int):=by
     unfold fX;rw[qQ2 hk];have a1:0<=cq cell (40+i)%(nn:Int):=a8 _ (by omega)
     omega
    rw[e];exact a_ (cA 7 (cw (bH C1 lR (ao (ae 0 rfl) (ao (cQ ax (ae 5 rfl)) aQ)) ⟨cell,40+(i:Int),rfl,by omega,by omega,rfl⟩) (VE.to (jA (ae 3 rfl) n.len) (by rw[ai,nl])) (by omega)) nd)
   ·have hk:i<nn:=by
     have:=qQ5 hk;rw[ai,nl]at this;omega
    have e:fX cell nn i=i:=by unfold fX;rw[qQ3 hk]
    rw[e];exact bM
   have em:((zc cell i row.length:Nat):Int)=cq cell (60+i)%((row.length:Int)+1):=by
    unfold zc;have a1:0<=cq cell (60+i)%((row.length:Int)+1):=a8 _ (by omega)
    omega
   refine dD (Lg G2 4 (j:=fX cell nn i) (m:=zc cell i row.length) (p:=p) (ds:=row.map .str) (d:=.str (places.getD i "")) rfl (ae 7 rfl) hp hgj (VE.to (cw (bH C1 lR (ao (ae 0 rfl) (ao (cQ ax (ae 5 rfl)) aQ)) ⟨cell,60+(i:Int),rfl,by omega,by omega,rfl⟩) (cQ (jA (ds:=row.map .str) (fj (ae 4 rfl) (ae 7 rfl) (bE (by rw[aI,hgj];rfl))) n.len) ax) (by omega)) (by rw[em,ai])) rfl (by rw[ai];exact LY _ _ _) (ae 6 rfl) (gj (by rw[ai];omega)) (λσ6 Hk Hl G6=>?_))
   exact q _ _ _ (G6.forget ⟨.inr rfl,.inr rfl,.inr rfl,.inr rfl,.inr rfl,.inl rfl,.inl rfl,.inl rfl,.inr rfl,.inr rfl,.inr rfl,trivial⟩ rfl)
  ·refine S0 G2 (ig:=4) (o:=.ro ((aZ nn).map (zh cell names lines (dY cell nn places places.length)) |>.map cn)) rfl ?_ (λHx _=>qY.ret rfl rfl ok)
   rw[cv,ai];have tl:=ic cell nn places places.length;have tr:=tf cell nn places places.length
   generalize dY cell nn places places.length=taken at *
   refine aJ (kP 8 (fe aQ) nd) ?_
   refine aJ (mh (tgt:=.tup [5,9]) (o:=.nx [.val (.int cell),.val (cV places),.val (cV lines),.val (cV names),.val (.list ((taken.map λr=>r.map aK).map .list)),.un,.un,.un,.own (((aZ nn).map (zh cell names lines taken)).map cn),.un,.un]) cK rfl (km (ds:=names.map .str) (ae 3 rfl) n.Hi)
    (gB rfl (bU (bL (i:=5) nd rfl (a7 rfl)) (bU (bL (i:=9) nd rfl (a7 rfl)) fh))) (λi=>[.val (.int cell),.val (cV places),.val (cV lines),.val (cV names),.val (.list ((taken.map λr=>r.map aK).map .list)),.un,.un,.un,.own (((aZ i).map (zh cell names lines taken)).map cn),.un,.un]) nn rfl (by rw[cv,ai,nl];exact ay _) (λi d hi hd=>?_) (.inl ⟨by rw[cv,ai,nl],rfl⟩)) (a_ (He 8 rfl))
   obtain⟨x,hx,rfl⟩:=gi hd;obtain rfl:x=.str (names.getD i ""):=by
    rw[aI,aq (by omega)]at hx
    cases hx;rw[aD,aq (by omega)];rfl
   have wx:taken[i]?=some (taken.getD i []):=by
    rw[aD,aq (by omega)];rfl
   have WV:=(tr _ (bw wx)).1;obtain⟨ht,_⟩:=Cv cell lines i;have lo:=qC cell (90+i);have hi':=Cr cell (90+i);refine⟨_,rfl,?_⟩
   refine aJ (cA 10 (d:=.str (F2 cell lines i)) (fj (ds:=(lines ++ [("":Str)]).map .str) (VE.to (VO.ve (nU (d1:=lines.map .str) (d2:=[.str ""]) (ae 2 rfl) (VO.ve (fe (ao aN aQ))) (small (by simp only[ai,bJ,cN];omega)))) (by rw[aU];rfl)) (VE.to (cw (bH C1 lR (ao (ae 0 rfl) (ao (cQ ax (ae 5 rfl)) aQ)) ⟨cell,80+(i:Int),rfl,by omega,by omega,rfl⟩) (cQ (jA (ae 2 rfl) n.len) ax) (by omega)) (by rw[ai])) ht) nd) ?_
   refine jC (a_ (iF 8 rfl (d:=cn (zh cell names lines taken i)) (eU (ao (ae 9 rfl) (ao (ae 10 rfl) (ao ?_ (ao ?_ aQ))))) (gj (by simp only[ai,bW];omega)))) ⟨.inr rfl,.inr rfl,.inr rfl,.inr rfl,.inr rfl,.inl rfl,.inl rfl,.inl rfl,.inr ?_,.inl rfl,.inl rfl,trivial⟩
   ·exact bH C3 lR (ao (bH C1 lR (ao (ae 0 rfl) (ao (cQ ax (ae 5 rfl)) aQ)) ⟨cell,90+(i:Int),rfl,by omega,by omega,rfl⟩) (ao (jA (ds:=(taken.getD i []).map .str) (fj (ae 4 rfl) (ae 5 rfl) (bE (by rw[aI,aI,wx];rfl))) n.len) aQ)) ⟨cq cell (90+i),(taken.getD i []).length,by rw[ai],by omega,by omega,by omega,rfl⟩
   ·exact jM kK vd (ao (fj (ds:=(taken.map λr=>r.map aK).map .list) (d:=.list ((taken.getD i []).map .str)) (ae 4 rfl) (ae 5 rfl) (bE (by rw[aI,aI,wx];rfl))) aQ) n.tup rfl
   ·rw[g7,aU,aU];rfl
end
def gW(ns:List Int):Int:=ns.getD 0 0
def bP(ns:List Int):Int:=ns.getD 1 0
def fz(ns:List Int):Int:=ns.getD 2 0
def lS(p:Str×Option Int):aj:=.tuple [.str p.1,m9 p.2]
def uw(m:Int):Option Int:=if m%3=2 then some (1+m/3%30)else none
def kindAt(a:Int)(names:List Str)(k:Nat):Str×Option Int:=(names.getD k "",uw (cq a (10+k)))
def jH(a:Int):Nat:=(1+cq a 1%4).toNat
def cG(a:Int):List (Str×Option Int):=(aZ (jH a)).map (kindAt a (namesOf a (jH a)))
def gL(b:Int):Nat:=(1+cq b 2%3).toNat
def placesOf(b:Int):List Str:=namesOf (cq b 4) (gL b+(cq b 5%4).toNat)
def m_(b:Int)(n:Nat):Nat:=(cq b 6%n).toNat
def orderOf(b:Int):List Str:=(placesOf b).drop (m_ b (placesOf b).length)++(placesOf b).take (m_ b (placesOf b).length)
def lF(b:Int):List Str:=(placesOf b).take (gL b)
def linesOf(b:Int):List Str:=(placesOf b).drop (gL b)
def gX(iw:List Dk)(name:Str):List Int:=iw.filterMap λd=>if decide (d.to=name)=true then some (ck d.rule d.places.length)else none
def maxOf(l:List Int):Int:=l.foldl (λm z=>if m<z then z else m) 1
def roomAt(b:Int)(iw:List Dk)(lines:List Str)(k:Nat):Str×Int:=(lines.getD k "",maxOf (gX iw (lines.getD k ""))+cq b (20+k)%3)
def iY(p:Str×Int):aj:=.tuple [.str p.1,.int p.2]
def pP(p:Str×Str×Int):aj:=.tuple [.str p.1,.str p.2.1,.int p.2.2]
def pQ(p:Str×Int×Int):aj:=.tuple [.str p.1,.int p.2.1,.int p.2.2]
def ux(m:Int)(dn:Str)(p:(Str×Option Int)×Nat):Option (Str×Str×Int):=if decide (0<m/((p.2:Int)+7)%3)=true then some (dn,p.1.1,1+m/((p.2:Int)*p.2+2)%6)else none
def gf(m:Int)(dn:Str)(kinds:List (Str×Option Int))(j:Nat):List (Str×Str×Int):=(kinds.zipIdx.take j).filterMap (ux m dn)
def kM(m:Int)(dn:Str):List (Str×Int×Int):=if m/5%4=0 then [(dn,m/20%9,9+m/180%20),(dn,25+m/3600%20,50+m/72000%40)]else []
def gM(c:Int)(iw:List Dk)(kinds:List (Str×Option Int))(i:Nat):List (Str×Str×Int):=(iw.zipIdx.take i).flatMap λp=>gf (cq c (110+p.2)) p.1.name kinds kinds.length
def je(c:Int)(iw:List Dk)(i:Nat):List (Str×Int×Int):=(iw.zipIdx.take i).flatMap λp=>kM (cq c (110+p.2)) p.1.name
structure Pl where
 kinds:List (Str×Option Int)
 gates:List Str
 lines:List (Str×Int)
 desks:List Dk
 times:List (Str×Str×Int)
 hours:List (Str×Int×Int)
def eG(ns:List Int):Pl:=
 let kds:=cG (gW ns)
 let lns:=linesOf (bP ns)
 let iw:=bQ (fz ns) (orderOf (bP ns)) lns
 ⟨kds,lF (bP ns),(aZ lns.length).map (roomAt (bP ns) iw lns),iw,gM (fz ns) iw kds iw.length,je (fz ns) iw iw.length⟩
def eE(p:Pl):List (Str×aj):=[("kinds",.list (p.kinds.map lS)),("gates",cV p.gates),("lines",.list (p.lines.map iY)),("desks",.list (p.desks.map cn)),("times",.list (p.times.map pP)),("hours",.list (p.hours.map pQ)),("paces",.list [])]
def dZ(p:Pl):aj:=cF (eE p)
theorem og(l:List Int):maxOf l∈(1::l)/\∀z∈(1::l),z<=maxOf l:=by
 have go:∀(l:List Int)(m0:Int),(l.foldl (λm z=>if m<z then z else m) m0)∈m0::l/\∀z∈m0::l,z<=l.foldl (λm z=>if m<z then z else m) m0:=by
  intro l
  induction l with
  |nil=>intro m0;exact⟨aL,λz hz=>by simp at hz;rw[hz];exact Int.le_refl _⟩
  |cons x l ih=>
   intro m0;obtain⟨h1,h2⟩:=ih (if m0<x then x else m0)
   rw[nA];refine⟨?_,λz hz=>?_⟩
   ·rcases aG.mp h1 with h|h
    ·rw[h]
     split<;>simp
    ·exact aT _ (aT _ h)
   ·have hm:=h2 _ aL
    rcases aG.mp hz with rfl|hz
    ·refine Int.le_trans ?_ hm
     split<;>omega
    ·rcases aG.mp hz with rfl|hz
     ·refine Int.le_trans ?_ hm
      split<;>omega
     ·exact h2 z (aT _ hz)
 exact go l 1
theorem t_{m:Int}{dn:Str}{j:Nat}{p:Str×Option Int}(h:kinds[j]?=some p):gf m dn kinds (j+1)=gf m dn kinds j++(ux m dn (p,j)).toList:=by
 unfold gf;rw[dH,iV,h];simp only[jK,uL,sO,i_];cases e:ux m dn (p,j) with
 |none=>rw[eP e];rfl
 |some r=>rw[cX e];rfl
theorem sx(m:Int)(dn:Str)(kinds:List (Str×Option Int))(j:Nat):(gf m dn kinds j).length<=j:=by
 unfold gf;exact cp (p_ _ _) (by rw[b9];omega)
theorem qD{c:Int}{d:Dk}(h:iw[i]?=some d):gM c iw kinds (i+1)=gM c iw kinds i++gf (cq c (110+i)) d.name kinds kinds.length:=by
 unfold gM;rw[dH,iV,h];simp
theorem vn{c:Int}{d:Dk}(h:iw[i]?=some d):je c iw (i+1)=je c iw i++kM (cq c (110+i)) d.name:=by
 unfold je;rw[dH,iV,h];simp
theorem Ec(m:Int)(dn:Str):(kM m dn).length<=2:=by unfold kM;split<;>simp
theorem qE(c:Int)(iw:List Dk)(kinds:List (Str×Option Int))(hk:kinds.length<=4):∀i,i<=iw.length->(gM c iw kinds i).length<=4*i
 |0,_=>by simp[gM]
 |i+1,h=>by
  have ih:=qE c iw kinds hk i (by omega)
  have:=sx (cq c (110+i)) iw[i].name kinds kinds.length;rw[qD (aq (by omega)),aY]
  omega
theorem qF(c:Int)(iw:List Dk):∀i,i<=iw.length->(je c iw i).length<=2*i
 |0,_=>by simp[je]
 |i+1,h=>by
  have ih:=qF c iw i (by omega)
  have:=Ec (cq c (110+i)) iw[i].name;rw[vn (aq (by omega)),aY]
  omega
theorem mP(a:Int):1<=jH a/\jH a<=4:=by
 unfold jH;have a1:0<=cq a 1%4:=a8 _ (by omega)
 have a2:cq a 1%4<4:=bo _ (by omega)
 omega
theorem h_(b:Int):1<=gL b/\gL b<=3:=by
 unfold gL;have a1:0<=cq b 2%3:=a8 _ (by omega)
 have a2:cq b 2%3<3:=bo _ (by omega)
 omega
theorem o8(b:Int):(placesOf b).length=gL b+(cq b 5%4).toNat:=fL _ _
theorem iJ(b:Int):gL b<=(placesOf b).length/\(placesOf b).length<=6:=by
 have:=h_ b;have a1:0<=cq b 5%4:=a8 _ (by omega)
 have a2:cq b 5%4<4:=bo _ (by omega)
 rw[o8];omega
theorem mj(b:Int){n:Nat}(h:1<=n):m_ b n<n:=by
 unfold m_;have a1:0<=cq b 6%(n:Int):=a8 _ (by omega)
 have a2:cq b 6%(n:Int)<n:=bo _ (by omega)
 omega
theorem nq(cell:Int)(places lines:List Str):(bQ cell places lines).length=kX cell places.length:=by simp[bQ]
theorem O5(m:Int):nQ [aj.none,.none,.int (1+m/3%30)] (m%3)=some (m9 (uw m)):=by
 unfold uw;have a1:0<=m%3:=a8 _ (by omega)
 have a2:m%3<3:=bo _ (by omega)
 rcases(by omega:m%3=0\/m%3=1\/m%3=2)with e|e|e<;>rw[e]<;>rfl
def wz(r:aj)(n:Nat):Int:=match r with
 | .tuple [.str w,.int m]=>if w="many" then m else 1
 | .tuple [.str w,.int m,_]=>if w="gather" then m else 1
 | .tuple [.str w]=>if w="meet" then n else 1
 |_=>1
theorem Cw(r:Rl)(n:Nat):wz (za r) n=ck r n:=by
 cases r with
 |rank b=>cases b<;>rfl
 |_=>rfl
def HK(name:Str):aj->Option aj
 | .tuple [_,.str to,r,.tuple ps]=>if decide (to=name)=true then some (.int (wz r ps.length))else none
 |_=>none
theorem uy(name:Str)(d:Dk):HK name (cn d)=(if decide (d.to=name)=true then some (.int (ck d.rule d.places.length))else none):=by
 show(if decide (d.to=name)=true then some (fN (wz (za d.rule) (d.places.map aK).length))else none)=_
 rw[Cw,ai]
theorem Jh(name:Str)(iw:List Dk):(iw.map cn).filterMap (HK name)=(gX iw name).map .int:=by
 unfold gX;rw[cY,List.map_filterMap]
 congr 1
 funext d
 show HK name (cn d)=_;rw[uy]
 split<;>rfl
section
variable{P:bK}{w:cB}{K:au}{mg:Str->Option aE}{base:dg}{f:aR}{k:Nat}
abbrev Npl:List Str:=["_law_script","_law_a","_law_b","_law_c","_law_kinds","_law_k","_law_name","_law_m","_law_many","_law_places","_law_gates","_law_lines","_law_order","_law_desks_here","_law_rooms","_law_loads","_law_times","_law_hours","_law_desk","_law_j","_law_kind"]
theorem QH:cC Npl ["_law_script"] (bC (top 49)):=⟨rfl,rfl,rfl,by symm,rfl,by symm,by symm⟩
def Rpl(ds:List aj)(d:aj):Prop:=∃ns:List Int,ds=[iX ns]/\d=dZ (eG ns)
end
theorem lG{α β:Type}(g:α->β)(l:List α)(lo hi:Option Int):L2.cutD (l.map g) lo hi=(L2.cutD l lo hi).map g:=by
 unfold L2.cutD;rw[ai,Dn,qc]
theorem jI{α:Type}(l:List α)(n:Nat):L2.cutD l (some (n:Int)) none=l.drop n:=by
 unfold L2.cutD;rw[HT.qt,HT.DF];by_cases h:n<=l.length
 ·rw[nL h,cO (by rw[b_];omega)]
 ·rw[Nat.min_eq_right (by omega),rq (ay _),rq (by omega)];simp
section
variable{P:bK}{w:cB}{K:au}{mg:Str->Option aE}{base:dg}{f:aR}{k:Nat}
theorem zaq(F:k9 K "_law_plant" "_law_plant" (top 49) f fd)(n:Ng mg)(C0:bD P w K mg base 1 "_law_cell_at" ["_law_script","_law_k"] (g_ K Bj))(C1:bD P w K mg base 1 "_law_mix" ["_law_cell","_law_k"] (g_ K Az))(C2:bD P w K mg base 2 "_law_names" ["_law_cell","_law_many"] (Ba K Yi))(C3:bD P w K mg base 1 "_law_greatest" ["_law_rule_here","_law_many"] (g_ K Ts))(C4:bD P w K mg base 3 "_law_desks" ["_law_cell","_law_places","_law_lines"] (Ba K Rdk)):ft P w K mg base jP 4 f fd ["_law_script"] (g_ K Rpl):=
 jR F QH (λ_ _ h=>by obtain⟨_,rfl,_⟩:=h;rfl) λ_ _ h=>by
  obtain⟨ns,rfl,rfl⟩:=h;intro fV A outer s H E hr;have nd:Npl.Nodup:=QH.nd;have lR:e8 1 _:=hr.mono (by omega)
  have E8:e8 2 _:=hr.mono (by omega)
  have e0:eG ns=⟨(cG (gW ns)),(placesOf (bP ns)).take (gL (bP ns)),((aZ (linesOf (bP ns)).length).map (roomAt (bP ns) (bQ (fz ns) (orderOf (bP ns)) (linesOf (bP ns))) (linesOf (bP ns)))),(bQ (fz ns) (orderOf (bP ns)) (linesOf (bP ns))),gM (fz ns) (bQ (fz ns) (orderOf (bP ns)) (linesOf (bP ns))) (cG (gW ns)) (bQ (fz ns) (orderOf (bP ns)) (linesOf (bP ns))).length,je (fz ns) (bQ (fz ns) (orderOf (bP ns)) (linesOf (bP ns))) (bQ (fz ns) (orderOf (bP ns)) (linesOf (bP ns))).length⟩:=rfl;rw[e0];obtain⟨k1,k4⟩:=mP (gW ns);have knl:(namesOf (gW ns) (jH (gW ns))).length=jH (gW ns):=fL _ _;have hkd:(aZ (jH (gW ns))).map (kindAt (gW ns) (namesOf (gW ns) (jH (gW ns))))=(cG (gW ns)):=rfl;have hkl:(cG (gW ns)).length=jH (gW ns):=by simp[cG]
  obtain⟨g1,g3⟩:=h_ (bP ns);obtain⟨p1,p6⟩:=iJ (bP ns);have pl:=o8 (bP ns);have F3:(placesOf (bP ns)).drop (gL (bP ns))=(linesOf (bP ns)):=rfl;have hll:(linesOf (bP ns)).length<=6:=by rw[<-F3,b_];omega
  have hor:(placesOf (bP ns)).drop (m_ (bP ns) (placesOf (bP ns)).length)++(placesOf (bP ns)).take (m_ (bP ns) (placesOf (bP ns)).length)=(orderOf (bP ns)):=rfl;have IU:(orderOf (bP ns)).length=(placesOf (bP ns)).length:=by rw[<-hor,aY,b_,b9];have:=mj (bP ns) (n:=(placesOf (bP ns)).length) (by omega);omega
  have JX:(bQ (fz ns) (orderOf (bP ns)) (linesOf (bP ns))).length<=4:=by rw[nq];exact(kY (fz ns) (by omega)).2.1
  have ek:((jH (gW ns):Nat):Int)=1+cq (gW ns) 1%4:=by
   unfold jH;have a1:0<=cq (gW ns) 1%4:=a8 _ (by omega)
   omega
  have eg:(((gL (bP ns)):Nat):Int)=1+cq (bP ns) 2%3:=by
   unfold gL;have a1:0<=cq (bP ns) 2%3:=a8 _ (by omega)
   omega
  have ep:((((gL (bP ns))+(cq (bP ns) 5%4).toNat:Nat)):Int)=((gL (bP ns)):Int)+cq (bP ns) 5%4:=by
   have a1:0<=cq (bP ns) 5%4:=a8 _ (by omega)
   omega
  have et:((m_ (bP ns) (placesOf (bP ns)).length:Nat):Int)=cq (bP ns) 6%((placesOf (bP ns)).length:Int):=by
   unfold m_;have a1:0<=cq (bP ns) 6%((placesOf (bP ns)).length:Int):=a8 _ (by omega)
   omega
  refine aJ (Oo 1 2 3 (d1:=.int (gW ns)) (d2:=.int (bP ns)) (d3:=.int (fz ns)) (bH C0 lR (ao (ae 0 rfl) (ao ax aQ)) ⟨ns,0,rfl,rfl⟩) (bH C0 lR (ao (ae 0 rfl) (ao ax aQ)) ⟨ns,1,rfl,rfl⟩) (bH C0 lR (ao (ae 0 rfl) (ao ax aQ)) ⟨ns,2,rfl,rfl⟩) rfl nd (by decide) (by decide) (by decide)) ?_
  refine aJ (kP 4 (fe aQ) nd) ?_
  refine aJ (mh (tgt:=.tup [5,6]) (o:=.nx [.val (iX ns),.val (.int (gW ns)),.val (.int (bP ns)),.val (.int (fz ns)),.own (((aZ (jH (gW ns))).map (kindAt (gW ns) (namesOf (gW ns) (jH (gW ns))))).map lS),.un,.un,.un,.un,.un,.un,.un,.un,.un,.un,.un,.un,.un,.un,.un,.un]) cK rfl (km (ds:=(namesOf (gW ns) (jH (gW ns))).map .str) (VO.ve (ko C2 E8 (ao (ae 1 rfl) (ao (VE.to (k:=.int (jH (gW ns):Nat)) (cQ ax (cw (bH C1 lR (ao (ae 1 rfl) (ao (ax) aQ)) ⟨gW ns,1,rfl,by first|decide|omega,by first|decide|omega,rfl⟩) ax (by decide))) (by rw[ek])) aQ)) ⟨gW ns,jH (gW ns),rfl,by omega,rfl⟩)) n.Hi)
   (gB rfl (bU (bL (i:=5) nd rfl (by first|exact a7 rfl|exact cj rfl)) (bU (bL (i:=6) nd rfl (by first|exact a7 rfl|exact cj rfl)) (fh)))) (λi=>[.val (iX ns),.val (.int (gW ns)),.val (.int (bP ns)),.val (.int (fz ns)),.own (((aZ (i)).map (kindAt (gW ns) (namesOf (gW ns) (jH (gW ns))))).map lS),.un,.un,.un,.un,.un,.un,.un,.un,.un,.un,.un,.un,.un,.un,.un,.un]) (jH (gW ns)) rfl (by rw[cv,ai,knl];exact ay _) (λi d hi hd=>?_) (.inl ⟨by rw[cv,ai,knl],rfl⟩)) ?_
  ·obtain⟨x,hx,rfl⟩:=gi hd
   obtain rfl:x=.str ((namesOf (gW ns) (jH (gW ns))).getD i ""):=by
    rw[aI,aq (by omega)]at hx
    cases hx;rw[aD,aq (by omega)];rfl
   refine⟨_,rfl,?_⟩
   refine aJ (cA 7 (d:=.int (cq (gW ns) (10+i))) (bH C1 lR (ao (ae 1 rfl) (ao (cQ ax (ae 5 rfl)) aQ)) ⟨gW ns,10+(i:Int),rfl,by first|decide|omega,by first|decide|omega,rfl⟩) nd) ?_
   refine jC (a_ (iF 4 rfl (d:=lS (kindAt (gW ns) (namesOf (gW ns) (jH (gW ns))) i)) (eU (ao (ae 6 rfl) (ao (fj (VO.ve (fe (ao gP (ao gP (ao (cQ ax (cw (eK (ae 7 rfl) ax ⟨by decide,by decide⟩) ax (by decide))) aQ))))) (cw (ae 7 rfl) ax (by decide)) (O5 _)) aQ))) (gj (by simp only[ai,bW];omega)))) ⟨.inr rfl,.inr rfl,.inr rfl,.inr rfl,.inr ?_,.inl rfl,.inl rfl,.inl rfl,.inl rfl,.inl rfl,.inl rfl,.inl rfl,.inl rfl,.inl rfl,.inl rfl,.inl rfl,.inl rfl,.inl rfl,.inl rfl,.inl rfl,.inl rfl,trivial⟩
   rw[g7,aU,aU];rfl
  rw[hkd];refine eu 4 rfl ?_
  refine aJ (cA 8 (d:=.int ((gL (bP ns)):Nat)) (VE.to (cQ ax (cw (bH C1 lR (ao (ae 2 rfl) (ao (ax) aQ)) ⟨bP ns,2,rfl,by first|decide|omega,by first|decide|omega,rfl⟩) ax (by decide))) (by rw[eg])) nd) ?_
  refine aJ (cA 9 (d:=cV (placesOf (bP ns))) (VO.ve (ko C2 E8 (ao (bH C1 lR (ao (ae 2 rfl) (ao (ax) aQ)) ⟨bP ns,4,rfl,by first|decide|omega,by first|decide|omega,rfl⟩) (ao (VE.to (k:=.int ((gL (bP ns))+(cq (bP ns) 5%4).toNat:Nat)) (cQ (ae 8 rfl) (cw (bH C1 lR (ao (ae 2 rfl) (ao (ax) aQ)) ⟨bP ns,5,rfl,by first|decide|omega,by first|decide|omega,rfl⟩) ax (by decide))) (by rw[ep])) aQ)) ⟨cq (bP ns) 4,(gL (bP ns))+(cq (bP ns) 5%4).toNat,rfl,by omega,rfl⟩)) nd) ?_
  refine aJ (KW 10 11 (d1:=cV ((placesOf (bP ns)).take (gL (bP ns)))) (d2:=cV (linesOf (bP ns))) (VE.to (VO.ve (gD (ds:=(placesOf (bP ns)).map .str) (ae 9 rfl) .no (.yes (ae 8 rfl)))) (by rw[lG,vg];rfl)) (VE.to (VO.ve (gD (ds:=(placesOf (bP ns)).map .str) (ae 9 rfl) (.yes (ae 8 rfl)) .no)) (by rw[lG,jI];rfl)) rfl nd (by decide)) ?_
  refine aJ (cA 12 (d:=cV (orderOf (bP ns))) (VE.to (VO.ve (nU (VO.ve (VO.to (k:=((placesOf (bP ns)).drop (m_ (bP ns) (placesOf (bP ns)).length)).map aK) (gD (ds:=(placesOf (bP ns)).map .str) (ae 9 rfl) (.yes (VE.to (k:=.int (m_ (bP ns) (placesOf (bP ns)).length:Nat)) (cw (bH C1 lR (ao (ae 2 rfl) (ao (ax) aQ)) ⟨bP ns,6,rfl,by first|decide|omega,by first|decide|omega,rfl⟩) (jA (ds:=(placesOf (bP ns)).map .str) (ae 9 rfl) n.len) (by rw[ai];omega)) (by rw[et,ai]))) .no) (by rw[lG,jI]))) (VO.ve (VO.to (k:=((placesOf (bP ns)).take (m_ (bP ns) (placesOf (bP ns)).length)).map aK) (gD (ds:=(placesOf (bP ns)).map .str) (ae 9 rfl) .no (.yes (VE.to (k:=.int (m_ (bP ns) (placesOf (bP ns)).length:Nat)) (cw (bH C1 lR (ao (ae 2 rfl) (ao (ax) aQ)) ⟨bP ns,6,rfl,by first|decide|omega,by first|decide|omega,rfl⟩) (jA (ds:=(placesOf (bP ns)).map .str) (ae 9 rfl) n.len) (by rw[ai];omega)) (by rw[et,ai])))) (by rw[lG,vg]))) (small (by simp only[ai,b_,b9];omega)))) (by rw[<-aU,hor];rfl)) nd) ?_
  refine aJ (cA 13 (d:=.list ((bQ (fz ns) (orderOf (bP ns)) (linesOf (bP ns))).map cn)) (VO.ve (ko C4 hr (ao (ae 3 rfl) (ao (ae 12 rfl) (ao (ae 11 rfl) aQ))) ⟨fz ns,(orderOf (bP ns)),(linesOf (bP ns)),rfl,by omega,by omega,by omega,rfl⟩)) nd) ?_
  refine aJ (kP 14 (fe aQ) nd) ?_
  have Uv:∀d∈(bQ (fz ns) (orderOf (bP ns)) (linesOf (bP ns))),lN d.to:=λd hd=>by
   obtain⟨j,_,rfl⟩:=av.mp hd;have hm:=(Cv (fz ns) (linesOf (bP ns)) j).2;rcases bS.mp hm with hm|hm
   ·exact(gQ (dU (show F2 (fz ns) (linesOf (bP ns)) j∈(placesOf (bP ns)).drop (gL (bP ns))from hm))).ok.2
   ·show lN (F2 (fz ns) (linesOf (bP ns)) j)
    rw[aV.mp hm];show cx (.str ("":Str))=true;symm
  refine aJ (mh (tgt:=.tup [5,6]) (o:=.nx [.val (iX ns),.val (.int (gW ns)),.val (.int (bP ns)),.val (.int (fz ns)),.val (.list ((cG (gW ns)).map lS)),.un,.un,.un,.val (.int (gL (bP ns))),.val (cV (placesOf (bP ns))),.val (cV ((placesOf (bP ns)).take (gL (bP ns)))),.val (cV (linesOf (bP ns))),.val (cV (orderOf (bP ns))),.val (.list ((bQ (fz ns) (orderOf (bP ns)) (linesOf (bP ns))).map cn)),.own (((aZ ((linesOf (bP ns)).length)).map (roomAt (bP ns) (bQ (fz ns) (orderOf (bP ns)) (linesOf (bP ns))) (linesOf (bP ns)))).map iY),.un,.un,.un,.un,.un,.un]) cK rfl (km (ds:=(linesOf (bP ns)).map .str) (ae 11 rfl) n.Hi)
   (gB rfl (bU (bL (i:=5) nd rfl (by first|exact a7 rfl|exact cj rfl)) (bU (bL (i:=6) nd rfl (by first|exact a7 rfl|exact cj rfl)) (fh)))) (λi=>[.val (iX ns),.val (.int (gW ns)),.val (.int (bP ns)),.val (.int (fz ns)),.val (.list ((cG (gW ns)).map lS)),.un,.un,.un,.val (.int (gL (bP ns))),.val (cV (placesOf (bP ns))),.val (cV ((placesOf (bP ns)).take (gL (bP ns)))),.val (cV (linesOf (bP ns))),.val (cV (orderOf (bP ns))),.val (.list ((bQ (fz ns) (orderOf (bP ns)) (linesOf (bP ns))).map cn)),.own (((aZ (i)).map (roomAt (bP ns) (bQ (fz ns) (orderOf (bP ns)) (linesOf (bP ns))) (linesOf (bP ns)))).map iY),.un,.un,.un,.un,.un,.un]) (linesOf (bP ns)).length rfl (by rw[cv,ai];exact ay _) (λi d hi hd=>?_) (.inl ⟨by rw[cv,ai],rfl⟩)) ?_
  ·obtain⟨x,hx,rfl⟩:=gi hd
   obtain⟨rfl,mL⟩:x=.str ((linesOf (bP ns)).getD i "")/\(linesOf (bP ns)).getD i ""∈(linesOf (bP ns)):=by
    rw[aI,aq (by omega)]at hx
    cases hx;rw[aD,aq (by omega)]
    exact⟨rfl,dR _⟩
   have okn:lN ((linesOf (bP ns)).getD i ""):=(gQ (dU (show(linesOf (bP ns)).getD i ""∈(placesOf (bP ns)).drop (gL (bP ns))from mL))).ok.2
   have nc:(["_law_desk","_law_name"]:List Str).Nodup:=by symm
   have Qg:(gX (bQ (fz ns) (orderOf (bP ns)) (linesOf (bP ns))) ((linesOf (bP ns)).getD i "")).length<=4:=cp (p_ _ _) JX;refine⟨_,rfl,?_⟩
   refine aJ (vf 15 (own:=["_law_desk"]) (cap:=[6]) (N:=["_law_desk","_law_name"]) (tgt:=.one 0) (F:=HK ((linesOf (bP ns)).getD i "")) (ds:=(bQ (fz ns) (orderOf (bP ns)) (linesOf (bP ns))).map cn) rfl ⟨rfl,by symm,by symm,rfl,rfl,?_⟩ (g8 (ae 13 rfl)) (λf s3 H3=>bL (i:=0) nc rfl (a7 rfl)) rfl (small (by rw[ai];omega)) (λd hd=>?_) nd) ?_
   ·intro j hj
    rcases aG.mp hj with rfl|hj
    ·exact⟨(by show(6:Nat)<21;decide),a7 rfl,rfl⟩
    ·cases hj
   ·obtain⟨dk,Ed,rfl⟩:=av.mp hd
    refine⟨_,rfl,λf s3 H3=>?_,λr iP f s3 H3=>?_⟩
    ·refine oK (VT.to (bR (k:=1) lR (bB (Uv dk Ed)) (bB okn) (bT (ae 0 rfl) ax rfl) (ae 1 rfl)) ?_)
     rw[uy,bO];by_cases h:dk.to=(linesOf (bP ns)).getD i ""
     ·rw[qQ1 h,qQ3 rfl];rfl
     ·rw[qQ0 h,qQ2 cz];rfl
    ·rw[uy]at iP
     split at iP
     ·cases iP
      exact bH C3 lR (ao (bT (ae 0 rfl) ax rfl) (ao (jW (ds:=dk.places.map .str) (bT (ae 0 rfl) ax rfl) n.len) aQ)) ⟨dk.rule,dk.places.length,by rw[ai],rfl⟩
     ·cases iP
   refine eu 15 rfl ?_
   rw[Jh];obtain⟨mx1,mx2⟩:=og (gX (bQ (fz ns) (orderOf (bP ns)) (linesOf (bP ns))) ((linesOf (bP ns)).getD i ""));refine jC (a_ (iF 14 rfl (d:=iY (roomAt (bP ns) (bQ (fz ns) (orderOf (bP ns)) (linesOf (bP ns))) (linesOf (bP ns)) i)) (eU (ao (ae 6 rfl) (ao (cQ (jG (IK rfl) (V9 (ns:=1::gX (bQ (fz ns) (orderOf (bP ns)) (linesOf (bP ns))) ((linesOf (bP ns)).getD i "")) mx1 mx2) (ao (VO.ve (nU (d1:=[.int 1]) (d2:=(gX (bQ (fz ns) (orderOf (bP ns)) (linesOf (bP ns))) ((linesOf (bP ns)).getD i "")).map .int) (VO.ve (fe (ds:=[.int 1]) (ao ax aQ))) (ae 15 rfl) (small (by simp only[ai,bJ,cN];omega)))) aQ) n.max rfl) (cw (bH C1 lR (ao (ae 2 rfl) (ao (cQ ax (ae 5 rfl)) aQ)) ⟨bP ns,20+(i:Int),rfl,by first|decide|omega,by first|decide|omega,rfl⟩) ax (by decide))) aQ))) (gj (by simp only[ai,bW];omega)))) ⟨.inr rfl,.inr rfl,.inr rfl,.inr rfl,.inr rfl,.inl rfl,.inl rfl,.inl rfl,.inr rfl,.inr rfl,.inr rfl,.inr rfl,.inr rfl,.inr rfl,.inr ?_,.inl rfl,.inl rfl,.inl rfl,.inl rfl,.inl rfl,.inl rfl,trivial⟩
   rw[g7,aU,aU];rfl
  refine eu 14 rfl ?_
  refine aJ (Ol 16 17 (fe aQ) (fe aQ) rfl nd (by decide)) ?_
  refine aJ (mh (tgt:=.tup [5,18]) (o:=.nx [.val (iX ns),.val (.int (gW ns)),.val (.int (bP ns)),.val (.int (fz ns)),.val (.list ((cG (gW ns)).map lS)),.un,.un,.un,.val (.int (gL (bP ns))),.val (cV (placesOf (bP ns))),.val (cV ((placesOf (bP ns)).take (gL (bP ns)))),.val (cV (linesOf (bP ns))),.val (cV (orderOf (bP ns))),.val (.list ((bQ (fz ns) (orderOf (bP ns)) (linesOf (bP ns))).map cn)),.val (.list (((aZ (linesOf (bP ns)).length).map (roomAt (bP ns) (bQ (fz ns) (orderOf (bP ns)) (linesOf (bP ns))) (linesOf (bP ns)))).map iY)),.un,.own ((gM (fz ns) (bQ (fz ns) (orderOf (bP ns)) (linesOf (bP ns))) (cG (gW ns)) ((bQ (fz ns) (orderOf (bP ns)) (linesOf (bP ns))).length)).map pP),.own ((je (fz ns) (bQ (fz ns) (orderOf (bP ns)) (linesOf (bP ns))) ((bQ (fz ns) (orderOf (bP ns)) (linesOf (bP ns))).length)).map pQ),.un,.un,.un]) cK rfl (km (ds:=(bQ (fz ns) (orderOf (bP ns)) (linesOf (bP ns))).map cn) (ae 13 rfl) n.Hi)
   (gB rfl (bU (bL (i:=5) nd rfl (by first|exact a7 rfl|exact cj rfl)) (bU (bL (i:=18) nd rfl (by first|exact a7 rfl|exact cj rfl)) (fh)))) (λi=>[.val (iX ns),.val (.int (gW ns)),.val (.int (bP ns)),.val (.int (fz ns)),.val (.list ((cG (gW ns)).map lS)),.un,.un,.un,.val (.int (gL (bP ns))),.val (cV (placesOf (bP ns))),.val (cV ((placesOf (bP ns)).take (gL (bP ns)))),.val (cV (linesOf (bP ns))),.val (cV (orderOf (bP ns))),.val (.list ((bQ (fz ns) (orderOf (bP ns)) (linesOf (bP ns))).map cn)),.val (.list (((aZ (linesOf (bP ns)).length).map (roomAt (bP ns) (bQ (fz ns) (orderOf (bP ns)) (linesOf (bP ns))) (linesOf (bP ns)))).map iY)),.un,.own ((gM (fz ns) (bQ (fz ns) (orderOf (bP ns)) (linesOf (bP ns))) (cG (gW ns)) (i)).map pP),.own ((je (fz ns) (bQ (fz ns) (orderOf (bP ns)) (linesOf (bP ns))) (i)).map pQ),.un,.un,.un]) (bQ (fz ns) (orderOf (bP ns)) (linesOf (bP ns))).length rfl (by rw[cv,ai];exact ay _) (λi d hi hd=>?_) (.inl ⟨by rw[cv,ai],rfl⟩)) ?_
  ·obtain⟨x,hx,rfl⟩:=gi hd
   obtain⟨dk,Ed,rfl⟩:∃dk,(bQ (fz ns) (orderOf (bP ns)) (linesOf (bP ns)))[i]?=some dk/\x=cn dk:=by
    rw[aI,aq (by omega)]at hx
    cases hx;exact⟨_,aq (by omega),rfl⟩
   refine⟨_,rfl,?_⟩
   refine aJ (cA 7 (d:=.int (cq (fz ns) (110+i))) (bH C1 lR (ao (ae 3 rfl) (ao (cQ ax (ae 5 rfl)) aQ)) ⟨fz ns,110+(i:Int),rfl,by first|decide|omega,by first|decide|omega,rfl⟩) nd) ?_
   have tsu:=qD (c:=fz ns) (kinds:=(cG (gW ns))) Ed;have hsu:=vn (c:=fz ns) Ed;have tle:=qE (fz ns) (bQ (fz ns) (orderOf (bP ns)) (linesOf (bP ns))) (cG (gW ns)) (by omega) i (by omega)
   have hle:=qF (fz ns) (bQ (fz ns) (orderOf (bP ns)) (linesOf (bP ns))) i (by omega)
   rw[tsu,hsu];have m0:=qC (fz ns) (110+i)
   generalize cq (fz ns) (110+i)=m at *
   refine aJ (mh (tgt:=.tup [19,20]) (o:=.nx [.val (iX ns),.val (.int (gW ns)),.val (.int (bP ns)),.val (.int (fz ns)),.val (.list ((cG (gW ns)).map lS)),.val (.int i),.un,.val (.int m),.val (.int (gL (bP ns))),.val (cV (placesOf (bP ns))),.val (cV ((placesOf (bP ns)).take (gL (bP ns)))),.val (cV (linesOf (bP ns))),.val (cV (orderOf (bP ns))),.val (.list ((bQ (fz ns) (orderOf (bP ns)) (linesOf (bP ns))).map cn)),.val (.list (((aZ (linesOf (bP ns)).length).map (roomAt (bP ns) (bQ (fz ns) (orderOf (bP ns)) (linesOf (bP ns))) (linesOf (bP ns)))).map iY)),.un,.own ((gM (fz ns) (bQ (fz ns) (orderOf (bP ns)) (linesOf (bP ns))) (cG (gW ns)) i++gf m dk.name (cG (gW ns)) ((cG (gW ns)).length)).map pP),.own ((je (fz ns) (bQ (fz ns) (orderOf (bP ns)) (linesOf (bP ns))) (i)).map pQ),.val (cn dk),.un,.un]) cK rfl (km (ds:=(cG (gW ns)).map lS) (ae 4 rfl) n.Hi)
    (gB rfl (bU (bL (i:=19) nd rfl (by first|exact a7 rfl|exact cj rfl)) (bU (bL (i:=20) nd rfl (by first|exact a7 rfl|exact cj rfl)) (fh)))) (λj=>[.val (iX ns),.val (.int (gW ns)),.val (.int (bP ns)),.val (.int (fz ns)),.val (.list ((cG (gW ns)).map lS)),.val (.int i),.un,.val (.int m),.val (.int (gL (bP ns))),.val (cV (placesOf (bP ns))),.val (cV ((placesOf (bP ns)).take (gL (bP ns)))),.val (cV (linesOf (bP ns))),.val (cV (orderOf (bP ns))),.val (.list ((bQ (fz ns) (orderOf (bP ns)) (linesOf (bP ns))).map cn)),.val (.list (((aZ (linesOf (bP ns)).length).map (roomAt (bP ns) (bQ (fz ns) (orderOf (bP ns)) (linesOf (bP ns))) (linesOf (bP ns)))).map iY)),.un,.own ((gM (fz ns) (bQ (fz ns) (orderOf (bP ns)) (linesOf (bP ns))) (cG (gW ns)) i++gf m dk.name (cG (gW ns)) (j)).map pP),.own ((je (fz ns) (bQ (fz ns) (orderOf (bP ns)) (linesOf (bP ns))) (i)).map pQ),.val (cn dk),.un,.un]) (cG (gW ns)).length (by show([.val (iX ns),.val (.int (gW ns)),.val (.int (bP ns)),.val (.int (fz ns)),.val (.list ((cG (gW ns)).map lS)),.val (.int i),.un,.val (.int m),.val (.int (gL (bP ns))),.val (cV (placesOf (bP ns))),.val (cV ((placesOf (bP ns)).take (gL (bP ns)))),.val (cV (linesOf (bP ns))),.val (cV (orderOf (bP ns))),.val (.list ((bQ (fz ns) (orderOf (bP ns)) (linesOf (bP ns))).map cn)),.val (.list (((aZ (linesOf (bP ns)).length).map (roomAt (bP ns) (bQ (fz ns) (orderOf (bP ns)) (linesOf (bP ns))) (linesOf (bP ns)))).map iY)),.un,.own ((gM (fz ns) (bQ (fz ns) (orderOf (bP ns)) (linesOf (bP ns))) (cG (gW ns)) i++gf m dk.name (cG (gW ns)) (0)).map pP),.own ((je (fz ns) (bQ (fz ns) (orderOf (bP ns)) (linesOf (bP ns))) (i)).map pQ),.val (cn dk),.un,.un]:List Slot)=_;rw[show gf m dk.name (cG (gW ns)) 0=[]from rfl,eI];rfl) (by rw[cv,ai];exact ay _) (λj d hj hd=>?_) (.inl ⟨by rw[cv,ai],rfl⟩)) ?_
   ·obtain⟨x,hx,rfl⟩:=gi hd
    obtain⟨kd,zar,rfl⟩:∃kd,(cG (gW ns))[j]?=some kd/\x=lS kd:=by
     rw[aI,aq (by omega)]at hx
     cases hx;exact⟨_,aq (by omega),rfl⟩
    have rle:=sx m dk.name (cG (gW ns)) j;have jj0:(0:Int)<=(j:Int)*j:=Int.mul_nonneg (by omega) (by omega)
    have jj1:(j:Int)*j<=60*60:=Int.mul_le_mul (by omega) (by omega) (by omega) (by omega)
    refine⟨_,rfl,?_⟩
    rw[t_ zar];by_cases ht:decide (0<m/((j:Int)+7)%3)=true
    ·have et:ux m dk.name (kd,j)=some (dk.name,kd.1,1+m/((j:Int)*j+2)%6):=by show(if _ then _ else _)=_;rw[qQ3 ht]
     rw[et];refine jC (a_ (dN (VT.to (yJ (cw (eK (ae 7 rfl) (cQ (ae 19 rfl) ax) ⟨by omega,by omega⟩) ax (by decide)) ax) ht) (a_ (iF 16 rfl (d:=pP (dk.name,kd.1,1+m/((j:Int)*j+2)%6)) (eU (ao (bT (ae 18 rfl) ax rfl) (ao (bT (ae 20 rfl) ax rfl) (ao (cQ ax (cw (eK (ae 7 rfl) (cQ (o4 (ae 19 rfl) (ae 19 rfl) (.inl ⟨by omega,by omega⟩)) ax) ⟨by omega,by omega⟩) ax (by decide))) aQ)))) (gj (by simp only[ai,aY];omega)))))) ⟨.inr rfl,.inr rfl,.inr rfl,.inr rfl,.inr rfl,.inr rfl,.inl rfl,.inr rfl,.inr rfl,.inr rfl,.inr rfl,.inr rfl,.inr rfl,.inr rfl,.inr rfl,.inl rfl,.inr ?_,.inr rfl,.inr rfl,.inl rfl,.inl rfl,trivial⟩
     rw[<-cP,aU (l₂:=Option.toList _)];rfl
    ·have et:ux m dk.name (kd,j)=none:=by show(if _ then _ else _)=_;rw[qQ2 ht]
     rw[et];refine jC (a_ (bX (VT.to (yJ (cw (eK (ae 7 rfl) (cQ (ae 19 rfl) ax) ⟨by omega,by omega⟩) ax (by decide)) ax) (by simpa using ht)) bM)) ⟨.inr rfl,.inr rfl,.inr rfl,.inr rfl,.inr rfl,.inr rfl,.inl rfl,.inr rfl,.inr rfl,.inr rfl,.inr rfl,.inr rfl,.inr rfl,.inr rfl,.inr rfl,.inl rfl,.inr ?_,.inr rfl,.inr rfl,.inl rfl,.inl rfl,trivial⟩
     rw[Option.toList_none,eI]
   have rle:=sx m dk.name (cG (gW ns)) (cG (gW ns)).length;have e5:cI (.int (m/5%4)) (.int 0)=decide (m/5%4=0):=jX _ _;by_cases h5:m/5%4=0
   ·have eh:kM m dk.name=[(dk.name,m/20%9,9+m/180%20),(dk.name,25+m/3600%20,50+m/72000%40)]:=by unfold kM;rw[qQ3 h5]
    rw[eh];refine jC (a_ (dN (VT.to (bR (k:=1) lR (cu 20 _) (cu 20 _) (cw (eK (ae 7 rfl) ax ⟨by decide,by decide⟩) ax (by decide)) ax) (by rw[e5,qQ1 h5])) (aJ (iF 17 rfl (d:=pQ (dk.name,m/20%9,9+m/180%20)) (eU (ao (bT (ae 18 rfl) ax rfl) (ao (cw (eK (ae 7 rfl) ax ⟨by decide,by decide⟩) ax (by decide)) (ao (cQ ax (cw (eK (ae 7 rfl) ax ⟨by decide,by decide⟩) ax (by decide))) aQ)))) (gj (by simp only[ai];omega))) (a_ (iF 17 rfl (d:=pQ (dk.name,25+m/3600%20,50+m/72000%40)) (eU (ao (bT (ae 18 rfl) ax rfl) (ao (cQ ax (cw (eK (ae 7 rfl) ax ⟨by decide,by decide⟩) ax (by decide))) (ao (cQ ax (cw (eK (ae 7 rfl) ax ⟨by decide,by decide⟩) ax (by decide))) aQ)))) (gj (by simp only[ai,aY,bJ,cN];omega))))))) ⟨.inr rfl,.inr rfl,.inr rfl,.inr rfl,.inr rfl,.inl rfl,.inl rfl,.inl rfl,.inr rfl,.inr rfl,.inr rfl,.inr rfl,.inr rfl,.inr rfl,.inr rfl,.inl rfl,.inr rfl,.inr ?_,.inl rfl,.inl rfl,.inl rfl,trivial⟩
    rw[aU (l₂:=[_,_]),cP];rfl
   ·have eh:kM m dk.name=[]:=by unfold kM;rw[qQ2 h5]
    rw[eh,eI];exact jC (a_ (bX (VT.to (bR (k:=1) lR (cu 20 _) (cu 20 _) (cw (eK (ae 7 rfl) ax ⟨by decide,by decide⟩) ax (by decide)) ax) (by rw[e5,qQ0 h5])) bM)) ⟨.inr rfl,.inr rfl,.inr rfl,.inr rfl,.inr rfl,.inl rfl,.inl rfl,.inl rfl,.inr rfl,.inr rfl,.inr rfl,.inr rfl,.inr rfl,.inr rfl,.inr rfl,.inl rfl,.inr rfl,.inr rfl,.inl rfl,.inl rfl,.inl rfl,trivial⟩
  refine eu 16 rfl ?_
  refine eu 17 rfl ?_
  refine a_ (cg (Cd (.cons aN (ae 4 rfl) (.cons aN (ae 10 rfl) (.cons aN (ae 14 rfl) (.cons aN (ae 13 rfl) (.cons aN (ae 16 rfl) (.cons aN (ae 17 rfl) (.cons aN (VO.ve (fe aQ)) .nil))))))) (show([("kinds":Str),"gates","lines","desks","times","hours","paces"]).Nodup by symm) (by simp[eE]) (by show 7<=15;decide)))
end
end Mg
namespace Mg
open L2 PySem PyProof.Rows
variable{n:Int}{c:Nat}{x:Str}
theorem L0(p:Pl):gU (eE p) "kinds"=some (.list (p.kinds.map lS)):=fK rfl
theorem Ee(p:Pl):gU (eE p) "gates"=some (cV p.gates):=(cW (show ¬(("kinds":Str)="gates") by symm)).trans (fK rfl)
theorem zj(p:Pl):gU (eE p) "lines"=some (.list (p.lines.map iY)):=(cW (show ¬(("kinds":Str)="lines") by symm)).trans ((cW (show ¬(("gates":Str)="lines") by symm)).trans (fK rfl))
theorem oh(p:Pl):gU (eE p) "desks"=some (.list (p.desks.map cn)):=(cW (show ¬(("kinds":Str)="desks") by symm)).trans ((cW (show ¬(("gates":Str)="desks") by symm)).trans ((cW (show ¬(("lines":Str)="desks") by symm)).trans (fK rfl)))
theorem L1(p:Pl):gU (eE p) "times"=some (.list (p.times.map pP)):=(cW (show ¬(("kinds":Str)="times") by symm)).trans ((cW (show ¬(("gates":Str)="times") by symm)).trans ((cW (show ¬(("lines":Str)="times") by symm)).trans ((cW (show ¬(("desks":Str)="times") by symm)).trans (fK rfl))))
theorem L3(p:Pl):gU (eE p) "hours"=some (.list (p.hours.map pQ)):=(cW (show ¬(("kinds":Str)="hours") by symm)).trans ((cW (show ¬(("gates":Str)="hours") by symm)).trans ((cW (show ¬(("lines":Str)="hours") by symm)).trans ((cW (show ¬(("desks":Str)="hours") by symm)).trans ((cW (show ¬(("times":Str)="hours") by symm)).trans (fK rfl)))))
theorem L4(p:Pl):gU (eE p) "paces"=some (.list []):=(cW (show ¬(("kinds":Str)="paces") by symm)).trans ((cW (show ¬(("gates":Str)="paces") by symm)).trans ((cW (show ¬(("lines":Str)="paces") by symm)).trans ((cW (show ¬(("desks":Str)="paces") by symm)).trans ((cW (show ¬(("times":Str)="paces") by symm)).trans ((cW (show ¬(("hours":Str)="paces") by symm)).trans (fK rfl))))))
def pickOf{α:Type}(l:List α)(d:α)(j:Int):α:=l.getD (j%l.length).toNat d
theorem HL{α:Type}{l:List α}{d:α}{F:α->aj}(h:1<=l.length)(j:Int):nQ (l.map F) (j%(l.length:Int))=some (F (pickOf l d j))/\pickOf l d j∈l:=by
 unfold pickOf;have a1:0<=j%(l.length:Int):=a8 _ (by omega)
 have a2:j%(l.length:Int)<l.length:=bo _ (by omega)
 generalize j%(l.length:Int)=i at *
 obtain⟨n,rfl⟩:=lK a1;have hn:n<l.length:=by omega
 have e:l.getD ((n:Int)).toNat d=l[n]:=by rw[fu,aD,aq hn];rfl
 rw[e];exact⟨bE (by rw[aI,aq hn];rfl),dR hn⟩
structure Ka(K:au):Prop where
 ss:eC K (.type "str") (.type "str")=some true
 is:eC K (.type "int") (.type "str")=some false
 ts:eC K (.type "tuple") (.type "str")=some false
 ls:eC K (.type "list") (.type "str")=some false
 ii:eC K (.type "int") (.type "int")=some true
 ti:eC K (.type "tuple") (.type "int")=some false
 li:eC K (.type "list") (.type "int")=some false
 ib:eC K (.type "int") (.type "bool")=some false
 tt:eC K (.type "tuple") (.type "tuple")=some true
 tl:eC K (.type "tuple") (.type "list")=some false
 lt:eC K (.type "list") (.type "tuple")=some false
 ll:eC K (.type "list") (.type "list")=some true
def zas:aj->Bool
 | .none=>true
 |_=>false
theorem pR{K:au}{d:aj}:Ao K (λx y H Q=>y=.non/\Q (.bl (decide (x=.non))) H) d .none (.bool (zas d)):=λv u H0 H Q s r1 r2 k=>by
 cases r2;refine⟨rfl,k _ _ _ (.refl s) ?_⟩
 cases r1<;>exact .bl _
structure Na(mg:Str->Option aE):Prop extends Nm mg where
 str:mg "str"=none
 all:mg "all"=none
def Yj:aj->Option aj:=λ_=>some (.bool true)
theorem Cy:∀l:List aj,l.filterMap Yj=(bh l.length true).map .bool
 | []=>rfl
 |d::l=>by rw[cX (f:=Yj) (b:=.bool true) rfl,Cy l];rfl
theorem Bl(n:Nat):qR (bh n true)=true:=by
 unfold qR;rw[eO];intro b hb;exact(fB.mp hb).2
def Bm(c:Nat):List (List Nat)->List Nat
 | []=>[]
 | [x]=>x
 |x::y::r=>x++c::Bm c (y::r)
theorem Ef:∀{a b r s:List Nat},c∉a->c∉b->a++c::r=b++c::s->a=b/\r=s
 | [],[],r,s,_,_,h=>⟨rfl,(kA h).2⟩
 | [],y::b,r,s,_,hb,h=>qQ7 (kA h).1 (λz=>hb (by rw[z];exact aL))
 |x::a,[],r,s,ha,_,h=>qQ7 (kA h).1 (λz=>ha (by rw[<-z];exact aL))
 |x::a,y::b,r,s,ha,hb,h=>by
  obtain⟨h1,h2⟩:=kA h;obtain⟨h3,h4⟩:=Ef (λz=>ha (aT _ z)) (λz=>hb (aT _ z)) h2
  exact⟨by rw[h1,h3],h4⟩
theorem Bn{c:Nat}:∀{ps qs:List (List Nat)},ps≠[]->qs≠[]->(∀p∈ps,c∉p)->(∀p∈qs,c∉p)->Bm c ps=Bm c qs->ps=qs
 | [],_,h,_,_,_,_=>qQ7 rfl h
 |_,[],_,h,_,_,_=>qQ7 rfl h
 | [x],[y],_,_,_,_,h=>by have h:x=y:=h;rw[h]
 | [x],y::y2::qs,_,_,hp,_,h=>by
  have h:x=y++c::Bm c (y2::qs):=h;exact qQ7 (by rw[h];exact b0 _ aL) (hp x aL)
 |x::x2::ps,[y],_,_,_,hq,h=>by
  have h:x++c::Bm c (x2::ps)=y:=h;exact qQ7 (by rw[<-h];exact b0 _ aL) (hq y aL)
 |x::x2::ps,y::y2::qs,_,_,hp,hq,h=>by
  obtain⟨h1,h2⟩:=Ef (hp x aL) (hq y aL) h;have:=Bn (ps:=x2::ps) (qs:=y2::qs) (by simp) (by simp) (λp z=>hp p (aT _ z)) (λp z=>hq p (aT _ z)) h2
  rw[h1,this]
theorem add_list(x y:Str):(x++y).cps.toList=x.cps.toList++y.cps.toList:=by
 show(x.cps++y.cps).toList=_
 simp
theorem str_inj{y: Str}(h:x.cps.toList=y.cps.toList):x=y:=Str.ext' (Array.toList_inj.mp h)
theorem join_list(c:Nat):∀ps:List Str,(c9 (one c) ps).cps.toList=Bm c (ps.map λp=>p.cps.toList)
 | []=>rfl
 | [x]=>rfl
 |x::y::r=>by
  show(x++one c++c9 (one c) (y::r)).cps.toList=_
  rw[add_list,add_list,join_list c (y::r)];show x.cps.toList ++ [c]++_=x.cps.toList++c::_;simp
theorem vp(x y:Str):cJ x y≠[]:=by
 intro h;unfold cJ at h
 split at h
 ·cases h
 ·split at h
  ·cases h
  ·have:=qQ6 fq h
   rw[xC]at this;simp at this
theorem uz{ps:List Str}(h:ps≠[])(hf:∀p∈ps,c∉p.cps.toList):cJ (c9 (one c) ps) (one c)=ps:=by
 have h1:=nM (c9 (one c) ps) (one c);have h2:=nO (c9 (one c) ps) c;have h3:=vp (c9 (one c) ps) (one c)
 generalize hq:cJ (c9 (one c) ps) (one c)=qs at *
 have h2:∀p∈qs,c∉p.cps.toList:=by rw[<-hq];exact nO (c9 (one c) ps) c
 have e:=qQ6 (λs:Str=>s.cps.toList) h1
 simp only[join_list]at e;have:=Bn (c:=c) (ps:=qs.map λp=>p.cps.toList) (qs:=ps.map λp=>p.cps.toList) (by simpa using h3) (by simpa using h)
  (λp hp=>by obtain⟨q,hq,rfl⟩:=av.mp hp;exact h2 q hq) (λp hp=>by obtain⟨q,hq,rfl⟩:=av.mp hp;exact hf q hq) e
 have inj:∀{l m:List Str},(l.map λp=>p.cps.toList)=(m.map λp=>p.cps.toList)->l=m:=by
  intro l
  induction l with
  |nil=>intro m hm;cases m with|nil=>rfl|cons _ _=>cases hm
  |cons x l ih=>
   intro m hm;cases m with
   |nil=>cases hm
   |cons y m=>
    obtain⟨a1,a2⟩:=kA hm;rw[str_inj a1,ih a2]
 exact inj this
theorem Eg(c:Nat):∀{ps qs:List Str},ps≠[]->qs≠[]->c9 (one c) (ps++qs)=c9 (one c) ps++one c++c9 (one c) qs
 | [],_,h,_=>qQ7 rfl h
 | [x],q::qs,_,_=>rfl
 | [x],[],_,h=>qQ7 rfl h
 |x::y::r,qs,_,h=>by
  show x++one c++c9 (one c) ((y::r)++qs)=_;rw[Eg c (ps:=y::r) (by simp) h]
  apply str_inj;show _=(x++one c++c9 (one c) (y::r)++one c++c9 (one c) qs).cps.toList;simp only[add_list,cP]
theorem Ji(c:Nat)(x y:Str):cJ (x++one c++y) (one c)=cJ x (one c)++cJ y (one c):=by
 have e:x++one c++y=c9 (one c) (cJ x (one c)++cJ y (one c)):=by
  rw[Eg c (vp _ _) (vp _ _),nM,nM]
 rw[e];refine uz (by simp[vp]) λp hp=>?_
 rcases bS.mp hp with hp|hp
 ·exact nO x c p hp
 ·exact nO y c p hp
theorem zl(h:c∉x.cps.toList):cJ x (one c)=[x]:=by
 have:=uz (c:=c) (ps:=[x]) (by simp) (λp hp=>by rw[aV.mp hp];exact h)
 exact this
theorem wA:(" ":Str)=one 32:=by symm
theorem Tt:("\n":Str)=one 10:=by symm
theorem mn(x y:Str):wordsOf (x++" "++y)=wordsOf x++wordsOf y:=by
 unfold wordsOf;rw[wA,Ji,List.filter_append]
theorem zm:wordsOf ""=[]:=by
 unfold wordsOf;rw[wA,zl (by symm)]
 rfl
theorem wB{w:Str}(h:w≠"")(hb:32∉w.cps.toList):wordsOf w=[w]:=by
 unfold wordsOf;rw[wA,zl hb,jv,qQ3 (by simpa using h)]
 rfl
theorem Jj(x y z:Str):x++y++z=x++(y++z):=by
 apply str_inj;simp only[add_list,cP]
theorem Jk(x:Str):x++""=x:=by
 apply str_inj;rw[add_list];show x.cps.toList ++ []=_;simp
theorem empty_app(x:Str):""++x=x:=by
 apply str_inj;rw[add_list];rfl
theorem zo(x:Str)(n:Nat):j3 x (n+1)=x++j3 x n:=by
 apply str_inj;rw[add_list]
 show(x.cps++(j3 x n).cps).toList=_
 simp
theorem F4(n:Nat)(y:Str):wordsOf (j3 " " n++y)=wordsOf y:=by
 induction n with
 |zero=>rw[show j3 " " 0="" from rfl,empty_app]
 |succ n ih=>
  have e:j3 " " (n+1)++y=""++" "++(j3 " " n++y):=by rw[zo,empty_app,Jj]
  rw[e,mn,zm,ih];rfl
theorem Jl(n:Nat)(x y:Str):wordsOf (x++j3 " " (n+1)++y)=wordsOf x++wordsOf y:=by
 have e:x++j3 " " (n+1)++y=x++" "++(j3 " " n++y):=by rw[zo];apply str_inj;simp only[add_list,cP]
 rw[e,mn,F4]
theorem zp(n:Nat):∀{ws:List Str},(∀w∈ws,w≠""/\32∉w.cps.toList)->wordsOf (c9 (j3 " " (n+1)) ws)=ws
 | [],_=>zm
 | [w],h=>wB (h w aL).1 (h w aL).2
 |w::v::ws,h=>by
  show wordsOf (w++j3 " " (n+1)++c9 (j3 " " (n+1)) (v::ws))=_;rw[Jl,wB (h w aL).1 (h w aL).2,zp n (λu hu=>h u (aT _ hu))]
  rfl
theorem oO{ws:List Str}(h:∀w∈ws,w≠""/\32∉w.cps.toList):wordsOf (c9 " " ws)=ws:=by
 have e:j3 " " (0+1)=" ":=by rw[zo,show j3 " " 0="" from rfl,Jk]
 have:=zp 0 h;rw[e]at this;exact this
theorem Jm{rows:List Str}(h0:rows≠[])(h:∀r∈rows,10∉r.cps.toList):rowsOf (c9 "\n" rows)=rows.zipIdx.filterMap λp=>if(wordsOf p.1).isEmpty then none else some (p.2,wordsOf p.1):=by
 unfold rowsOf;rw[Tt,uz h0 h]
def dJ(n:Int):Str:=oA (toString n)
theorem Cz{m:Nat}(h:¬m<10):ja 10 m=ja 10 (m/10) ++ [Nat.digitChar (m%10)]:=by
 have hm:m%10<10:=rP m (by decide)
 have t:ja 10 (m/10)++ja 10 (m%10)=ja 10 (10*(m/10)+m%10):=Nat.toDigits_append_toDigits (by decide) (by omega) hm
 rw[Nat.div_add_mod]at t;rw[<-t,lL hm]
theorem HM:∀(k m:Nat),1<=k->m<10^k->(ja 10 m).length<=k
 |0,_,h,_=>by omega
 |k+1,m,_,h=>by
  by_cases hm:m<10
  ·rw[lL hm];simp
  ·rw[Cz hm,aY]
   have hk:1<=k:=by
    rcases vT k with rfl|hk
    ·exact qQ7 h (by simpa using hm)
    ·exact hk
   have h10:m/10<10^k:=by rw[Nat.div_lt_iff_lt_mul (by decide)];rw[Nat.pow_succ]at h;exact h
   have:=HM k (m/10) hk h10;simp only[iB];omega
theorem O6(m:Nat):1<=(ja 10 m).length:=by
 by_cases hm:m<10
 ·rw[lL hm];simp
 ·rw[Cz hm,aY];simp
theorem L5(m:Nat)(h:0<m):∃c,(ja 10 m).head?=some c/\c≠'0':=by
 induction m using Nat.strongRecOn with
 |_ m ih=>
  by_cases hm:m<10
  ·rw[lL hm]
   refine⟨_,rfl,?_⟩
   have:∀d:Nat,d<10->0<d->Nat.digitChar d≠'0':=by decide
   exact this m hm h
  ·obtain⟨c,h1,h2⟩:=ih (m/10) (by omega) (by omega)
   refine⟨c,?_,h2⟩
   rw[Cz hm,List.head?_append,h1]
   rfl
theorem wC(h0:0<=n):(dJ n).cps.toList=(ja 10 n.toNat).map Char.toNat:=by
 obtain⟨m,rfl⟩:=lK h0;exact PySem.W.KIN.signs_num m
theorem mq(h0:0<=n)(hc:c∈(dJ n).cps.toList):48<=c/\c<=57:=by
 rw[wC h0]at hc;obtain⟨ch,Fh,e⟩:=av.mp hc;have r:=digit_range (Nat.isDigit_of_mem_toDigits (by decide) (by decide) Fh)
 rw[<-e];exact r
theorem yd(h0:0<=n)(h1:n<1000000):1<=(dJ n).length/\(dJ n).length<=6:=by
 have e:(dJ n).length=(ja 10 n.toNat).length:=by
  show(dJ n).cps.size=_
  rw[<-c0,wC h0,ai]
 rw[e];exact⟨O6 _,HM 6 _ (by decide) (by omega)⟩
theorem Eh:("0123456789":Str).cps.toList=(aZ 10).map (48 + ·):=by symm
theorem o9(h0:0<=n)(h1:n<1000000):vm (dJ n):=by
 refine⟨by have:=yd h0 h1;omega,(ni _).mpr λc hc=>?_⟩
 have:=mq h0 hc;omega
theorem zq(h0:0<=n)(h1:n<1000000):isNumber (dJ n)=true:=by
 obtain⟨l1,l2⟩:=yd h0 h1;have em:o7 "0123456789" 6 (dJ n)=true:=by
  unfold o7;rw[qQ1 (by omega),qQ1 (by omega),j0,j0,eO]
  intro c hc;have hd:=mq h0 hc;have:Ca (one c) "0123456789"=decide (c∈("0123456789":Str).cps.toList):=uV ..;rw[this,Eh];exact qQ1 (av.mpr ⟨c-48,cL.mpr (by omega),by omega⟩)
 unfold isNumber;rw[em,j0];by_cases hn:n=0
 ·subst hn
  rw[qQ1 (show dJ 0="0" by symm)]
  rfl
 ·obtain⟨c,c1,c2⟩:=L5 n.toNat (by omega)
  have hh:(dJ n).cps.toList.head?=some c.toNat:=by
   rw[wC h0,List.head?_map,c1]
   rfl
  rw[hh];have:one c.toNat≠"0":=by
   intro z;have z2:(one c.toNat).cps.toList=("0":Str).cps.toList:=by rw[z]
   have z3:[c.toNat]=[48]:=z2;have z4:c.toNat=48:=by simpa using z3
   exact c2 (Char.toNat_inj.mp z4)
  show(_ || !decide (one c.toNat="0"))=true
  rw[qQ0 this];simp
theorem num_reads(h0:0<=n)(h1:n<1000000):intText? (dJ n)=some n:=PySem.W.KIN.num_reads h0 (by omega)
theorem oi(h0:0<=n)(h1:n<1000000):dJ n≠""/\32∉(dJ n).cps.toList/\10∉(dJ n).cps.toList:=by
 refine⟨λz=>?_,λz=>?_,λz=>?_⟩
 ·have:=(yd h0 h1).1
  rw[z]at this;exact qQ7 this (by decide)
 ·have:=mq h0 z;omega
 ·have:=mq h0 z;omega
theorem iG(h:dM x):x≠""/\32∉x.cps.toList/\10∉x.cps.toList:=by
 refine⟨λz=>?_,λz=>?_,λz=>?_⟩
 ·have:=h.1
  rw[z]at this;exact qQ7 this (by decide)
 ·have:=h.2.2 _ z;omega
 ·have:=h.2.2 _ z;omega
end Mg
namespace Mg
open L2 PySem PyProof.Rows
seal L2.VE L2.VS L2.pC L2.VT L2.VO L2.Sr
variable{fd:gJ}
def dI(i:Int):Prop:=0<=i/\i<1000000
theorem dI.log{i:Int}(h:dI i):i.natAbs.log2<1920:=by
 have:i.natAbs<2^20:=by have:=h.1;have:=h.2;omega
 have h2:i.natAbs.log2<=20:=by
  rcases vT i.natAbs with e|e
  ·rw[e];decide
  ·exact rD ((Nat.log2_lt (by omega)).mpr this)
 omega
def E9:aj->Prop
 | .none=>True
 | .int i=>dI i
 | .str x=>x=""\/dM x
 |_=>False
def eQ:aj->Str
 | .str x=>if x="" then "-" else x
 | .int i=>dJ i
 |_=>"-"
section
variable{P:bK}{w:cB}{K:au}{mg:Str->Option aE}{base:dg}{f:aR}{k:Nat}
theorem WW:cC ["_law_thing"] ["_law_thing"] (bC (top 50)):=⟨rfl,rfl,rfl,by symm,rfl,by symm,by symm⟩
def Rda(ds:List aj)(d:aj):Prop:=∃x,ds=[x]/\E9 x/\d=.str (eQ x)
theorem zau(F:k9 K "_law_dash" "_law_dash" (top 50) f fd)(n:Na mg):ft P w K mg base jP 1 f fd ["_law_thing"] (g_ K Rda):=
 jR F WW (λ_ _ h=>by obtain⟨_,rfl,_⟩:=h;rfl) λ_ _ h=>by
  obtain⟨x,rfl,ho,rfl⟩:=h;intro fV A outer s H E hr;have l0:Lay 20 (.str ""):=bB (by symm)
  cases x with
  |none=>exact di (dN (VT.to (j_ (k2:=true) (ji lX pR (ae 0 rfl) gP (gC _)) (λz=>by cases z)) rfl) (a_ (cg aN))) rfl
  |int i=>
   refine aJ (bX (VT.to (j_ (ji lX pR (ae 0 rfl) gP (gC _)) (λ_=>bR hr (cu 20 _) l0 (ae 0 rfl) aN)) rfl) bM) ?_
   exact a_ (cg (sW (ae 0 rfl) (dI.log ho) n.str))
  |str z=>
   have oz:lN z:=by
    rcases ho with rfl|ho
    ·show cx (.str ("":Str))=true;symm
    ·exact ho.ok.2
   by_cases hz:z=""
   ·refine di (dN (VT.to (j_ (ji lX pR (ae 0 rfl) gP (gC _)) (λ_=>bR hr (bB oz) l0 (ae 0 rfl) aN)) ?_) (a_ (cg (VE.to aN ?_)))) rfl
    ·rw[bO,qQ1 hz];rfl
    ·show aK "-"=.str (if z="" then "-" else z);rw[qQ3 hz]
   ·refine aJ (bX (VT.to (j_ (ji lX pR (ae 0 rfl) gP (gC _)) (λ_=>bR hr (bB oz) l0 (ae 0 rfl) aN)) ?_) bM) ?_
    ·rw[bO,qQ0 hz];rfl
    ·refine a_ (cg (VE.to (Oq (ae 0 rfl) n.str) ?_))
     show aK z=.str (if z="" then "-" else z);rw[qQ2 hz]
  |_=>exact ho.elim
def zr:Rl->Prop
 | .meet=>True
 | .gather m a=>dI m/\dI a
 | .many m=>dI m
 | .rank none=>True
 | .rank (some b)=>dI b
 | .turns s=>s.length<=60/\∀z∈s,dI z
 | .eldest=>True
def c6:Rl->List Str
 | .turns s=>"turns"::s.map dJ
 |r=>n_ r::(rB r).map eQ
def pS(r:Rl):Str:=c9 " " (c6 r)
theorem WX:cC ["_law_rule_here"] ["_law_rule_here"] (bC (top 51)):=⟨rfl,rfl,rfl,by symm,rfl,by symm,by symm⟩
def Rrt(ds:List aj)(d:aj):Prop:=∃r,ds=[za r]/\zr r/\d=.str (pS r)
def WY:aj->Option aj
 | .int i=>some (.str (dJ i))
 |_=>none
theorem L6(l:List Int):(l.map fN).filterMap WY=(l.map dJ).map .str:=by
 rw[cY,aS];exact filterMap_some λk _=>rfl
def QI:aj->Option aj:=λd=>some (.str (eQ d))
theorem Jn(l:List aj):l.filterMap QI=(l.map eQ).map .str:=by
 rw[aS];exact filterMap_some λk _=>rfl
theorem iH{i:Int}(h:dI i):(dJ i).length<=6:=(yd h.1 h.2).2
theorem pT:∀{l:List Str}{b:Nat},(∀x∈l,x.length<=b)->(l.map (·.length)).sum<=l.length*b
 | [],_,_=>by simp
 |x::l,b,h=>by
  have h1:=h x aL;have h2:=pT λy hy=>h y (aT _ hy)
  rw[aH,Dp,bJ,Nat.add_mul];omega
theorem kT{d:aj}(h:E9 d):(eQ d).length<=8:=by
 cases d with
 |none=>decide
 |int i=>exact cp (iH h) (by decide)
 |str x=>
  show(if x="" then("-":Str)else x).length<=8
  split
  ·decide
  ·rename_i hx
   rcases h with h|h
   ·exact qQ7 h hx
   ·have:=h.2.1
    rw[c0]at this;exact this
 |_=>exact h.elim
theorem zt{r:Rl}(ht:∀s,r≠.turns s)(h:zr r):∀d∈rB r,E9 d:=by
 intro d hd;cases r with
 |meet=>cases hd
 |eldest=>cases hd
 |gather m a=>
  rcases aG.mp hd with rfl|hd
  ·exact h.1
  ·rw[aV.mp hd];exact h.2
 |many m=>rw[aV.mp hd];exact h
 |rank b=>rw[aV.mp hd];cases b with|none=>trivial|some b=>exact h
 |turns s=>exact qQ7 rfl (ht s)
theorem zav(F:k9 K "_law_rule_text" "_law_rule_text" (top 51) f fd)(n:Na mg)(C:bD P w K mg base 1 "_law_dash" ["_law_thing"] (g_ K Rda)):ft P w K mg base jP 2 f fd ["_law_rule_here"] (g_ K Rrt):=
 jR F WX (λ_ _ h=>by obtain⟨_,rfl,_⟩:=h;rfl) λ_ _ h=>by
  obtain⟨r,rfl,ho,rfl⟩:=h;intro fV A outer s H E hr;have oR:lN (n_ r):=by cases r<;>dsimp only[n_,lN]<;>symm
  have lT:Lay 20 (.str "turns"):=bB (by symm)
  have h0:nQ (aK (n_ r)::rB r) 0=some (.str (n_ r)):=bE (j:=0) rfl;by_cases ht:∃sh,r=.turns sh
  ·obtain⟨sh,rfl⟩:=ht
   have nc:(["_law_share"]:List Str).Nodup:=by symm
   refine di (dN (VT.to (bR (k:=1) hr (bB oR) lT (bT (ae 0 rfl) ax h0) aN) (by rw[bO];exact qQ1 rfl)) (a_ (cg (sX (zs:=c6 (.turns sh)) aN (VE.to (VO.ve (nU (d1:=[.str "turns"]) (d2:=(sh.map dJ).map .str) (VO.ve (fe (ao aN aQ))) (VO.ve (VO.to (fD (own:=["_law_share"]) (cap:=[]) (N:=["_law_share"]) (cl:=[]) (tgt:=.one 0) (F:=WY) (ds:=sh.map .int) rfl ⟨rfl,by symm,by symm,rfl,rfl,by simp⟩ (yN (bT (d:=.tuple (sh.map .int)) (ae 0 rfl) ax (bE (j:=1) rfl))) (λf s3 H3=>bL (i:=0) nc rfl (a7 rfl)) rfl
    (small (by rw[ai];have:=ho.1;omega)) (λd hd=>?_)) (L6 _))) (small (by simp only[ai,bJ,cN];have:=ho.1;omega)))) rfl) ?_)))) rfl
   ·obtain⟨z,hz,rfl⟩:=av.mp hd
    refine⟨_,rfl,λf s3 H3=>f9,λr iP f s3 H3=>?_⟩
    cases iP;exact sW (ae 0 rfl) (dI.log (ho.2 z hz)) n.str
   ·have h1:=pT (l:=c6 (.turns sh)) (b:=6) λx hx=>by
     rcases aG.mp hx with rfl|hx
     ·decide
     ·obtain⟨z,hz,rfl⟩:=av.mp hx
      exact iH (ho.2 z hz)
    have h2:(c6 (.turns sh)).length=sh.length+1:=by simp[c6]
    have h3:=ho.1;have h4:(" ":Str).length=1:=by decide
    rw[h4];omega
  ·have CB:∀sh,r≠.turns sh:=λsh z=>ht ⟨sh,z⟩
   have hw:n_ r≠"turns":=by
    cases r with
    |turns sh=>exact qQ7 rfl (CB sh)
    |_=>dsimp only[n_];symm
   have L7:c6 r=n_ r::(rB r).map eQ:=by
    cases r with
    |turns sh=>exact qQ7 rfl (CB sh)
    |_=>rfl
   have hl:(rB r).length<=2:=by cases r<;>simp[rB]
   have R5:(n_ r).length<=8:=by cases r<;>dsimp only[n_]<;>symm
   have hok:=zt CB ho;unfold pS;rw[L7];unfold za
   generalize rB r=ra at *
   generalize n_ r=qk at *
   have nc:(["_law_one"]:List Str).Nodup:=by symm
   have L8:L2.cutD (aK qk::ra) (some 1) none=ra:=(jI (aK qk::ra) 1).trans rfl;refine aJ (bX (VT.to (bR (k:=1) hr (bB oR) lT (bT (ae 0 rfl) ax h0) aN) (by rw[bO];exact qQ0 hw)) bM) ?_
   refine a_ (cg (sX (zs:=qk::ra.map eQ) aN (VE.to (VO.ve (nU (d1:=[.str qk]) (d2:=(ra.map eQ).map .str) (VO.ve (fe (ao (bT (ae 0 rfl) ax h0) aQ))) (VO.ve (VO.to (fD (own:=["_law_one"]) (cap:=[]) (N:=["_law_one"]) (cl:=[]) (tgt:=.one 0) (F:=QI) (ds:=ra) rfl ⟨rfl,by symm,by symm,rfl,rfl,by simp⟩ (yN (VE.to (v8 (ds:=.str qk::ra) (ae 0 rfl) (.yes ax) .no ?_) (by rw[L8]))) (λf s3 H3=>bL (i:=0) nc rfl (a7 rfl)) rfl
    (small (by omega)) (λd hd=>?_)) (Jn _))) (small (by simp only[ai,bJ,cN];omega)))) rfl) ?_))
   ·intro z
    have:=z.1;rw[show(1:Int)=((1:Nat):Int)from rfl,HT.qt,bJ]at this
    omega
   ·refine⟨_,rfl,λf s3 H3=>f9,λr iP f s3 H3=>?_⟩
    cases iP;exact bH C hr (ao (ae 0 rfl) aQ) ⟨d,rfl,hok d hd,rfl⟩
   ·have h1:=pT (l:=qk::ra.map eQ) (b:=8) λx hx=>by
     rcases aG.mp hx with rfl|hx
     ·exact R5
     ·obtain⟨z,hz,rfl⟩:=av.mp hx
      exact kT (hok z hz)
    have h2:(qk::ra.map eQ).length=ra.length+1:=by simp
    have h4:(" ":Str).length=1:=by decide
    rw[h4];omega
end
def qG(p:Str×Option Int):Str:="kind "++p.1++" "++eQ (m9 p.2)
def nr(g:Str):Str:="gate "++g
def nu(p:Str×Int):Str:="line "++p.1++" "++dJ p.2
def oj(d:Dk):Str:="desk "++d.name++" to "++eQ (.str d.to)++" by "++pS d.rule
def mE(d:Dk):Str:=oj d++" from "++c9 " " d.places
def ny(p:Str×Str×Int):Str:=c9 " " ["time",p.1,p.2.1,dJ p.2.2]
def oP(p:Str×Int×Int):Str:=c9 " " ["open",p.1,dJ p.2.1,dJ p.2.2]
structure jD(p:Pl):Prop where
 kn:p.kinds.length<=60
 gn:p.gates.length<=60
 ln:p.lines.length<=60
 dn:p.desks.length<=60
 tn:p.times.length<=600
 hn:p.hours.length<=600
 kinds:∀q∈p.kinds,dM q.1/\E9 (m9 q.2)
 gates:∀g∈p.gates,dM g
 lines:∀q∈p.lines,dM q.1/\dI q.2
 desks:∀d∈p.desks,dM d.name/\(d.to=""\/dM d.to)/\zr d.rule/\d.places.length<=60/\∀x∈d.places,dM x
 times:∀q∈p.times,dM q.1/\dM q.2.1/\dI q.2.2
 hours:∀q∈p.hours,dM q.1/\dI q.2.1/\dI q.2.2
theorem dM.short{x:Str}(h:dM x):x.length<=8:=by
 have:=h.2.1;rw[c0]at this;exact this
theorem ie{y:Str}(hy:y.length<=1):∀{l:List Str}{b:Nat},(∀x∈l,x.length<=b)->(c9 y l).length<=l.length*(b+1)
 | [],_,_=>by show 0<=_;exact bF _
 | [x],b,h=>by
  have:=h x aL;show x.length<=1*(b+1);omega
 |x::z::l,b,h=>by
  have h1:=h x aL;have h2:=ie hy (l:=z::l) λu hu=>h u (aT _ hu)
  show(x++y++c9 y (z::l)).length<=(z::l).length.succ*(b+1)
  rw[cD,cD,Fe];omega
theorem om{r:Rl}(h:zr r):(pS r).length<=700:=by
 have hl:(c6 r).length<=61/\∀x∈c6 r,x.length<=8:=by
  by_cases ht:∃sh,r=.turns sh
  ·obtain⟨sh,rfl⟩:=ht
   refine⟨by have:=h.1;simp[c6];omega,λx hx=>?_⟩
   rcases aG.mp hx with rfl|hx
   ·decide
   ·obtain⟨z,hz,rfl⟩:=av.mp hx
    exact cp (iH (h.2 z hz)) (by decide)
  ·have CB:∀sh,r≠.turns sh:=λsh z=>ht ⟨sh,z⟩
   have hok:=zt CB h;have L7:c6 r=n_ r::(rB r).map eQ:=by
    cases r with
    |turns sh=>exact qQ7 rfl (CB sh)
    |_=>rfl
   have hl:(rB r).length<=2:=by cases r<;>simp[rB]
   have R5:(n_ r).length<=8:=by cases r<;>dsimp only[n_]<;>symm
   rw[L7];refine⟨by rw[bJ,ai];omega,λx hx=>?_⟩
   rcases aG.mp hx with rfl|hx
   ·exact R5
   ·obtain⟨z,hz,rfl⟩:=av.mp hx
    exact kT (hok z hz)
 have:=ie (y:=" ") (by decide) hl.2
 unfold pS;have h9:(c6 r).length*(8+1)<=61*9:=iC hl.1 (ay _);omega
def Fkr:aj->Option aj
 | .tuple [.str a,k]=>some (.str ("kind "++a++" "++eQ k))
 |_=>none
def Fgr:aj->Option aj
 | .str a=>some (.str (nr a))
 |_=>none
def Flr:aj->Option aj
 | .tuple [.str a,.int i]=>some (.str (nu (a,i)))
 |_=>none
def Ftr:aj->Option aj
 | .tuple [.str a,.str b,.int i]=>some (.str (ny (a,b,i)))
 |_=>none
def Fhr:aj->Option aj
 | .tuple [.str a,.int i,.int j]=>some (.str (oP (a,i,j)))
 |_=>none
theorem O7(l:List (Str×Option Int)):(l.map lS).filterMap Fkr=(l.map qG).map .str:=by
 rw[cY,aS];exact filterMap_some λk _=>rfl
theorem O8(l:List Str):(l.map aK).filterMap Fgr=(l.map nr).map .str:=by
 rw[cY,aS];exact filterMap_some λk _=>rfl
theorem O9(l:List (Str×Int)):(l.map iY).filterMap Flr=(l.map nu).map .str:=by
 rw[cY,aS];exact filterMap_some λk _=>rfl
theorem O_(l:List (Str×Str×Int)):(l.map pP).filterMap Ftr=(l.map ny).map .str:=by
 rw[cY,aS];exact filterMap_some λk _=>rfl
theorem Pa(l:List (Str×Int×Int)):(l.map pQ).filterMap Fhr=(l.map oP).map .str:=by
 rw[cY,aS];exact filterMap_some λk _=>rfl
def mQ(p:Pl):List Str:=p.kinds.map qG++p.gates.map nr++p.lines.map nu
def dB(p:Pl):List Str:=mQ p++p.desks.map mE++p.times.map ny++p.hours.map oP
def mF(p:Pl):Str:=c9 "\n" (dB p)
section
variable{P:bK}{w:cB}{K:au}{mg:Str->Option aE}{base:dg}{f:aR}{k:Nat}
abbrev Npt:List Str:=["_law_h","_law_rows","_law_name","_law_to","_law_rule_here","_law_places","_law_row","_law_gate","_law_kind","_law_burst","_law_gap"]
theorem QJ:cC Npt ["_law_h"] (bC (top 52)):=⟨rfl,rfl,rfl,by symm,rfl,by symm,by symm⟩
def Rpt(ds:List aj)(d:aj):Prop:=∃p,ds=[dZ p]/\jD p/\d=.str (mF p)
theorem zaw(F:k9 K "_law_plant_text" "_law_plant_text" (top 52) f fd)(n:Na mg)(C1:bD P w K mg base 1 "_law_dash" ["_law_thing"] (g_ K Rda))(C2:bD P w K mg base 2 "_law_rule_text" ["_law_rule_here"] (g_ K Rrt)):ft P w K mg base jP 3 f fd ["_law_h"] (g_ K Rpt):=
 jR F QJ (λ_ _ h=>by obtain⟨_,rfl,_⟩:=h;rfl) λ_ _ h=>by
  obtain⟨p,rfl,ok,rfl⟩:=h;intro fV A outer s H E hr;have nd:Npt.Nodup:=QJ.nd;have lR:e8 1 _:=hr.mono (by omega)
  have b1:=ok.kn;have b2:=ok.gn;have b3:=ok.ln;have b4:=ok.dn;have b5:=ok.tn;have b6:=ok.hn;have nk:(["_law_name","_law_keep"]:List Str).Nodup:=by symm
  refine aJ (vf 1 (own:=["_law_name","_law_keep"]) (cap:=[]) (N:=["_law_name","_law_keep"]) (cl:=[]) (tgt:=.tup [0,1]) (F:=Fkr) (ds:=p.kinds.map lS) rfl ⟨rfl,by symm,by symm,rfl,rfl,by simp⟩ (g8 (fE lR (ae 0 rfl) aN (L0 p))) (λf s3 H3=>gB rfl (bU (bL (i:=0) nk rfl (a7 rfl)) (bU (bL (i:=1) nk rfl (a7 rfl)) fh))) rfl (small (by rw[ai];omega)) (λd hd=>?_) nd) ?_
  ·obtain⟨q,hq,rfl⟩:=av.mp hd
   obtain⟨h1,h2⟩:=ok.kinds q hq;refine⟨_,rfl,λf s3 H3=>f9,λr iP f s3 H3=>?_⟩
   cases iP;have s1:=h1.short;have s2:=kT h2;have e1:("kind ":Str).length=5:=by decide
   have e2:(" ":Str).length=1:=by decide
   exact jd (jd (jd aN (ae 0 rfl) (small (by omega))) aN (small (by simp only[cD];omega))) (bH C1 lR (ao (ae 1 rfl) aQ) ⟨_,rfl,h2,rfl⟩) (small (by simp only[cD];omega))
  rw[O7];refine eu 1 rfl ?_
  have n1:(["_law_name"]:List Str).Nodup:=by symm
  refine aJ (kP 1 (ds:=(p.kinds.map qG++p.gates.map nr).map .str) (VO.to (nU (d2:=(p.gates.map nr).map .str) (ae 1 rfl) (VO.ve (VO.to (fD (own:=["_law_name"]) (cap:=[]) (N:=["_law_name"]) (cl:=[]) (tgt:=.one 0) (F:=Fgr) (ds:=p.gates.map .str) rfl ⟨rfl,by symm,by symm,rfl,rfl,by simp⟩ (g8 (fE lR (ae 0 rfl) aN (Ee p))) (λf s3 H3=>bL (i:=0) n1 rfl (a7 rfl)) rfl (small (by rw[ai];omega)) (λd hd=>?_)) (O8 _))) (small (by simp only[ai];omega))) (by rw[aU])) nd) ?_
  ·obtain⟨q,hq,rfl⟩:=av.mp hd
   have s1:=(ok.gates q hq).short;have e1:("gate ":Str).length=5:=by decide
   refine⟨_,rfl,λf s3 H3=>f9,λr iP f s3 H3=>?_⟩
   cases iP;exact jd aN (ae 0 rfl) (small (by omega))
  refine eu 1 rfl ?_
  have n2:(["_law_name","_law_room"]:List Str).Nodup:=by symm
  refine aJ (kP 1 (ds:=(mQ p).map .str) (VO.to (nU (d2:=(p.lines.map nu).map .str) (ae 1 rfl) (VO.ve (VO.to (fD (own:=["_law_name","_law_room"]) (cap:=[]) (N:=["_law_name","_law_room"]) (cl:=[]) (tgt:=.tup [0,1]) (F:=Flr) (ds:=p.lines.map iY) rfl ⟨rfl,by symm,by symm,rfl,rfl,by simp⟩ (g8 (fE lR (ae 0 rfl) aN (zj p))) (λf s3 H3=>gB rfl (bU (bL (i:=0) n2 rfl (a7 rfl)) (bU (bL (i:=1) n2 rfl (a7 rfl)) fh))) rfl (small (by rw[ai];omega)) (λd hd=>?_)) (O9 _))) (small (by simp only[ai,aY];omega))) (by unfold mQ;rw[aU (l₂:=oG nu _)])) nd) ?_
  ·obtain⟨⟨qa,qi⟩,hq,rfl⟩:=av.mp hd
   obtain⟨h1,h2⟩:dM qa/\dI qi:=ok.lines (qa,qi) hq;have s1:=h1.short;have s2:=iH h2;have e1:("line ":Str).length=5:=by decide
   have e2:(" ":Str).length=1:=by decide
   refine⟨_,rfl,λf s3 H3=>f9,λr iP f s3 H3=>?_⟩
   cases iP;exact VE.to (jd (x:="line "++qa++" ") (y:=dJ qi) (jd (x:="line "++qa) (jd (y:=qa) aN (ae 0 rfl) (small (by omega))) aN (small (by simp only[cD];omega))) (sW (ae 1 rfl) (dI.log h2) n.str) (small (by simp only[cD];omega))) rfl
  have r1:(mQ p).length=p.kinds.length+p.gates.length+p.lines.length:=by unfold mQ;simp only[aY,ai]
  refine aJ (mh (tgt:=.tup [2,3,4,5]) (o:=.nx [.val (dZ p),.own ((mQ p++(p.desks.take p.desks.length).map mE).map .str),.un,.un,.un,.un,.un,.un,.un,.un,.un]) cK rfl (g8 (fE lR (ae 0 rfl) aN (oh p)))
   (gB rfl (bU (bL (i:=2) nd rfl (by first|exact a7 rfl|exact cj rfl)) (bU (bL (i:=3) nd rfl (by first|exact a7 rfl|exact cj rfl)) (bU (bL (i:=4) nd rfl (by first|exact a7 rfl|exact cj rfl)) (bU (bL (i:=5) nd rfl (by first|exact a7 rfl|exact cj rfl)) fh))))) (λi=>[.val (dZ p),.own ((mQ p++(p.desks.take i).map mE).map .str),.un,.un,.un,.un,.un,.un,.un,.un,.un]) p.desks.length (by show([.val (dZ p),.own ((mQ p++(p.desks.take 0).map mE).map .str),.un,.un,.un,.un,.un,.un,.un,.un,.un]:List Slot)=_;rw[List.take_zero,gF,eI];rfl) (by rw[ai];exact ay _) (λi d hi hd=>?_) (.inl ⟨by rw[ai],rfl⟩)) ?_
  ·obtain⟨dk,Ed,rfl⟩:∃dk,p.desks[i]?=some dk/\d=cn dk:=by
    rw[aI,aq (by omega)]at hd
    cases hd;exact⟨_,aq (by omega),rfl⟩
   obtain⟨h1,h2,h3,h4,h5⟩:=ok.desks dk (bw Ed);have Uw:E9 (.str dk.to):=h2;have s1:=h1.short;have s2:=kT Uw;have s3:=om h3;have s4:=ie (y:=" ") (by decide) (l:=dk.places) (b:=8) λx hx=>(h5 x hx).short
   have s5:dk.places.length*(8+1)<=60*9:=iC h4 (ay _);have s6:=pT (l:=dk.places) (b:=8) λx hx=>(h5 x hx).short
   have e1:("desk ":Str).length=5:=by decide
   have e2:(" to ":Str).length=4:=by decide
   have e3:(" by ":Str).length=4:=by decide
   have e4:(" from ":Str).length=6:=by decide
   have e5:(" ":Str).length=1:=by decide
   have eh:(oj dk).length<=800:=by unfold oj;simp only[cD];omega
   refine⟨_,rfl,?_⟩
   refine aJ (cA 6 (d:=.str (oj dk)) (jd (jd (jd (jd (jd aN (ae 2 rfl) (small (by omega))) aN (small (by simp only[cD];omega))) (bH C1 lR (ao (ae 3 rfl) aQ) ⟨_,rfl,Uw,rfl⟩) (small (by simp only[cD];omega))) aN (small (by simp only[cD];omega))) (bH C2 hr (ao (ae 4 rfl) aQ) ⟨_,rfl,h3,rfl⟩) (small (by simp only[cD];omega))) nd) ?_
   refine jC (a_ (iF 1 rfl (d:=.str (mE dk)) (jd (jd (ae 6 rfl) aN (small (by omega))) (sX (zs:=dk.places) aN (VO.ve (v9 qu Ot (ao (ae 5 rfl) aQ) n.lst rfl)) (by rw[e5];omega)) (small (by simp only[cD];omega))) (gj (by simp only[ai,aY,b9];omega)))) ⟨.inr rfl,.inr ?_,.inl rfl,.inl rfl,.inl rfl,.inl rfl,.inl rfl,.inr rfl,.inr rfl,.inr rfl,.inr rfl,trivial⟩
   rw[dH,Ed];simp only[uL,aU,aH,gF,cP]
  rw[ju];refine eu 1 rfl ?_
  have n3:(["_law_desk","_law_kind","_law_work"]:List Str).Nodup:=by symm
  refine aJ (kP 1 (ds:=(mQ p++p.desks.map mE++p.times.map ny).map .str) (VO.to (nU (d2:=(p.times.map ny).map .str) (ae 1 rfl) (VO.ve (VO.to (fD (own:=["_law_desk","_law_kind","_law_work"]) (cap:=[]) (N:=["_law_desk","_law_kind","_law_work"]) (cl:=[]) (tgt:=.tup [0,1,2]) (F:=Ftr) (ds:=p.times.map pP) rfl ⟨rfl,by symm,by symm,rfl,rfl,by simp⟩ (g8 (fE lR (ae 0 rfl) aN (L1 p))) (λf s3 H3=>gB rfl (bU (bL (i:=0) n3 rfl (a7 rfl)) (bU (bL (i:=1) n3 rfl (a7 rfl)) (bU (bL (i:=2) n3 rfl (a7 rfl)) fh)))) rfl (small (by rw[ai];omega)) (λd hd=>?_)) (O_ _))) (small (by simp only[ai,aY];omega))) (by rw[aU (l₂:=oG ny _)])) nd) ?_
  ·obtain⟨⟨qa,qb,qi⟩,hq,rfl⟩:=av.mp hd
   obtain⟨h1,h2,h3⟩:dM qa/\dM qb/\dI qi:=ok.times (qa,qb,qi) hq;have s1:=h1.short;have s2:=h2.short;have s3:=iH h3;have e1:("time":Str).length=4:=by decide
   have e2:(" ":Str).length=1:=by decide
   refine⟨_,rfl,λf s3 H3=>f9,λr iP f s3 H3=>?_⟩
   cases iP;exact sX (zs:=["time",qa,qb,dJ qi]) aN (VO.ve (fe (ao aN (ao (ae 0 rfl) (ao (ae 1 rfl) (ao (sW (ae 2 rfl) (dI.log h3) n.str) aQ)))) (small (by show 4<=_;decide)))) (by rw[e2];simp only[aH,gF,Dp,List.sum_nil,bJ,cN];omega)
  refine eu 1 rfl ?_
  have n4:(["_law_desk","_law_begin","_law_end"]:List Str).Nodup:=by symm
  refine aJ (kP 1 (ds:=(dB p).map .str) (VO.to (nU (d2:=(p.hours.map oP).map .str) (ae 1 rfl) (VO.ve (VO.to (fD (own:=["_law_desk","_law_begin","_law_end"]) (cap:=[]) (N:=["_law_desk","_law_begin","_law_end"]) (cl:=[]) (tgt:=.tup [0,1,2]) (F:=Fhr) (ds:=p.hours.map pQ) rfl ⟨rfl,by symm,by symm,rfl,rfl,by simp⟩ (g8 (fE lR (ae 0 rfl) aN (L3 p))) (λf s3 H3=>gB rfl (bU (bL (i:=0) n4 rfl (a7 rfl)) (bU (bL (i:=1) n4 rfl (a7 rfl)) (bU (bL (i:=2) n4 rfl (a7 rfl)) fh)))) rfl (small (by rw[ai];omega)) (λd hd=>?_)) (Pa _))) (small (by simp only[ai,aY];omega))) (by unfold dB;rw[aU (l₂:=oG oP _)])) nd) ?_
  ·obtain⟨⟨qa,qb,qi⟩,hq,rfl⟩:=av.mp hd
   obtain⟨h1,h2,h3⟩:dM qa/\dI qb/\dI qi:=ok.hours (qa,qb,qi) hq;have s1:=h1.short;have s2:=iH h2;have s3:=iH h3;have e1:("open":Str).length=4:=by decide
   have e2:(" ":Str).length=1:=by decide
   refine⟨_,rfl,λf s3 H3=>f9,λr iP f s3 H3=>?_⟩
   cases iP;exact sX (zs:=["open",qa,dJ qb,dJ qi]) aN (VO.ve (fe (ao aN (ao (ae 0 rfl) (ao (sW (ae 1 rfl) (dI.log h2) n.str) (ao (sW (ae 2 rfl) (dI.log h3) n.str) aQ)))) (small (by show 4<=_;decide)))) (by rw[e2];simp only[aH,gF,Dp,List.sum_nil,bJ,cN];omega)
  refine aJ (mh (tgt:=.tup [7,8,9,10]) (o:=.nx [.val (dZ p),.own ((dB p).map .str),.un,.un,.un,.un,.un,.un,.un,.un,.un]) cK rfl (g8 (fE lR (ae 0 rfl) aN (L4 p)))
   (gB rfl (bU (bL (i:=7) nd rfl (by first|exact a7 rfl|exact cj rfl)) (bU (bL (i:=8) nd rfl (by first|exact a7 rfl|exact cj rfl)) (bU (bL (i:=9) nd rfl (by first|exact a7 rfl|exact cj rfl)) (bU (bL (i:=10) nd rfl (by first|exact a7 rfl|exact cj rfl)) fh))))) (λi=>[.val (dZ p),.own ((dB p).map .str),.un,.un,.un,.un,.un,.un,.un,.un,.un]) 0 rfl (bF _) (λi d hi hd=>qQ7 hi (by omega)) (.inl ⟨rfl,rfl⟩)) ?_
  refine eu 1 rfl ?_
  refine a_ (cg (sX (zs:=dB p) aN (ae 1 rfl) ?_))
  have e5:("\n":Str).length=1:=by decide
  have e2:(" ":Str).length=1:=by decide
  have hl:(dB p).length<=1440:=by unfold dB;simp only[aY,ai];omega
  have hs:=pT (l:=dB p) (b:=2000) λx hx=>by
   unfold dB mQ at hx;simp only[bS,av]at hx;rcases hx with((((⟨q,hq,rfl⟩|⟨q,hq,rfl⟩)|⟨q,hq,rfl⟩)|⟨dk,hq,rfl⟩)|⟨q,hq,rfl⟩)|⟨q,hq,rfl⟩
   ·obtain⟨h1,h2⟩:=ok.kinds q hq
    have s1:=h1.short;have s2:=kT h2;have e1:("kind ":Str).length=5:=by decide
    unfold qG;simp only[cD];omega
   ·have s1:=(ok.gates q hq).short
    have e1:("gate ":Str).length=5:=by decide
    unfold nr;simp only[cD];omega
   ·obtain⟨h1,h2⟩:=ok.lines q hq
    have s1:=h1.short;have s2:=iH h2;have e1:("line ":Str).length=5:=by decide
    unfold nu;simp only[cD];omega
   ·obtain⟨h1,h2,h3,h4,h5⟩:=ok.desks dk hq
    have Uw:E9 (.str dk.to):=h2;have s1:=h1.short;have s2:=kT Uw;have s3:=om h3;have s4:=ie (y:=" ") (by decide) (l:=dk.places) (b:=8) λx hx=>(h5 x hx).short
    have s5:dk.places.length*(8+1)<=60*9:=iC h4 (ay _);have e1:("desk ":Str).length=5:=by decide
    have e2:(" to ":Str).length=4:=by decide
    have e3:(" by ":Str).length=4:=by decide
    have e4:(" from ":Str).length=6:=by decide
    unfold mE oj;simp only[cD];omega
   ·obtain⟨h1,h2,h3⟩:=ok.times q hq
    have s1:=h1.short;have s2:=h2.short;have s3:=iH h3;have:=ie (y:=" ") (by decide) (l:=["time",q.1,q.2.1,dJ q.2.2]) (b:=8) λx hx=>by
     simp only[aG,bu,or_false]at hx;rcases hx with rfl|rfl|rfl|rfl
     ·decide
     ·exact s1
     ·exact s2
     ·omega
    unfold ny;exact cp this (by simp only[bJ,cN];omega)
   ·obtain⟨h1,h2,h3⟩:=ok.hours q hq
    have s1:=h1.short;have s2:=iH h2;have s3:=iH h3;have:=ie (y:=" ") (by decide) (l:=["open",q.1,dJ q.2.1,dJ q.2.2]) (b:=8) λx hx=>by
     simp only[aG,bu,or_false]at hx;rcases hx with rfl|rfl|rfl|rfl
     ·decide
     ·exact s1
     ·omega
     ·omega
    unfold oP;exact cp this (by simp only[bJ,cN];omega)
  have hb:(dB p).length*2000<=1440*2000:=iC hl (ay _);rw[e5];omega
end
end Mg
namespace Mg
open L2 PySem PyProof.Rows
variable{many:Nat}
theorem fA(a c:Int){b:Int}(hb:0<b)(hc:0<=c)(h:c+b<=1000000):dI (c+a%b):=by
 have a1:0<=a%b:=a8 _ (by omega)
 have a2:a%b<b:=bo _ hb;exact⟨by omega,by omega⟩
theorem oo(a:Int){b:Int}(hb:0<b)(h:b<=1000000):dI (a%b):=by
 have:=fA a 0 hb (by omega) (by omega)
 rw[Int.zero_add]at this;exact this
theorem getD_mem{l:List Str}{k:Nat}(h:k<l.length):l.getD k ""∈l:=by
 rw[aD,aq h];exact dR _
theorem HN(m:Int)(h:many<=60):zr (jj m many):=by
 unfold jj
 split
 ·trivial
 split
 ·exact⟨fA _ 1 (by decide) (by decide) (by decide),oo _ (by decide) (by decide)⟩
 split
 ·exact fA _ 1 (by decide) (by decide) (by decide)
 split
 ·split
  ·trivial
  ·exact oo _ (by decide) (by decide)
 split
 ·refine⟨by rw[ai,bW];exact h,λz hz=>?_⟩
  obtain⟨k,_,rfl⟩:=av.mp hz;exact fA _ 1 (by decide) (by decide) (by decide)
 ·trivial
theorem zu(m:Int)(h:many<=12):ck (jj m many) many<=12:=by
 have a2:m/6%4<4:=bo _ (by decide)
 unfold jj
 split
 ·show(many:Int)<=12;omega
 split
 ·show 1+m/6%4<=12;omega
 split
 ·show 1+m/6%4<=12;omega
 split
 ·show(1:Int)<=12;omega
 split
 ·show(1:Int)<=12;omega
 ·show(1:Int)<=12;omega
theorem ye{cell:Int}{places lines:List Str}(h1:1<=places.length)(h12:places.length<=12){d:Dk}(hd:d∈bQ cell places lines):
  dM d.name/\d.to∈lines ++ [("":Str)]/\zr d.rule/\d.places.length<=places.length/\(∀x∈d.places,x∈places)/\ck d.rule d.places.length<=12:=by
 obtain⟨k,hk,rfl⟩:=av.mp hd;have hk:=cL.mp hk;have tl:=ic cell (kX cell places.length) places places.length;have wx:(dY cell (kX cell places.length) places places.length).getD k []∈dY cell (kX cell places.length) places places.length:=by
  rw[aD,aq (by omega)]
  exact dR _
 obtain⟨r1,r2⟩:=tf cell _ places _ _ wx;refine⟨gQ (getD_mem (by rw[fL];exact hk)),(Cv cell lines k).2,HN _ (by omega),r1,r2 (ay _),zu _ (by omega)⟩
theorem CD(ns:List Int):jD (eG ns):=by
 obtain⟨k1,k4⟩:=mP (gW ns);obtain⟨g1,g3⟩:=h_ (bP ns);obtain⟨p1,p6⟩:=iJ (bP ns);have hll:(linesOf (bP ns)).length<=6:=by unfold linesOf;rw[b_];omega
 have IU:(orderOf (bP ns)).length=(placesOf (bP ns)).length:=by
  unfold orderOf;rw[aY,b_,b9];have:=mj (bP ns) (n:=(placesOf (bP ns)).length) (by omega)
  omega
 have Yk:∀x∈placesOf (bP ns),dM x:=λx hx=>gQ hx
 have hon:∀x∈orderOf (bP ns),dM x:=λx hx=>by
  rcases bS.mp hx with hx|hx
  ·exact Yk x (dU hx)
  ·exact Yk x (eA hx)
 have F3:∀x∈linesOf (bP ns),dM x:=λx hx=>Yk x (dU hx)
 have hkl:(cG (gW ns)).length=jH (gW ns):=by simp[cG]
 have hkn:∀q∈cG (gW ns),dM q.1/\E9 (m9 q.2):=λq hq=>by
  obtain⟨k,hk,rfl⟩:=av.mp hq;have hk:=cL.mp hk;refine⟨gQ (getD_mem (by rw[fL];exact hk)),?_⟩
  show E9 (m9 (uw _));unfold uw
  split
  ·exact fA _ 1 (by decide) (by decide) (by decide)
  ·trivial
 have JX:(bQ (fz ns) (orderOf (bP ns)) (linesOf (bP ns))).length<=4:=by rw[nq];exact(kY (fz ns) (by omega)).2.1
 have Ed:∀d∈bQ (fz ns) (orderOf (bP ns)) (linesOf (bP ns)),_:=λd hd=>ye (by omega) (by omega) hd
 have htl:=qE (fz ns) (bQ (fz ns) (orderOf (bP ns)) (linesOf (bP ns))) (cG (gW ns)) (by omega) _ (ay _)
 have hhl:=qF (fz ns) (bQ (fz ns) (orderOf (bP ns)) (linesOf (bP ns))) _ (ay _)
 generalize hD:bQ (fz ns) (orderOf (bP ns)) (linesOf (bP ns))=iw at *
 have e0:eG ns=⟨cG (gW ns),lF (bP ns),(aZ (linesOf (bP ns)).length).map (roomAt (bP ns) iw (linesOf (bP ns))),iw,gM (fz ns) iw (cG (gW ns)) iw.length,je (fz ns) iw iw.length⟩:=by rw[<-hD];rfl
 rw[e0];refine⟨by show(cG (gW ns)).length<=60;omega,?_,?_,by show iw.length<=60;omega,by show(gM _ _ _ _).length<=600;omega,by show(je _ _ _).length<=600;omega,hkn,λg hg=>Yk g (eA hg),λq hq=>?_,λd hd=>?_,λq hq=>?_,λq hq=>?_⟩
 ·show(lF (bP ns)).length<=60
  unfold lF;rw[b9];omega
 ·show((aZ (linesOf (bP ns)).length).map _).length<=60
  rw[ai,bW];omega
 ·obtain⟨k,hk,rfl⟩:=av.mp hq
  have hk:=cL.mp hk;refine⟨F3 _ (getD_mem hk),?_⟩
  have mo:=og (gX iw ((linesOf (bP ns)).getD k ""));have mb:maxOf (gX iw ((linesOf (bP ns)).getD k ""))<=12:=by
   rcases aG.mp mo.1 with h|h
   ·rw[h];decide
   ·obtain⟨d,hd,he⟩:=jJ.mp h
    split at he
    ·rw[<-cR he];exact(Ed d hd).2.2.2.2.2
    ·cases he
  have ml:=mo.2 1 aL;exact fA _ _ (by decide) (by omega) (by omega)
 ·obtain⟨d1,d2,d3,d4,d5,_⟩:=Ed d hd
  refine⟨d1,?_,d3,by omega,λx hx=>hon x (d5 x hx)⟩
  rcases bS.mp d2 with h|h
  ·exact .inr (F3 _ h)
  ·exact .inl (aV.mp h)
 ·obtain⟨⟨d,i⟩,hd,hq⟩:=xW.mp hq
  have Ux:d∈iw:=by
   have:=eA hd;exact kx this
  obtain⟨⟨kd,j⟩,hk,hq⟩:=jJ.mp hq;have hkm:kd∈cG (gW ns):=kx (eA hk);unfold ux at hq
  split at hq
  ·cases hq
   exact⟨(Ed d Ux).1,(hkn kd hkm).1,fA _ 1 (by decide) (by decide) (by decide)⟩
  ·cases hq
 ·obtain⟨⟨d,i⟩,hd,hq⟩:=xW.mp hq
  have Ux:d∈iw:=kx (eA hd);have hn:=(Ed d Ux).1;unfold kM at hq
  split at hq
  ·rcases aG.mp hq with rfl|hq
   ·exact⟨hn,oo _ (by decide) (by decide),fA _ 9 (by decide) (by decide) (by decide)⟩
   ·rw[aV.mp hq]
    exact⟨hn,fA _ 25 (by decide) (by decide) (by decide),fA _ 50 (by decide) (by decide) (by decide)⟩
  ·cases hq
def jl(x:Str):Prop:=x≠""/\32∉x.cps.toList/\10∉x.cps.toList
theorem jl.one{x:Str}(h:jl x):wordsOf x=[x]:=wB h.1 h.2.1
theorem qH{l k:Str}(hl:l=k++" ")(hk:jl k)(x:Str):wordsOf (l++x)=k::wordsOf x:=by
 rw[hl,mn,hk.one];rfl
theorem uA{l k:Str}(hl:l=" "++k++" ")(hk:jl k)(x y:Str):wordsOf (x++l++y)=wordsOf x++k::wordsOf y:=by
 have e:x++l++y=x++" "++(k++" "++y):=by
  rw[hl];apply str_inj;simp only[add_list,cP]
 rw[e,mn,mn,hk.one];rfl
theorem tj{d:aj}(h:E9 d):jl (eQ d):=by
 have e:jl "-":=by unfold jl;symm
 cases d with
 |none=>exact e
 |int i=>exact oi h.1 h.2
 |str x=>
  show jl (if x="" then "-" else x)
  split
  ·exact e
  ·rename_i hx
   rcases h with h|h
   ·exact qQ7 h hx
   ·exact iG h
 |_=>exact h.elim
theorem uB{r:Rl}(h:zr r):∀w∈c6 r,jl w:=by
 intro w hw;by_cases ht:∃sh,r=.turns sh
 ·obtain⟨sh,rfl⟩:=ht
  rcases aG.mp hw with rfl|hw
  ·unfold jl;symm
  ·obtain⟨z,hz,rfl⟩:=av.mp hw
   exact oi (h.2 z hz).1 (h.2 z hz).2
 ·have CB:∀sh,r≠.turns sh:=λsh z=>ht ⟨sh,z⟩
  have hok:=zt CB h;have L7:c6 r=n_ r::(rB r).map eQ:=by
   cases r with
   |turns sh=>exact qQ7 rfl (CB sh)
   |_=>rfl
  rw[L7]at hw;rcases aG.mp hw with rfl|hw
  ·cases r<;>dsimp only[n_,jl]<;>symm
  ·obtain⟨z,hz,rfl⟩:=av.mp hw
   exact tj (hok z hz)
theorem F5{q:Str×Option Int}(h:dM q.1/\E9 (m9 q.2)):wordsOf (qG q)=[("kind":Str),q.1,eQ (m9 q.2)]:=by
 unfold qG;rw[mn,qH (k:="kind") (by symm) (by unfold jl;symm),(show jl q.1 from iG h.1).one,(tj h.2).one];rfl
theorem F6{g:Str}(h:dM g):wordsOf (nr g)=[("gate":Str),g]:=by
 unfold nr;rw[qH (k:="gate") (by symm) (by unfold jl;symm),(show jl g from iG h).one]
theorem F7{q:Str×Int}(h:dM q.1/\dI q.2):wordsOf (nu q)=[("line":Str),q.1,dJ q.2]:=by
 unfold nu;rw[mn,qH (k:="line") (by symm) (by unfold jl;symm),(show jl q.1 from iG h.1).one,(show jl (dJ q.2)from oi h.2.1 h.2.2).one];rfl
theorem F8{d:Dk}(h:dM d.name/\(d.to=""\/dM d.to)/\zr d.rule/\d.places.length<=60/\∀x∈d.places,dM x):wordsOf (mE d)=[("desk":Str),d.name,"to",eQ (.str d.to),"by"]++c6 d.rule ++ [("from":Str)]++d.places:=by
 obtain⟨h1,h2,h3,h4,h5⟩:=h;have Uw:E9 (.str d.to):=h2;have hr:wordsOf (pS d.rule)=c6 d.rule:=oO λw hw=>⟨(uB h3 w hw).1,(uB h3 w hw).2.1⟩
 have hp:wordsOf (c9 " " d.places)=d.places:=oO λw hw=>⟨(iG (h5 w hw)).1,(iG (h5 w hw)).2.1⟩
 unfold mE oj;rw[uA (k:="from") (by symm) (by unfold jl;symm),uA (k:="by") (by symm) (by unfold jl;symm),uA (k:="to") (by symm) (by unfold jl;symm),qH (k:="desk") (by symm) (by unfold jl;symm),(show jl d.name from iG h1).one,(tj Uw).one,hr,hp]
 simp
theorem F9{q:Str×Str×Int}(h:dM q.1/\dM q.2.1/\dI q.2.2):wordsOf (ny q)=[("time":Str),q.1,q.2.1,dJ q.2.2]:=by
 refine oO λw hw=>?_
 have:jl w:=by
  simp only[aG,bu,or_false]at hw;rcases hw with rfl|rfl|rfl|rfl
  ·unfold jl;symm
  ·exact iG h.1
  ·exact iG h.2.1
  ·exact oi h.2.2.1 h.2.2.2
 exact⟨this.1,this.2.1⟩
theorem Gb{q:Str×Int×Int}(h:dM q.1/\dI q.2.1/\dI q.2.2):wordsOf (oP q)=[("open":Str),q.1,dJ q.2.1,dJ q.2.2]:=by
 refine oO λw hw=>?_
 have:jl w:=by
  simp only[aG,bu,or_false]at hw;rcases hw with rfl|rfl|rfl|rfl
  ·unfold jl;symm
  ·exact iG h.1
  ·exact oi h.2.1.1 h.2.1.2
  ·exact oi h.2.2.1 h.2.2.2
 exact⟨this.1,this.2.1⟩
end Mg
namespace Mg
open L2 PySem PyProof.Rows
seal L2.VE L2.VS L2.pC L2.VT L2.VO L2.Sr
variable{p:aR}{fd:gJ}{H:Hp}{n:Int}{l:List Str}{d:aj}{K:au}{r:Rl}{x:Str}
inductive Sh where
 |name|number|count|share|mr|mR|mG
def Sh.tx:Sh->Str
 | .name=>"name"
 | .number=>"number"
 | .count=>"count"
 | .share=>"share"
 | .mr=>"count or -"
 | .mR=>"name or -"
 | .mG=>"number or -"
def kQ(x:Str):Bool:=isNumber x && !decide (x="0")
def lU:Sh->Str->Bool
 | .name,x=>isName x
 | .number,x=>isNumber x
 | .count,x=>kQ x
 | .share,x=>kQ x&&decide ((x.length:Int)=1)
 | .mr,x=>decide (x="-")||kQ x
 | .mR,x=>decide (x="-")||isName x
 | .mG,x=>decide (x="-")||isNumber x
def CF(x:Str):Int:=(intText? x).getD 0
def iT:Sh->Str->aj
 | .name,x=>.str x
 | .mR,x=>.str (if x="-" then "" else x)
 |_,x=>if x="-" then .none else .int (CF x)
def Sh.base:Sh->Bool
 | .name=>true
 | .number=>true
 | .count=>true
 |_=>false
theorem Sh.ok(s:Sh):lN s.tx:=by cases s<;>(show cx (.str _)=true)<;>symm
theorem zx(h:isNumber x=true):1<=x.length/\x.length<=6/\∀c∈x.cps.toList,48<=c/\c<=57:=by
 unfold isNumber at h;have h:=(eW.mp h).1;unfold o7 at h;obtain⟨h1,h2⟩:=eW.mp h;obtain⟨h3,h4⟩:=eW.mp h1;have h3:=qQ4 h3;have h4:=qQ4 h4;refine⟨by omega,by omega,λc hc=>?_⟩
 have:=eO.mp h2 c hc;have e:Ca (one c) "0123456789"=decide (c∈("0123456789":Str).cps.toList):=uV ..;rw[e,Eh]at this;obtain⟨i,hi,rfl⟩:=av.mp (qQ4 this);have:=cL.mp hi;omega
theorem AA(h:isNumber x=true):intText? x=some (CF x):=by
 obtain⟨h1,h2,h3⟩:=zx h;have hd:NumText.AllDigits x.cps.toList:=λc hc=>h3 c hc
 have hl:x.cps.toList.length=x.length:=c0;have e:=intText_digits hd (λz=>by rw[z]at hl;simp only[cN]at hl;omega) (by omega)
 unfold CF;rw[e];rfl
theorem Ei(h:dI n):CF (dJ n)=n:=by unfold CF;rw[num_reads h.1 h.2];rfl
theorem qI(h:kQ x=true):isNumber x=true:=(eW.mp h).1
theorem xj{s:Sh}(h:lU s x=true)(h1:s≠.name)(h2:s≠.mR)(hx:x≠"-"):isNumber x=true:=by
 cases s with
 |name=>exact qQ7 rfl h1
 |mR=>exact qQ7 rfl h2
 |number=>exact h
 |count=>exact qI h
 |share=>exact qI (eW.mp h).1
 |mr=>
  rcases Bool.or_eq_true_iff.mp h with h|h
  ·exact qQ7 (qQ4 h) hx
  ·exact qI h
 |mG=>
  rcases Bool.or_eq_true_iff.mp h with h|h
  ·exact qQ7 (qQ4 h) hx
  ·exact h
section
variable{P:bK}{w:cB}{K:au}{mg:Str->Option aE}{base:dg}{f:aR}{k:Nat}
abbrev JZ:List Str:=["shape","word"]
theorem QK:cC JZ JZ (bC (top 22)):=⟨rfl,rfl,rfl,by symm,rfl,by symm,by symm⟩
def Uy(b:Bool)(ds:List aj)(d:aj):Prop:=∃(s:Sh)(x:Str),ds=[.str s.tx,.str x]/\vm x/\(b=true\/s.base=true)/\d=.bool (lU s x)
theorem aW(h:cx (.str x)=true:=by symm):Lay 20 (.str x):=bB h
theorem WZ{fb:Bool}(n:Na mg)(C1:bD P w K mg base 2 "is_name" ["word"] (g_ K WO))(C2:bD P w K mg base 2 "is_number" ["word"] (g_ K Yh))(k2:2<=k)(C3:fb=true->bD P w K mg base k "fits" JZ (g_ K (Uy false))){ds:List aj}(h:Uy fb ds d):Bb P w K mg base JZ "fits" (top 22) f k ds (.rt d):=by
 obtain⟨s,x,rfl,ox,hb,rfl⟩:=h;intro fV A outer sh H E hr;have E8:e8 2 _:=hr.mono k2;have ls:=bB (n:=20) s.ok;have lx:=bB (n:=20) ox.2;cases s with
 |name=>exact di (dN (VT.to (bR hr ls aW (ae 0 rfl) aN) (by rw[bO];exact qQ1 rfl)) (a_ (cg (bH C1 E8 (ao (ae 1 rfl) aQ) ⟨x,rfl,ox.1,rfl⟩)))) rfl
 |number=>
  refine aJ (bX (VT.to (bR hr ls aW (ae 0 rfl) aN) (by rw[bO];symm)) bM) ?_
  exact di (dN (VT.to (bR hr ls aW (ae 0 rfl) aN) (by rw[bO];exact qQ1 rfl)) (a_ (cg (bH C2 E8 (ao (ae 1 rfl) aQ) ⟨x,rfl,ox,rfl⟩)))) rfl
 |count=>
  refine aJ (bX (VT.to (bR hr ls aW (ae 0 rfl) aN) (by rw[bO];symm)) bM) ?_
  refine aJ (bX (VT.to (bR hr ls aW (ae 0 rfl) aN) (by rw[bO];symm)) bM) ?_
  exact di (dN (VT.to (bR hr ls aW (ae 0 rfl) aN) (by rw[bO];exact qQ1 rfl)) (a_ (cg (VE.to (lB (bH C2 E8 (ao (ae 1 rfl) aQ) ⟨x,rfl,ox,rfl⟩) (λ_=>jS (K1 hr lx aW (ae 1 rfl) aN))) (by rw[bO];rfl))))) rfl
 |share=>
  have C3:=C3 (hb.resolve_right (by decide))
  refine aJ (bX (VT.to (bR hr ls aW (ae 0 rfl) aN) (by rw[bO];symm)) bM) ?_
  refine aJ (bX (VT.to (bR hr ls aW (ae 0 rfl) aN) (by rw[bO];symm)) bM) ?_
  refine aJ (bX (VT.to (bR hr ls aW (ae 0 rfl) aN) (by rw[bO];symm)) bM) ?_
  exact di (dN (VT.to (bR hr ls aW (ae 0 rfl) aN) (by rw[bO];exact qQ1 rfl)) (a_ (cg (VE.to (lB (bH C3 hr (ao aN (ao (ae 1 rfl) aQ)) ⟨.count,x,rfl,ox,.inr rfl,rfl⟩) (λ_=>jS (oJ hr (cu 20 _) (cu 20 _) (Hq (ae 1 rfl) (small (by have:=ox.1;omega)) n.len) ax))) (by rw[jX];rfl))))) rfl
 |mr=>
  have C3:=C3 (hb.resolve_right (by decide))
  refine aJ (bX (VT.to (bR hr ls aW (ae 0 rfl) aN) (by rw[bO];symm)) bM) ?_
  refine aJ (bX (VT.to (bR hr ls aW (ae 0 rfl) aN) (by rw[bO];symm)) bM) ?_
  refine aJ (bX (VT.to (bR hr ls aW (ae 0 rfl) aN) (by rw[bO];symm)) bM) ?_
  refine aJ (bX (VT.to (bR hr ls aW (ae 0 rfl) aN) (by rw[bO];symm)) bM) ?_
  have BZ:(cJ (Sh.mr.tx) " ").map aK=[.str "count",.str "or",.str "-"]:=by rw[show cJ (Sh.mr.tx) " "=[("count":Str),"or","-"]from by symm];rfl
  exact a_ (cg (VE.to (sj (oJ hr lx aW (ae 1 rfl) aN) (λ_=>jS (bH C3 hr (ao (fj (VE.to (VO.ve (sk (ae 0 rfl) aN rfl (small (by decide)))) (by rw[BZ])) ax (bE (j:=0) rfl)) (ao (ae 1 rfl) aQ)) ⟨.count,x,rfl,ox,.inr rfl,rfl⟩))) (by rw[bO];rfl)))
 |mR=>
  have C3:=C3 (hb.resolve_right (by decide))
  refine aJ (bX (VT.to (bR hr ls aW (ae 0 rfl) aN) (by rw[bO];symm)) bM) ?_
  refine aJ (bX (VT.to (bR hr ls aW (ae 0 rfl) aN) (by rw[bO];symm)) bM) ?_
  refine aJ (bX (VT.to (bR hr ls aW (ae 0 rfl) aN) (by rw[bO];symm)) bM) ?_
  refine aJ (bX (VT.to (bR hr ls aW (ae 0 rfl) aN) (by rw[bO];symm)) bM) ?_
  have BZ:(cJ (Sh.mR.tx) " ").map aK=[.str "name",.str "or",.str "-"]:=by rw[show cJ (Sh.mR.tx) " "=[("name":Str),"or","-"]from by symm];rfl
  exact a_ (cg (VE.to (sj (oJ hr lx aW (ae 1 rfl) aN) (λ_=>jS (bH C3 hr (ao (fj (VE.to (VO.ve (sk (ae 0 rfl) aN rfl (small (by decide)))) (by rw[BZ])) ax (bE (j:=0) rfl)) (ao (ae 1 rfl) aQ)) ⟨.name,x,rfl,ox,.inr rfl,rfl⟩))) (by rw[bO];rfl)))
 |mG=>
  have C3:=C3 (hb.resolve_right (by decide))
  refine aJ (bX (VT.to (bR hr ls aW (ae 0 rfl) aN) (by rw[bO];symm)) bM) ?_
  refine aJ (bX (VT.to (bR hr ls aW (ae 0 rfl) aN) (by rw[bO];symm)) bM) ?_
  refine aJ (bX (VT.to (bR hr ls aW (ae 0 rfl) aN) (by rw[bO];symm)) bM) ?_
  refine aJ (bX (VT.to (bR hr ls aW (ae 0 rfl) aN) (by rw[bO];symm)) bM) ?_
  have BZ:(cJ (Sh.mG.tx) " ").map aK=[.str "number",.str "or",.str "-"]:=by rw[show cJ (Sh.mG.tx) " "=[("number":Str),"or","-"]from by symm];rfl
  exact a_ (cg (VE.to (sj (oJ hr lx aW (ae 1 rfl) aN) (λ_=>jS (bH C3 hr (ao (fj (VE.to (VO.ve (sk (ae 0 rfl) aN rfl (small (by decide)))) (by rw[BZ])) ax (bE (j:=0) rfl)) (ao (ae 1 rfl) aQ)) ⟨.number,x,rfl,ox,.inr rfl,rfl⟩))) (by rw[bO];rfl)))
theorem W1(F:k9 K "fits" "fits" (top 22) f fd)(n:Na mg)(C1:bD P w K mg base 2 "is_name" ["word"] (g_ K WO))(C2:bD P w K mg base 2 "is_number" ["word"] (g_ K Yh)):ft P w K mg base jP 3 f fd JZ (g_ K (Uy false)):=
 jR F QK (λ_ _ h=>by obtain⟨_,_,rfl,_⟩:=h;rfl) λ_ _ h=>WZ n C1 C2 (ay _) (λz=>by cases z) h
theorem zax(F:k9 K "fits" "fits" (top 22) f fd)(n:Na mg)(C1:bD P w K mg base 2 "is_name" ["word"] (g_ K WO))(C2:bD P w K mg base 2 "is_number" ["word"] (g_ K Yh))(C3:bD P w K mg base 3 "fits" JZ (g_ K (Uy false))):ft P w K mg base jP 4 f fd JZ (g_ K (Uy true)):=
 jR F QK (λ_ _ h=>by obtain⟨_,_,rfl,_⟩:=h;rfl) λ_ _ h=>WZ n C1 C2 (by decide) (λ_=>C3) h
theorem W3:cC JZ JZ (bC (top 23)):=⟨rfl,rfl,rfl,by symm,rfl,by symm,by symm⟩
def Rvo(ds:List aj)(d:aj):Prop:=∃(s:Sh)(x:Str),ds=[.str s.tx,.str x]/\vm x/\lU s x=true/\d=iT s x
theorem zay(F:k9 K "value_of" "value_of" (top 23) f fd)(n:Na mg):ft P w K mg base jP 1 f fd JZ (g_ K Rvo):=
 jR F W3 (λ_ _ h=>by obtain⟨_,_,rfl,_⟩:=h;rfl) λ_ _ h=>by
  obtain⟨s,x,rfl,ox,hf,rfl⟩:=h;intro fV A outer sh H E hr;have ls:=bB (n:=20) s.ok;have lx:=bB (n:=20) ox.2;by_cases h1:s=.name
  ·subst h1
   exact di (dN (VT.to (bR hr ls aW (ae 0 rfl) aN) (by rw[bO];exact qQ1 rfl)) (a_ (cg (ae 1 rfl)))) rfl
  ·have d1:s.tx≠"name":=by cases s<;>first|exact qQ7 rfl h1|(dsimp only[Sh.tx];symm)
   refine aJ (bX (VT.to (bR hr ls aW (ae 0 rfl) aN) (by rw[bO];exact qQ0 d1)) bM) ?_
   by_cases h2:s=.mR
   ·subst h2
    refine di (dN (VT.to (bR hr ls aW (ae 0 rfl) aN) (by rw[bO];exact qQ1 rfl)) (a_ (cg (v7 (k:=decide (x="-")) (VT.to (bR hr lx aW (ae 1 rfl) aN) (by rw[bO])) (λz=>VE.to aN ?_) (λz=>VE.to (ae 1 rfl) ?_))))) rfl
    ·show aK ""=.str (if x="-" then "" else x);rw[qQ3 (qQ4 z)]
    ·show aK x=.str (if x="-" then "" else x);rw[qQ2 (qQ5 z)]
   ·have d2:s.tx≠"name or -":=by cases s<;>first|exact qQ7 rfl h2|exact qQ7 rfl h1|(dsimp only[Sh.tx];symm)
    have ev:iT s x=if x="-" then .none else .int (CF x):=by cases s<;>first|exact qQ7 rfl h1|exact qQ7 rfl h2|rfl
    rw[ev];refine aJ (bX (VT.to (bR hr ls aW (ae 0 rfl) aN) (by rw[bO];exact qQ0 d2)) bM) ?_
    refine a_ (cg (v7 (k:=decide (x="-")) (VT.to (bR hr lx aW (ae 1 rfl) aN) (by rw[bO])) (λz=>VE.to gP (by rw[qQ3 (qQ4 z)])) (λz=>VE.to (Od (ae 1 rfl) (AA (xj hf h1 h2 (qQ5 z))) (by have:=(zx (xj hf h1 h2 (qQ5 z))).2.1;omega) n.int) (by rw[qQ2 (qQ5 z)]))))
def Ej(pU:List Sh):aj:=.tuple (pU.map λs=>.str s.tx)
def sy(pU:List Sh)(ws:List Str):Bool:=decide (ws.length=pU.length)&&(pU.zip ws).all λp=>lU p.1 p.2
def oQ(pU:List Sh)(ws:List Str):List aj:=(pU.zip ws).map λp=>iT p.1 p.2
def jY(pU:List Sh)(ws:List Str):aj:=if sy pU ws then .tuple (oQ pU ws)else .none
abbrev Uz:List Str:=["shapes","words"]
theorem W4:cC Uz Uz (bC (top 24)):=⟨rfl,rfl,rfl,by symm,rfl,by symm,by symm⟩
def Yl(ds:List aj)(d:aj):Prop:=∃(pU:List Sh)(ws:List Str),ds=[Ej pU,cV ws]/\pU.length<=1000/\ws.length<=100002/\(∀x∈ws,vm x)/\d=jY pU ws
def Ek(x:Str):Sh:=if x="name" then .name else if x="number" then .number else if x="count" then .count else if x="share" then .share else if x="count or -" then .mr else if x="name or -" then .mR else .mG
theorem vq(s:Sh):Ek s.tx=s:=by
 cases s<;>rfl
def Tv:aj->Option aj
 | .tuple [.str s,.str x]=>some (.bool (lU (Ek s) x))
 |_=>none
def W5:aj->Option aj
 | .tuple [.str s,.str x]=>some (iT (Ek s) x)
 |_=>none
theorem sA:∀(pU:List Sh)(ws:List Str),xI (pU.map λs=>aK s.tx) (ws.map aK)=(pU.zip ws).map λp=>.tuple [.str p.1.tx,.str p.2]
 | [],_=>rfl
 |_::_,[]=>rfl
 |s::pU,x::ws=>by
  have:=sA pU ws;unfold xI at this ⊢;rw[aH,aH,lb,lb,aH,aH,this]
theorem El(pU:List Sh)(ws:List Str):(xI (pU.map λs=>aK s.tx) (ws.map aK)).filterMap Tv=((pU.zip ws).map λp=>lU p.1 p.2).map .bool:=by
 rw[sA,cY,aS];exact filterMap_some λp _=>by show some (k8 (lU (Ek p.1.tx) p.2))=_;rw[vq];rfl
theorem L9(pU:List Sh)(ws:List Str):(xI (pU.map λs=>aK s.tx) (ws.map aK)).filterMap W5=oQ pU ws:=by
 unfold oQ;rw[sA,cY];exact filterMap_some λp _=>by show some (iT (Ek p.1.tx) p.2)=_;rw[vq]
theorem zaz(F:k9 K "values_of" "values_of" (top 24) f fd)(n:Na mg)(mz:mg "zip"=none)(C1:bD P w K mg base 4 "fits" JZ (g_ K (Uy true)))(C2:bD P w K mg base 1 "value_of" JZ (g_ K Rvo)):ft P w K mg base jP 5 f fd Uz (g_ K Yl):=
 jR F W4 (λ_ _ h=>by obtain⟨_,_,rfl,_⟩:=h;rfl) λ_ _ h=>by
  obtain⟨pU,ws,rfl,Qp,hw1,hok,rfl⟩:=h;intro fV A outer sh H E hr;have lR:e8 1 _:=hr.mono (by omega)
  have nc:(["shape","word"]:List Str).Nodup:=by symm
  have hzl:(xI (pU.map λs=>aK s.tx) (ws.map aK)).length<=1000:=by rw[sA,ai,List.length_zip];omega
  have hlen:∀b,decide (ws.length=pU.length)=b->cI (.int ((ws.map aK).length:Nat)) (.int ((pU.map λs=>aK s.tx).length:Nat))=b:=λb hb=>by
   rw[jX,ai,ai,<-hb,gZ,decide_eq_true_iff,decide_eq_true_iff];omega
  have mL:∀d∈xI (pU.map λs=>aK s.tx) (ws.map aK),∃s x,d=.tuple [.str (Sh.tx s),.str x]/\(s,x)∈pU.zip ws/\vm x:=λd hd=>by
   rw[sA]at hd;obtain⟨p,hp,rfl⟩:=av.mp hd;exact⟨p.1,p.2,rfl,hp,hok _ (rF hp).2⟩
  by_cases hl:ws.length=pU.length
  ·have Ak:∀b,((pU.zip ws).all λp=>lU p.1 p.2)=b->qR ((pU.zip ws).map λp=>lU p.1 p.2)=b:=λb hb=>by
    unfold qR;rw[EZ];exact hb
   by_cases ha:((pU.zip ws).all λp=>lU p.1 p.2)=true
   ·have ev:jY pU ws=.tuple (oQ pU ws):=by unfold jY sy;rw[ha,qQ1 hl];rfl
    rw[ev];refine aJ (bX (VT.to (j_ (k1:=false) (k2:=false) (VT.to (qQ hr (cu 20 _) (cu 20 _) (jA (ae 1 rfl) n.len) (jW (ae 0 rfl) n.len)) (by rw[hlen true (qQ1 hl)];rfl)) (λ_=>VT.to (nS (iD (jG (pL rfl) Be (ao (VO.ve (VO.to (fD (own:=["shape","word"]) (cap:=[]) (N:=["shape","word"]) (cl:=[]) (tgt:=.tup [0,1]) (F:=Tv) rfl ⟨rfl,by symm,by symm,rfl,rfl,by simp⟩ (Cb .tup .lst (ae 0 rfl) (ae 1 rfl) mz) (λf s3 H3=>gB rfl (bU (bL (i:=0) nc rfl (a7 rfl)) (bU (bL (i:=1) nc rfl (a7 rfl)) fh))) rfl
     (small (by omega)) (λd hd=>?_)) (El pU ws))) aQ) n.all rfl) (t:=true) (by show some _=some _;rw[Ak true ha]))) rfl)) rfl) bM) ?_
    ·obtain⟨s,x,rfl,hp,ox⟩:=mL d hd
     refine⟨_,rfl,λf s3 H3=>f9,λr iP f s3 H3=>?_⟩
     have iP:some (k8 (lU (Ek s.tx) x))=some r:=iP;rw[vq]at iP;cases iP;exact bH C1 hr (ao (ae 0 rfl) (ao (ae 1 rfl) aQ)) ⟨s,x,rfl,ox,.inl rfl,rfl⟩
    refine a_ (cg (jM kK vd (ao (VO.ve (VO.to (fD (own:=["shape","word"]) (cap:=[]) (N:=["shape","word"]) (cl:=[]) (tgt:=.tup [0,1]) (F:=W5) rfl ⟨rfl,by symm,by symm,rfl,rfl,by simp⟩ (Cb .tup .lst (ae 0 rfl) (ae 1 rfl) mz) (λf s3 H3=>gB rfl (bU (bL (i:=0) nc rfl (a7 rfl)) (bU (bL (i:=1) nc rfl (a7 rfl)) fh))) rfl
     (small (by omega)) (λd hd=>?_)) (L9 pU ws))) aQ) n.tup rfl))
    obtain⟨s,x,rfl,hp,ox⟩:=mL d hd;refine⟨_,rfl,λf s3 H3=>f9,λr iP f s3 H3=>?_⟩
    have iP:some (iT (Ek s.tx) x)=some r:=iP;rw[vq]at iP;cases iP;exact bH C2 lR (ao (ae 0 rfl) (ao (ae 1 rfl) aQ)) ⟨s,x,rfl,ox,eO.mp ha (s,x) hp,rfl⟩
   ·have ha:=Bool.not_eq_true _▸ha
    have ev:jY pU ws=.none:=by unfold jY sy;rw[ha,Bool.and_false];rfl
    rw[ev];refine di (dN (VT.to (j_ (k1:=false) (k2:=true) (VT.to (qQ hr (cu 20 _) (cu 20 _) (jA (ae 1 rfl) n.len) (jW (ae 0 rfl) n.len)) (by rw[hlen true (qQ1 hl)];rfl)) (λ_=>VT.to (nS (iD (jG (pL rfl) Be (ao (VO.ve (VO.to (fD (own:=["shape","word"]) (cap:=[]) (N:=["shape","word"]) (cl:=[]) (tgt:=.tup [0,1]) (F:=Tv) rfl ⟨rfl,by symm,by symm,rfl,rfl,by simp⟩ (Cb .tup .lst (ae 0 rfl) (ae 1 rfl) mz) (λf s3 H3=>gB rfl (bU (bL (i:=0) nc rfl (a7 rfl)) (bU (bL (i:=1) nc rfl (a7 rfl)) fh))) rfl
     (small (by omega)) (λd hd=>?_)) (El pU ws))) aQ) n.all rfl) (t:=false) (by show some _=some _;rw[Ak false ha]))) rfl)) rfl) (a_ (cg gP))) rfl
    obtain⟨s,x,rfl,hp,ox⟩:=mL d hd;refine⟨_,rfl,λf s3 H3=>f9,λr iP f s3 H3=>?_⟩
    have iP:some (k8 (lU (Ek s.tx) x))=some r:=iP;rw[vq]at iP;cases iP;exact bH C1 hr (ao (ae 0 rfl) (ao (ae 1 rfl) aQ)) ⟨s,x,rfl,ox,.inl rfl,rfl⟩
  ·have ev:jY pU ws=.none:=by unfold jY sy;rw[qQ0 hl];rfl
   rw[ev];exact di (dN (VT.to (j_ (k1:=true) (k2:=true) (VT.to (qQ hr (cu 20 _) (cu 20 _) (jA (ae 1 rfl) n.len) (jW (ae 0 rfl) n.len)) (by rw[hlen false (qQ0 hl)];rfl)) (λz=>by cases z)) rfl) (a_ (cg gP))) rfl
end
def o_:Rl->Nat->Prop
 | .meet,n=>2<=n
 | .gather m a,_=>1<=m/\dI m/\dI a
 | .many m,_=>1<=m/\dI m
 | .rank none,_=>True
 | .rank (some b),_=>dI b
 | .turns s,n=>s.length=n/\∀z∈s,1<=z/\z<=9
 | .eldest,_=>True
theorem Tw(h:dI n)(hx:CF x≠n):dJ n≠x:=λz=>hx (by rw[<-z,Ei h])
theorem L_(h:dI n):dJ n≠"-":=λz=>by
 have hd:45∈(dJ n).cps.toList:=by rw[z];symm
 have:=mq h.1 hd;omega
theorem nE(h:dI n)(h1:1<=n):kQ (dJ n)=true:=by
 unfold kQ;rw[zq h.1 h.2,qQ0 (Tw h (by rw[show CF "0"=0 from by symm];omega))]
 rfl
theorem Jo(h1:1<=n)(h9:n<=9):lU .share (dJ n)=true:=by
 have hs:dI n:=⟨by omega,by omega⟩
 show(kQ (dJ n)&&decide (((dJ n).length:Int)=1))=true
 rw[nE hs h1];rcases(by omega:n=1\/n=2\/n=3\/n=4\/n=5\/n=6\/n=7\/n=8\/n=9)with rfl|rfl|rfl|rfl|rfl|rfl|rfl|rfl|rfl<;>symm
theorem mH{s:Sh}(h:dI n)(h1:s≠.name)(h2:s≠.mR):iT s (dJ n)=.int n:=by
 have e:iT s (dJ n)=if dJ n="-" then .none else .int (CF (dJ n)):=by cases s<;>first|exact qQ7 rfl h1|exact qQ7 rfl h2|rfl
 rw[e,qQ2 (L_ h),Ei h]
theorem vt:∀s:List Int,(∀z∈s,1<=z/\z<=9)->sy (bh s.length .share) (s.map dJ)=true/\oQ (bh s.length .share) (s.map dJ)=s.map .int
 | [],_=>⟨rfl,rfl⟩
 |z::s,h=>by
  obtain⟨i1,i2⟩:=vt s λx hx=>h x (aT _ hx)
  obtain⟨z1,z9⟩:=h z aL;unfold sy at i1 ⊢;unfold oQ at i2 ⊢;obtain⟨j1,j2⟩:=eW.mp i1;rw[bJ,d_,aH,lb,List.all_cons,aH,aH,i2];refine⟨?_,?_⟩
  ·rw[j2,show lU (Sh.share,dJ z).1 (Sh.share,dJ z).2=true from Jo z1 z9]
   simp
  ·rw[show iT (Sh.share,dJ z).1 (Sh.share,dJ z).2=.int z from mH (s:=.share) ⟨by omega,by omega⟩ (by intro z;cases z) (by intro z;cases z)]
def sC:Rl->List Sh
 | .rank _=>[.mG]
 | .many _=>[.count]
 | .gather _ _=>[.count,.number]
 |_=>[]
theorem Em{n:Nat}(h:o_ r n)(ht:∀s,r≠.turns s):sy (sC r) ((rB r).map eQ)=true/\oQ (sC r) ((rB r).map eQ)=rB r:=by
 cases r with
 |meet=>exact⟨rfl,rfl⟩
 |eldest=>exact⟨rfl,rfl⟩
 |turns s=>exact qQ7 rfl (ht s)
 |many m=>
  obtain⟨h1,h2⟩:=h
  constructor
  ·show(true&&(kQ (dJ m)&&true))=true
   rw[nE h2 h1];rfl
  ·show [iT .count (dJ m)]=[fN m]
   rw[mH h2 (by intro z;cases z) (by intro z;cases z)]
 |gather m a=>
  obtain⟨h1,h2,h3⟩:=h
  constructor
  ·show(true&&(kQ (dJ m)&&(isNumber (dJ a)&&true)))=true
   rw[nE h2 h1,zq h3.1 h3.2];rfl
  ·show [iT .count (dJ m),iT .number (dJ a)]=[fN m,.int a]
   rw[mH h2 (by intro z;cases z) (by intro z;cases z),mH h3 (by intro z;cases z) (by intro z;cases z)]
 |rank b=>
  cases b with
  |none=>exact⟨by symm,rfl⟩
  |some b=>
   constructor
   ·show(true&&((decide (dJ b="-")||isNumber (dJ b))&&true))=true
    rw[zq h.1 h.2];simp
   ·show [iT .mG (dJ b)]=[fN b]
    rw[mH h (by intro z;cases z) (by intro z;cases z)]
theorem o_.ok{n:Nat}(hn:n<=60)(h:o_ r n):zr r:=by
 cases r with
 |meet=>trivial
 |eldest=>trivial
 |gather m a=>exact h.2
 |many m=>exact h.2
 |rank b=>cases b with|none=>trivial|some b=>exact h
 |turns s=>exact⟨by have:=h.1;omega,λz hz=>by have:=h.2 z hz;exact⟨by omega,by omega⟩⟩
abbrev qJ:List (Str×List Str):=[("kind",[("name":Str),"count or -"]),("gate",[("name":Str)]),("line",[("name":Str),"count"]),("time",[("name":Str),"name","count"]),("open",[("name":Str),"number","number"]),("pace",[("name":Str),"name","count","count"])]
abbrev vw:List (Str×List Str):=[("eldest",[]),("rank",[("number or -":Str)]),("many",[("count":Str)]),("gather",[("count":Str),"number"]),("meet",[])]
structure Np(mg:Str->Option aE)(pr:BG)(K:au):Prop extends Na mg where
 zip:mg "zip"=none
 set:mg "set"=none
 any:mg "any"=none
 mp:∃t,mg "MOST_PLACES"=some (.int 6 t)
 fo:∃g,mg "FORMS"=some (.ref g)/\GD pr K g qJ
 ru:∃g,mg "RULES"=some (.ref g)/\GD pr K g vw
theorem En{α:Type}(x:α):∀n,(bh n [x]).flatten=bh n x
 |0=>rfl
 |n+1=>by rw[d_,fU,En x n];rfl
theorem zy(x:aj)(l:List aj):L2.cutD (x::l) (some 1) none=l:=(jI (x::l) 1).trans rfl
section
variable{P:bK}{w:cB}{K:au}{mg:Str->Option aE}{base:dg}{f:aR}{k:Nat}
abbrev W6:List Str:=["words","many","shares","values"]
theorem Ma:cC W6 ["words","many"] (bC (top 27)):=⟨rfl,rfl,rfl,by symm,rfl,by symm,by symm⟩
def W7(ds:List aj)(d:aj):Prop:=∃(r:Rl)(n:Nat),ds=[cV (c6 r),.int n]/\1<=n/\n<=6/\o_ r n/\d=za r
theorem W8(F:k9 K "rule_of" "rule_of" (top 27) f fd)(n:Np mg w.params K)(C:bD P w K mg base 5 "values_of" Uz (g_ K Yl)):ft P w K mg base jP 6 f fd ["words","many"] (g_ K W7):=
 jR F Ma (λ_ _ h=>by obtain⟨_,_,rfl,_⟩:=h;rfl) λ_ _ h=>by
  obtain⟨r,m,rfl,m1,m6,hg,rfl⟩:=h;intro fV A outer s H E hr;have nd:W6.Nodup:=Ma.nd;have Uu:=hg.ok (by omega)
  by_cases ht:∃sh,r=.turns sh
  ·obtain⟨sh,rfl⟩:=ht
   obtain⟨hl,hz⟩:=hg;obtain⟨v1,v2⟩:=vt sh hz;have ev:jY (bh m .share) (sh.map dJ)=.tuple (sh.map .int):=by unfold jY;rw[<-hl,v1,v2];rfl
   refine di (dN (VT.to (bR hr aW aW (fj (ae 0 rfl) ax (bE (j:=0) rfl)) aN) (by rw[bO];exact qQ1 rfl)) (aJ (cA 2 (d:=.tuple (sh.map .int)) (bH C hr (ao (VE.to (Ow (eU (ao aN aQ)) (ae 1 rfl) (by omega) (by omega) (by show 1<=100;decide) (by simp)) (k:=Ej (bh m .share)) (by rw[En];unfold Ej;rw[List.map_replicate,fu];rfl)) (ao (VE.to (VO.ve (gD (ae 0 rfl) (.yes ax) .no)) (k:=cV (sh.map dJ)) (by show sQ (L2.cutD (_::_) _ _)=_;rw[zy];rfl)) aQ)) ⟨bh m .share,sh.map dJ,rfl,by rw[dq];omega,by rw[ai];omega,λx hx=>?_,ev.symm⟩) nd) (a_ (cg (v7 (k:=false) (VT.to (ji lX pR (ae 2 rfl) gP (gC _)) rfl) (λz=>by cases z) (λ_=>VE.to (eU (ao aN (ao (ae 2 rfl) aQ))) rfl)))))) rfl
   obtain⟨z,hz',rfl⟩:=av.mp hx;have:=hz z hz';exact o9 (by omega) (by omega)
  ·have CB:∀sh,r≠.turns sh:=λsh z=>ht ⟨sh,z⟩
   obtain⟨v1,v2⟩:=Em hg CB;have L7:c6 r=n_ r::(rB r).map eQ:=by
    cases r with
    |turns sh=>exact qQ7 rfl (CB sh)
    |_=>rfl
   have hw:n_ r≠"turns":=by
    cases r with
    |turns sh=>exact qQ7 rfl (CB sh)
    |_=>dsimp only[n_];symm
   have oR:lN (n_ r):=by cases r<;>dsimp only[n_,lN]<;>symm
   have hk:ky vw (n_ r)=some ((sC r).map Sh.tx):=by
    cases r with
    |turns sh=>exact qQ7 rfl (CB sh)
    |meet=>symm
    |eldest=>symm
    |rank b=>show ky vw "rank"=some ([Sh.mG].map Sh.tx);symm
    |many m=>show ky vw "many"=some ([Sh.count].map Sh.tx);symm
    |gather m a=>show ky vw "gather"=some ([Sh.count,Sh.number].map Sh.tx);symm
   have hme:decide (n_ r="meet")=true->¬(m:Int)<2:=by
    cases r with
    |meet=>intro _;have:2<=m:=hg;omega
    |turns sh=>exact qQ7 rfl (CB sh)
    |eldest=>intro z;exact qQ7 z (by symm)
    |rank b=>intro z;exact qQ7 z (show ¬decide (("rank":Str)="meet")=true by symm)
    |many m=>intro z;exact qQ7 z (show ¬decide (("many":Str)="meet")=true by symm)
    |gather m a=>intro z;exact qQ7 z (show ¬decide (("gather":Str)="meet")=true by symm)
   have hal:(rB r).length<=2:=by cases r<;>simp[rB]
   have hok:=zt CB Uu;have hsl:(sC r).length<=2:=by cases r<;>simp[sC]
   have ev:jY (sC r) ((rB r).map eQ)=.tuple (rB r):=by unfold jY;rw[v1,v2];rfl
   rw[L7];unfold za
   generalize hA:rB r=ra at *
   generalize hW:n_ r=qk at *
   obtain⟨g1,q1,q2⟩:=n.ru;have a0:nQ ((qk::ra.map eQ).map aK) 0=some (.str qk):=bE (j:=0) rfl;refine aJ (bX (VT.to (bR hr (bB oR) aW (fj (ae 0 rfl) ax a0) aN) (by rw[bO];exact qQ0 hw)) bM) ?_
   refine aJ (bX (VT.to (j_ (k1:=false) (k2:=decide (qk="meet")&&decide ((m:Int)<2)) (VT.to (Bf q1 q2 (fj (ae 0 rfl) ax a0)) (by rw[hk];rfl)) (λ_=>uo (VT.to (bR hr (bB oR) aW (fj (ae 0 rfl) ax a0) aN) (by rw[bO])) (λ_=>DP (ae 1 rfl) ax))) ?_) bM) ?_
   ·cases hd:decide (qk="meet") with
    |false=>rfl
    |true=>rw[qQ0 (hme hd)];rfl
   refine aJ (cA 3 (d:=.tuple ra) (bH C hr (ao (VE.to (Ht q1 q2 (fj (ae 0 rfl) ax a0) hk) (k:=Ej (sC r)) (by unfold Ej;rw[aS];rfl)) (ao (VE.to (VO.ve (gD (ae 0 rfl) (.yes ax) .no)) (k:=cV (ra.map eQ)) (by show sQ (L2.cutD (_::_) _ _)=_;rw[zy];rfl)) aQ)) ⟨sC r,ra.map eQ,rfl,by omega,by rw[ai];omega,λx hx=>?_,ev.symm⟩) nd) ?_
   ·obtain⟨z,hz,rfl⟩:=av.mp hx
    have:=hok z hz;cases z with
    |none=>exact⟨by decide,by show cx (.str ("-":Str))=true;symm⟩
    |int i=>exact o9 this.1 this.2
    |str x=>
     show vm (if x="" then "-" else x)
     split
     ·exact⟨by decide,by show cx (.str ("-":Str))=true;symm⟩
     ·rename_i hx
      exact(this.resolve_left hx).ok
    |_=>exact this.elim
   ·exact a_ (cg (v7 (k:=false) (VT.to (ji lX pR (ae 3 rfl) gP (gC _)) rfl) (λz=>by cases z) (λ_=>VE.to (x9 (eU (ao (fj (ae 0 rfl) ax a0) aQ)) (ae 3 rfl) (by simp) (small (by simp only[bJ,cN];omega))) rfl)))
theorem W9:cC ["names"] ["names"] (bC (top 28)):=⟨rfl,rfl,rfl,by symm,rfl,by symm,by symm⟩
def Mb(l:List Str):Prop:=1<=l.length/\l.length<=6/\l.Nodup/\∀x∈l,dM x
def Rap(ds:List aj)(d:aj):Prop:=∃l:List Str,ds=[.tuple (l.map .str)]/\Mb l/\d=.bool true
def QL:aj->Option aj
 | .str x=>some (.bool (isName x))
 |_=>none
theorem Jp(l:List Str):(l.map aK).filterMap QL=(l.map isName).map .bool:=by
 rw[cY,aS];exact filterMap_some λk _=>rfl
theorem zaB(F:k9 K "are_places" "are_places" (top 28) f fd)(n:Np mg w.params K)(C:bD P w K mg base 2 "is_name" ["word"] (g_ K WO)):ft P w K mg base jP 3 f fd ["names"] (g_ K Rap):=
 jR F W9 (λ_ _ h=>by obtain⟨_,rfl,_⟩:=h;rfl) λ_ _ h=>by
  obtain⟨l,rfl,⟨l1,l6,lnd,Md⟩,rfl⟩:=h;intro fV A outer s H E hr;obtain⟨t,m6⟩:=n.mp;have nc:(["name"]:List Str).Nodup:=by symm
  have hdd:dd [] l=l:=DU (by simpa using lnd)
  have Ak:qR (l.map isName)=true:=by
   unfold qR;rw[EZ,eO];intro x hx;exact(Md x hx).is
  refine a_ (cg (VE.to (lB (k1:=true) (VE.to (D8 Dy Dy (Ap 1 l.length) (Ap l.length 6) ax (VE.to (jW (ae 0 rfl) n.len) (by rw[ai])) (λ_=>HG m6)) (by rw[qQ1 (by omega),qQ1 (by omega)];rfl)) (λ_=>lB (k1:=true) (VE.to (jG (pL rfl) Be (ao (VO.ve (VO.to (fD (own:=["name"]) (cap:=[]) (N:=["name"]) (cl:=[]) (tgt:=.one 0) (F:=QL) (ds:=l.map aK) rfl ⟨rfl,by symm,by symm,rfl,rfl,by simp⟩ (yN (ae 0 rfl)) (λf s3 H3=>bL (i:=0) nc rfl (a7 rfl)) rfl
   (small (by rw[ai];omega)) (λd hd=>?_)) (Jp _))) aQ) n.all rfl) (by rw[Ak])) (λ_=>jS (oJ hr (cu 20 _) (cu 20 _) (DZ (ae 0 rfl) (by omega) rfl n.len n.set) (jW (ae 0 rfl) n.len))))) ?_))
  ·obtain⟨z,hz,rfl⟩:=av.mp hd
   refine⟨_,rfl,λf s3 H3=>f9,λr iP f s3 H3=>?_⟩
   cases iP;exact bH C hr (ao (ae 0 rfl) aQ) ⟨z,rfl,(Md z hz).ok.1,rfl⟩
  ·rw[jX,hdd,ai,qQ1 rfl];rfl
end
inductive Ent where
 |kind (n:Str) (k:Option Int)
 |gate (n:Str)
 |line (n:Str) (r:Int)
 |desk (d:Dk)
 |time (d k:Str) (w:Int)
 |hour (d:Str) (a b:Int)
variable{e:Ent}
def Ent.form:Ent->Str
 | .kind _ _=>"kind"
 | .gate _=>"gate"
 | .line _ _=>"line"
 | .desk _=>"desk"
 | .time _ _ _=>"time"
 | .hour _ _ _=>"open"
def Ent.rest:Ent->List aj
 | .kind n k=>[.str n,m9 k]
 | .gate n=>[.str n]
 | .line n r=>[.str n,.int r]
 | .desk d=>[.str d.name,.str d.to,za d.rule,.tuple (d.places.map .str)]
 | .time d k w=>[.str d,.str k,.int w]
 | .hour d a b=>[.str d,.int a,.int b]
def Gc(e:Ent):aj:=.tuple (.str e.form::e.rest)
def jZ(d:Dk):List Str:=[("desk":Str),d.name,"to",eQ (.str d.to),"by"]++c6 d.rule ++ [("from":Str)]++d.places
def Gd:Ent->List Str
 | .kind n k=>[("kind":Str),n,eQ (m9 k)]
 | .gate n=>[("gate":Str),n]
 | .line n r=>[("line":Str),n,dJ r]
 | .desk d=>jZ d
 | .time d k w=>[("time":Str),d,k,dJ w]
 | .hour d a b=>[("open":Str),d,dJ a,dJ b]
def Ge(d:Dk):Prop:=dM d.name/\(d.to=""\/dM d.to)/\o_ d.rule d.places.length/\Mb d.places
def ua:Ent->Prop
 | .kind n k=>dM n/\∀i,k=some i->1<=i/\dI i
 | .gate n=>dM n
 | .line n r=>dM n/\1<=r/\dI r
 | .desk d=>Ge d
 | .time d k w=>dM d/\dM k/\1<=w/\dI w
 | .hour d a b=>dM d/\dI a/\dI b/\a<b
theorem CG(h:dM x):x≠"-":=λz=>by
 have hd:45∈x.cps.toList:=by rw[z];symm
 have:=h.2.2 _ hd;omega
theorem Jq(h:dM x):eQ (.str x)=x:=by
 show(if x="" then("-":Str)else x)=x
 rw[qQ2 (iG h).1]
theorem vy(h:E9 d):vm (eQ d):=by
 have h0:vm "-":=⟨by decide,by show cx (.str ("-":Str))=true;symm⟩
 cases d with
 |none=>exact h0
 |int i=>exact o9 h.1 h.2
 |str x=>
  show vm (if x="" then "-" else x)
  split
  ·exact h0
  ·rename_i hx
   exact(h.resolve_left hx).ok
 |_=>exact h.elim
theorem Eo(h:zr r):∀x∈c6 r,vm x:=by
 intro x hx;by_cases ht:∃sh,r=.turns sh
 ·obtain⟨sh,rfl⟩:=ht
  rcases aG.mp hx with rfl|hx
  ·exact⟨by decide,by show cx (.str ("turns":Str))=true;symm⟩
  ·obtain⟨z,hz,rfl⟩:=av.mp hx
   exact o9 (h.2 z hz).1 (h.2 z hz).2
 ·have CB:∀sh,r≠.turns sh:=λsh z=>ht ⟨sh,z⟩
  have L7:c6 r=n_ r::(rB r).map eQ:=by
   cases r with
   |turns sh=>exact qQ7 rfl (CB sh)
   |_=>rfl
  rw[L7]at hx;rcases aG.mp hx with rfl|hx
  ·cases r<;>(refine⟨?_,?_⟩<;>dsimp only[n_,lN]<;>symm)
  ·obtain⟨z,hz,rfl⟩:=av.mp hx
   exact vy (zt CB h z hz)
theorem Mf{n:Nat}(hn:n<=6)(h:o_ r n):1<=(c6 r).length/\(c6 r).length<=7:=by
 cases r with
 |turns s=>have:=h.1;simp[c6];omega
 |_=>simp[c6,rB]
theorem CH(h:zr r):∀x∈(c6 r).drop 1,x≠"from":=by
 have hd:∀d,E9 d->(∀x,d≠.str x)->eQ d≠"from":=by
  intro d hd hs;cases d with
  |none=>symm
  |int i=>
   intro z;have:102∈(dJ i).cps.toList:=by
    have z:dJ i="from":=z;rw[z];symm
   have:=mq hd.1 this;omega
  |str x=>exact qQ7 rfl (hs x)
  |_=>exact hd.elim
 intro x hx;cases r with
 |turns s=>
  obtain⟨z,hz,rfl⟩:=av.mp (show x∈s.map dJ from hx)
  exact hd (.int z) (h.2 z hz) (by intro x z;cases z)
 |meet=>cases hx
 |eldest=>cases hx
 |gather m a=>
  simp only[c6,rB,aH,gF,uM,ku,aG,bu,or_false]at hx;rcases hx with rfl|rfl
  ·exact hd (.int m) h.1 (by intro x z;cases z)
  ·exact hd (.int a) h.2 (by intro x z;cases z)
 |many m=>
  simp only[c6,rB,aH,gF,uM,ku,aG,bu,or_false]at hx;rw[hx];exact hd (.int m) h (by intro x z;cases z)
 |rank b=>
  simp only[c6,rB,aH,gF,uM,ku,aG,bu,or_false]at hx;rw[hx];cases b with
  |none=>exact hd .none trivial (by intro x z;cases z)
  |some b=>exact hd (.int b) h (by intro x z;cases z)
section
variable{P:bK}{w:cB}{K:au}{mg:Str->Option aE}{base:dg}{f:aR}{k:Nat}
abbrev Nde:List Str:=["words","end","head","places","rule"]
theorem QM:cC Nde ["words"] (bC (top 26)):=⟨rfl,rfl,rfl,by symm,rfl,by symm,by symm⟩
def Rde(ds:List aj)(d:aj):Prop:=∃q:Dk,ds=[cV (jZ q)]/\Ge q/\d=Gc (.desk q)
theorem zaC{α:Type}(l:List α)(a b:Nat)(ha:a<=b)(hb:b<=l.length):L2.cutD l (some (a:Int)) (some (b:Int))=(l.drop a).take (b-a):=by
 unfold L2.cutD;rw[HT.qt,HT.qt,nL hb,nL (show a<=l.length by omega)]
theorem CJ(h:∀x∈l,vm x):Lay 20 (cV l):=oN (n:=19) λd hd=>by
 obtain⟨x,hx,rfl⟩:=av.mp hd;exact bB (h x hx).2
theorem ik(x:Str)(l:List Str):vb (.str x) (.list (l.map aK))=decide (x∈l):=by
 show((l.map aK).any λy=>cI y (.str x))=_
 rw[List.any_map]
 induction l with
 |nil=>rfl
 |cons y l ih=>
  rw[mW,ih]
  show(cI (.str y) (.str x)||decide (x∈l))=_
  rw[bO,gZ];simp only[zZ,decide_eq_true_eq,aG]
  constructor
  ·rintro(h|h)
   ·exact .inl h.symm
   ·exact .inr h
  ·rintro(h|h)
   ·exact .inl h.symm
   ·exact .inr h
theorem zaD(F:k9 K "desk_entry" "desk_entry" (top 26) f fd)(n:Np mg w.params K)(C1:bD P w K mg base 5 "values_of" Uz (g_ K Yl))(C2:bD P w K mg base 6 "rule_of" ["words","many"] (g_ K W7))(C3:bD P w K mg base 3 "are_places" ["names"] (g_ K Rap)):ft P w K mg base jP 7 f fd ["words"] (g_ K Rde):=
 jR F QM (λ_ _ h=>by obtain⟨_,rfl,_⟩:=h;rfl) λ_ _ h=>by
  obtain⟨q,rfl,⟨hn,Uv,WV,Qq⟩,rfl⟩:=h;intro fV A outer s H E hr;have nd:Nde.Nodup:=QM.nd;have zaE:=Qq;obtain⟨p1,p6,pnd,pnm⟩:=zaE;have Uu:=WV.ok (by omega)
  obtain⟨r1,r7⟩:=Mf p6 WV;have rok:=Eo Uu;have rnf:=CH Uu;have W_:vm (eQ (.str q.to)):=vy (d:=.str q.to) Uv;obtain⟨rw0,rest,UA⟩:∃a l,c6 q.rule=a::l:=by
   cases e:c6 q.rule with
   |nil=>rw[e]at r1;simp at r1
   |cons a l=>exact⟨a,l,rfl⟩
  have W':vm "from":=⟨by decide,by show cx (.str ("from":Str))=true;symm⟩
  have hW:jZ q=("desk":Str)::q.name::"to"::eQ (.str q.to)::"by"::rw0::(rest++("from":Str)::q.places):=by
   unfold jZ;rw[UA];simp
  have zaH:∀x∈rest,vm x:=λx hx=>rok x (by rw[UA];exact aT _ hx)
  have zaI:∀x∈rest,x≠"from":=λx hx=>rnf x (by rw[UA];exact hx)
  have zgj:rest.length<=6:=by rw[UA]at r7;simp at r7;omega
  have lit:∀x:Str,cx (.str x)=true->x.length<=100000->vm x:=λx h1 h2=>⟨h2,h1⟩
  have hok:∀x∈jZ q,vm x:=by
   intro x hx;rw[hW]at hx;simp only[aG,bS]at hx;rcases hx with rfl|rfl|rfl|rfl|rfl|rfl|hx|rfl|hx
   ·exact lit _ (by symm) (by decide)
   ·exact hn.ok
   ·exact lit _ (by symm) (by decide)
   ·exact W_
   ·exact lit _ (by symm) (by decide)
   ·exact rok _ (by rw[UA];exact aL)
   ·exact zaH x hx
   ·exact W'
   ·exact(pnm x hx).ok
  have hlay:=CJ hok;have hlen:(jZ q).length=7+rest.length+q.places.length:=by rw[hW];simp;omega
  have Xa:(jZ q).drop 6=rest++("from":Str)::q.places:=by rw[hW];rfl
  have Xb:L2.cutD ((jZ q).map aK) (some 6) none=(rest++("from":Str)::q.places).map aK:=by rw[<-Xa,qc];exact jI _ 6
  have Xc:Lay 20 (.list ((rest++("from":Str)::q.places).map aK)):=CJ λx hx=>by
   refine hok x ?_
   rw[<-Xa]at hx;exact dU hx
  have QN:Lay 20 (.str "from"):=aW;have Pb:∀(j:Nat)(x:Str),(jZ q)[j]?=some x->nQ ((jZ q).map aK) (j:Int)=some (.str x):=λj x h=>bE (by rw[aI,h];rfl)
  have g1:(jZ q)[1]?=some q.name:=by rw[hW];rfl
  have g2:(jZ q)[2]?=some ("to":Str):=by rw[hW];rfl
  have g3:(jZ q)[3]?=some (eQ (.str q.to)):=by rw[hW];rfl
  have g4:(jZ q)[4]?=some ("by":Str):=by rw[hW];rfl
  have Oh:(jZ q)[6+rest.length]?=some ("from":Str):=by
   have:(jZ q)[6+rest.length]?=((jZ q).drop 6)[rest.length]?:=by rw[List.getElem?_drop]
   rw[this,Xa,cM (ay _),Nat.sub_self];rfl
  have E5:∀j (h:j<(jZ q).length),6<=j->j<6+rest.length->(jZ q)[j]≠"from":=by
   intro j h j6 jr;have:(jZ q)[j]?=((jZ q).drop 6)[j-6]?:=by rw[List.getElem?_drop];congr 1;omega
   rw[Xa,cU (by omega),aq h,aq (by omega)]at this
   rw[cR this];exact zaI _ (dR _)
  have Pg:L2.cutD ((jZ q).map aK) (some ((6+rest.length:Nat)+1:Int)) none=q.places.map aK:=by
   rw[show((6+rest.length:Nat)+1:Int)=((6+rest.length+1:Nat):Int)from by omega,jI,<-qc]
   congr 1
   rw[show 6+rest.length+1=6+(rest.length+1)from by omega,<-List.drop_drop,Xa,List.drop_append,rq (by omega),show rest.length+1-rest.length=1 from by omega]
   rfl
  have Xd:L2.cutD ((jZ q).map aK) (some 5) (some ((6+rest.length:Nat):Int))=(c6 q.rule).map aK:=by
   rw[show(5:Int)=((5:Nat):Int)from rfl,zaC _ 5 (6+rest.length) (by omega) (by rw[ai];omega),<-qc,<-Dn]
   congr 1
   rw[hW,UA]
   show((rw0::(rest++("from":Str)::q.places))).take (6+rest.length-5)=rw0::rest
   rw[show 6+rest.length-5=rest.length+1 from by omega,List.take_succ_cons,List.take_left' rfl]
  refine aJ (bX (VT.to (yM (k1:=false) (k2:=false) (k3:=false) (VT.to (yL hr rfl QN Xc aN (VE.to (VO.ve (gD (ae 0 rfl) (.yes ax) .no)) (by rw[Xb]))) (by rw[ik,qQ1 (by simp)];rfl)) (λ_=>VT.to (qQ hr aW aW (fj (ae 0 rfl) ax (Pb 2 _ g2)) aN) (by rw[bO,qQ1 rfl];rfl)) (λ_ _=>VT.to (qQ hr aW aW (fj (ae 0 rfl) ax (Pb 4 _ g4)) aN) (by rw[bO,qQ1 rfl];rfl))) rfl) bM) ?_
  refine aJ (cA 1 (d:=.int ((6+rest.length:Nat):Int)) (I0 (i:=6) (j:=6+rest.length) hr (ae 0 rfl) aN ax hlay QN (by omega) ⟨by rw[ai];omega,?_⟩ (λj h j6 jr=>?_)) nd) ?_
  ·have:(jZ q)[6+rest.length]'(by omega)="from":=by
    rw[aq (by omega)]at Oh
    exact cR Oh
   rw[qP,bO,this];exact qQ1 rfl
  ·rw[ai]at h
   rw[qP,bO];exact qQ0 (E5 j h j6 jr)
  have SY:jY [.name,.mR] [q.name,eQ (.str q.to)]=.tuple [.str q.name,.str q.to]:=by
   have f2:lU .mR (eQ (.str q.to))=true/\iT .mR (eQ (.str q.to))=.str q.to:=by
    rcases Uv with h|h
    ·rw[h];exact⟨by symm,rfl⟩
    ·rw[Jq h]
     refine⟨?_,?_⟩
     ·show(decide (q.to="-")||isName q.to)=true
      rw[h.is,E2]
     ·show aK (if q.to="-" then "" else q.to)=_
      rw[qQ2 (CG h)]
   unfold jY sy oQ
   show(if(true&&(isName q.name&&(lU .mR (eQ (.str q.to))&&true)))=true then gy [.str q.name,iT .mR (eQ (.str q.to))]else .none)=_
   rw[hn.is,f2.1,f2.2];rfl
  refine aJ (cA 2 (d:=.tuple [.str q.name,.str q.to]) (bH C1 (hr.mono (by omega)) (ao (VE.to (eU (ao aN (ao aN aQ))) (k:=Ej [.name,.mR]) rfl) (ao (VE.to (VO.ve (fe (ao (fj (ae 0 rfl) ax (Pb 1 _ g1)) (ao (fj (ae 0 rfl) ax (Pb 3 _ g3)) aQ)))) (k:=cV [q.name,eQ (.str q.to)]) rfl) aQ)) ⟨_,_,rfl,by show 2<=1000;decide,by show 2<=100002;decide,λx hx=>?_,SY.symm⟩) nd) ?_
  ·simp only[aG,bu,or_false]at hx
   rcases hx with rfl|rfl
   ·exact hn.ok
   ·exact W_
  refine aJ (cA 3 (d:=.tuple (q.places.map .str)) (jM kK vd (ao (VE.to (VO.ve (gD (ae 0 rfl) (.yes (cQ (ae 1 rfl) ax)) .no)) (by rw[Pg])) aQ) n.tup rfl) nd) ?_
  refine aJ (cA 4 (d:=za q.rule) (bH C2 hr (ao (VE.to (VO.ve (gD (ae 0 rfl) (.yes ax) (.yes (ae 1 rfl)))) (k:=cV (c6 q.rule)) (by rw[Xd];rfl)) (ao (VE.to (jW (ae 3 rfl) n.len) (by rw[ai])) aQ)) ⟨q.rule,q.places.length,rfl,p1,p6,WV,rfl⟩) nd) ?_
  refine aJ (bX (VT.to (yM (k1:=false) (k2:=false) (k3:=false) (VT.to (ji lX pR (ae 2 rfl) gP (gC _)) rfl) (λ_=>VT.to (ji lX pR (ae 4 rfl) gP (gC _)) rfl) (λ_ _=>VT.to (nS (iD (bH C3 (hr.mono (by omega)) (ao (ae 3 rfl) aQ) ⟨q.places,rfl,Qq,rfl⟩) rfl)) rfl)) rfl) bM) ?_
  exact a_ (cg (VE.to (eU (ao aN (ao (bT (ae 2 rfl) ax (bE (j:=0) rfl)) (ao (bT (ae 2 rfl) ax (bE (j:=1) rfl)) (ao (ae 4 rfl) (ao (ae 3 rfl) aQ)))))) rfl))
abbrev Neo:List Str:=["words","form","values"]
theorem QO:cC Neo ["words"] (bC (top 25)):=⟨rfl,rfl,rfl,by symm,rfl,by symm,by symm⟩
def Reo(ds:List aj)(d:aj):Prop:=∃e:Ent,ds=[cV (Gd e)]/\ua e/\d=Gc e
def Bo:Ent->List Sh
 | .kind _ _=>[.name,.mr]
 | .gate _=>[.name]
 | .line _ _=>[.name,.count]
 | .desk _=>[]
 | .time _ _ _=>[.name,.name,.count]
 | .hour _ _ _=>[.name,.number,.number]
theorem Gf(h:ua e)(hd:∀q,e≠.desk q):∃ws,Gd e=e.form::ws/\ws.length<=3/\(∀x∈ws,vm x)/\jY (Bo e) ws=.tuple e.rest/\ky qJ e.form=some ((Bo e).map Sh.tx)/\e.form≠"desk"/\lN e.form:=by
 cases e with
 |desk q=>exact qQ7 rfl (hd q)
 |kind n k=>
  obtain⟨hn,hk⟩:=h;have ok2:vm (eQ (m9 k))/\lU .mr (eQ (m9 k))=true/\iT .mr (eQ (m9 k))=m9 k:=by
   cases k with
   |none=>exact⟨vy (d:=.none) trivial,by symm,rfl⟩
   |some i=>
    obtain⟨h1,h2⟩:=hk i rfl;refine⟨o9 h2.1 h2.2,?_,mH h2 (by intro z;cases z) (by intro z;cases z)⟩
    show(decide (dJ i="-")||kQ (dJ i))=true
    rw[nE h2 h1,E2]
  refine⟨[n,eQ (m9 k)],rfl,by show 2<=3;decide,λx hx=>?_,?_,(show ky qJ "kind"=some ([Sh.name,Sh.mr].map Sh.tx) by symm),(show("kind":Str)≠"desk" by symm),(show cx (.str ("kind":Str))=true by symm)⟩
  ·simp only[aG,bu,or_false]at hx
   rcases hx with rfl|rfl
   ·exact hn.ok
   ·exact ok2.1
  ·show(if(true&&(isName n&&(lU .mr (eQ (m9 k))&&true)))=true then gy [.str n,iT .mr (eQ (m9 k))]else .none)=_
   rw[hn.is,ok2.2.1,ok2.2.2];rfl
 |gate n=>
  refine⟨[n],rfl,by show 1<=3;decide,λx hx=>?_,?_,(show ky qJ "gate"=some ([Sh.name].map Sh.tx) by symm),(show("gate":Str)≠"desk" by symm),(show cx (.str ("gate":Str))=true by symm)⟩
  ·rw[aV.mp hx];exact(show dM n from h).ok
  ·show(if(true&&(isName n&&true))=true then gy [.str n]else .none)=_
   rw[(show dM n from h).is];rfl
 |line n r=>
  obtain⟨hn,h1,h2⟩:=h;refine⟨[n,dJ r],rfl,by show 2<=3;decide,λx hx=>?_,?_,(show ky qJ "line"=some ([Sh.name,Sh.count].map Sh.tx) by symm),(show("line":Str)≠"desk" by symm),(show cx (.str ("line":Str))=true by symm)⟩
  ·simp only[aG,bu,or_false]at hx
   rcases hx with rfl|rfl
   ·exact hn.ok
   ·exact o9 h2.1 h2.2
  ·show(if(true&&(isName n&&(kQ (dJ r)&&true)))=true then gy [.str n,iT .count (dJ r)]else .none)=_
   rw[hn.is,nE h2 h1,mH h2 (by intro z;cases z) (by intro z;cases z)];rfl
 |time d k w=>
  obtain⟨hn,hk,h1,h2⟩:=h;refine⟨[d,k,dJ w],rfl,by show 3<=3;decide,λx hx=>?_,?_,(show ky qJ "time"=some ([Sh.name,Sh.name,Sh.count].map Sh.tx) by symm),(show("time":Str)≠"desk" by symm),(show cx (.str ("time":Str))=true by symm)⟩
  ·simp only[aG,bu,or_false]at hx
   rcases hx with rfl|rfl|rfl
   ·exact hn.ok
   ·exact hk.ok
   ·exact o9 h2.1 h2.2
  ·show(if(true&&(isName d&&(isName k&&(kQ (dJ w)&&true))))=true then gy [.str d,.str k,iT .count (dJ w)]else .none)=_
   rw[hn.is,hk.is,nE h2 h1,mH h2 (by intro z;cases z) (by intro z;cases z)];rfl
 |hour d a b=>
  obtain⟨hn,h1,h2,_⟩:=h;refine⟨[d,dJ a,dJ b],rfl,by show 3<=3;decide,λx hx=>?_,?_,(show ky qJ "open"=some ([Sh.name,Sh.number,Sh.number].map Sh.tx) by symm),(show("open":Str)≠"desk" by symm),(show cx (.str ("open":Str))=true by symm)⟩
  ·simp only[aG,bu,or_false]at hx
   rcases hx with rfl|rfl|rfl
   ·exact hn.ok
   ·exact o9 h1.1 h1.2
   ·exact o9 h2.1 h2.2
  ·show(if(true&&(isName d&&(isNumber (dJ a)&&(isNumber (dJ b)&&true))))=true then gy [.str d,iT .number (dJ a),iT .number (dJ b)]else .none)=_
   rw[hn.is,zq h1.1 h1.2,zq h2.1 h2.2,mH h1 (by intro z;cases z) (by intro z;cases z),mH h2 (by intro z;cases z) (by intro z;cases z)];rfl
theorem zaK(F:k9 K "entry_of" "entry_of" (top 25) f fd)(n:Np mg w.params K)(C1:bD P w K mg base 5 "values_of" Uz (g_ K Yl))(C2:bD P w K mg base 7 "desk_entry" ["words"] (g_ K Rde)):ft P w K mg base jP 8 f fd ["words"] (g_ K Reo):=
 jR F QO (λ_ _ h=>by obtain⟨_,rfl,_⟩:=h;rfl) λ_ _ h=>by
  obtain⟨e,rfl,ok,rfl⟩:=h;intro fV A outer s H E hr;have nd:Neo.Nodup:=QO.nd;by_cases hd:∃q,e=.desk q
  ·obtain⟨q,rfl⟩:=hd
   refine aJ (cA 1 (d:=.str "desk") (fj (ae 0 rfl) ax (bE (j:=0) rfl)) nd) ?_
   exact di (dN (VT.to (bR hr aW aW (ae 1 rfl) aN) (by rw[bO];exact qQ1 rfl)) (a_ (cg (bH C2 hr (ao (ae 0 rfl) aQ) ⟨q,rfl,ok,rfl⟩)))) rfl
  ·have KZ:∀q,e≠.desk q:=λq z=>hd ⟨q,z⟩
   obtain⟨ws,w1,w2,w3,w4,w5,w6,w7⟩:=Gf ok KZ;obtain⟨g1,q1,q2⟩:=n.fo;rw[w1];have hsl:(Bo e).length<=3:=by cases e<;>simp[Bo]
   refine aJ (cA 1 (d:=.str e.form) (fj (ae 0 rfl) ax (bE (j:=0) rfl)) nd) ?_
   refine aJ (bX (VT.to (bR hr (bB w7) aW (ae 1 rfl) aN) (by rw[bO];exact qQ0 w6)) bM) ?_
   refine aJ (bX (VT.to (Bf q1 q2 (ae 1 rfl)) (by rw[w5];rfl)) bM) ?_
   refine aJ (cA 2 (d:=.tuple e.rest) (bH C1 (hr.mono (by omega)) (ao (VE.to (Ht q1 q2 (ae 1 rfl) w5) (k:=Ej (Bo e)) (by unfold Ej;rw[aS];rfl)) (ao (VE.to (VO.ve (gD (ae 0 rfl) (.yes ax) .no)) (k:=cV ws) (by show sQ (L2.cutD (_::_) _ _)=_;rw[zy];rfl)) aQ)) ⟨Bo e,ws,rfl,by omega,by omega,w3,w4.symm⟩) nd) ?_
   have WV:e.rest.length<=4:=by cases e<;>simp[Ent.rest]
   refine aJ (bX ?_ bM) (a_ (cg (VE.to (x9 (eU (ao (ae 1 rfl) aQ)) (ae 2 rfl) (by simp) (small (by simp only[bJ,cN];omega))) rfl)))
   cases e with
   |hour d a b=>
    exact VT.to (j_ (k1:=false) (k2:=false) (VT.to (ji lX pR (ae 2 rfl) gP (gC _)) rfl) (λ_=>VT.to (uo (k1:=true) (k2:=false) (VT.to (bR hr (bB w7) aW (ae 1 rfl) aN) (by rw[bO];exact qQ1 rfl)) (λ_=>VT.to (Qk (bT (ae 2 rfl) ax (bE (j:=1) rfl)) (bT (ae 2 rfl) ax (bE (j:=2) rfl))) (qQ0 (by have:=ok.2.2.2;omega)))) rfl)) rfl
   |_=>
    exact VT.to (j_ (k1:=false) (k2:=false) (VT.to (ji lX pR (ae 2 rfl) gP (gC _)) rfl) (λ_=>VT.to (uo (k1:=false) (k2:=false) (VT.to (bR hr (bB w7) aW (ae 1 rfl) aN) (by rw[bO];dsimp only[Ent.form];exact qQ0 (by symm))) (λz=>by cases z)) rfl)) rfl
end
def rh:List (Str×List (Int×Int))->Str->Int×Int->List (Str×List (Int×Int))
 | [],n,z=>[(n,[z])]
 |q::l,n,z=>if q.1=n then(q.1,q.2 ++ [z])::l else q::rh l n z
def gk(l:List (Str×Int×Int)):List (Str×List (Int×Int)):=l.foldl (λacc q=>rh acc q.1 q.2) []
def pairD(z:Int×Int):aj:=.tuple [.int z.1,.int z.2]
def tq(p:Pl):List (Str×aj):=p.kinds.map λq=>(q.1,m9 q.2)
def jE(p:Pl):List (Str×aj):=p.lines.map λq=>(q.1,.int q.2)
def tD(p:Pl):List ((Str×Str)×aj):=p.times.map λq=>((q.1,q.2.1),.int q.2.2)
def yf(p:Pl):List (Str×aj):=(gk p.hours).map λq=>(q.1,.list (q.2.map pairD))
def tE(p:Pl):List (Str×aj):=[("kinds",cF (tq p)),("gates",cV p.gates),("lines",cF (jE p)),("desks",.list (p.desks.map cn)),("times",K4 (tD p)),("hours",cF (yf p)),("paces",cF [])]
def fM(p:Pl):aj:=Oe (tE p)
theorem Ep(p:Pl):gU (tE p) "kinds"=some (cF (tq p)):=fK rfl
theorem Mh(p:Pl):gU (tE p) "gates"=some (cV p.gates):=(cW (show ¬(("kinds":Str)="gates") by symm)).trans (fK rfl)
theorem vz(p:Pl):gU (tE p) "lines"=some (cF (jE p)):=(cW (show ¬(("kinds":Str)="lines") by symm)).trans ((cW (show ¬(("gates":Str)="lines") by symm)).trans (fK rfl))
theorem vA(p:Pl):gU (tE p) "desks"=some (.list (p.desks.map cn)):=(cW (show ¬(("kinds":Str)="desks") by symm)).trans ((cW (show ¬(("gates":Str)="desks") by symm)).trans ((cW (show ¬(("lines":Str)="desks") by symm)).trans (fK rfl)))
theorem Mi(p:Pl):gU (tE p) "times"=some (K4 (tD p)):=(cW (show ¬(("kinds":Str)="times") by symm)).trans ((cW (show ¬(("gates":Str)="times") by symm)).trans ((cW (show ¬(("lines":Str)="times") by symm)).trans ((cW (show ¬(("desks":Str)="times") by symm)).trans (fK rfl))))
theorem j'{κ:Type}[DecidableEq κ]:∀(kvs:List (κ×aj))(x:κ),(gU kvs x).isSome=decide (x∈kvs.map (·.1))
 | [],x=>by simp[gU]
 |q::l,x=>by
  by_cases h:q.1=x
  ·rw[fK h,qQ1 (by simp[h])];rfl
  ·rw[cW h,j' l x,gZ,decide_eq_true_iff,decide_eq_true_iff,aH,aG]
   exact⟨.inr,λz=>z.resolve_left λe=>h e.symm⟩
theorem vB(p:Pl):(tq p).map (·.1)=p.kinds.map (·.1):=by unfold tq;rw[aS];rfl
theorem kr(p:Pl):(jE p).map (·.1)=p.lines.map (·.1):=by unfold jE;rw[aS];rfl
theorem CK(p:Pl):(tD p).map (·.1)=p.times.map λq=>(q.1,q.2.1):=by unfold tD;rw[aS];rfl
def pV(p:Pl)(x:Str):Prop:=x∈p.gates\/x∈p.lines.map (·.1)
instance (p : Pl) (x : Str) : Decidable (pV p x) := by unfold pV; infer_instance
def qK(p:Pl)(x:Str):Prop:=x∈p.desks.map (·.name)
instance (p : Pl) (x : Str) : Decidable (qK p x) := by unfold qK; infer_instance
def Es(p:Pl)(x:Str):Prop:=∃q∈p.desks,x∈q.places
def zz(p:Pl):Ent->Prop
 | .kind n _=>n∉p.kinds.map (·.1)
 | .gate n=>¬pV p n
 | .line n _=>¬pV p n
 | .desk d=>¬qK p d.name/\(∀x∈d.places,¬Es p x)/\(∀x∈d.places,pV p x)/\(d.to=""\/∃r:Int,gU (jE p) d.to=some (.int r)/\ck d.rule d.places.length<=r)
 | .time d k _=>(d,k)∉p.times.map (λq=>(q.1,q.2.1))/\qK p d/\k∈p.kinds.map (·.1)
 | .hour d _ _=>qK p d
section
variable{P:bK}{w:cB}{K:au}{mg:Str->Option aE}{base:dg}{f:aR}{k:Nat}
abbrev M9:List Str:=["plant","name"]
abbrev Xe:List Str:=["plant","place"]
theorem Xf:cC M9 M9 (bC (top 33)):=⟨rfl,rfl,rfl,by symm,rfl,by symm,by symm⟩
theorem Xg:cC M9 M9 (bC (top 34)):=⟨rfl,rfl,rfl,by symm,rfl,by symm,by symm⟩
theorem Xh:cC Xe Xe (bC (top 35)):=⟨rfl,rfl,rfl,by symm,rfl,by symm,by symm⟩
def Rip(ds:List aj)(d:aj):Prop:=∃(p:Pl)(x:Str),ds=[fM p,.str x]/\jD p/\lN x/\d=.bool (decide (pV p x))
def Rid(ds:List aj)(d:aj):Prop:=∃(p:Pl)(x:Str),ds=[fM p,.str x]/\jD p/\lN x/\d=.bool (decide (qK p x))
def iK(p:Pl)(x:Str):List Dk:=p.desks.filter λq=>decide (x∈q.places)
def Rit(ds es:List aj):Prop:=∃(p:Pl)(x:Str),ds=[fM p,.str x]/\jD p/\lN x/\es=(iK p x).map cn
theorem Gg{p:Pl}(h:¬Es p x):iK p x=[]:=by
 unfold iK;rw[E3];intro q hq z;exact h ⟨q,hq,qQ4 z⟩
theorem Bp(h:∀x∈l,dM x):Lay 20 (.list (l.map aK)):=CJ λx hx=>(h x hx).ok
theorem zaO(F:k9 K "is_place" "is_place" (top 33) f fd):ft P w K mg base jP 1 f fd M9 (g_ K Rip):=
 jR F Xf (λ_ _ h=>by obtain⟨_,_,rfl,_⟩:=h;rfl) λ_ _ h=>by
  obtain⟨p,x,rfl,ok,ox,rfl⟩:=h;intro fV A outer s H E hr;refine a_ (cg (VE.to (sj (Qr hr rfl (bB ox) (Bp ok.gates) (ae 1 rfl) (m8 (ae 0 rfl) (Mh p))) (λ_=>jS (FN hr (ae 1 rfl) (m8 (ae 0 rfl) (vz p))))) ?_))
  rw[ik,j',kr]
  congr 1
  rw[gZ];simp only[zZ,decide_eq_true_eq];exact Iff.rfl
def Fdn:aj->Option aj
 | .tuple (x::_)=>some x
 |_=>none
theorem Ph(l:List Dk):(l.map cn).filterMap Fdn=(l.map (·.name)).map .str:=by
 rw[cY,aS];exact filterMap_some λk _=>rfl
theorem zaP(F:k9 K "is_desk" "is_desk" (top 34) f fd):ft P w K mg base jP 1 f fd M9 (g_ K Rid):=
 jR F Xg (λ_ _ h=>by obtain⟨_,_,rfl,_⟩:=h;rfl) λ_ _ h=>by
  obtain⟨p,x,rfl,ok,ox,rfl⟩:=h;intro fV A outer s H E hr;have nc:(["desk"]:List Str).Nodup:=by symm
  have hn:=ok.dn;refine a_ (cg (VE.to (Qr hr rfl (bB ox) (Bp (l:=p.desks.map (·.name)) λy hy=>?_) (ae 1 rfl) (VO.ve (VO.to (fD (own:=["desk"]) (cap:=[]) (N:=["desk"]) (cl:=[]) (tgt:=.one 0) (F:=Fdn) (ds:=p.desks.map cn) rfl ⟨rfl,by symm,by symm,rfl,rfl,by simp⟩ (g8 (m8 (ae 0 rfl) (vA p))) (λf s3 H3=>bL (i:=0) nc rfl (a7 rfl)) rfl
   (small (by rw[ai];omega)) (λd hd=>?_)) (Ph _)))) ?_))
  ·obtain⟨q,hq,rfl⟩:=av.mp hy
   exact(ok.desks q hq).1
  ·obtain⟨z,hz,rfl⟩:=av.mp hd
   refine⟨_,rfl,λf s3 H3=>f9,λr iP f s3 H3=>?_⟩
   cases iP;exact bT (ae 0 rfl) ax (bE (j:=0) rfl)
  ·rw[ik];rfl
theorem sD(x:Str)(l:List Str):vb (.str x) (.tuple (l.map aK))=decide (x∈l):=ik x l
def CL(x:Str):aj->Bool
 | .tuple [_,_,_,.tuple l]=>l.any λy=>cI y (.str x)
 |_=>false
def Fin(x:Str)(d:aj):Option aj:=if CL x d=true then some d else none
theorem oS(x:Str)(q:Dk):CL x (cn q)=decide (x∈q.places):=sD x q.places
theorem Pj(x:Str)(l:List Dk):(l.map cn).filterMap (Fin x)=(l.filter λq=>decide (x∈q.places)).map cn:=by
 induction l with
 |nil=>rfl
 |cons q l ih=>
  rw[aH,jv];by_cases h:x∈q.places
  ·rw[cX (f:=Fin x) (b:=cn q) (by unfold Fin;rw[oS,qQ3 (qQ1 h)]),ih,qQ3 (qQ1 h),aH]
  ·rw[eP (f:=Fin x) (by unfold Fin;rw[oS,qQ2 (by rw[qQ0 h];decide)]),ih,qQ2 (by rw[qQ0 h];decide)]
theorem zaQ(F:k9 K "takers_of" "takers_of" (top 35) f fd):ft P w K mg base jP 1 f fd Xe (Ba K Rit):=
 FK F Xh (λ_ _ h=>by obtain⟨_,_,rfl,_⟩:=h;rfl) λ_ _ h=>by
  obtain⟨p,x,rfl,ok,ox,rfl⟩:=h;intro fV A outer s H E hr;have nc:(["desk","place"]:List Str).Nodup:=by symm
  have hn:=ok.dn;refine a_ (sU (VO.to (fD (own:=["desk"]) (cap:=[1]) (N:=["desk","place"]) (tgt:=.one 0) (F:=Fin x) (ds:=p.desks.map cn) rfl ⟨rfl,by symm,by symm,rfl,rfl,?_⟩ (g8 (m8 (ae 0 rfl) (vA p))) (λf s3 H3=>bL (i:=0) nc rfl (a7 rfl)) rfl
   (small (by rw[ai];omega)) (λd hd=>?_)) (Pj x _)))
  ·intro j hj
   rcases aG.mp hj with rfl|hj
   ·exact⟨(by show(1:Nat)<2;decide),a7 rfl,rfl⟩
   ·cases hj
  ·obtain⟨z,hz,rfl⟩:=av.mp hd
   refine⟨_,rfl,λf s3 H3=>?_,λr iP f s3 H3=>?_⟩
   ·refine oK (VT.to (yK hr rfl (bB ox) (x8 (n:=19) λd hd=>by obtain⟨y,hy,rfl⟩:=av.mp hd;exact bB ((ok.desks z hz).2.2.2.2 y hy).ok.2) (ae 1 rfl) (bT (d:=.tuple (z.places.map .str)) (ae 0 rfl) ax (bE (j:=3) rfl))) ?_)
    unfold Fin;rw[oS,sD];by_cases h:x∈z.places
    ·rw[qQ1 h];rfl
    ·rw[qQ0 h];rfl
   ·unfold Fin at iP
    split at iP
    ·cases iP;exact ae 0 rfl
    ·cases iP
def Xi:Rl->Bool
 | .many _=>true
 | .gather _ _=>true
 |_=>false
theorem Xj:cC ["rule","many"] ["rule","many"] (bC (top 4)):=⟨rfl,rfl,rfl,by symm,rfl,by symm,by symm⟩
theorem zaR(F:k9 K "greatest_load" "greatest_load" (top 4) f fd):ft P w K mg base jP 1 f fd ["rule","many"] (g_ K Ts):=
 jR F Xj (λ_ _ h=>by obtain⟨_,_,rfl,_⟩:=h;rfl) λ_ _ h=>by
  obtain⟨r,m,rfl,rfl⟩:=h;intro fV A outer s H E hr;have oR:lN (n_ r):=by cases r<;>dsimp only[n_,lN]<;>symm
  have h0:nQ (aK (n_ r)::rB r) 0=some (.str (n_ r)):=bE (j:=0) rfl;have JV:(decide (n_ r="many")||decide (n_ r="gather"))=Xi r:=by
   cases r with
   |meet=>symm
   |eldest=>symm
   |many m=>exact(show(decide (("many":Str)="many")||decide (("many":Str)="gather"))=true by symm)
   |gather m a=>exact(show(decide (("gather":Str)="many")||decide (("gather":Str)="gather"))=true by symm)
   |rank b=>exact(show(decide (("rank":Str)="many")||decide (("rank":Str)="gather"))=false by symm)
   |turns l=>exact(show(decide (("turns":Str)="many")||decide (("turns":Str)="gather"))=false by symm)
  by_cases h1:Xi r=true
  ·refine di (dN (VT.to (j_ (bR hr (bB oR) aW (bT (ae 0 rfl) ax h0) aN) (λ_=>bR hr (bB oR) aW (bT (ae 0 rfl) ax h0) aN)) (by rw[bO,bO,JV,h1])) (a_ (cg (bT (ae 0 rfl) ax ?_)))) rfl
   cases r with
   |many m=>exact bE (j:=1) rfl
   |gather m a=>exact bE (j:=1) rfl
   |_=>cases h1
  ·have h1:=Bool.not_eq_true _▸h1
   refine aJ (bX (VT.to (j_ (bR hr (bB oR) aW (bT (ae 0 rfl) ax h0) aN) (λ_=>bR hr (bB oR) aW (bT (ae 0 rfl) ax h0) aN)) (by rw[bO,bO,JV,h1])) bM) ?_
   by_cases h2:n_ r="meet"
   ·refine di (dN (VT.to (bR hr (bB oR) aW (bT (ae 0 rfl) ax h0) aN) (by rw[bO];exact qQ1 h2)) (a_ (cg (VE.to (ae 1 rfl) ?_)))) rfl
    cases r with
    |meet=>rfl
    |many m=>cases h1
    |gather m a=>cases h1
    |eldest=>exact qQ7 h2 (by symm)
    |rank b=>exact qQ7 h2 (show ¬(("rank":Str)="meet") by symm)
    |turns l=>exact qQ7 h2 (show ¬(("turns":Str)="meet") by symm)
   ·refine aJ (bX (VT.to (bR hr (bB oR) aW (bT (ae 0 rfl) ax h0) aN) (by rw[bO];exact qQ0 h2)) bM) ?_
    refine a_ (cg (VE.to ax ?_))
    cases r with
    |meet=>exact qQ7 rfl h2
    |many m=>cases h1
    |gather m a=>cases h1
    |_=>rfl
end
theorem dP(e:Ent):lN e.form:=by cases e<;>(dsimp only[Ent.form,lN];symm)
theorem tF(e:Ent):nQ (aK e.form::e.rest) 0=some (.str e.form):=bE (j:=0) rfl
def Ent.name:Ent->Str
 | .kind n _=>n
 | .gate n=>n
 | .line n _=>n
 | .desk d=>d.name
 | .time d _ _=>d
 | .hour d _ _=>d
theorem HP(e:Ent):nQ (aK e.form::e.rest) 1=some (.str e.name):=by cases e<;>exact bE (j:=1) rfl
theorem HQ(h:ua e):dM e.name:=by
 cases e with
 |gate n=>exact h
 |_=>exact h.1
theorem gN{a b:Str}(h:a≠b):cI (.str a) (.str b)=false:=by rw[bO];exact qQ0 h
theorem kf(a:Str):cI (.str a) (.str a)=true:=by rw[bO];exact qQ1 rfl
section
variable{P:bK}{w:cB}{K:au}{mg:Str->Option aE}{base:dg}{f:aR}{k:Nat}
abbrev Et:List Str:=["plant","entry"]
def UB(ds:List aj)(d:aj):Prop:=∃(p:Pl)(e:Ent),ds=[fM p,Gc e]/\jD p/\ua e/\zz p e/\d=.bool false
def Gh:aj->Option aj:=λ_=>some (.bool false)
theorem zA:∀l:List aj,l.filterMap Gh=(bh l.length false).map .bool
 | []=>rfl
 |d::l=>by rw[cX (f:=Gh) (b:=.bool false) rfl,zA l];rfl
theorem Jr(n:Nat):yV (bh n false)=false:=by
 unfold yV;rw[Bool.eq_false_iff];intro z;obtain⟨b,hb,h⟩:=kE.mp z;rw[(fB.mp hb).2]at h;cases h
abbrev Ntt:List Str:=["plant","entry","form","name"]
theorem QP:cC Ntt Et (bC (top 30)):=⟨rfl,rfl,rfl,by symm,rfl,by symm,by symm⟩
theorem zaS(F:k9 K "tells_twice" "tells_twice" (top 30) f fd)(n:Np mg w.params K)(C1:bD P w K mg base 1 "is_place" M9 (g_ K Rip))(C2:bD P w K mg base 1 "is_desk" M9 (g_ K Rid))(C3:bD P w K mg base 1 "takers_of" Xe (Ba K Rit)):ft P w K mg base jP 2 f fd Et (g_ K UB):=
 jR F QP (λ_ _ h=>by obtain⟨_,_,rfl,_⟩:=h;rfl) λ_ _ h=>by
  obtain⟨p,e,rfl,ok,oe,oa,rfl⟩:=h;intro fV A outer s H E hr;have nd:Ntt.Nodup:=QP.nd;have UC:=(HQ oe).ok.2;have ofm:=dP e;refine aJ (cA 2 (d:=.str e.form) (bT (ae 1 rfl) ax (tF e)) nd) ?_
  refine aJ (cA 3 (d:=.str e.name) (bT (ae 1 rfl) ax (HP e)) nd) ?_
  cases e with
  |kind m k=>
   refine di (dN (VT.to (bR hr (bB (dP _)) aW (ae 2 rfl) aN) (kf _)) (a_ (cg (VE.to (FN hr (ae 3 rfl) (m8 (ae 0 rfl) (Ep p))) ?_)))) rfl
   rw[j',vB];exact qQ6 k8 (qQ0 oa)
  |gate m=>
   refine aJ (bX (VT.to (bR hr (bB (dP _)) aW (ae 2 rfl) aN) (gN (show("gate":Str)≠"kind" by symm))) bM) ?_
   exact di (dN (VT.to (j_ (k1:=true) (k2:=true) (VT.to (bR hr (bB (dP _)) aW (ae 2 rfl) aN) (kf _)) (λz=>by cases z)) rfl) (a_ (cg (bH C1 hr (ao (ae 0 rfl) (ao (ae 3 rfl) aQ)) ⟨p,m,rfl,ok,UC,by rw[qQ0 oa]⟩)))) rfl
  |line m r=>
   refine aJ (bX (VT.to (bR hr (bB (dP _)) aW (ae 2 rfl) aN) (gN (show("line":Str)≠"kind" by symm))) bM) ?_
   exact di (dN (VT.to (j_ (k1:=false) (k2:=true) (VT.to (bR hr (bB (dP _)) aW (ae 2 rfl) aN) (gN (show("line":Str)≠"gate" by symm))) (λ_=>VT.to (bR hr (bB (dP _)) aW (ae 2 rfl) aN) (kf _))) rfl) (a_ (cg (bH C1 hr (ao (ae 0 rfl) (ao (ae 3 rfl) aQ)) ⟨p,m,rfl,ok,UC,by rw[qQ0 oa]⟩)))) rfl
  |desk q=>
   refine aJ (bX (VT.to (bR hr (bB (dP _)) aW (ae 2 rfl) aN) (gN (show("desk":Str)≠"kind" by symm))) bM) ?_
   refine aJ (bX (VT.to (j_ (k1:=false) (k2:=false) (VT.to (bR hr (bB (dP _)) aW (ae 2 rfl) aN) (gN (show("desk":Str)≠"gate" by symm))) (λ_=>VT.to (bR hr (bB (dP _)) aW (ae 2 rfl) aN) (gN (show("desk":Str)≠"line" by symm)))) rfl) bM) ?_
   have nc:(["place","plant"]:List Str).Nodup:=by symm
   obtain⟨a1,a2,a3,a4⟩:=oa;have l6:=oe.2.2.2.2.1;refine di (dN (VT.to (bR hr (bB (dP _)) aW (ae 2 rfl) aN) (kf _)) (a_ (cg (VE.to (sj (bH C2 hr (ao (ae 0 rfl) (ao (ae 3 rfl) aQ)) ⟨p,q.name,rfl,ok,UC,rfl⟩) (λ_=>jS (jG (Lj rfl) Wm (ao (VO.ve (VO.to (fD (own:=["place"]) (cap:=[0]) (N:=["place","plant"]) (tgt:=.one 0) (F:=Gh) (ds:=q.places.map .str) rfl ⟨rfl,by symm,by symm,rfl,rfl,?_⟩ (yN (bT (d:=.tuple (q.places.map .str)) (ae 1 rfl) ax (bE (j:=4) rfl))) (λf s3 H3=>bL (i:=0) nc rfl (a7 rfl)) rfl
    (small (by rw[ai];omega)) (λd hd=>?_)) (zA _))) aQ) n.any rfl))) ?_)))) rfl
   ·intro j hj
    rcases aG.mp hj with rfl|hj
    ·exact⟨(by show(0:Nat)<4;decide),a7 rfl,rfl⟩
    ·cases hj
   ·obtain⟨z,hz,rfl⟩:=av.mp hd
    refine⟨_,rfl,λf s3 H3=>f9,λr iP f s3 H3=>?_⟩
    cases iP;exact VE.to (K1 hr Hg Hg (VE.to (VO.ve (ko C3 hr (ao (ae 1 rfl) (ao (ae 0 rfl) aQ)) ⟨p,z,rfl,ok,(oe.2.2.2.2.2.2 z hz).ok.2,rfl⟩)) (by rw[Gg (a2 z hz)];rfl)) (VO.ve (fe (ds:=[]) aQ))) rfl
   ·rw[qQ0 a1,Jr];rfl
  |time d k wk=>
   refine aJ (bX (VT.to (bR hr (bB (dP _)) aW (ae 2 rfl) aN) (gN (show("time":Str)≠"kind" by symm))) bM) ?_
   refine aJ (bX (VT.to (j_ (k1:=false) (k2:=false) (VT.to (bR hr (bB (dP _)) aW (ae 2 rfl) aN) (gN (show("time":Str)≠"gate" by symm))) (λ_=>VT.to (bR hr (bB (dP _)) aW (ae 2 rfl) aN) (gN (show("time":Str)≠"line" by symm)))) rfl) bM) ?_
   refine aJ (bX (VT.to (bR hr (bB (dP _)) aW (ae 2 rfl) aN) (gN (show("time":Str)≠"desk" by symm))) bM) ?_
   refine di (dN (VT.to (bR hr (bB (dP _)) aW (ae 2 rfl) aN) (kf _)) (a_ (cg (VE.to (Og hr (ae 3 rfl) (bT (ae 1 rfl) ax (bE (j:=2) rfl)) (m8 (ae 0 rfl) (Mi p))) ?_)))) rfl
   refine qQ6 k8 ?_
   rw[j',CK];rw[Bool.eq_false_iff];intro z;exact oa.1 (@of_decide_eq_true _ (_) z)
  |hour d a b=>
   refine aJ (bX (VT.to (bR hr (bB (dP _)) aW (ae 2 rfl) aN) (gN (show("open":Str)≠"kind" by symm))) bM) ?_
   refine aJ (bX (VT.to (j_ (k1:=false) (k2:=false) (VT.to (bR hr (bB (dP _)) aW (ae 2 rfl) aN) (gN (show("open":Str)≠"gate" by symm))) (λ_=>VT.to (bR hr (bB (dP _)) aW (ae 2 rfl) aN) (gN (show("open":Str)≠"line" by symm)))) rfl) bM) ?_
   refine aJ (bX (VT.to (bR hr (bB (dP _)) aW (ae 2 rfl) aN) (gN (show("open":Str)≠"desk" by symm))) bM) ?_
   refine aJ (bX (VT.to (bR hr (bB (dP _)) aW (ae 2 rfl) aN) (gN (show("open":Str)≠"time" by symm))) bM) ?_
   exact a_ (cg (VE.to (lB (k1:=false) (k2:=false) (VE.to (oJ hr (bB (dP _)) aW (ae 2 rfl) aN) (qQ6 k8 (gN (show("open":Str)≠"pace" by symm)))) (λz=>by cases z)) rfl))
abbrev Nln:List Str:=["plant","entry","form","into_line"]
theorem QQ:cC Nln Et (bC (top 31)):=⟨rfl,rfl,rfl,by symm,rfl,by symm,by symm⟩
theorem zaT(F:k9 K "lacks_name" "lacks_name" (top 31) f fd)(n:Np mg w.params K)(C1:bD P w K mg base 1 "is_place" M9 (g_ K Rip))(C2:bD P w K mg base 1 "is_desk" M9 (g_ K Rid)):ft P w K mg base jP 2 f fd Et (g_ K UB):=
 jR F QQ (λ_ _ h=>by obtain⟨_,_,rfl,_⟩:=h;rfl) λ_ _ h=>by
  obtain⟨p,e,rfl,ok,oe,oa,rfl⟩:=h;intro fV A outer s H E hr;have nd:Nln.Nodup:=QQ.nd;have UC:=(HQ oe).ok.2;refine aJ (cA 2 (d:=.str e.form) (bT (ae 1 rfl) ax (tF e)) nd) ?_
  have pac:∀(e:Ent),e.form≠"pace":=λe=>by cases e<;>(dsimp only[Ent.form];symm)
  cases e with
  |desk q=>
   obtain⟨a1,a2,a3,a4⟩:=oa;have nc:(["place","plant"]:List Str).Nodup:=by symm
   have Ym:lN q.to:=by
    rcases oe.2.1 with h|h
    ·rw[h];show cx (.str ("":Str))=true;symm
    ·exact h.ok.2
   have l6:=oe.2.2.2.2.1;refine di (dN (VT.to (bR hr (bB (dP _)) aW (ae 2 rfl) aN) (kf _)) (aJ (cA 3 (d:=.bool true) (VE.to (sj (oJ hr (bB Ym) aW (bT (ae 1 rfl) ax (bE (j:=2) rfl)) aN) (λ_=>jS (FN hr (bT (ae 1 rfl) ax (bE (j:=2) rfl)) (m8 (ae 0 rfl) (vz p))))) ?_) nd) (a_ (cg (VE.to (sj (k1:=false) (k2:=false) (VE.to (vi (ae 3 rfl)) rfl) (λ_=>jS (VE.to (vi (jG (pL rfl) Be (ao (VO.ve (VO.to (fD (own:=["place"]) (cap:=[0]) (N:=["place","plant"]) (tgt:=.one 0) (F:=Yj) (ds:=q.places.map .str) rfl ⟨rfl,by symm,by symm,rfl,rfl,?_⟩ (yN (bT (d:=.tuple (q.places.map .str)) (ae 1 rfl) ax (bE (j:=4) rfl))) (λf s3 H3=>bL (i:=0) nc rfl (a7 rfl)) rfl
    (small (by rw[ai];omega)) (λd hd=>?_)) (Cy _))) aQ) n.all rfl)) (by rw[Bl];rfl)))) rfl))))) rfl
   ·rw[bO,j',kr]
    congr 1
    rcases a4 with h|⟨r,h,_⟩
    ·rw[qQ1 h];rfl
    ·have:(gU (jE p) q.to).isSome=true:=by rw[h];rfl
     rw[j',kr]at this;rw[this,E2]
   ·intro j hj
    rcases aG.mp hj with rfl|hj
    ·exact⟨(by show(0:Nat)<4;decide),a7 rfl,rfl⟩
    ·cases hj
   ·obtain⟨z,hz,rfl⟩:=av.mp hd
    refine⟨_,rfl,λf s3 H3=>f9,λr iP f s3 H3=>?_⟩
    cases iP;exact bH C1 hr (ao (ae 1 rfl) (ao (ae 0 rfl) aQ)) ⟨p,z,rfl,ok,(oe.2.2.2.2.2.2 z hz).ok.2,by rw[qQ1 (a3 z hz)]⟩
  |time d k wk=>
   refine aJ (bX (VT.to (bR hr (bB (dP _)) aW (ae 2 rfl) aN) (gN (show("time":Str)≠"desk" by symm))) bM) ?_
   refine di (dN (VT.to (bR hr (bB (dP _)) aW (ae 2 rfl) aN) (kf _)) (a_ (cg (VE.to (sj (k1:=false) (VE.to (vi (bH C2 hr (ao (ae 0 rfl) (ao (bT (ae 1 rfl) ax (bE (j:=1) rfl)) aQ)) ⟨p,d,rfl,ok,UC,rfl⟩)) (by rw[qQ1 oa.2.1];rfl)) (λ_=>jS (IQ hr (bT (ae 1 rfl) ax (bE (j:=2) rfl)) (m8 (ae 0 rfl) (Ep p))))) ?_)))) rfl
   rw[j',vB,qQ1 oa.2.2];rfl
  |hour d a b=>
   refine aJ (bX (VT.to (bR hr (bB (dP _)) aW (ae 2 rfl) aN) (gN (show("open":Str)≠"desk" by symm))) bM) ?_
   refine aJ (bX (VT.to (bR hr (bB (dP _)) aW (ae 2 rfl) aN) (gN (show("open":Str)≠"time" by symm))) bM) ?_
   exact di (dN (VT.to (bR hr (bB (dP _)) aW (ae 2 rfl) aN) (kf _)) (a_ (cg (VE.to (vi (bH C2 hr (ao (ae 0 rfl) (ao (bT (ae 1 rfl) ax (bE (j:=1) rfl)) aQ)) ⟨p,d,rfl,ok,UC,rfl⟩)) (by rw[qQ1 (show qK p d from oa)];rfl))))) rfl
  |_=>
   refine aJ (bX (VT.to (bR hr (bB (dP _)) aW (ae 2 rfl) aN) (by rw[bO];dsimp only[Ent.form];exact qQ0 (by symm))) bM) ?_
   refine aJ (bX (VT.to (bR hr (bB (dP _)) aW (ae 2 rfl) aN) (by rw[bO];dsimp only[Ent.form];exact qQ0 (by symm))) bM) ?_
   refine aJ (bX (VT.to (bR hr (bB (dP _)) aW (ae 2 rfl) aN) (by rw[bO];dsimp only[Ent.form];exact qQ0 (by symm))) bM) ?_
   exact a_ (cg (VE.to (lB (k1:=false) (k2:=false) (VE.to (oJ hr (bB (dP _)) aW (ae 2 rfl) aN) (by rw[bO];exact qQ6 k8 (qQ0 (pac _)))) (λz=>by cases z)) rfl))
theorem Tx:cC Et Et (bC (top 32)):=⟨rfl,rfl,rfl,by symm,rfl,by symm,by symm⟩
theorem Xk(F:k9 K "lacks_room" "lacks_room" (top 32) f fd)(n:Np mg w.params K)(C1:bD P w K mg base 1 "greatest_load" ["rule","many"] (g_ K Ts)):ft P w K mg base jP 2 f fd Et (g_ K UB):=
 jR F Tx (λ_ _ h=>by obtain⟨_,_,rfl,_⟩:=h;rfl) λ_ _ h=>by
  obtain⟨p,e,rfl,ok,oe,oa,rfl⟩:=h;intro fV A outer s H E hr;by_cases hd:∃q,e=.desk q
  ·obtain⟨q,rfl⟩:=hd
   obtain⟨a1,a2,a3,a4⟩:=oa;have Ym:lN q.to:=by
    rcases oe.2.1 with h|h
    ·rw[h];show cx (.str ("":Str))=true;symm
    ·exact h.ok.2
   by_cases ht:q.to=""
   ·exact di (dN (VT.to (j_ (k1:=false) (k2:=true) (VT.to (qQ hr (bB (dP _)) aW (bT (ae 1 rfl) ax (tF _)) aN) (qQ6 (λb=>!b) (kf _))) (λ_=>VT.to (bR hr (bB Ym) aW (bT (ae 1 rfl) ax (bE (j:=2) rfl)) aN) (by rw[bO];exact qQ1 ht))) rfl) (a_ (cg DM))) rfl
   ·obtain⟨r,h1,h2⟩:=a4.resolve_left ht
    refine aJ (bX (VT.to (j_ (k1:=false) (k2:=false) (VT.to (qQ hr (bB (dP _)) aW (bT (ae 1 rfl) ax (tF _)) aN) (qQ6 (λb=>!b) (kf _))) (λ_=>VT.to (bR hr (bB Ym) aW (bT (ae 1 rfl) ax (bE (j:=2) rfl)) aN) (by rw[bO];exact qQ0 ht))) rfl) bM) ?_
    exact a_ (cg (VE.to (Qj (bH C1 hr (ao (bT (d:=za q.rule) (ae 1 rfl) ax (bE (j:=3) rfl)) (ao (VE.to (jW (ds:=q.places.map .str) (bT (ae 1 rfl) ax (bE (j:=4) rfl)) n.len) (by rw[ai])) aQ)) ⟨q.rule,q.places.length,rfl,rfl⟩) (fE hr (m8 (ae 0 rfl) (vz p)) (bT (ae 1 rfl) ax (bE (j:=2) rfl)) h1)) (qQ6 k8 (qQ0 (by omega)))))
  ·have hf:e.form≠"desk":=by
    cases e with
    |desk q=>exact qQ7 ⟨q,rfl⟩ hd
    |_=>dsimp only[Ent.form];symm
   exact di (dN (VT.to (j_ (k1:=true) (k2:=true) (VT.to (qQ hr (bB (dP e)) aW (bT (ae 1 rfl) ax (tF _)) aN) (by rw[bO,qQ0 hf];rfl)) (λz=>by cases z)) rfl) (a_ (cg DM))) rfl
theorem Xl:cC Et Et (bC (top 29)):=⟨rfl,rfl,rfl,by symm,rfl,by symm,by symm⟩
def Rfo(ds:List aj)(d:aj):Prop:=∃(p:Pl)(e:Ent),ds=[fM p,Gc e]/\jD p/\ua e/\zz p e/\d=.str ""
theorem zaU(F:k9 K "fault_of" "fault_of" (top 29) f fd)(C1:bD P w K mg base 2 "tells_twice" Et (g_ K UB))(C2:bD P w K mg base 2 "lacks_name" Et (g_ K UB))(C3:bD P w K mg base 2 "lacks_room" Et (g_ K UB)):ft P w K mg base jP 3 f fd Et (g_ K Rfo):=
 jR F Xl (λ_ _ h=>by obtain⟨_,_,rfl,_⟩:=h;rfl) λ_ _ h=>by
  obtain⟨p,e,rfl,ok,oe,oa,rfl⟩:=h;intro fV A outer s H E hr;refine aJ (bX (VT.to (ji lX pR (ae 1 rfl) gP (gC _)) rfl) bM) ?_
  refine aJ (bX (iD (bH C1 hr (ao (ae 0 rfl) (ao (ae 1 rfl) aQ)) ⟨p,e,rfl,ok,oe,oa,rfl⟩) rfl) bM) ?_
  refine aJ (bX (iD (bH C2 hr (ao (ae 0 rfl) (ao (ae 1 rfl) aQ)) ⟨p,e,rfl,ok,oe,oa,rfl⟩) rfl) bM) ?_
  refine aJ (bX (iD (bH C3 hr (ao (ae 0 rfl) (ao (ae 1 rfl) aQ)) ⟨p,e,rfl,ok,oe,oa,rfl⟩) rfl) bM) ?_
  exact a_ (cg aN)
end
def Pk:Option Int->V
 |none=>.non
 |some i=>.int i
theorem Mj(o:Option Int):Rep K H (Pk o) (m9 o):=by
 cases o with
 |none=>exact .non
 |some i=>exact .int i
theorem Rep.Pm{v:V}{o:Option Int}(r:Rep K H v (m9 o)):v=Pk o:=by
 cases o with
 |none=>cases r;rfl
 |some i=>cases r;rfl
def uC(p:Pl):List (Key×V):=p.kinds.map λq=>(bG q.1,Pk q.2)
def uD(p:Pl):List (Key×V):=p.lines.map λq=>(bG q.1,V.int q.2)
def uE(p:Pl):List (List Key×V):=p.times.map λq=>(wg (q.1,q.2.1),V.int q.2.2)
def hG(h:List (Str×List (Int×Int)))(cs:List aR):List (Key×V):=(h.zip cs).map λz=>(bG z.1.1,V.ref z.2)
abbrev Yn:List Str:=["kinds","gates","lines","desks","times","hours","paces"]
def Pn(ak ag al ad at_ ah ap:aR):List (Str×V):=[("kinds",.ref ak),("gates",.ref ag),("lines",.ref al),("desks",.ref ad),("times",.ref at_),("hours",.ref ah),("paces",.ref ap)]
structure PlW(K:au)(p:aR)(st:Pl)(H0 H:Hp)(C dx ak ag al ad at_ ah ap:aR)(cs:List aR)(xd:List V):Prop where
 ins:H p=some (.ins C dx (Pn ak ag al ad at_ ah ap))
 cls:DB K C
 tT:∀f∈Yn,kB K C f
 ki:H ak=some (.dK (uC st))
 ga:H ag=some (.lst (st.gates.map V.str))
 li:H al=some (.dK (uD st))
 de:H ad=some (.lst xd)
 dr:cy K H0 xd (st.desks.map cn)
 ti:H at_=some (.dT (uE st))
 ho:H ah=some (.dK (hG (gk st.hours) cs))
 hl:cs.length=(gk st.hours).length
 pa:H ap=some (.dK [])
 ce:∀(i:Nat)c q,cs[i]?=some c->(gk st.hours)[i]?=some q->∃xs,H c=some (.lst xs)/\cy K H0 xs (q.2.map pairD)
def CM(K:au)(p:aR)(st:Pl):OR:=λH0 H as=>∃C dx ak ag al ad at_ ah ap cs xd,as=p::ak::ag::al::ad::at_::ah::ap::cs/\as.Nodup/\PlW K p st H0 H C dx ak ag al ad at_ ah ap cs xd
theorem CM.mono{st:Pl}:su (CM K p st):=by
 rintro H0 H Ha Hb as ⟨C,dx,ak,ag,al,ad,at_,ah,ap,cs,xd,rfl,nd,W⟩ s e
 refine⟨C,dx,ak,ag,al,ad,at_,ah,ap,cs,xd,rfl,nd,?_⟩
 exact⟨by rw[e p (by simp)];exact W.ins,W.cls,W.tT,by rw[e ak (by simp)];exact W.ki,by rw[e ag (by simp)];exact W.ga,by rw[e al (by simp)];exact W.li,by rw[e ad (by simp)];exact W.de,W.dr.mono s,by rw[e at_ (by simp)];exact W.ti,by rw[e ah (by simp)];exact W.ho,W.hl,by rw[e ap (by simp)];exact W.pa,λi c q e1 e2=>by
  obtain⟨xs,h1,h2⟩:=W.ce i c q e1 e2;refine⟨xs,?_,h2.mono s⟩
  rw[e c (by simp[bw e1])]
  exact h1⟩
theorem vC{α:Type}{f:α->V}{g:α->aj}:∀{l:List α},(∀x∈l,Rep K H (f x) (g x))->cy K H (l.map f) (l.map g)
 | [],_=>.nil
 |x::l,h=>.cons (h x aL) (vC λy hy=>h y (aT _ hy))
theorem Eu{α:Type}{g:α->aj}:∀{l:List α}{cs:List aR},cs.length=l.length->(∀(i:Nat)c q,cs[i]?=some c->l[i]?=some q->Rep K H (.ref c) (g q))->cy K H (cs.map V.ref) (l.map g)
 | [],[],_,_=>.nil
 | [],_::_,h,_=>by cases h
 |_::_,[],h,_=>by cases h
 |q::l,c::cs,h,k=>.cons (k 0 c q rfl rfl) (Eu (by simpa using h) λi c' q' e1 e2=>k (i+1) c' q' (by simpa using e1) (by simpa using e2))
theorem xk:∀{h:List (Str×List (Int×Int))}{cs:List aR},cs.length=h.length->(hG h cs).map (·.1)=h.map λq=>(bG q.1:Key)
 | [],[],_=>rfl
 | [],_::_,e=>by cases e
 |_::_,[],e=>by cases e
 |q::h,c::cs,e=>by
  have:=xk (h:=h) (cs:=cs) (by simpa using e)
  unfold hG at this ⊢;rw[lb,aH,aH,this];rfl
theorem xl:∀{h:List (Str×List (Int×Int))}{cs:List aR},cs.length=h.length->(hG h cs).map (·.2)=cs.map V.ref
 | [],[],_=>rfl
 | [],_::_,e=>by cases e
 |_::_,[],e=>by cases e
 |q::h,c::cs,e=>by
  have:=xl (h:=h) (cs:=cs) (by simpa using e)
  unfold hG at this ⊢;rw[lb,aH,aH,this];rfl
theorem CM.rep{st:Pl}(Ha Hb:Hp)(as:List aR)(sb:dv Ha Hb)(h:CM K p st Ha Hb as):Rep K (qZ as Hb Ha) (.ref p) (fM st):=by
 obtain⟨C,dx,ak,ag,al,ad,at_,ah,ap,cs,xd,rfl,nd,W⟩:=h;have sm:=pN (as:=p::ak::ag::al::ad::at_::ah::ap::cs) sb
 generalize hM:qZ (p::ak::ag::al::ad::at_::ah::ap::cs) Hb Ha=M at *
 have mm:∀a∈p::ak::ag::al::ad::at_::ah::ap::cs,M a=Hb a:=λa ha=>by rw[<-hM];exact sY ha
 refine Rep.obj (fs:=Pn ak ag al ad at_ ah ap) (by rw[mm p (by simp)];exact W.ins) W.cls W.tT rfl ?_
 refine .cons ?_ (.cons ?_ (.cons ?_ (.cons ?_ (.cons ?_ (.cons ?_ (.cons ?_ .nil))))))
 ·refine .dct (by rw[mm ak (by simp)];exact W.ki) ?_ ?_
  ·unfold tq uC;simp only[aS];rfl
  ·unfold tq uC;simp only[aS];exact vC λq _=>Mj q.2
 ·exact .lst (kW.of (by rw[mm ag (by simp)];exact W.ga)) (wj _)
 ·refine .dct (by rw[mm al (by simp)];exact W.li) ?_ ?_
  ·unfold jE uD;simp only[aS];rfl
  ·unfold jE uD;simp only[aS];exact vC λq _=>.int q.2
 ·exact .lst (kW.of (by rw[mm ad (by simp)];exact W.de)) (W.dr.mono sm)
 ·refine .Ul (by rw[mm at_ (by simp)];exact W.ti) ?_ ?_
  ·unfold tD uE;simp only[aS];rfl
  ·unfold tD uE;simp only[aS];exact vC λq _=>.int q.2.2
 ·refine .dct (by rw[mm ah (by simp)];exact W.ho) ?_ ?_
  ·have:=xk W.hl
   have e:(hG (gk st.hours) cs).map (λq=>oX q.1)=((hG (gk st.hours) cs).map (·.1)).map oX:=by rw[aS];rfl
   rw[e,this];unfold yf;simp only[aS];rfl
  ·rw[xl W.hl]
   have e:((yf st).map λq=>(aK q.1,q.2)).map (·.2)=(gk st.hours).map λq=>sQ (q.2.map pairD):=by
    unfold yf;simp only[aS];rfl
   rw[e];exact Eu W.hl λi c q e1 e2=>by
    obtain⟨xs,h1,h2⟩:=W.ce i c q e1 e2;exact .lst (kW.of (by rw[mm c (by simp[bw e1])];exact h1)) (h2.mono sm)
 ·exact .dct (kvs:=[]) (by rw[mm ap (by simp)];exact W.pa) rfl .nil
structure Xm(H H1:Hp)(p C dx:aR)(fs:List (Str×V))(os:List (aR×HO)):Prop where
 ins:H1 p=some (.ins C dx fs)
 ob:∀q∈os,H1 q.1=some q.2
 nd:(p::os.map (·.1)).Nodup
 fresh:∀q∈os,H q.1=none
 old:∀b o,H b=some o->b≠p->H1 b=some o
theorem Xm.step{H1: Hp}{C dx d: aR}{fs fs':List (Str×V)}{os:List (aR×HO)}{o:HO}(m:Xm H H1 p C dx fs os)(hd:H1 d=none):Xm H (upd (upd H1 d o) p (.ins C dx fs')) p C dx fs' (os ++ [(d,o)]):=by
 have Yo:d≠p:=λz=>by subst z;rw[m.ins]at hd;cases hd
 have M0:d∉os.map (·.1):=λz=>by
  obtain⟨q,hq,rfl⟩:=av.mp z;rw[m.ob q hq]at hd;cases hd
 have Qq:p∉os.map (·.1):=(eX.mp m.nd).1
 refine⟨bq,λq hq=>?_,?_,λq hq=>?_,λb o' e hb=>?_⟩
 ·rcases bS.mp hq with hq|hq
  ·have h1:q.1≠p:=λz=>Qq (by rw[<-z];exact av.mpr ⟨q,hq,rfl⟩)
   have h2:q.1≠d:=λz=>M0 (by rw[<-z];exact av.mpr ⟨q,hq,rfl⟩)
   rw[aP h1,aP h2];exact m.ob q hq
  ·rw[aV.mp hq,aP Yo];exact bq
 ·rw[aU,<-List.cons_append,cZ]
  refine⟨m.nd,by simp,λx hx y hy=>?_⟩
  rw[jL,aV]at hy;subst hy;rcases aG.mp hx with rfl|hx
  ·exact bV Yo
  ·exact λz=>M0 (by rw[<-z];exact hx)
 ·rcases bS.mp hq with hq|hq
  ·exact m.fresh q hq
  ·rw[aV.mp hq]
   cases e:H d with
   |none=>rfl
   |some o'=>have:=m.old d o' e Yo;rw[hd]at this;cases this
 ·have h2:b≠d:=λz=>by subst z;have:=m.old b o' e hb;rw[hd]at this;cases this
  rw[aP hb,aP h2];exact m.old b o' e hb
theorem mS{f:Str}{v:V}:∀{fs:List (Str×V)},f∉fs.map (·.1)->mY f v fs=fs ++ [(f,v)]
 | [],_=>rfl
 |(g,x)::fs,h=>by
  have h1:g≠f:=λz=>h (by rw[z];simp)
  show(if g=f then(g,v)::fs else(g,x)::mY f v fs)=_
  rw[qQ2 h1,mS λz=>h (by simp[z])]
  rfl
abbrev zB:ia:=inClass (top 19) 0
def Ml(C:aR):Sp:=λvs H Q _=>∃p dx,vs=[.ref p]/\H p=some (.ins C dx [])/\∀ak ag al ad at_ ah ap H',Xm H H' p C dx (Pn ak ag al ad at_ ah ap) [(ak,.dK []),(ag,.lst []),(al,.dK []),(ad,.lst []),(at_,.dT []),(ah,.dK []),(ap,.dK [])]->Q .non H'
section
variable{P:bK}{w:cB}{K:au}{mg:Str->Option aE}{base:dg}{f:aR}{k:Nat}
theorem Xn:cC ["self"] ["self"] (bC zB):=⟨rfl,rfl,rfl,by symm,rfl,by symm,by symm⟩
theorem zaV{C:aR}(F:k9 K "__init__" "Plant.__init__" zB f fd)(cl:DB K C)(na:∀f∈Yn,kB K C f):ft P w K mg base jP 1 f fd ["self"] (Ml C):=by
 refine F.ok Xn (λvs H Q E h=>?_) (λfV A outer s H vs Q E hr h=>?_)
 ·obtain⟨p,dx,rfl,_⟩:=h
  rfl
 ·obtain⟨p,dx,rfl,hp,q⟩:=h
  refine⟨_,ly (uk (pv 0) rY rfl) (ly (uk (pv 0) (BX fF) rfl) (ly (uk (pv 0) rY rfl) (ly (uk (pv 0) (BX fF) rfl) (ly (uk (pv 0) Kr rfl) (ly (uk (pv 0) rY rfl) (BU (uk (pv 0) rY rfl))))))),?_⟩
  have m0:Xm H H p C dx [] []:=⟨hp,λq hq=>(by cases hq),by simp,λq hq=>(by cases hq),λb o e _=>e⟩
  intro ak hak;have p1:(upd H ak (.dK [])) p=some (.ins C dx []):=by rw[aP (bN hp hak)];exact hp
  refine⟨_,rfl,p,C,dx,_,rfl,p1,cl,na _ (by symm),by show 0<1000;decide,?_⟩
  have e1:mY "kinds" (.ref ak) ([]:List (Str×V))=[(("kinds":Str),V.ref ak)]:=mS (show("kinds":Str)∉([]:List Str) by symm)
  have m1:=m0.step (o:=.dK []) (fs':=[(("kinds":Str),V.ref ak)]) hak;rw[e1];refine⟨bF _,λag hag=>?_⟩
  refine⟨_,rfl,p,C,dx,_,rfl,by rw[aP (bN m1.ins hag)];exact m1.ins,cl,na _ (by symm),by show 1<1000;decide,?_⟩
  have e2:mY "gates" (.ref ag) ([(("kinds":Str),V.ref ak)]:List (Str×V))=[(("kinds":Str),V.ref ak),("gates",V.ref ag)]:=mS (show("gates":Str)∉(["kinds"]:List Str) by symm)
  have m2:=m1.step (o:=.lst []) (fs':=[(("kinds":Str),V.ref ak),("gates",V.ref ag)]) hag;rw[e2];intro al hal;refine⟨_,rfl,p,C,dx,_,rfl,by rw[aP (bN m2.ins hal)];exact m2.ins,cl,na _ (by symm),by show 2<1000;decide,?_⟩
  have e3:mY "lines" (.ref al) ([(("kinds":Str),V.ref ak),("gates",V.ref ag)]:List (Str×V))=[(("kinds":Str),V.ref ak),("gates",V.ref ag),("lines",V.ref al)]:=mS (show("lines":Str)∉(["kinds","gates"]:List Str) by symm)
  have m3:=m2.step (o:=.dK []) (fs':=[(("kinds":Str),V.ref ak),("gates",V.ref ag),("lines",V.ref al)]) hal;rw[e3];refine⟨bF _,λad had=>?_⟩
  refine⟨_,rfl,p,C,dx,_,rfl,by rw[aP (bN m3.ins had)];exact m3.ins,cl,na _ (by symm),by show 3<1000;decide,?_⟩
  have e4:mY "desks" (.ref ad) ([(("kinds":Str),V.ref ak),("gates",V.ref ag),("lines",V.ref al)]:List (Str×V))=[(("kinds":Str),V.ref ak),("gates",V.ref ag),("lines",V.ref al),("desks",V.ref ad)]:=mS (show("desks":Str)∉(["kinds","gates","lines"]:List Str) by symm)
  have m4:=m3.step (o:=.lst []) (fs':=[(("kinds":Str),V.ref ak),("gates",V.ref ag),("lines",V.ref al),("desks",V.ref ad)]) had;rw[e4];intro at_ Pp;refine⟨_,rfl,p,C,dx,_,rfl,by rw[aP (bN m4.ins Pp)];exact m4.ins,cl,na _ (by symm),by show 4<1000;decide,?_⟩
  have e5:mY "times" (.ref at_) ([(("kinds":Str),V.ref ak),("gates",V.ref ag),("lines",V.ref al),("desks",V.ref ad)]:List (Str×V))=[(("kinds":Str),V.ref ak),("gates",V.ref ag),("lines",V.ref al),("desks",V.ref ad),("times",V.ref at_)]:=mS (show("times":Str)∉(["kinds","gates","lines","desks"]:List Str) by symm)
  have m5:=m4.step (o:=.dT []) (fs':=[(("kinds":Str),V.ref ak),("gates",V.ref ag),("lines",V.ref al),("desks",V.ref ad),("times",V.ref at_)]) Pp;rw[e5];intro ah hah;refine⟨_,rfl,p,C,dx,_,rfl,by rw[aP (bN m5.ins hah)];exact m5.ins,cl,na _ (by symm),by show 5<1000;decide,?_⟩
  have e6:mY "hours" (.ref ah) ([(("kinds":Str),V.ref ak),("gates",V.ref ag),("lines",V.ref al),("desks",V.ref ad),("times",V.ref at_)]:List (Str×V))=[(("kinds":Str),V.ref ak),("gates",V.ref ag),("lines",V.ref al),("desks",V.ref ad),("times",V.ref at_),("hours",V.ref ah)]:=mS (show("hours":Str)∉(["kinds","gates","lines","desks","times"]:List Str) by symm)
  have m6:=m5.step (o:=.dK []) (fs':=[(("kinds":Str),V.ref ak),("gates",V.ref ag),("lines",V.ref al),("desks",V.ref ad),("times",V.ref at_),("hours",V.ref ah)]) hah;rw[e6];intro ap hap;refine⟨_,rfl,p,C,dx,_,rfl,by rw[aP (bN m6.ins hap)];exact m6.ins,cl,na _ (by symm),by show 6<1000;decide,?_⟩
  have e7:mY "paces" (.ref ap) ([(("kinds":Str),V.ref ak),("gates",V.ref ag),("lines",V.ref al),("desks",V.ref ad),("times",V.ref at_),("hours",V.ref ah)]:List (Str×V))=[(("kinds":Str),V.ref ak),("gates",V.ref ag),("lines",V.ref al),("desks",V.ref ad),("times",V.ref at_),("hours",V.ref ah),("paces",V.ref ap)]:=mS (show("paces":Str)∉(["kinds","gates","lines","desks","times","hours"]:List Str) by symm)
  have m7:=m6.step (o:=.dK []) (fs':=[(("kinds":Str),V.ref ak),("gates",V.ref ag),("lines",V.ref al),("desks",V.ref ad),("times",V.ref at_),("hours",V.ref ah),("paces",V.ref ap)]) hap;rw[e7];exact q ak ag al ad at_ ah ap _ m7
end
def sE(p:Pl):Ent->Pl
 | .kind n k=>{ p with kinds:=p.kinds ++ [(n,k)] }
 | .gate n=>{ p with gates:=p.gates ++ [n] }
 | .line n r=>{ p with lines:=p.lines ++ [(n,r)] }
 | .desk d=>{ p with desks:=p.desks ++ [d] }
 | .time d k w=>{ p with times:=p.times ++ [(d,k,w)] }
 | .hour d a b=>{ p with hours:=p.hours ++ [(d,a,b)] }
def QR(st:Pl)(d:aj)(xY:Pl):Prop:=∃e,d=Gc e/\jD st/\ua e/\zz st e/\xY=sE st e
theorem vD{κ:Type}[DecidableEq κ]:∀{kvs:List (κ×V)}{k:κ},(∀q∈kvs,q.1≠k)->jQ kvs k=none
 | [],_,_=>rfl
 |q::l,k,h=>by rw[mJ (h q aL)];exact vD λx hx=>h x (aT _ hx)
theorem zC(z:Int×Int)(n:Str):∀{h:List (Str×List (Int×Int))}{cs:List aR},cs.length=h.length->
  (jQ (hG h cs) (bG n)=none/\rh h n z=h ++ [(n,[z])])\/∃i c q,h[i]?=some q/\cs[i]?=some c/\jQ (hG h cs) (bG n)=some (.ref c)/\rh h n z=h.set i (q.1,q.2 ++ [z])
 | [],[],_=>.inl ⟨rfl,rfl⟩
 | [],_::_,e=>by cases e
 |_::_,[],e=>by cases e
 |q::h,c::cs,e=>by
  have hv:hG (q::h) (c::cs)=(bG q.1,V.ref c)::hG h cs:=rfl;by_cases hn:q.1=n
  ·refine .inr ⟨0,c,q,rfl,rfl,?_,?_⟩
   ·rw[hv];exact pI (by show(bG q.1:Key)=bG n;rw[hn])
   ·show(if q.1=n then(q.1,q.2 ++ [z])::h else q::rh h n z)=_
    rw[qQ3 hn];rfl
  ·have ne:¬(bG q.1:Key)=bG n:=λw=>hn (by injection w)
   have ea:rh (q::h) n z=q::rh h n z:=by
    show(if q.1=n then(q.1,q.2 ++ [z])::h else q::rh h n z)=_
    rw[qQ2 hn]
   rcases zC z n (h:=h) (cs:=cs) (by simpa using e) with⟨h1,h2⟩|⟨i,c',q',h1,h2,h3,h4⟩
   ·exact .inl ⟨by rw[hv,mJ ne];exact h1,by rw[ea,h2];rfl⟩
   ·exact .inr ⟨i+1,c',q',by simpa using h1,by simpa using h2,by rw[hv,mJ ne];exact h3,by rw[ea,h4];rfl⟩
theorem xm:∀{h h':List (Str×List (Int×Int))}{cs:List aR},h'.map (·.1)=h.map (·.1)->hG h' cs=hG h cs
 | [],[],_,_=>rfl
 | [],_::_,_,e=>by cases e
 |_::_,[],_,e=>by cases e
 |q::h,q'::h',cs,e=>by
  obtain⟨e1,e2⟩:=kA e;cases cs with
  |nil=>rfl
  |cons c cs=>
   show(bG q'.1,V.ref c)::hG h' cs=(bG q.1,V.ref c)::hG h cs
   rw[show q'.1=q.1 from e1,xm e2]
theorem Gi{h:List (Str×List (Int×Int))}{cs:List aR}(e:cs.length=h.length)(q:Str×List (Int×Int))(c:aR):hG (h ++ [q]) (cs ++ [c])=hG h cs ++ [(bG q.1,V.ref c)]:=by
 unfold hG;rw[List.zip_append (by omega),aU]
 rfl
theorem Gj(l:List (Str×Int×Int))(q:Str×Int×Int):gk (l ++ [q])=rh (gk l) q.1 q.2:=by
 unfold gk;rw[gS];rfl
theorem Ew(z:Int×Int)(n:Str):∀h,(rh h n z).length<=h.length+1
 | []=>ay _
 |q::h=>by
  show(if q.1=n then(q.1,q.2 ++ [z])::h else q::rh h n z).length<=_
  split
  ·simp
  ·have:=Ew z n h
   simp only[bJ];omega
theorem Gk(l:List (Str×Int×Int)):(gk l).length<=l.length:=by
 have go:∀(l:List (Str×Int×Int))(acc:List (Str×List (Int×Int))),(l.foldl (λacc q=>rh acc q.1 q.2) acc).length<=acc.length+l.length:=by
  intro l
  induction l with
  |nil=>intro acc;exact ay _
  |cons q l ih=>
   intro acc;have h1:=ih (rh acc q.1 q.2);have h2:=Ew q.2 q.1 acc;rw[nA,bJ];omega
 have:=go l [];rw[cN,i_]at this;exact this
theorem zD(z:Int×Int)(n:Str):∀(h:List (Str×List (Int×Int)))(b:Nat),(∀q∈h,q.2.length<=b)->∀q∈rh h n z,q.2.length<=b+1
 | [],b,_,q,hq=>by rw[aV.mp hq];simp
 |p::h,b,hb,q,hq=>by
  have hq:q∈(if p.1=n then(p.1,p.2 ++ [z])::h else p::rh h n z):=hq
  split at hq
  ·rcases aG.mp hq with rfl|hq
   ·have:=hb p aL
    rw[aY];simp;omega
   ·have:=hb q (aT _ hq);omega
  ·rcases aG.mp hq with rfl|hq
   ·have:=hb q aL;omega
   ·exact zD z n h b (λx hx=>hb x (aT _ hx)) q hq
theorem Ey(l:List (Str×Int×Int)):∀q∈gk l,q.2.length<=l.length:=by
 have go:∀(l:List (Str×Int×Int))(acc:List (Str×List (Int×Int)))(b:Nat),(∀q∈acc,q.2.length<=b)->∀q∈l.foldl (λacc q=>rh acc q.1 q.2) acc,q.2.length<=b+l.length:=by
  intro l
  induction l with
  |nil=>intro acc b hb q hq;exact hb q hq
  |cons q0 l ih=>
   intro acc b hb q hq;have:=ih (rh acc q0.1 q0.2) (b+1) (zD q0.2 q0.1 acc b hb) q hq;rw[bJ];omega
 intro q hq;have:=go l [] 0 (λq hq=>by cases hq) q hq
 omega
section
variable{P:bK}{w:cB}{K:au}{mg:Str->Option aE}{base:dg}{f:aR}{k:Nat}
abbrev Nae:List Str:=["plant","entry","form","name"]
theorem QS:cC Nae Et (bC (top 36)):=⟨rfl,rfl,rfl,by symm,rfl,by symm,by symm⟩
theorem Xo{ak ag al ad at_ ah ap:aR}:(Pn ak ag al ad at_ ah ap).lookup ("kinds":Str)=some (.ref ak)/\(Pn ak ag al ad at_ ah ap).lookup ("gates":Str)=some (.ref ag)/\(Pn ak ag al ad at_ ah ap).lookup ("lines":Str)=some (.ref al)/\(Pn ak ag al ad at_ ah ap).lookup ("desks":Str)=some (.ref ad)/\(Pn ak ag al ad at_ ah ap).lookup ("times":Str)=some (.ref at_)/\(Pn ak ag al ad at_ ah ap).lookup ("hours":Str)=some (.ref ah):=⟨rfl,rfl,rfl,rfl,rfl,rfl⟩
theorem zaX(F:k9 K "add_entry" "add_entry" (top 36) f fd):ft P w K mg base jP 1 f fd Et (Lk K Pl (CM K) QR):=by
 refine F.ok QS (λvs H Q E h=>?_) (λfV A outer s H vs Q E hr h=>?_)
 ·obtain⟨_,_,_,_,_,_,_,rfl,_⟩:=h
  rfl
 ·obtain⟨H0,p,v,as,st,xY,d,rfl,sm,rv,own,W0,⟨e,rfl,ok,oe,oa,rfl⟩,q⟩:=h
  refine⟨_,mN,?_⟩
  have nd:Nae.Nodup:=QS.nd;have f0:fJ K H0 H H0 H (start Nae [.ref p,v]) [.ref p,.val (Gc e),.un,.un]:=by
   refine⟨.refl sm,rfl,λi sl hi=>?_,λi j a b p' _ h1=>?_⟩
   ·match i,hi with
    |0,hi=>cases hi;exact rfl
    |1,hi=>cases hi;exact⟨v,rfl,rv⟩
    |2,hi=>cases hi;exact trivial
    |3,hi=>cases hi;exact trivial
    |i+4,hi=>simp at hi
   ·match i,h1 with
    |0,h1=>cases h1
    |1,h1=>cases h1
    |2,h1=>cases h1
    |3,h1=>cases h1
    |i+4,h1=>simp at h1
  refine cH (D0 f0 (cA 2 (d:=.str e.form) (bT (ae 1 rfl) ax (tF e)) nd) λσ1 H1 dO s1 f1=>?_)
  refine cH (D0 f1 (cA 3 (d:=.str e.name) (bT (ae 1 rfl) ax (HP e)) nd) λσ2 H2 jb s2 f2=>?_)
  have W2:=CM.mono _ _ _ _ _ W0 f2.ent.fG (λa ha=>f2.ent.big.eq (own a ha).2)
  obtain⟨C,dx,ak,ag,al,ad,at_,ah,ap,cs,xd,rfl,Pq,W⟩:=W2;have o2:∀a∈p::ak::ag::al::ad::at_::ah::ap::cs,∃o,H a=some o/\H0 a=none:=λa ha=>by
   obtain⟨z1,z2⟩:=own a ha;cases e:H a with
   |none=>exact qQ7 e z2
   |some o=>exact⟨o,rfl,z1⟩
  have Xp:=Pq;simp only[eX,aG,not_or]at Xp;obtain⟨⟨pk,pg,pl,pd,pt,ph,pp,pc⟩,⟨kg,kl,kd,kt,kh,kp,kc⟩,⟨gl,gd,gt,gh,gp,gc⟩,⟨ld,lt,lh,lp,lc⟩,⟨dt,dh,dp,dc⟩,⟨th,tp,tc⟩,⟨hp,hc⟩,apc,ncs⟩:=Xp;have fin:∀(Ha Hb:Hp)(a:aR)(o:HO),eB H0 H Ha Hb->a∈p::ak::ag::al::ad::at_::ah::ap::cs->(∀xd',xd'=xd->CM K p (sE st e) Ha (upd Hb a o) (p::ak::ag::al::ad::at_::ah::ap::cs))->Q .non (upd Hb a o):=λHa Hb a o g ha hW=>by
   have fr:∀b∈p::ak::ag::al::ad::at_::ah::ap::cs,Ha b=none/\Hb b≠none:=λb hb=>by
    obtain⟨ob,e1,e2⟩:=o2 b hb;exact⟨g.still e2 e1,by rw[g.big _ _ e1];simp⟩
   refine q Ha (upd Hb a o) _ g.fG (λb u e=>?_) g.new (λb hb=>⟨(fr b hb).1,?_,.inl hb⟩) (λb u e hb=>?_) (hW xd rfl)
   ·rw[aP (bN e (fr a ha).1)];exact g.sub b u e
   ·by_cases hba:b=a
    ·subst hba;rw[bq];simp
    ·rw[aP hba];exact(fr b hb).2
   ·rw[aP (λz=>hb (by rw[z];exact ha))];exact g.big b u e
  have Wg:∀Ha Hb,eB H2 jb Ha Hb->PlW K p st Ha Hb C dx ak ag al ad at_ ah ap cs xd:=λHa Hb g=>by
   have M:=CM.mono (K:=K) (p:=p) (st:=st) H2 jb Ha Hb (p::ak::ag::al::ad::at_::ah::ap::cs) ⟨C,dx,ak,ag,al,ad,at_,ah,ap,cs,xd,rfl,Pq,W⟩ g.fG (λa ha=>by
    obtain⟨o,e1,_⟩:=o2 a ha;exact g.big.eq (by rw[f2.ent.big _ _ e1];simp))
   exact⟨g.big _ _ W.ins,W.cls,W.tT,g.big _ _ W.ki,g.big _ _ W.ga,g.big _ _ W.li,g.big _ _ W.de,W.dr.mono g.fG,g.big _ _ W.ti,g.big _ _ W.ho,W.hl,g.big _ _ W.pa,λi c q e1 e2=>by
    obtain⟨xs,h1,h2⟩:=W.ce i c q e1 e2;exact⟨xs,g.big _ _ h1,h2.mono g.fG⟩⟩
  obtain⟨lk1,lk2,lk3,lk4,lk5,lk6⟩:=Xo (ak:=ak) (ag:=ag) (al:=al) (ad:=ad) (at_:=at_) (ah:=ah) (ap:=ap);have lf:=bB (n:=20) (dP e);cases e with
  |kind m kk=>
   refine dD (wZ f2 (VT.to (bR hr lf aW (ae 2 rfl) aN) (kf _)) λHa Hb g=>?_)
   have Wa:=Wg Ha Hb g;have hz:(uC st).length<sizeLine:=gj (by unfold uC;rw[ai];have:=ok.kn;omega)
   refine dD (Qx (f2.grow g) hr 0 rfl Wa.ins Wa.cls (Wa.tT _ (by symm)) lk1 Wa.ki (ae 3 rfl) (bT (ae 1 rfl) ax (bE (j:=2) rfl)) hz λv Hc Hd g2 r=>?_)
   have Wd:=Wg Hc Hd (g.trans g2);have hv:=Rep.Pm r;subst hv;refine fin Hc Hd ak _ (f2.ent.trans (g.trans g2)) (by simp) λ_ _=>⟨C,dx,ak,ag,al,ad,at_,ah,ap,cs,xd,rfl,Pq,?_⟩
   have hn:jQ (uC st) (bG m)=none:=vD λq' Ip=>by
    obtain⟨q0,h0,rfl⟩:=av.mp Ip;intro z
    injection z with z
    exact oa (by rw[<-z];exact av.mpr ⟨q0,h0,rfl⟩)
   refine⟨by rw[aP pk];exact Wd.ins,Wd.cls,Wd.tT,?_,by rw[aP (bV kg)];exact Wd.ga,by rw[aP (bV kl)];exact Wd.li,by rw[aP (bV kd)];exact Wd.de,Wd.dr,by rw[aP (bV kt)];exact Wd.ti,by rw[aP (bV kh)];exact Wd.ho,Wd.hl,by rw[aP (bV kp)];exact Wd.pa,λi c q' e1 e2=>?_⟩
   ·rw[bq]
    show some (HO.dK (putK (uC st) (bG m) (Pk kk)))=some (.dK ((st.kinds ++ [(m,kk)]).map _));rw[u6 _ hn,aU];rfl
   ·obtain⟨xs,h1,h2⟩:=Wd.ce i c q' e1 e2
    exact⟨xs,by rw[aP (λz=>kc (by rw[<-z];exact bw e1))];exact h1,h2⟩
  |gate m=>
   refine dD (nh f2 (VT.to (bR hr lf aW (ae 2 rfl) aN) (gN (show("gate":Str)≠"kind" by symm))) λPr Pt g1=>?_)
   have HR:=f2.grow g1;have Pu:=g1;refine dD (wZ HR (VT.to (bR hr lf aW (ae 2 rfl) aN) (kf _)) λPw Px g2=>?_)
   have Js:=HR.grow g2;have Mm:=Pu.trans g2;have Wa:=Wg Pw Px Mm;have hz:(st.gates.map V.str).length<sizeLine:=gj (by rw[ai];have:=ok.gn;omega)
   refine dD (D1 Js 0 rfl Wa.ins Wa.cls (Wa.tT _ (by symm)) lk2 Wa.ga (ae 3 rfl) hz λv Hc Hd g9 r=>?_)
   have Wd:=Wg Hc Hd (Mm.trans g9);cases r;refine fin Hc Hd ag _ (f2.ent.trans (Mm.trans g9)) (by simp) λ_ _=>⟨C,dx,ak,ag,al,ad,at_,ah,ap,cs,xd,rfl,Pq,?_⟩
   refine⟨by rw[aP (pg)];exact Wd.ins,Wd.cls,Wd.tT,by rw[aP (kg)];exact Wd.ki,?_,by rw[aP (bV gl)];exact Wd.li,by rw[aP (bV gd)];exact Wd.de,Wd.dr,by rw[aP (bV gt)];exact Wd.ti,by rw[aP (bV gh)];exact Wd.ho,Wd.hl,by rw[aP (bV gp)];exact Wd.pa,λi c q' e1 e2=>?_⟩
   ·rw[bq]
    show some (HO.lst (st.gates.map V.str ++ [V.str m]))=some (.lst ((st.gates ++ [m]).map V.str));rw[aU];rfl
   ·obtain⟨xs,h1,h2⟩:=Wd.ce i c q' e1 e2
    exact⟨xs,by rw[aP (λz=>gc (by rw[<-z];exact bw e1))];exact h1,h2⟩
  |line m rr=>
   refine dD (nh f2 (VT.to (bR hr lf aW (ae 2 rfl) aN) (gN (show("line":Str)≠"kind" by symm))) λPr Pt g1=>?_)
   have HR:=f2.grow g1;have Pu:=g1;refine dD (nh HR (VT.to (bR hr lf aW (ae 2 rfl) aN) (gN (show("line":Str)≠"gate" by symm))) λPw Px g2=>?_)
   have Js:=HR.grow g2;have Mm:=Pu.trans g2;refine dD (wZ Js (VT.to (bR hr lf aW (ae 2 rfl) aN) (kf _)) λM_ Mp g3=>?_)
   have Nb:=Js.grow g3;have Py:=Mm.trans g3;have Wa:=Wg M_ Mp Py;have hz:(uD st).length<sizeLine:=gj (by unfold uD;rw[ai];have:=ok.ln;omega)
   refine dD (Qx Nb hr 0 rfl Wa.ins Wa.cls (Wa.tT _ (by symm)) lk3 Wa.li (ae 3 rfl) (bT (ae 1 rfl) ax (bE (j:=2) rfl)) hz λv Hc Hd g9 r=>?_)
   have Wd:=Wg Hc Hd (Py.trans g9);cases r;refine fin Hc Hd al _ (f2.ent.trans (Py.trans g9)) (by simp) λ_ _=>⟨C,dx,ak,ag,al,ad,at_,ah,ap,cs,xd,rfl,Pq,?_⟩
   have hn:jQ (uD st) (bG m)=none:=vD λq' Ip=>by
    obtain⟨q0,h0,rfl⟩:=av.mp Ip;intro z
    injection z with z
    exact oa (.inr (by rw[<-z];exact av.mpr ⟨q0,h0,rfl⟩))
   refine⟨by rw[aP (pl)];exact Wd.ins,Wd.cls,Wd.tT,by rw[aP (kl)];exact Wd.ki,by rw[aP (gl)];exact Wd.ga,?_,by rw[aP (bV ld)];exact Wd.de,Wd.dr,by rw[aP (bV lt)];exact Wd.ti,by rw[aP (bV lh)];exact Wd.ho,Wd.hl,by rw[aP (bV lp)];exact Wd.pa,λi c q' e1 e2=>?_⟩
   ·rw[bq]
    show some (HO.dK (putK (uD st) (bG m) (V.int rr)))=some (.dK ((st.lines ++ [(m,rr)]).map _));rw[u6 _ hn,aU];rfl
   ·obtain⟨xs,h1,h2⟩:=Wd.ce i c q' e1 e2
    exact⟨xs,by rw[aP (λz=>lc (by rw[<-z];exact bw e1))];exact h1,h2⟩
  |desk q0=>
   refine dD (nh f2 (VT.to (bR hr lf aW (ae 2 rfl) aN) (gN (show("desk":Str)≠"kind" by symm))) λPr Pt g1=>?_)
   have HR:=f2.grow g1;have Pu:=g1;refine dD (nh HR (VT.to (bR hr lf aW (ae 2 rfl) aN) (gN (show("desk":Str)≠"gate" by symm))) λPw Px g2=>?_)
   have Js:=HR.grow g2;have Mm:=Pu.trans g2;refine dD (nh Js (VT.to (bR hr lf aW (ae 2 rfl) aN) (gN (show("desk":Str)≠"line" by symm))) λM_ Mp g3=>?_)
   have Nb:=Js.grow g3;have Py:=Mm.trans g3;refine dD (wZ Nb (VT.to (bR hr lf aW (ae 2 rfl) aN) (kf _)) λDr AF g4=>?_)
   have Tz:=Nb.grow g4;have TB:=Py.trans g4;have Wa:=Wg Dr AF TB;have Wu:=Wa.dr.length;rw[ai]at Wu;have hz:xd.length<sizeLine:=gj (by have:=ok.dn;omega)
   have L8:L2.cutD (aK "desk"::Ent.rest (.desk q0)) (some 1) none=Ent.rest (.desk q0):=(jI (aK "desk"::Ent.rest (.desk q0)) 1).trans rfl;refine dD (D1 (d:=cn q0) Tz 0 rfl Wa.ins Wa.cls (Wa.tT _ (by symm)) lk4 Wa.de (VE.to (v8 (ae 1 rfl) (.yes ax) .no ?_) (by show gy (L2.cutD (aK "desk"::Ent.rest (.desk q0)) (some 1) none)=_;rw[L8];rfl)) hz λv Hc Hd g9 r=>?_)
   ·intro z
    have:=z.1;rw[show(1:Int)=((1:Nat):Int)from rfl,HT.qt]at this
    exact qQ7 this (by show ¬(min 1 5=0);decide)
   have Wd:=Wg Hc Hd (TB.trans g9);refine fin Hc Hd ad _ (f2.ent.trans (TB.trans g9)) (by simp) λ_ _=>⟨C,dx,ak,ag,al,ad,at_,ah,ap,cs,xd ++ [v],rfl,Pq,?_⟩
   refine⟨by rw[aP (pd)];exact Wd.ins,Wd.cls,Wd.tT,by rw[aP (kd)];exact Wd.ki,by rw[aP (gd)];exact Wd.ga,by rw[aP (ld)];exact Wd.li,bq,?_,by rw[aP (bV dt)];exact Wd.ti,by rw[aP (bV dh)];exact Wd.ho,Wd.hl,by rw[aP (bV dp)];exact Wd.pa,λi c q' e1 e2=>?_⟩
   ·show cy K Hc (xd ++ [v]) ((st.desks ++ [q0]).map cn)
    rw[aU];exact Wd.dr.append (.cons r .nil)
   ·obtain⟨xs,h1,h2⟩:=Wd.ce i c q' e1 e2
    exact⟨xs,by rw[aP (λz=>dc (by rw[<-z];exact bw e1))];exact h1,h2⟩
  |time dk Yp wk=>
   refine dD (nh f2 (VT.to (bR hr lf aW (ae 2 rfl) aN) (gN (show("time":Str)≠"kind" by symm))) λPr Pt g1=>?_)
   have HR:=f2.grow g1;have Pu:=g1;refine dD (nh HR (VT.to (bR hr lf aW (ae 2 rfl) aN) (gN (show("time":Str)≠"gate" by symm))) λPw Px g2=>?_)
   have Js:=HR.grow g2;have Mm:=Pu.trans g2;refine dD (nh Js (VT.to (bR hr lf aW (ae 2 rfl) aN) (gN (show("time":Str)≠"line" by symm))) λM_ Mp g3=>?_)
   have Nb:=Js.grow g3;have Py:=Mm.trans g3;refine dD (nh Nb (VT.to (bR hr lf aW (ae 2 rfl) aN) (gN (show("time":Str)≠"desk" by symm))) λDr AF g4=>?_)
   have Tz:=Nb.grow g4;have TB:=Py.trans g4;refine dD (wZ Tz (VT.to (bR hr lf aW (ae 2 rfl) aN) (kf _)) λJ0 J1 g5=>?_)
   have Yq:=Tz.grow g5;have Yr:=TB.trans g5;have Wa:=Wg J0 J1 Yr;have hz:(uE st).length<sizeLine:=gj (by unfold uE;rw[ai];have:=ok.tn;omega)
   refine dD (S6 Yq hr 0 rfl Wa.ins Wa.cls (Wa.tT _ (by symm)) lk5 Wa.ti (ae 3 rfl) (bT (ae 1 rfl) ax (bE (j:=2) rfl)) (bT (ae 1 rfl) ax (bE (j:=3) rfl)) hz λv t Hc Hd g9 ht r=>?_)
   have gt9:eB H2 jb Hc (upd Hd t (.tup [.str dk,.str Yp])):=(Yr.trans g9).trans (.loose g9.sub ht);have Wd:=Wg Hc _ gt9;cases r;refine fin Hc _ at_ _ (f2.ent.trans gt9) (by simp) λ_ _=>⟨C,dx,ak,ag,al,ad,at_,ah,ap,cs,xd,rfl,Pq,?_⟩
   have hn:jQ (uE st) (wg (dk,Yp))=none:=vD λq' Ip=>by
    obtain⟨q0,h0,rfl⟩:=av.mp Ip;intro z;have:=DW z;exact oa.1 (by rw[<-this];exact av.mpr ⟨q0,h0,rfl⟩)
   refine⟨by rw[aP (pt)];exact Wd.ins,Wd.cls,Wd.tT,by rw[aP (kt)];exact Wd.ki,by rw[aP (gt)];exact Wd.ga,by rw[aP (lt)];exact Wd.li,by rw[aP (dt)];exact Wd.de,Wd.dr,?_,by rw[aP (bV th)];exact Wd.ho,Wd.hl,by rw[aP (bV tp)];exact Wd.pa,λi c q' e1 e2=>?_⟩
   ·rw[bq]
    show some (HO.dT (putK (uE st) (wg (dk,Yp)) (V.int wk)))=some (.dT ((st.times ++ [(dk,Yp,wk)]).map _));rw[u6 _ hn,aU];rfl
   ·obtain⟨xs,h1,h2⟩:=Wd.ce i c q' e1 e2
    exact⟨xs,by rw[aP (λz=>tc (by rw[<-z];exact bw e1))];exact h1,h2⟩
  |hour dk ha hb=>
   refine dD (nh f2 (VT.to (bR hr lf aW (ae 2 rfl) aN) (gN (show("open":Str)≠"kind" by symm))) λPr Pt g1=>?_)
   have HR:=f2.grow g1;have Pu:=g1;refine dD (nh HR (VT.to (bR hr lf aW (ae 2 rfl) aN) (gN (show("open":Str)≠"gate" by symm))) λPw Px g2=>?_)
   have Js:=HR.grow g2;have Mm:=Pu.trans g2;refine dD (nh Js (VT.to (bR hr lf aW (ae 2 rfl) aN) (gN (show("open":Str)≠"line" by symm))) λM_ Mp g3=>?_)
   have Nb:=Js.grow g3;have Py:=Mm.trans g3;refine dD (nh Nb (VT.to (bR hr lf aW (ae 2 rfl) aN) (gN (show("open":Str)≠"desk" by symm))) λDr AF g4=>?_)
   have Tz:=Nb.grow g4;have TB:=Py.trans g4;refine dD (nh Tz (VT.to (bR hr lf aW (ae 2 rfl) aN) (gN (show("open":Str)≠"time" by symm))) λJ0 J1 g5=>?_)
   have Yq:=Tz.grow g5;have Yr:=TB.trans g5;refine dD (wZ Yq (VT.to (bR hr lf aW (ae 2 rfl) aN) (kf _)) λNc Pz g6=>?_)
   have ff6:=Yq.grow g6;have Xq:=Yr.trans g6;have Wa:=Wg Nc Pz Xq;have hll:=Gk st.hours;have K9:=Ey st.hours;have okh:=ok.hn;have hz:(hG (gk st.hours) cs).length<sizeLine:=gj (by unfold hG;rw[ai,List.length_zip];omega)
   have L8:L2.cutD (aK "open"::Ent.rest (.hour dk ha hb)) (some 2) none=[.int ha,.int hb]:=(jI (aK "open"::Ent.rest (.hour dk ha hb)) 2).trans rfl;have Z0:Nc ah=none:=by
    obtain⟨o,e1,e2⟩:=o2 ah (by simp)
    exact(f2.ent.trans Xq).still e2 e1
   have Jb:gk (st.hours ++ [(dk,ha,hb)])=rh (gk st.hours) dk (ha,hb):=Gj _ _;have Mq:=zC (ha,hb) dk W.hl;refine dD (Lp (d:=pairD (ha,hb)) ff6 0 rfl Wa.ins Wa.cls (Wa.tT _ (by symm)) lk6 Wa.ho (ae 3 rfl) (VE.to (v8 (ae 1 rfl) (.yes ax) .no ?_) (by show gy (L2.cutD (aK "open"::Ent.rest (.hour dk ha hb)) (some 2) none)=_;rw[L8];rfl)) hz rfl Z0 (λv hv=>?_) (λc xs v t Hc Hd D2 XU htt g9 ht0 r=>?_) (λv c Hc Hd D2 hcn s9 Zq nw old Qy hdc Yc ha9 r=>?_))
   ·intro z
    have:=z.1;rw[show(2:Int)=((2:Nat):Int)from rfl,HT.qt]at this
    exact qQ7 this (by show ¬(min 2 4=0);decide)
   ·rcases Mq with⟨h1,_⟩|⟨i,c,q',h1,h2,h3,h4⟩
    ·have hv:jQ (hG (gk st.hours) cs) (bG dk)=some v:=hv
     rw[h1]at hv;cases hv
    ·have hv:some v=some (V.ref c):=hv.symm.trans h3
     cases hv;obtain⟨xs,x1,x2⟩:=Wa.ce i c q' h2 h1;refine⟨c,xs,rfl,x1,gj ?_⟩
     have:=x2.length;rw[ai]at this;have:=K9 q' (bw h1);omega
   ·rcases Mq with⟨h1,_⟩|⟨i,c',q',h1,h2,h3,h4⟩
    ·have D2:jQ (hG (gk st.hours) cs) (bG dk)=some (V.ref c):=D2
     rw[h1]at D2;cases D2
    ·have D2:some (V.ref c')=some (V.ref c):=h3.symm.trans D2
     cases D2;have Wd:=Wg Hc Hd (Xq.trans g9);have Vm:c∈cs:=bw h2;obtain⟨xs',x1,x2⟩:=Wd.ce i c q' h2 h1;have ex:xs'=xs:=by
      have:=g9.big _ _ XU;rw[this]at x1;cases x1;rfl
     subst ex;have hil:i<(gk st.hours).length:=(aO.mp h1).1;have Gm:gk (sE st (.hour dk ha hb)).hours=(gk st.hours).set i (q'.1,q'.2 ++ [(ha,hb)]):=by
      show gk (st.hours ++ [(dk,ha,hb)])=_;rw[Jb,h4]
     refine fin Hc Hd c _ (f2.ent.trans (Xq.trans g9)) (by simp[Vm]) λ_ _=>⟨C,dx,ak,ag,al,ad,at_,ah,ap,cs,xd,rfl,Pq,?_⟩
     have nc:∀x,x∉cs->x≠c:=λx hx z=>hx (by rw[z];exact Vm)
     refine⟨by rw[aP (nc _ pc)];exact Wd.ins,Wd.cls,Wd.tT,by rw[aP (nc _ kc)];exact Wd.ki,by rw[aP (nc _ gc)];exact Wd.ga,by rw[aP (nc _ lc)];exact Wd.li,by rw[aP (nc _ dc)];exact Wd.de,Wd.dr,by rw[aP (nc _ tc)];exact Wd.ti,?_,?_,by rw[aP (nc _ apc)];exact Wd.pa,λj c2 q2 e1 e2=>?_⟩
     ·rw[aP (nc _ hc),Wd.ho,Gm]
      congr 2
      refine(xm ?_).symm
      rw[E1];refine iW λn=>?_
      by_cases hn:n=i
      ·subst hn;rw[bx (by rw[ai];exact hil),aI,h1];rfl
      ·rw[aX (bV hn)]
     ·rw[Gm,k7];exact Wd.hl
     ·rw[Gm]at e2
      by_cases hj:j=i
      ·subst hj
       rw[h2]at e1;cases e1;rw[bx hil]at e2;cases e2;refine⟨xs' ++ [v],bq,?_⟩
       show cy K Hc (xs' ++ [v]) ((q'.2 ++ [(ha,hb)]).map pairD);rw[aU];exact x2.append (.cons r .nil)
      ·rw[aX (bV hj)]at e2
       obtain⟨ys,y1,y2⟩:=Wd.ce j c2 q2 e1 e2;have B9:c2≠c:=λz=>by
        subst z;have l1:=aO.mp e1;have l2:=aO.mp h2;obtain⟨l1a,l1b⟩:=l1;obtain⟨l2a,l2b⟩:=l2;rcases Nat.lt_or_gt_of_ne hj with nR|nR
        ·exact iO.mp ncs j i l1a l2a nR (by rw[l1b,l2b])
        ·exact iO.mp ncs i j l2a l1a nR (by rw[l1b,l2b])
       exact⟨ys,by rw[aP B9];exact y1,y2⟩
   ·rcases Mq with⟨h1,h4⟩|⟨i,c',q',h1,h2,h3,h4⟩
    ·have gH:=f2.ent.trans Xq
     have hcH:H c=none:=gH.big.free hcn;have PB:c∉p::ak::ag::al::ad::at_::ah::ap::cs:=λz=>by
      obtain⟨o,e1,_⟩:=o2 c z;rw[hcH]at e1;cases e1
     have Gm:gk (sE st (.hour dk ha hb)).hours=gk st.hours ++ [(dk,[(ha,hb)])]:=by
      show gk (st.hours ++ [(dk,ha,hb)])=_;rw[Jb,h4]
     have za0:∀x∈p::ak::ag::al::ad::at_::ah::ap::cs,Hc x=none:=λx hx=>by
      obtain⟨o,e1,e2⟩:=o2 x hx;have:Nc x=none:=gH.still e2 e1;cases e:Hc x with
      |none=>rfl
      |some u=>
       rcases nw x (by rw[e];simp)with z|z
       ·exact qQ7 this z
       ·rw[gH.big _ _ e1]at z;cases z
     have QT:∀x∈p::ak::ag::al::ad::at_::ah::ap::cs,x≠ah->∀u,Pz x=some u->(upd Hd c (.lst [v])) x=some u:=λx hx Ys u e=>by
      rw[aP (λz=>PB (by rw[<-z];exact hx))];exact old x u e Ys
     refine q Hc (upd Hd c (.lst [v])) (p::ak::ag::al::ad::at_::ah::ap::(cs ++ [c])) (gH.fG.trans s9) (λb u e=>?_) (λb z=>?_) (λx hx=>?_) (λb u e Wi=>?_) ⟨C,dx,ak,ag,al,ad,at_,ah,ap,cs ++ [c],xd,rfl,?_,?_⟩
     ·rw[aP (bN e Yc)];exact Zq b u e
     ·rcases nw b z with z|z
      ·exact gH.new b z
      ·exact .inr (gH.big.free z)
     ·have hx:x∈(p::ak::ag::al::ad::at_::ah::ap::cs) ++ [c]:=by simpa using hx
      rcases bS.mp hx with hx|hx
      ·refine⟨za0 x hx,?_,.inl hx⟩
       rw[aP (λz=>PB (by rw[<-z];exact hx))]
       obtain⟨o,e1,_⟩:=o2 x hx;by_cases Ys:x=ah
       ·rw[Ys,Qy];simp
       ·rw[old x o (gH.big _ _ e1) Ys];simp
      ·rw[aV.mp hx]
       exact⟨Yc,by rw[bq];simp,.inr hcH⟩
     ·have hbc:b≠c:=λz=>by rw[z,hcH]at e;cases e
      rw[aP hbc];exact old b u (gH.big _ _ e) (λz=>Wi (by rw[z];simp))
     ·have:(p::ak::ag::al::ad::at_::ah::ap::(cs ++ [c]))=(p::ak::ag::al::ad::at_::ah::ap::cs) ++ [c]:=by simp
      rw[this,cZ];exact⟨Pq,by simp,λx hx y hy z=>PB (by rw[<-aV.mp hy,<-z];exact hx)⟩
     ·refine⟨QT p (by simp) ph _ Wa.ins,Wa.cls,Wa.tT,QT ak (by simp) kh _ Wa.ki,QT ag (by simp) gh _ Wa.ga,QT al (by simp) lh _ Wa.li,QT ad (by simp) dh _ Wa.de,Wa.dr.mono s9,QT at_ (by simp) th _ Wa.ti,?_,?_,QT ap (by simp) (bV hp) _ Wa.pa,λj c2 q2 e1 e2=>?_⟩
      ·have Qy:Hd ah=some (.dK (putK (hG (gk st.hours) cs) (bG dk) (.ref c))):=Qy
       rw[aP (λz=>PB (by rw[<-z];simp)),Qy,Gm,u6 _ h1,Gi W.hl]
      ·rw[Gm,aY,aY,W.hl];rfl
      ·rw[Gm]at e2
       by_cases hj:j<cs.length
       ·rw[cU hj]at e1
        rw[cU (by rw[<-W.hl];exact hj)]at e2
        obtain⟨ys,y1,y2⟩:=Wa.ce j c2 q2 e1 e2;have hm:c2∈cs:=bw e1;exact⟨ys,QT c2 (by simp[hm]) (λz=>hc (by rw[<-z];exact hm)) _ y1,y2.mono s9⟩
       ·have hl:=W.hl
        have hj2:j=cs.length:=by
         have:=(aO.mp e1).1;rw[aY,iB]at this;omega
        subst hj2;rw[cM (ay _),Nat.sub_self]at e1;rw[cM (by omega),show cs.length-(gk st.hours).length=0 from by omega]at e2
        cases e1;cases e2;exact⟨[v],bq,.cons r .nil⟩
    ·have D2:jQ (hG (gk st.hours) cs) (bG dk)=none:=D2
     rw[h3]at D2;cases D2
end
def Gn:Pl:=⟨[],[],[],[],[],[]⟩
def wD(es:List Ent)(i:Nat):Pl:=(es.take i).foldl sE Gn
theorem Jt{es:List Ent}{i:Nat}(h:es[i]?=some e):wD es (i+1)=sE (wD es i) e:=by
 unfold wD;rw[dH,h,gS];rfl
theorem Mr(es:List Ent):wD es es.length=es.foldl sE Gn:=by unfold wD;rw[ju]
structure Xr(es:List Ent):Prop where
 ent:∀e∈es,ua e
 pl:∀i,i<=es.length->jD (wD es i)
 add:∀(i:Nat)e,es[i]?=some e->zz (wD es i) e
section
variable{P:bK}{w:cB}{K:au}{mg:Str->Option aE}{base:dg}{f:aR}{k:Nat}
structure PlC(P:bK)(w:cB)(K:au)(mg:Str->Option aE)(base:dg):Prop where
 ex:∃C fi fd,mg "Plant"=some (.ref C)/\DB K C/\(∀f∈Yn,kB K C f)/\Mk K C fi/\ft P w K mg base jP 1 fi fd ["self"] (Ml C)/\Binds K fd ["self"] []
abbrev Nrp:List Str:=["text","plant","number","words","entry","word"]
theorem QV:cC Nrp ["text"] (bC (top 20)):=⟨rfl,rfl,rfl,by symm,rfl,by symm,by symm⟩
def Rrp(ds:List aj)(d:aj):Prop:=∃(x:Str)(es:List Ent),ds=[.str x]/\vm x/\(rowsOf x).map (·.2)=es.map Gd/\Xr es/\d=fM (es.foldl sE Gn)
theorem za1(F:k9 K "read_plant" "read_plant" (top 20) f fd)(n:Np mg w.params K)(T:PlC P w K mg base)(C1:bD P w K mg base 2 "rows_of" ["text"] (Ba K Rro))(C2:bD P w K mg base 8 "entry_of" ["words"] (g_ K Reo))(C3:bD P w K mg base 3 "fault_of" Et (g_ K Rfo))(C4:bD P w K mg base 1 "add_entry" Et (Lk K Pl (CM K) QR)):ft P w K mg base jP 9 f fd ["text"] (g_ K Rrp):=
 jR F QV (λ_ _ h=>by obtain⟨_,_,rfl,_⟩:=h;rfl) λ_ _ h=>by
  obtain⟨x,es,rfl,ox,QW,TF,rfl⟩:=h;intro fV A outer s H E hr;have nd:Nrp.Nodup:=QV.nd;obtain⟨C,fi,fdi,mC,cl,na,M,FI,bI⟩:=T.ex;have hlen:(rowsOf x).length=es.length:=by have:=qQ6 fq QW;simpa using this
  refine yT λB0 B σ H0 Hh D fr PD=>?_
  refine cH (S5 1 M FI (hr.mono (by omega)) mC bI (λp dx E' hp hdx Yo=>?_) nd)
  refine⟨p,dx,rfl,bq,λak ag al ad at_ ah ap H' mid=>⟨rfl,?_⟩⟩
  have J9:∀b,(upd (upd Hh dx (.own p)) p (.ins C dx [])) b=none->Hh b=none:=λb hb=>by
   have h1:b≠p:=λz=>by rw[z,bq]at hb;cases hb
   rw[aP h1]at hb;have h2:b≠dx:=λz=>by rw[z,bq]at hb;cases hb
   rw[aP h2]at hb;exact hb
  have QX:∀b o,Hh b=some o->H' b=some o:=λb o e=>by
   have h1:b≠p:=bN e hp;refine mid.old b o ?_ h1
   rw[aP h1,aP (bN e hdx)];exact e
  have G0:OF K B0 B (CM K p (wD es 0)) H0 H' (σ.set 1 (some (.ref p))) [.val (.str x),.ref p,.un,.un,.un,.un]:=by
   have g:eB H0 Hh H0 H':=⟨QX,dv.refl _,λb u e=>QX b u (fr.sub b u e),λ_ z=>.inl z⟩
   refine⟨(fr.grow g).k_ (i:=1) (v:=.ref p) (sl:=.ref p) rfl rfl,rfl,[p,ak,ag,al,ad,at_,ah,ap],λa ha=>?_,C,dx,ak,ag,al,ad,at_,ah,ap,[],[],rfl,by simpa using mid.nd,?_⟩
   ·have Ms:Hh a=none/\H' a≠none:=by
     rcases aG.mp ha with rfl|ha
     ·exact⟨hp,by rw[mid.ins];simp⟩
     ·have ha':∃q∈[(ak,HO.dK []),(ag,.lst []),(al,.dK []),(ad,.lst []),(at_,.dT []),(ah,.dK []),(ap,.dK [])],q.1=a:=by
       simp only[aG,bu,or_false]at ha;rcases ha with rfl|rfl|rfl|rfl|rfl|rfl|rfl<;>simp
      obtain⟨q,hq,rfl⟩:=ha';exact⟨J9 _ (mid.fresh q hq),by rw[mid.ob q hq];simp⟩
    exact⟨fr.sub.free Ms.1,fr.ent.big.free Ms.1,Ms.2⟩
   ·exact⟨mid.ins,cl,na,mid.ob (ak,.dK []) (by simp),mid.ob (ag,.lst []) (by simp),mid.ob (al,.dK []) (by simp),mid.ob (ad,.lst []) (by simp),.nil,mid.ob (at_,.dT []) (by simp),mid.ob (ah,.dK []) (by simp),rfl,mid.ob (ap,.dK []) (by simp),λi c q e1=>by simp at e1⟩
  refine cH (Wq (tgt:=.tup [2,3]) (ds:=(rowsOf x).map y_) (λi=>CM K p (wD es i)) (λi=>CM.mono) G0 cK rfl (g8 (VO.ve (ko C1 (hr.mono (by omega)) (ao (ae 0 rfl) aQ) ⟨x,rfl,ox,rfl⟩)))
   (gB rfl (bU (bL (i:=2) nd rfl (a7 rfl)) (bU (bL (i:=3) nd rfl (a7 rfl)) fh))) (λi d hd=>?_) (λσ2 Ha Hb G=>?_))
  ·obtain⟨r,hri,rfl⟩:∃r,(rowsOf x)[i]?=some r/\d=y_ r:=by
    rw[aI]at hd;cases e:(rowsOf x)[i]? with
    |none=>rw[e]at hd;cases hd
    |some r=>rw[e]at hd;cases hd;exact⟨r,rfl,rfl⟩
   have hil:i<(rowsOf x).length:=(aO.mp hri).1;have Uj:es[i]?=some es[i]:=aq (by omega)
   have hw:r.2=Gd es[i]:=by
    have h1:((rowsOf x).map (·.2))[i]?=some r.2:=by rw[aI,hri];rfl
    rw[QW,aI,Uj]at h1;exact(cR h1).symm
   have oe:=TF.ent _ (dR (by omega:i<es.length))
   have oa:=TF.add i _ Uj;have op:=TF.pl i (by omega)
   have Xs:=Jt Uj
   generalize es[i]=e at *
   refine⟨[.val (.str x),.ref p,.val (.int (r.1:Nat)),.val (.list (r.2.map .str)),.un,.un],rfl,rfl,λD C0 σ' dS dO G q=>?_⟩
   refine cH (lC CM.mono G (cA 4 (d:=Gc e) (bH C2 hr (ao (ae 3 rfl) aQ) ⟨e,by rw[hw];rfl,oe,rfl⟩) nd) rfl λσ1 Pr Pt G1=>?_)
   refine cH (S4 CM.mono G1 1 5 (d:=.str "") rfl CM.rep (bH C3 (hr.mono (by omega)) (ao (ae 1 rfl) (ao (ae 4 rfl) aQ)) ⟨wD es i,e,rfl,op,oe,oa,rfl⟩) rfl rfl (λσ2 Pw Px G2=>?_) nd)
   refine cH (lC CM.mono G2 (bX (VT.to (qQ hr aW aW (ae 5 rfl) aN) (qQ6 (λb=>!b) (kf _))) bM) rfl λσ3 M_ Mp G3=>?_)
   refine dD (Ws (s:=wD es i) (s':=wD es (i+1)) C4 (hr.mono (by omega)) G3 CM.mono 1 rfl (ae 4 rfl) ⟨e,rfl,op,oe,oa,Xs⟩ λDr AF G4=>?_)
   exact q _ _ _ (G4.forget CM.mono ⟨.inr rfl,.inr rfl,.inl rfl,.inl rfl,.inl rfl,.inl rfl,trivial⟩ rfl)
  ·have e:wD es ((rowsOf x).map y_).length=es.foldl sE Gn:=by rw[ai,hlen,Mr]
   rw[e]at G;exact dD (Wr G 1 rfl CM.rep PD)
end
end Mg
namespace Mg
open L2 PySem PyProof.Rows
variable{many nn:Nat}{p:Pl}
structure uF(p:Pl):Prop where
 kn:(p.kinds.map (·.1)).Nodup
 pn:(p.gates++p.lines.map (·.1)).Nodup
 dn:(p.desks.map (·.name)).Nodup
 dk:∀d∈p.desks,Ge d/\(∀x∈d.places,x∈p.gates++p.lines.map (·.1))/\(d.to=""\/∃r,(d.to,r)∈p.lines/\ck d.rule d.places.length<=r)
 dj:(p.desks.map (·.places)).flatten.Nodup
 tn:(p.times.map λq=>(q.1,q.2.1)).Nodup
 tm:∀q∈p.times,q.1∈p.desks.map (·.name)/\q.2.1∈p.kinds.map (·.1)/\1<=q.2.2
 hr:∀q∈p.hours,q.1∈p.desks.map (·.name)/\q.2.1<q.2.2
 kk:∀q∈p.kinds,∀i,q.2=some i->1<=i/\dI i
 ll:∀q∈p.lines,1<=q.2
def Ez(p:Pl):List Ent:=p.kinds.map (λq=>Ent.kind q.1 q.2)++p.gates.map Ent.gate++p.lines.map (λq=>Ent.line q.1 q.2)++p.desks.map Ent.desk++p.times.map (λq=>Ent.time q.1 q.2.1 q.2.2)++p.hours.map (λq=>Ent.hour q.1 q.2.1 q.2.2)
def ub:Pl->List Ent->Prop
 |st,[]=>jD st
 |st,e::es=>jD st/\ua e/\zz st e/\ub (sE st e) es
theorem ub.app:∀{A B:List Ent}{st:Pl},ub st A->ub (A.foldl sE st) B->ub st (A++B)
 | [],_,_,_,h=>h
 |_::_,_,_,⟨h1,h2,h3,h4⟩,h=>⟨h1,h2,h3,h4.app h⟩
theorem ub.es:∀{es:List Ent}{st:Pl},ub st es->(∀e∈es,ua e)/\(∀i,i<=es.length->jD ((es.take i).foldl sE st))/\∀(i:Nat)e,es[i]?=some e->zz ((es.take i).foldl sE st) e
 | [],st,h=>⟨λe he=>(by cases he),λi hi=>by rw[List.take_nil];exact h,λi e he=>by simp at he⟩
 |e::es,st,⟨h1,h2,h3,h4⟩=>by
  obtain⟨a,b,c⟩:=h4.es;refine⟨λx hx=>?_,λi hi=>?_,λi x hx=>?_⟩
  ·rcases aG.mp hx with rfl|hx
   ·exact h2
   ·exact a x hx
  ·cases i with
   |zero=>exact h1
   |succ i=>exact b i (by simpa using hi)
  ·cases i with
   |zero=>cases hx;exact h3
   |succ i=>exact c i x (by simpa using hx)
theorem seg{α:Type}(mk:α->Ent)(put:List α->Pl)(h1:∀l x,sE (put l) (mk x)=put (l ++ [x]))(l:List α)(hok:∀pre x post,l=pre++x::post->jD (put pre)/\ua (mk x)/\zz (put pre) (mk x))(za2:jD (put l)):
  ub (put []) (l.map mk)/\(l.map mk).foldl sE (put [])=put l:=by
 have go:∀(rest pre:List α),l=pre++rest->ub (put pre) (rest.map mk)/\(rest.map mk).foldl sE (put pre)=put l:=by
  intro rest
  induction rest with
  |nil=>intro pre e;rw[eI]at e;subst e;exact⟨za2,rfl⟩
  |cons x rest ih=>
   intro pre e;obtain⟨a,b,c⟩:=hok pre x rest e;obtain⟨i1,i2⟩:=ih (pre ++ [x]) (by rw[e];simp)
   rw[aH];refine⟨⟨a,b,c,?_⟩,?_⟩
   ·rw[h1];exact i1
   ·rw[nA,h1];exact i2
 exact go l [] rfl
theorem lH{q: Pl}(h:jD p)(k1:q.kinds.length<=p.kinds.length)(k2:∀x∈q.kinds,x∈p.kinds)(g1:q.gates.length<=p.gates.length)(g2:∀x∈q.gates,x∈p.gates)(l1:q.lines.length<=p.lines.length)(l2:∀x∈q.lines,x∈p.lines)(d1:q.desks.length<=p.desks.length)(d2:∀x∈q.desks,x∈p.desks)(t1:q.times.length<=p.times.length)(t2:∀x∈q.times,x∈p.times)(h1:q.hours.length<=p.hours.length)(h2:∀x∈q.hours,x∈p.hours):jD q:=
 ⟨cp k1 h.kn,cp g1 h.gn,cp l1 h.ln,cp d1 h.dn,cp t1 h.tn,cp h1 h.hn,λx hx=>h.kinds x (k2 x hx),λx hx=>h.gates x (g2 x hx),λx hx=>h.lines x (l2 x hx),λx hx=>h.desks x (d2 x hx),λx hx=>h.times x (t2 x hx),λx hx=>h.hours x (h2 x hx)⟩
theorem lE{κ:Type}[DecidableEq κ]:∀{kvs:List (κ×aj)}{k:κ}{v:aj},(kvs.map (·.1)).Nodup->(k,v)∈kvs->gU kvs k=some v
 | [],_,_,_,h=>by cases h
 |q::l,k,v,nd,h=>by
  rw[aH,eX]at nd;rcases aG.mp h with rfl|h
  ·exact fK rfl
  ·rw[cW (λe=>nd.1 (by rw[e];exact av.mpr ⟨(k,v),h,rfl⟩))]
   exact lE nd.2 h
theorem wF{α:Type}{l pre post:List α}{x:α}(e:l=pre++x::post):pre.length<=l.length/\∀y∈pre,y∈l:=by
 subst e;exact⟨by rw[aY];omega,λy hy=>dC _ hy⟩
theorem mw{α β:Type}{f:α->β}{l pre post:List α}{x:α}(nd:(l.map f).Nodup)(e:l=pre++x::post):f x∉pre.map f:=by
 subst e;rw[aU,aH,cZ]at nd;intro z;exact nd.2.2 _ z _ aL rfl
theorem Mt(ok:jD p)(g:uF p):ub Gn (Ez p)/\(Ez p).foldl sE Gn=p:=by
 have n0:∀{α:Type}(x:α),x∈([]:List α)->False:=λx h=>by cases h
 have s1:=seg (λq:Str×Option Int=>Ent.kind q.1 q.2) (λl=>⟨l,[],[],[],[],[]⟩) (λ_ _=>rfl) p.kinds (λpre x post e=>by
  obtain⟨e1,e2⟩:=wF e;have hx:x∈p.kinds:=by rw[e];simp
  exact⟨lH ok e1 e2 (bF _) (λx h=>(n0 x h).elim) (bF _) (λx h=>(n0 x h).elim) (bF _) (λx h=>(n0 x h).elim) (bF _) (λx h=>(n0 x h).elim) (bF _) (λx h=>(n0 x h).elim),⟨(ok.kinds x hx).1,g.kk x hx⟩,mw g.kn e⟩)
  (lH ok (ay _) (λ_ h=>h) (bF _) (λx h=>(n0 x h).elim) (bF _) (λx h=>(n0 x h).elim) (bF _) (λx h=>(n0 x h).elim) (bF _) (λx h=>(n0 x h).elim) (bF _) (λx h=>(n0 x h).elim))
 have pn:=g.pn;rw[cZ]at pn;have s2:=seg Ent.gate (λl=>⟨p.kinds,l,[],[],[],[]⟩) (λ_ _=>rfl) p.gates (λpre x post e=>by
  obtain⟨e1,e2⟩:=wF e;have hx:x∈p.gates:=by rw[e];simp
  refine⟨lH ok (ay _) (λ_ h=>h) e1 e2 (bF _) (λx h=>(n0 x h).elim) (bF _) (λx h=>(n0 x h).elim) (bF _) (λx h=>(n0 x h).elim) (bF _) (λx h=>(n0 x h).elim),ok.gates x hx,?_⟩
  rintro(h|h)
  ·have:=mw (f:=id) (by simpa using pn.1) e
   exact this (by simpa using h)
  ·cases h)
  (lH ok (ay _) (λ_ h=>h) (ay _) (λ_ h=>h) (bF _) (λx h=>(n0 x h).elim) (bF _) (λx h=>(n0 x h).elim) (bF _) (λx h=>(n0 x h).elim) (bF _) (λx h=>(n0 x h).elim))
 have s3:=seg (λq:Str×Int=>Ent.line q.1 q.2) (λl=>⟨p.kinds,p.gates,l,[],[],[]⟩) (λ_ _=>rfl) p.lines (λpre x post e=>by
  obtain⟨e1,e2⟩:=wF e;have hx:x∈p.lines:=by rw[e];simp
  refine⟨lH ok (ay _) (λ_ h=>h) (ay _) (λ_ h=>h) e1 e2 (bF _) (λx h=>(n0 x h).elim) (bF _) (λx h=>(n0 x h).elim) (bF _) (λx h=>(n0 x h).elim),⟨(ok.lines x hx).1,g.ll x hx,(ok.lines x hx).2⟩,?_⟩
  rintro(h|h)
  ·exact pn.2.2 _ h _ (av.mpr ⟨x,hx,rfl⟩) rfl
  ·exact mw pn.2.1 e h)
  (lH ok (ay _) (λ_ h=>h) (ay _) (λ_ h=>h) (ay _) (λ_ h=>h) (bF _) (λx h=>(n0 x h).elim) (bF _) (λx h=>(n0 x h).elim) (bF _) (λx h=>(n0 x h).elim))
 have s4:=seg Ent.desk (λl=>⟨p.kinds,p.gates,p.lines,l,[],[]⟩) (λ_ _=>rfl) p.desks (λpre x post e=>by
  obtain⟨e1,e2⟩:=wF e;have hx:x∈p.desks:=by rw[e];simp
  obtain⟨q1,q2,q3⟩:=g.dk x hx;refine⟨lH ok (ay _) (λ_ h=>h) (ay _) (λ_ h=>h) (ay _) (λ_ h=>h) e1 e2 (bF _) (λx h=>(n0 x h).elim) (bF _) (λx h=>(n0 x h).elim),q1,mw g.dn e,λy hy hz=>?_,λy hy=>bS.mp (q2 y hy),?_⟩
  ·obtain⟨d,hd,hyd⟩:=hz
   have dj:=g.dj;rw[e,aU,List.flatten_append,cZ]at dj;exact dj.2.2 y (List.mem_flatten.mpr ⟨d.places,av.mpr ⟨d,hd,rfl⟩,hyd⟩) y (List.mem_flatten.mpr ⟨x.places,by simp,hy⟩) rfl
  ·rcases q3 with h|⟨r,h,hr⟩
   ·exact .inl h
   ·refine .inr ⟨r,lE ?_ (av.mpr ⟨(x.to,r),h,rfl⟩),hr⟩
    rw[kr];exact pn.2.1)
  (lH ok (ay _) (λ_ h=>h) (ay _) (λ_ h=>h) (ay _) (λ_ h=>h) (ay _) (λ_ h=>h) (bF _) (λx h=>(n0 x h).elim) (bF _) (λx h=>(n0 x h).elim))
 have s5:=seg (λq:Str×Str×Int=>Ent.time q.1 q.2.1 q.2.2) (λl=>⟨p.kinds,p.gates,p.lines,p.desks,l,[]⟩) (λ_ _=>rfl) p.times (λpre x post e=>by
  obtain⟨e1,e2⟩:=wF e;have hx:x∈p.times:=by rw[e];simp
  obtain⟨q1,q2,q3⟩:=g.tm x hx;obtain⟨r1,r2,r3⟩:=ok.times x hx;exact⟨lH ok (ay _) (λ_ h=>h) (ay _) (λ_ h=>h) (ay _) (λ_ h=>h) (ay _) (λ_ h=>h) e1 e2 (bF _) (λx h=>(n0 x h).elim),⟨r1,r2,q3,r3⟩,mw (f:=λq:Str×Str×Int=>(q.1,q.2.1)) g.tn e,q1,q2⟩)
  (lH ok (ay _) (λ_ h=>h) (ay _) (λ_ h=>h) (ay _) (λ_ h=>h) (ay _) (λ_ h=>h) (ay _) (λ_ h=>h) (bF _) (λx h=>(n0 x h).elim))
 have s6:=seg (λq:Str×Int×Int=>Ent.hour q.1 q.2.1 q.2.2) (λl=>⟨p.kinds,p.gates,p.lines,p.desks,p.times,l⟩) (λ_ _=>rfl) p.hours (λpre x post e=>by
  obtain⟨e1,e2⟩:=wF e;have hx:x∈p.hours:=by rw[e];simp
  obtain⟨q1,q2⟩:=g.hr x hx;obtain⟨r1,r2,r3⟩:=ok.hours x hx;exact⟨lH ok (ay _) (λ_ h=>h) (ay _) (λ_ h=>h) (ay _) (λ_ h=>h) (ay _) (λ_ h=>h) (ay _) (λ_ h=>h) e1 e2,⟨r1,r2,r3,q2⟩,q1⟩)
  ok
 unfold Ez;simp only[cP];refine⟨s1.1.app ?_,?_⟩
 ·rw[s1.2]
  refine s2.1.app ?_
  rw[s2.2];refine s3.1.app ?_
  rw[s3.2];refine s4.1.app ?_
  rw[s4.2];refine s5.1.app ?_
  rw[s5.2];exact s6.1
 ·rw[gS,show Gn=⟨[],[],[],[],[],[]⟩from rfl,s1.2,gS,s2.2,gS,s3.2,gS,s4.2,gS,s5.2,s6.2]
theorem Xt(ok:jD p)(g:uF p):Xr (Ez p):=by
 obtain⟨a,b,c⟩:=(Mt ok g).1.es;exact⟨a,b,c⟩
theorem gY{x y:Str}{c:Nat}(h1:c∉x.cps.toList)(h2:c∉y.cps.toList):c∉(x++y).cps.toList:=by rw[add_list,bS];exact λz=>z.elim h1 h2
theorem vE{c:Nat}{y:Str}(hy:c∉y.cps.toList):∀{l:List Str},(∀x∈l,c∉x.cps.toList)->c∉(c9 y l).cps.toList
 | [],_=>by show c∉([]:List Nat);simp
 | [x],h=>h x aL
 |x::z::l,h=>by
  show c∉(x++y++c9 y (z::l)).cps.toList;exact gY (gY (h x aL) hy) (vE hy λu hu=>h u (aT _ hu))
theorem Gp(ok:jD p):(∀r∈dB p,10∉r.cps.toList)/\(dB p).map wordsOf=(Ez p).map Gd:=by
 have nn:∀{x:Str},dM x->10∉x.cps.toList:=λh=>(iG h).2.2
 have dn:∀{d:aj},E9 d->10∉(eQ d).cps.toList:=λh=>(tj h).2.2
 have nm:∀{i:Int},dI i->10∉(dJ i).cps.toList:=λh=>(oi h.1 h.2).2.2
 constructor
 ·intro r hr
  unfold dB mQ at hr;simp only[bS,av]at hr;rcases hr with((((⟨q,hq,rfl⟩|⟨q,hq,rfl⟩)|⟨q,hq,rfl⟩)|⟨q,hq,rfl⟩)|⟨q,hq,rfl⟩)|⟨q,hq,rfl⟩
  ·obtain⟨h1,h2⟩:=ok.kinds q hq
   exact gY (gY (gY (by symm) (nn h1)) (by symm)) (dn h2)
  ·exact gY (by symm) (nn (ok.gates q hq))
  ·obtain⟨h1,h2⟩:=ok.lines q hq
   exact gY (gY (gY (by symm) (nn h1)) (by symm)) (nm h2)
  ·obtain⟨h1,h2,h3,h4,h5⟩:=ok.desks q hq
   refine gY (gY (gY (gY (gY (gY (gY (by symm) (nn h1)) (by symm)) (dn (d:=.str q.to) h2)) (by symm)) (vE (by symm) λx hx=>(uB h3 x hx).2.2)) (by symm)) (vE (by symm) λx hx=>nn (h5 x hx))
  ·obtain⟨h1,h2,h3⟩:=ok.times q hq
   refine vE (by symm) λx hx=>?_
   simp only[aG,bu,or_false]at hx;rcases hx with rfl|rfl|rfl|rfl
   ·symm
   ·exact nn h1
   ·exact nn h2
   ·exact nm h3
  ·obtain⟨h1,h2,h3⟩:=ok.hours q hq
   refine vE (by symm) λx hx=>?_
   simp only[aG,bu,or_false]at hx;rcases hx with rfl|rfl|rfl|rfl
   ·symm
   ·exact nn h1
   ·exact nm h2
   ·exact nm h3
 ·unfold dB mQ Ez
  simp only[aU,aS]
  congr 1
  congr 1
  congr 1
  congr 1
  congr 1
  ·exact hX λq hq=>F5 (ok.kinds q hq)
  ·exact hX λq hq=>F6 (ok.gates q hq)
  ·exact hX λq hq=>F7 (ok.lines q hq)
  ·exact hX λq hq=>F8 (ok.desks q hq)
  ·exact hX λq hq=>F9 (ok.times q hq)
  ·exact hX λq hq=>Gb (ok.hours q hq)
theorem PF(e:Ent):(Gd e).isEmpty=false:=by cases e<;>rfl
theorem Ju(l:List Str):∀k,((l.zipIdx k).filterMap λp=>if(wordsOf p.1).isEmpty then none else some (p.2,wordsOf p.1)).map (·.2)=(l.map wordsOf).filter λws=>!ws.isEmpty:=by
 induction l with
 |nil=>intro k;rfl
 |cons x l ih=>
  intro k;rw[xU,aH,jv];cases hx:(wordsOf x).isEmpty with
  |true=>rw[eP (by simp only[hx];rfl),ih];rfl
  |false=>rw[cX (b:=(k,wordsOf x)) (by simp only[hx];rfl),aH,ih];rfl
theorem EA(ok:jD p)(hk:p.kinds≠[]):(rowsOf (mF p)).map (·.2)=(Ez p).map Gd:=by
 obtain⟨h1,h2⟩:=Gp ok;unfold mF;rw[Jm (λz=>?_) h1,Ju,h2,List.filter_eq_self.mpr]
 ·intro ws L7
  obtain⟨e,_,rfl⟩:=av.mp L7;rw[PF];rfl
 ·unfold dB mQ at z
  cases hkk:p.kinds with
  |nil=>exact hk hkk
  |cons q l=>rw[hkk]at z;simp at z
theorem Gq(m:Int)(k:Nat):(pO m k).cps.toList=(stemOf m).cps.toList.take (m/624%(1+m/78%8)).toNat++(97+((m/3+5*k)%26).toNat)::(stemOf m).cps.toList.drop (m/624%(1+m/78%8)+1).toNat:=by
 have hs:=sZ m;have hl:(stemOf m).cps.toList.length=(1+m/78%8).toNat:=by rw[hs,dq]
 have b1:0<=m/78%8:=a8 _ (by decide)
 have b2:m/78%8<8:=bo _ (by decide)
 have p1:0<=m/624%(1+m/78%8):=a8 _ (by omega)
 have p2:m/624%(1+m/78%8)<1+m/78%8:=bo _ (by omega)
 have e1:kJ (stemOf m) none (some (m/624%(1+m/78%8)))=_:=rO (x:=stemOf m) ⟨p1,by rw[hl];omega⟩
 have e2:kJ (stemOf m) (some (m/624%(1+m/78%8)+1)) none=_:=qg (x:=stemOf m) ⟨by omega,by rw[hl];omega⟩
 unfold pO;rw[e1,e2]
 show((_++_++_:Array Nat)).toList=_
 simp only[ui,ku,Fg,Ct,one];rw[cO (l:=List.drop _ _) (by rw[b_];omega),cP]
 rfl
theorem sF{β:Type}{f:Nat->β}:∀{n:Nat},(∀i j,i<n->j<n->f i=f j->i=j)->((aZ n).map f).Nodup:=by
 intro n h;rw[List.Nodup,List.pairwise_map,iO];intro i j hi hj z_ e;rw[bW]at hi hj;rw[List.getElem_range,List.getElem_range]at e;exact qQ7 (h i j hi hj e) (by omega)
theorem kN(cell:Int)(hm:many<=26):(namesOf cell many).Nodup:=by
 unfold namesOf
 split
 ·refine sF λi j hi hj e=>?_
  have e1:∀k,(nameA (cq cell 3) many k).cps.toList=bh (many-k) (97+(cq cell 3/3%26).toNat):=λk=>yc _ _
  have:=qQ6 (λx:Str=>x.cps.toList.length) e
  simp only[e1,dq]at this;omega
 ·refine sF λi j hi hj e=>?_
  have:=qQ6 (λx:Str=>x.cps.toList) e
  simp only[Gq]at this;have:=List.append_cancel_left this;have:=(kA this).1
  generalize cq cell 3/3=a at *
  omega
theorem my(l:List Str):(aZ l.length).map (λk=>l.getD k "")=l:=by
 refine iW λi=>?_
 rw[aI];by_cases h:i<l.length
 ·rw[fk h,aq h]
  show some (l.getD i "")=_;rw[aD,aq h];rfl
 ·rw[eR (by simpa using h),eR (by simpa using h)];rfl
theorem xn{α:Type}:∀(L:List (List α))(i:Nat)(j:Nat)(y:α),i<L.length->(L.set i (oC (L.getD i []) j y)).flatten.Perm (y::L.flatten)
 | [],i,_,_,h=>by simp at h
 |r::L,0,j,y,_=>by
  show(oC r j y++L.flatten).Perm (y::(r++L.flatten))
  have:(oC r j y).Perm (y::r):=by
   unfold oC;exact List.perm_middle.trans (by rw[fw])
  exact this.append_right _
 |r::L,i+1,j,y,h=>by
  have ih:=xn L i j y (by simpa using h)
  show(r++(L.set i (oC (L.getD i []) j y)).flatten).Perm (y::(r++L.flatten))
  exact(ih.append_left r).trans List.perm_middle
theorem zE(cell:Int)(h1:1<=nn)(places:List Str):∀k,k<=places.length->(dY cell nn places k).flatten.Perm (places.take k)
 |0,_=>by
  show(bh nn ([]:List Str)).flatten.Perm []
  rw[List.flatten_replicate_nil]
 |k+1,hk=>by
  have ih:=zE cell h1 places k (by omega)
  have hl:fX cell nn k<(dY cell nn places k).length:=by rw[ic];exact Bk cell h1 k
  have e:places.take (k+1)=places.take k ++ [places.getD k ""]:=by
   rw[dH,aq (by omega),aD,aq (by omega)];rfl
  rw[e];refine(xn _ _ _ _ hl).trans ?_
  refine(ih.cons _).trans ?_
  exact(List.perm_append_singleton _ _).symm
theorem vF(cell:Int)(h1:1<=nn)(places:List Str):∀k,∀j,j<k->j<nn->(dY cell nn places k).getD j []≠[]
 |0,_,h,_=>by omega
 |k+1,j,hj,hn=>by
  have hl:=ic cell nn places k;have ex:∀(L:List (List Str))(i:Nat)(r:List Str),L.length=nn->(L.set i r).getD j []=if i=j then r else L.getD j []:=λL i r e=>by
   rw[aD,List.getElem?_set]
   by_cases z_:i=j
   ·subst z_;rw[qQ3 rfl,qQ3 (by omega),qQ3 rfl];rfl
   ·rw[qQ2 z_,qQ2 z_,aD]
  show((dY cell nn places k).set (fX cell nn k) (oC _ _ _)).getD j []≠[]
  rw[ex _ _ _ hl]
  split
  ·intro z
   have:=qQ6 fq z;rw[xi]at this;simp at this
  ·rename_i B9
   by_cases DL:j<k
   ·exact vF cell h1 places k j DL hn
   ·exfalso
    apply B9;have:j=k:=by omega
    subst this;unfold fX;rw[qQ3 hn]
theorem Bq(m:Int):o_ (jj m many) many:=by
 unfold jj
 split
 ·rename_i h;exact h.2
 ·split
  ·exact⟨by omega,fA _ 1 (by decide) (by decide) (by decide),oo _ (by decide) (by decide)⟩
  ·split
   ·exact⟨by omega,fA _ 1 (by decide) (by decide) (by decide)⟩
   ·split
    ·split
     ·trivial
     ·exact oo _ (by decide) (by decide)
    ·split
     ·refine⟨by simp,λz hz=>?_⟩
      obtain⟨k,_,rfl⟩:=av.mp hz;unfold Cu;omega
     ·trivial
theorem EB(cell:Int)(places lines:List Str):(bQ cell places lines).map (·.name)=namesOf (cq cell 31) (kX cell places.length):=by
 unfold bQ;rw[aS];have:=my (namesOf (cq cell 31) (kX cell places.length));rw[fL]at this;exact this
theorem CN(cell:Int)(places lines:List Str):(bQ cell places lines).map (·.places)=dY cell (kX cell places.length) places places.length:=by
 unfold bQ;rw[aS];have hl:=ic cell (kX cell places.length) places places.length;refine iW λi=>?_
 rw[aI];by_cases h:i<kX cell places.length
 ·rw[fk h]
  show some ((dY cell (kX cell places.length) places places.length).getD i [])=_;rw[aD,aq (by omega)];rfl
 ·rw[eR (by simpa using h),eR (by omega)];rfl
theorem zF(c:Int)(iw:List Dk)(kinds:List (Str×Option Int))(hk:(kinds.map (·.1)).Nodup)(hd:(iw.map (·.name)).Nodup):∀i,i<=iw.length->((gM c iw kinds i).map λq=>(q.1,q.2.1)).Nodup/\∀q∈gM c iw kinds i,q.1∈(iw.take i).map (·.name)/\q.2.1∈kinds.map (·.1)/\1<=q.2.2
 |0,_=>⟨by simp[gM],λq hq=>by simp[gM]at hq⟩
 |i+1,hi=>by
  obtain⟨a,b⟩:=zF c iw kinds hk hd i (by omega)
  have hg:iw[i]?=some iw[i]:=aq (by omega)
  rw[qD hg,dH,hg];have row:∀j,((gf (cq c (110+i)) iw[i].name kinds j).map λq=>(q.1,q.2.1)).Nodup/\∀q∈gf (cq c (110+i)) iw[i].name kinds j,q.1=iw[i].name/\q.2.1∈(kinds.take j).map (·.1)/\1<=q.2.2:=by
   intro j
   induction j with
   |zero=>exact⟨by simp[gf],λq hq=>by simp[gf]at hq⟩
   |succ j ih=>
    by_cases hj:j<kinds.length
    ·have hkj:kinds[j]?=some kinds[j]:=aq hj
     rw[t_ hkj,dH,hkj];unfold ux
     split
     ·rw[aU]
      refine⟨?_,λq hq=>?_⟩
      ·rw[cZ]
       refine⟨ih.1,by simp,λx hx y hy z=>?_⟩
       obtain⟨q,hq,rfl⟩:=av.mp hx;have h2:=(ih.2 q hq).2.1;have hy:y=(iw[i].name,kinds[j].1):=by simpa using hy
       rw[hy]at z;have z2:q.2.1=kinds[j].1:=qQ6 (λw:Str×Str=>w.2) z
       rw[z2]at h2;have:kinds=kinds.take j++kinds[j]::kinds.drop (j+1):=by rw[E4,fw]
       exact mw hk this h2
      ·rcases bS.mp hq with hq|hq
       ·obtain⟨h1,h2,h3⟩:=ih.2 q hq
        exact⟨h1,by rw[aU];exact dC _ h2,h3⟩
       ·have hq:q=(iw[i].name,kinds[j].1,1+cq c (110+i)/((j:Int)*j+2)%6):=by simpa using hq
        rw[hq];refine⟨rfl,by rw[aU];exact b0 _ (av.mpr ⟨kinds[j],aV.mpr rfl,rfl⟩),?_⟩
        have:=a8 (cq c (110+i)/((j:Int)*j+2)) (b:=6) (by decide)
        show 1<=1+cq c (110+i)/((j:Int)*j+2)%6;omega
     ·refine⟨by simpa using ih.1,λq hq=>?_⟩
      obtain⟨h1,h2,h3⟩:=ih.2 q (by simpa using hq)
      exact⟨h1,by rw[aU];exact dC _ h2,h3⟩
    ·have e1:gf (cq c (110+i)) iw[i].name kinds (j+1)=gf (cq c (110+i)) iw[i].name kinds j:=by
      unfold gf;rw[cO (by simp;omega),cO (by simp;omega)]
     rw[e1,cO (by omega)]
     rw[cO (by omega)]at ih
     exact ih
  obtain⟨r1,r2⟩:=row kinds.length;rw[ju]at r2;have Jb:iw[i].name∉(iw.take i).map (·.name):=by
   have:iw=iw.take i++iw[i]::iw.drop (i+1):=by rw[E4,fw]
   exact mw hd this
  refine⟨?_,λq hq=>?_⟩
  ·rw[aU,cZ]
   refine⟨a,r1,λx hx y hy z=>?_⟩
   obtain⟨q,hq,rfl⟩:=av.mp hx;obtain⟨q2,FG,rfl⟩:=av.mp hy;have z1:q.1=q2.1:=qQ6 (λw:Str×Str=>w.1) z
   have:=(b q hq).1;rw[z1,(r2 q2 FG).1]at this;exact Jb this
  ·rcases bS.mp hq with hq|hq
   ·obtain⟨h1,h2,h3⟩:=b q hq
    exact⟨by rw[aU];exact dC _ h1,h2,h3⟩
   ·obtain⟨h1,h2,h3⟩:=r2 q hq
    exact⟨by rw[h1,aU];exact b0 _ (av.mpr ⟨iw[i],aV.mpr rfl,rfl⟩),h2,h3⟩
theorem uG{α:Type}:∀{L:List (List α)},L.flatten.Nodup->∀r∈L,r.Nodup
 | [],_,r,h=>by cases h
 |x::L,nd,r,h=>by
  rw[fU,cZ]at nd;rcases aG.mp h with rfl|h
  ·exact nd.1
  ·exact uG nd.2.1 r h
theorem Jv(ns:List Int):uF (eG ns):=by
 obtain⟨k1,k4⟩:=mP (gW ns);obtain⟨g1,g3⟩:=h_ (bP ns);obtain⟨p1,p6⟩:=iJ (bP ns);have IU:(orderOf (bP ns)).length=(placesOf (bP ns)).length:=by
  unfold orderOf;rw[aY,b_,b9];have:=mj (bP ns) (n:=(placesOf (bP ns)).length) (by omega)
  omega
 have qp:=o8 (bP ns);have pnd:(placesOf (bP ns)).Nodup:=kN _ (by omega)
 have hpm:(orderOf (bP ns)).Perm (placesOf (bP ns)):=by
  unfold orderOf;exact sS.trans (by rw[fw])
 have TH:(cG (gW ns)).map (·.1)=namesOf (gW ns) (jH (gW ns)):=by
  unfold cG;rw[aS];have:=my (namesOf (gW ns) (jH (gW ns)));rw[fL]at this;exact this
 have knd:((cG (gW ns)).map (·.1)).Nodup:=by rw[TH];exact kN _ (by omega)
 obtain⟨m1,m4,mp⟩:=kY (fz ns) (n:=(orderOf (bP ns)).length) (by omega)
 have Xu:=EB (fz ns) (orderOf (bP ns)) (linesOf (bP ns));have dpl:=CN (fz ns) (orderOf (bP ns)) (linesOf (bP ns));have dnd:((bQ (fz ns) (orderOf (bP ns)) (linesOf (bP ns))).map (·.name)).Nodup:=by rw[Xu];exact kN _ (by omega)
 have tp:=zE (fz ns) m1 (orderOf (bP ns)) _ (ay _);rw[ju]at tp;have dj:((bQ (fz ns) (orderOf (bP ns)) (linesOf (bP ns))).map (·.places)).flatten.Nodup:=by
  rw[dpl];exact(tp.trans hpm).nodup_iff.mpr pnd
 have Ed:∀d∈bQ (fz ns) (orderOf (bP ns)) (linesOf (bP ns)),_:=λd hd=>ye (by omega) (by omega) hd
 have Xv:∀d∈bQ (fz ns) (orderOf (bP ns)) (linesOf (bP ns)),d.places≠[]/\d.places.Nodup/\o_ d.rule d.places.length:=λd hd=>by
  refine⟨?_,?_,?_⟩
  ·obtain⟨k,hk,rfl⟩:=av.mp hd
   have hk:=cL.mp hk;exact vF (fz ns) m1 (orderOf (bP ns)) _ k (by omega) hk
  ·exact uG dj _ (av.mpr ⟨d,hd,rfl⟩)
  ·obtain⟨k,hk,rfl⟩:=av.mp hd
   exact Bq _
 have F3:∀x∈linesOf (bP ns),dM x:=λx hx=>gQ (dU (show x∈(placesOf (bP ns)).drop _ from hx))
 have tk:=zF (fz ns) (bQ (fz ns) (orderOf (bP ns)) (linesOf (bP ns))) (cG (gW ns)) knd dnd _ (ay _)
 generalize hD:bQ (fz ns) (orderOf (bP ns)) (linesOf (bP ns))=iw at *
 have e0:eG ns=⟨cG (gW ns),lF (bP ns),(aZ (linesOf (bP ns)).length).map (roomAt (bP ns) iw (linesOf (bP ns))),iw,gM (fz ns) iw (cG (gW ns)) iw.length,je (fz ns) iw iw.length⟩:=by rw[<-hD];rfl
 have Md:((aZ (linesOf (bP ns)).length).map (roomAt (bP ns) iw (linesOf (bP ns)))).map (·.1)=linesOf (bP ns):=by
  rw[aS];exact my _
 have gl:lF (bP ns)++linesOf (bP ns)=placesOf (bP ns):=fw _ _;rw[e0];rw[ju]at tk;refine⟨knd,by rw[Md,gl];exact pnd,dnd,λd hd=>?_,dj,tk.1,tk.2,λq hq=>?_,λq hq i hi=>?_,λq hq=>?_⟩
 ·obtain⟨a1,a2,a3,a4,a5,a6⟩:=Ed d hd
  obtain⟨f1,f2,f3⟩:=Xv d hd;have hpx:∀x∈d.places,x∈placesOf (bP ns):=λx hx=>hpm.mem_iff.mp (a5 x hx)
  refine⟨⟨a1,?_,f3,?_,by omega,f2,λx hx=>gQ (hpx x hx)⟩,λx hx=>by rw[Md,gl];exact hpx x hx,?_⟩
  ·rcases bS.mp a2 with h|h
   ·exact .inr (F3 _ h)
   ·exact .inl (aV.mp h)
  ·cases hp:d.places with
   |nil=>exact qQ7 hp f1
   |cons _ _=>simp
  ·rcases bS.mp a2 with h|h
   ·obtain⟨k,hk,he⟩:=tV.mp h
    have hgd:(linesOf (bP ns)).getD k ""=d.to:=by rw[aD,aq hk,he];rfl
    refine .inr ⟨(roomAt (bP ns) iw (linesOf (bP ns)) k).2,av.mpr ⟨k,cL.mpr hk,?_⟩,?_⟩
    ·show roomAt (bP ns) iw (linesOf (bP ns)) k=(d.to,_)
     rw[<-hgd];rfl
    ·show _<=maxOf (gX iw ((linesOf (bP ns)).getD k ""))+cq (bP ns) (20+k)%3
     have:=(og (gX iw ((linesOf (bP ns)).getD k ""))).2 (ck d.rule d.places.length) (aT _ (jJ.mpr ⟨d,hd,by rw[hgd,qQ1 rfl];rfl⟩))
     have h2:=a8 (cq (bP ns) (20+k)) (b:=3) (by decide)
     omega
   ·exact .inl (aV.mp h)
 ·obtain⟨⟨d,i⟩,hd,hq⟩:=xW.mp hq
  have Ux:d∈iw:=kx (eA hd);unfold kM at hq
  split at hq
  ·rcases aG.mp hq with rfl|hq
   ·exact⟨av.mpr ⟨d,Ux,rfl⟩,by show _%9<9+_%20;omega⟩
   ·rw[aV.mp hq]
    exact⟨av.mpr ⟨d,Ux,rfl⟩,by show 25+_%20<50+_%40;omega⟩
  ·cases hq
 ·obtain⟨k,hk,rfl⟩:=av.mp hq
  have hi:uw (cq (gW ns) (10+k))=some i:=hi;unfold uw at hi
  split at hi
  ·cases hi
   exact⟨by omega,fA _ 1 (by decide) (by decide) (by decide)⟩
  ·cases hi
 ·obtain⟨k,hk,rfl⟩:=av.mp hq
  show 1<=maxOf _+_%3;have:=(og (gX iw ((linesOf (bP ns)).getD k ""))).2 1 aL;have h2:=a8 (cq (bP ns) (20+k)) (b:=3) (by decide)
  omega
theorem Gr(ns:List Int):(eG ns).kinds≠[]/\(eG ns).gates≠[]:=by
 obtain⟨k1,k4⟩:=mP (gW ns);obtain⟨g1,g3⟩:=h_ (bP ns);obtain⟨p1,p6⟩:=iJ (bP ns);refine⟨λz=>?_,λz=>?_⟩
 ·have:=qQ6 fq z
  have:(cG (gW ns)).length=0:=this;simp only[cG,ai,bW]at this;omega
 ·have:=qQ6 fq z
  have:(lF (bP ns)).length=0:=this;unfold lF at this;rw[b9]at this;omega
end Mg
namespace Mg
open L2 PySem PyProof.Rows
seal L2.VE L2.VS L2.pC L2.VT L2.VO L2.Sr
variable{fd:gJ}{cell:Int}{kv pk:List (Str×aj)}{ns:List Int}{hs l:List Str}{k:Nat}{p:Pl}{d:aj}{φ:aj->Prop}{K:au}{x y:Str}
theorem iL(x y:Str):(x++y).length=x.length+y.length:=by simp only[cD]
theorem jf(h1:lN x)(h2:lN y):lN (x++y):=(ni _).mpr λc hc=>by
 rw[add_list]at hc;rcases bS.mp hc with hc|hc
 ·exact(ni _).mp h1 c hc
 ·exact(ni _).mp h2 c hc
theorem oq(hy:lN y):∀{l:List Str},(∀x∈l,lN x)->lN (c9 y l)
 | [],_=>(ni _).mpr λc hc=>by cases hc
 | [x],h=>h x aL
 |x::z::l,h=>jf (jf (h x aL) hy) (oq hy λu hu=>h u (aT _ hu))
theorem iM(h:cx (.str x)=true:=by symm):lN x:=h
theorem Br(ok:jD p):∀r∈dB p,lN r/\r.length<=1400:=by
 intro r hr;have nn:∀{x:Str},dM x->lN x/\x.length<=8:=λh=>⟨h.ok.2,h.short⟩
 have dn:∀{d:aj},E9 d->lN (eQ d)/\(eQ d).length<=8:=λh=>⟨(vy h).2,kT h⟩
 have nm:∀{i:Int},dI i->lN (dJ i)/\(dJ i).length<=6:=λh=>⟨(o9 h.1 h.2).2,iH h⟩
 unfold dB mQ at hr;simp only[bS,av]at hr;rcases hr with((((⟨q,hq,rfl⟩|⟨q,hq,rfl⟩)|⟨q,hq,rfl⟩)|⟨q,hq,rfl⟩)|⟨q,hq,rfl⟩)|⟨q,hq,rfl⟩
 ·obtain⟨h1,h2⟩:=ok.kinds q hq
  refine⟨jf (jf (jf iM (nn h1).1) iM) (dn h2).1,?_⟩
  have a:=(nn h1).2;have b:=(dn h2).2;unfold qG;rw[iL,iL,iL,show("kind ":Str).length=5 from by decide,show(" ":Str).length=1 from by decide]
  omega
 ·have h1:=ok.gates q hq
  refine⟨jf iM (nn h1).1,?_⟩
  have a:=(nn h1).2;unfold nr;rw[iL,show("gate ":Str).length=5 from by decide]
  omega
 ·obtain⟨h1,h2⟩:=ok.lines q hq
  refine⟨jf (jf (jf iM (nn h1).1) iM) (nm h2).1,?_⟩
  have a:=(nn h1).2;have b:=(nm h2).2;unfold nu;rw[iL,iL,iL,show("line ":Str).length=5 from by decide,show(" ":Str).length=1 from by decide]
  omega
 ·obtain⟨h1,h2,h3,h4,h5⟩:=ok.desks q hq
  refine⟨jf (jf (jf (jf (jf (jf (jf iM (nn h1).1) iM) (dn (d:=.str q.to) h2).1) iM) (oq iM λx hx=>(Eo h3 x hx).2)) iM) (oq iM λx hx=>(nn (h5 x hx)).1),?_⟩
  have a:=(nn h1).2;have b:=(dn (d:=.str q.to) h2).2;have c:=om h3;have d:=ie (y:=(" ":Str)) (by decide) (l:=q.places) (b:=8) λx hx=>(nn (h5 x hx)).2
  unfold mE oj;rw[iL,iL,iL,iL,iL,iL,iL,show("desk ":Str).length=5 from by decide,show(" to ":Str).length=4 from by decide,show(" by ":Str).length=4 from by decide,show(" from ":Str).length=6 from by decide]
  omega
 ·obtain⟨h1,h2,h3⟩:=ok.times q hq
  have Xw:∀x∈[("time":Str),q.1,q.2.1,dJ q.2.2],lN x/\x.length<=8:=λx hx=>by
   simp only[aG,bu,or_false]at hx;rcases hx with rfl|rfl|rfl|rfl
   ·exact⟨iM,by decide⟩
   ·exact nn h1
   ·exact nn h2
   ·exact⟨(nm h3).1,by have:=(nm h3).2;omega⟩
  refine⟨oq iM λx hx=>(Xw x hx).1,?_⟩
  have:=ie (y:=(" ":Str)) (by decide) λx hx=>(Xw x hx).2
  unfold ny;simp only[bJ,cN]at this;omega
 ·obtain⟨h1,h2,h3⟩:=ok.hours q hq
  have Xw:∀x∈[("open":Str),q.1,dJ q.2.1,dJ q.2.2],lN x/\x.length<=8:=λx hx=>by
   simp only[aG,bu,or_false]at hx;rcases hx with rfl|rfl|rfl|rfl
   ·exact⟨iM,by decide⟩
   ·exact nn h1
   ·exact⟨(nm h2).1,by have:=(nm h2).2;omega⟩
   ·exact⟨(nm h3).1,by have:=(nm h3).2;omega⟩
  refine⟨oq iM λx hx=>(Xw x hx).1,?_⟩
  have:=ie (y:=(" ":Str)) (by decide) λx hx=>(Xw x hx).2
  unfold oP;simp only[bJ,cN]at this;omega
theorem Bs(ns:List Int):(dB (eG ns)).length<=44:=by
 obtain⟨k1,k4⟩:=mP (gW ns);obtain⟨p1,p6⟩:=iJ (bP ns);have IU:(orderOf (bP ns)).length=(placesOf (bP ns)).length:=by
  unfold orderOf;rw[aY,b_,b9];have:=mj (bP ns) (n:=(placesOf (bP ns)).length) (by have:=(h_ (bP ns)).1;omega)
  omega
 have g1:=(h_ (bP ns)).1;have hkl:(cG (gW ns)).length=jH (gW ns):=by simp[cG]
 have JX:(bQ (fz ns) (orderOf (bP ns)) (linesOf (bP ns))).length<=4:=by rw[nq];exact(kY (fz ns) (by omega)).2.1
 have htl:=qE (fz ns) (bQ (fz ns) (orderOf (bP ns)) (linesOf (bP ns))) (cG (gW ns)) (by omega) _ (ay _)
 have hhl:=qF (fz ns) (bQ (fz ns) (orderOf (bP ns)) (linesOf (bP ns))) _ (ay _)
 generalize hD:bQ (fz ns) (orderOf (bP ns)) (linesOf (bP ns))=iw at *
 have e0:eG ns=⟨cG (gW ns),lF (bP ns),(aZ (linesOf (bP ns)).length).map (roomAt (bP ns) iw (linesOf (bP ns))),iw,gM (fz ns) iw (cG (gW ns)) iw.length,je (fz ns) iw iw.length⟩:=by rw[<-hD];rfl
 have hg:(lF (bP ns)).length+(linesOf (bP ns)).length<=6:=by unfold lF linesOf;rw[b9,b_];omega
 rw[e0];unfold dB mQ;simp only[aY,ai,bW];omega
theorem Gs(ns:List Int):1<=(eG ns).desks.length:=by
 obtain⟨p1,p6⟩:=iJ (bP ns);have g1:=(h_ (bP ns)).1;have IU:(orderOf (bP ns)).length=(placesOf (bP ns)).length:=by
  unfold orderOf;rw[aY,b_,b9];have:=mj (bP ns) (n:=(placesOf (bP ns)).length) (by omega)
  omega
 show 1<=(bQ (fz ns) (orderOf (bP ns)) (linesOf (bP ns))).length;rw[nq];exact(kY (fz ns) (by omega)).1
theorem Jw(ns:List Int):vm (mF (eG ns)):=by
 have hr:=Br (CD ns);refine⟨?_,oq iM λx hx=>(hr x hx).1⟩
 have:=ie (y:=("\n":Str)) (by decide) λx hx=>(hr x hx).2
 have h2:=Bs ns;unfold mF;have:(dB (eG ns)).length*(1400+1)<=44*1401:=iC h2 (ay _);omega
theorem wG(h:(decide (1<=x.cps.toList.length)&&decide (x.cps.toList.length<=8)&&x.cps.toList.all λc=>decide (97<=c)&&decide (c<123))=true):dM x:=by
 obtain⟨h1,h2⟩:=eW.mp h;obtain⟨h3,h4⟩:=eW.mp h1;refine⟨qQ4 h3,qQ4 h4,λc hc=>?_⟩
 obtain⟨h5,h6⟩:=eW.mp (eO.mp h2 c hc);exact⟨qQ4 h5,qQ4 h6⟩
theorem HS:dM "x":=wG (by symm)
theorem PH:dM "y":=wG (by symm)
def vQ(cell:Int):Int:=cq cell 5
def fP(cell:Int):Nat:=(1+vQ cell%4).toNat
def mB(cell:Int):List Str:=namesOf (cq cell 6) (2*fP cell)
def ei(cell:Int):List Str:=(mB cell).take (fP cell)
def dE(cell:Int):List Str:=(mB cell).drop (fP cell)
def dz(cell:Int):List Str:=namesOf (cq cell 7) (fP cell)
def il(cell:Int)(k:Nat):List Str:=if vQ cell/4/((k:Int)+1)%2=1 then [(dE cell).getD k "",(ei cell).getD k ""]else [(ei cell).getD k "",(dE cell).getD k ""]
def qL:List Int:=[0,0,1,2,2,3,4]
def qM(cell:Int)(k:Nat):Int:=cq cell (8+(k:Int))/6*6+pickOf qL 0 (cq cell (8+(k:Int)))
def kC(cell:Int)(k:Nat):Rl:=jj (qM cell k) 2
def iq(cell:Int)(k:Nat):Dk:=⟨(dz cell).getD k "",(dE cell).getD ((k+1)%fP cell) "",kC cell k,il cell k⟩
def gv(cell:Int):List Dk:=(aZ (fP cell)).map (iq cell)
def sG(cell:Int)(k:Nat):Str×Int:=((dE cell).getD k "",ck (kC cell ((k+(fP cell-1))%fP cell)) 2+vQ cell/64/((k:Int)+1)%2)
def uH(m:Int):Option Int:=if m/8%3=2 then some (3+m/128%40)else none
def tG(cell:Int):List (Str×Option Int):=[("x",none),("y",uH (vQ cell))]
def CP(cell:Int):List (Str×Str×Int):=(aZ (fP cell)).map λk=>((dz cell).getD k "","x",1+cq cell (20+(k:Int))%4)
def jT(cell:Int):Nat:=(vQ cell/16%(fP cell:Int)).toNat
def gE(cell:Int):Pl:=⟨tG cell,ei cell,(aZ (fP cell)).map (sG cell),(gv cell).drop (jT cell)++(gv cell).take (jT cell),CP cell,[]⟩
theorem nF(cell:Int):1<=fP cell/\fP cell<=4/\(1+vQ cell%4:Int)=(fP cell:Nat):=by unfold fP;omega
theorem pj(cell:Int):(mB cell).length=2*fP cell/\(ei cell).length=fP cell/\(dE cell).length=fP cell/\(dz cell).length=fP cell:=by
 have h:(mB cell).length=2*fP cell:=fL _ _;refine⟨h,?_,?_,fL _ _⟩
 ·unfold ei;rw[b9];omega
 ·unfold dE;rw[b_];omega
theorem CQ(h:x∈ei cell):dM x:=gQ (eA h)
theorem vG(h:x∈dE cell):dM x:=gQ (dU h)
theorem wH(h:k<fP cell):(ei cell).getD k ""∈ei cell:=getD_mem (by rw[(pj cell).2.1];exact h)
theorem nG(h:k<fP cell):(dE cell).getD k ""∈dE cell:=getD_mem (by rw[(pj cell).2.2.1];exact h)
theorem tH(h:k<fP cell):(dz cell).getD k ""∈dz cell:=getD_mem (by rw[(pj cell).2.2.2];exact h)
theorem EC(cell:Int)(k:Nat):0<=qM cell k/\qM cell k<1999999973/\qM cell k%6≠5:=by
 have h1:=qC cell (8+(k:Int));have h2:=Cr cell (8+(k:Int));have h3:0<=pickOf qL 0 (cq cell (8+(k:Int)))/\pickOf qL 0 (cq cell (8+(k:Int)))<=4:=by
  have:=(HL (l:=qL) (d:=0) (F:=fN) (by decide) (cq cell (8+(k:Int)))).2
  generalize pickOf qL 0 (cq cell (8+(k:Int)))=z at *
  simp only[qL,aG,bu,or_false]at this;omega
 unfold qM;omega
theorem sH(cell:Int)(k:Nat):1<=ck (kC cell k) 2/\ck (kC cell k) 2<=4:=by
 unfold kC jj;obtain⟨_,_,h5⟩:=EC cell k
 generalize qM cell k=m at *
 rw[qQ2 λz=>h5 z.1]
 split
 ·show 1<=1+m/6%4/\1+m/6%4<=4;omega
 split
 ·show 1<=1+m/6%4/\1+m/6%4<=4;omega
 split
 ·show(1:Int)<=1/\(1:Int)<=4;omega
 split
 ·show(1:Int)<=1/\(1:Int)<=4;omega
 ·show(1:Int)<=1/\(1:Int)<=4;omega
theorem zG(cell:Int)(k:Nat):(il cell k).length=2/\(il cell k).Perm [(ei cell).getD k "",(dE cell).getD k ""]:=by
 unfold il
 split
 ·exact⟨rfl,List.Perm.swap _ _ _⟩
 ·exact⟨rfl,List.Perm.refl _⟩
theorem zH(h:x∈il cell k):x=(ei cell).getD k ""\/x=(dE cell).getD k "":=by
 have:=(zG cell k).2.mem_iff.mp h;simpa using this
theorem Mu(cell:Int):ei cell++dE cell=mB cell:=fw _ _
theorem Mv(cell:Int):(ei cell++dE cell).Nodup:=by
 rw[Mu];exact kN _ (by have:=(nF cell).2.1;omega)
theorem sI{α:Type}(l:List α)(n:Nat):(l.drop n++l.take n).Perm l:=by
 have:=sS (l₁:=l.drop n) (l₂:=l.take n);rw[fw]at this;exact this
theorem yg{d:Dk}(h:d∈(gE cell).desks):∃k,k<fP cell/\d=iq cell k:=by
 have:=(sI (gv cell) (jT cell)).mem_iff.mp h;obtain⟨k,hk,rfl⟩:=av.mp this;exact⟨k,cL.mp hk,rfl⟩
theorem zI(cell:Int):(gE cell).lines.map (·.1)=dE cell:=by
 show((aZ (fP cell)).map (sG cell)).map (·.1)=_
 rw[aS];have e:=my (dE cell);rw[(pj cell).2.2.1]at e;exact e
theorem Mw(cell:Int):jD (gE cell):=by
 obtain⟨n1,n4,_⟩:=nF cell;obtain⟨l0,l1,l2,l3⟩:=pj cell;have JX:(gE cell).desks.length=fP cell:=by
  show((gv cell).drop (jT cell)++(gv cell).take (jT cell)).length=_
  rw[(sI (gv cell) (jT cell)).length_eq]
  show((aZ (fP cell)).map (iq cell)).length=_
  rw[ai,bW]
 refine⟨by show 2<=60;decide,by show(ei cell).length<=60;omega,by show((aZ (fP cell)).map (sG cell)).length<=60;rw[ai,bW];omega,by omega,by show((aZ (fP cell)).map _).length<=600;rw[ai,bW];omega,by show 0<=600;decide,λq hq=>?_,λg hg=>CQ hg,λq hq=>?_,λd hd=>?_,λq hq=>?_,λq hq=>by cases hq⟩
 ·simp only[gE,tG,aG,bu,or_false]at hq
  rcases hq with rfl|rfl
  ·exact⟨HS,trivial⟩
  ·refine⟨PH,?_⟩
   show E9 (m9 (uH _));unfold uH
   split
   ·exact fA _ 3 (by decide) (by decide) (by decide)
   ·trivial
 ·obtain⟨k,hk,rfl⟩:=av.mp hq
  have hk:=cL.mp hk;obtain⟨g1,g2⟩:=sH cell ((k+(fP cell-1))%fP cell);exact⟨vG (nG hk),fA _ _ (by decide) (by omega) (by omega)⟩
 ·obtain⟨k,hk,rfl⟩:=yg hd
  refine⟨gQ (tH hk),.inr (vG (nG (rP _ (by omega)))),HN _ (by decide),by show(il cell k).length<=60;rw[(zG cell k).1];decide,λx hx=>?_⟩
  rcases zH hx with rfl|rfl
  ·exact CQ (wH hk)
  ·exact vG (nG hk)
 ·obtain⟨k,hk,rfl⟩:=av.mp hq
  have hk:=cL.mp hk;exact⟨gQ (tH hk),HS,fA _ 1 (by decide) (by decide) (by decide)⟩
theorem HV(cell:Int):∀n,n<=fP cell->(((aZ n).map (il cell)).flatten).Perm ((ei cell).take n++(dE cell).take n)
 |0,_=>List.Perm.refl _
 |n+1,h=>by
  obtain⟨l0,l1,l2,l3⟩:=pj cell;have ih:=HV cell n (by omega)
  rw[g7,aU,List.flatten_append,jL,List.flatten_singleton];have eg:(ei cell)[n]?=some ((ei cell).getD n ""):=by rw[aD,aq (by omega)];rfl
  have el:(dE cell)[n]?=some ((dE cell).getD n ""):=by rw[aD,aq (by omega)];rfl
  rw[dH,dH,eg,el];refine(ih.append (zG cell n).2).trans ?_
  generalize(ei cell).take n=A
  generalize(dE cell).take n=B
  generalize(ei cell).getD n ""=x
  generalize(dE cell).getD n ""=y
  show(A++B ++ [x,y]).Perm (A ++ [x]++(B ++ [y]))
  rw[cP,cP];refine List.Perm.append_left A ?_
  show(B++([x] ++ [y])).Perm ([x]++(B ++ [y]))
  rw[<-cP,<-cP];exact List.Perm.append_right [y] sS
theorem PJ(cell:Int):uF (gE cell):=by
 obtain⟨n1,n4,_⟩:=nF cell;obtain⟨l0,l1,l2,l3⟩:=pj cell;have KZ:=Mv cell;have WC:(dz cell).Nodup:=kN _ (by omega)
 have TJ:(gv cell).map (·.name)=dz cell:=by
  show((aZ (fP cell)).map (iq cell)).map (·.name)=_
  rw[aS];have e:=my (dz cell);rw[l3]at e;exact e
 have QY:=sI (gv cell) (jT cell);have FU:((gE cell).desks.map (·.name)).Perm (dz cell):=by rw[<-TJ];exact QY.map _
 have hfl:=HV cell (fP cell) (ay _);have tg:(ei cell).take (fP cell)=ei cell:=cO (by omega)
 have tl:(dE cell).take (fP cell)=dE cell:=cO (by omega)
 rw[tg,tl]at hfl;have hdj:((gE cell).desks.map (·.places)).flatten.Nodup:=by
  have e:((gv cell).map (·.places))=(aZ (fP cell)).map (il cell):=by
   show((aZ (fP cell)).map (iq cell)).map (·.places)=_
   rw[aS];rfl
  have p1:((gE cell).desks.map (·.places)).flatten.Perm ((gv cell).map (·.places)).flatten:=(QY.map _).flatten
  rw[e]at p1;exact(p1.trans hfl).nodup_iff.mpr KZ
 refine⟨?_,?_,?_,λd hd=>?_,hdj,?_,λq hq=>?_,λq hq=>(by cases hq),λq hq i hi=>?_,λq hq=>?_⟩
 ·show([("x":Str),"y"]).Nodup
  symm
 ·rw[zI];exact KZ
 ·exact FU.nodup_iff.mpr WC
 ·obtain⟨k,hk,rfl⟩:=yg hd
  have hr:o_ (kC cell k) 2:=Bq _;have X6:=(zG cell k).1;refine⟨⟨gQ (tH hk),.inr (vG (nG (rP _ (by omega)))),by show o_ (kC cell k) (il cell k).length;rw[X6];exact hr,?_⟩,λx hx=>?_,.inr ?_⟩
  ·refine⟨by show 1<=(il cell k).length;omega,by show(il cell k).length<=6;omega,uG hdj _ (av.mpr ⟨_,hd,rfl⟩),λx hx=>?_⟩
   rcases zH hx with rfl|rfl
   ·exact CQ (wH hk)
   ·exact vG (nG hk)
  ·rw[zI]
   rcases zH hx with rfl|rfl
   ·exact dC _ (wH hk)
   ·exact b0 _ (nG hk)
  ·refine⟨(sG cell ((k+1)%fP cell)).2,av.mpr ⟨(k+1)%fP cell,cL.mpr (rP _ (by omega)),rfl⟩,?_⟩
   show ck (kC cell k) (il cell k).length<=ck (kC cell (((k+1)%fP cell+(fP cell-1))%fP cell)) 2+_;have e:((k+1)%fP cell+(fP cell-1))%fP cell=k:=by
    by_cases h:k+1=fP cell
    ·rw[h,Nat.mod_self,i_,mX (by omega)];omega
    ·rw[mX (show k+1<fP cell by omega),show k+1+(fP cell-1)=k+fP cell by omega,Nat.add_mod_right,mX hk]
   rw[e,X6];have:0<=vQ cell/64/((((k+1)%fP cell:Nat):Int)+1)%2:=a8 _ (by decide)
   omega
 ·show(((aZ (fP cell)).map λk=>((dz cell).getD k "",("x":Str),1+cq cell (20+(k:Int))%4)).map λq=>(q.1,q.2.1)).Nodup
  rw[aS];refine sF λi j hi hj e=>?_
  have e1:(dz cell).getD i ""=(dz cell).getD j "":=qQ6 Prod.fst e;rw[aD,aq (show i<(dz cell).length by omega),aD,aq (show j<(dz cell).length by omega)]at e1
  rcases Nat.lt_trichotomy i j with h|h|h
  ·exact qQ7 e1 (iO.mp WC i j _ _ h)
  ·exact h
  ·exact qQ7 e1.symm (iO.mp WC j i _ _ h)
 ·obtain⟨k,hk,rfl⟩:=av.mp hq
  have hk:=cL.mp hk;refine⟨FU.mem_iff.mpr (tH hk),by show("x":Str)∈[("x":Str),"y"];simp,?_⟩
  show 1<=1+cq cell (20+(k:Int))%4;omega
 ·simp only[gE,tG,aG,bu,or_false]at hq
  rcases hq with rfl|rfl
  ·cases hi
  ·have hi:uH (vQ cell)=some i:=hi
   unfold uH at hi
   split at hi
   ·cases hi
    exact⟨by omega,fA _ 3 (by decide) (by decide) (by decide)⟩
   ·cases hi
 ·obtain⟨k,hk,rfl⟩:=av.mp hq
  have:=sH cell ((k+(fP cell-1))%fP cell);have h2:0<=vQ cell/64/((k:Int)+1)%2:=a8 _ (by decide)
  show 1<=ck _ 2+_;omega
theorem Bt(cell:Int):(dB (gE cell)).length<=44:=by
 obtain⟨n1,n4,_⟩:=nF cell;obtain⟨l0,l1,l2,l3⟩:=pj cell;have JX:(gE cell).desks.length=fP cell:=by
  show((gv cell).drop (jT cell)++(gv cell).take (jT cell)).length=_
  rw[(sI (gv cell) (jT cell)).length_eq]
  show((aZ (fP cell)).map (iq cell)).length=_
  rw[ai,bW]
 unfold dB mQ;simp only[aY,ai];have e1:(gE cell).kinds.length=2:=rfl;have e2:(gE cell).gates.length=fP cell:=l1;have e3:(gE cell).lines.length=fP cell:=by show((aZ (fP cell)).map _).length=_;rw[ai,bW]
 have e4:(gE cell).times.length=fP cell:=by show((aZ (fP cell)).map _).length=_;rw[ai,bW]
 have e5:(gE cell).hours.length=0:=rfl;omega
theorem Bu(ok:jD p)(h:(dB p).length<=60):vm (mF p):=by
 have hr:=Br ok;refine⟨?_,oq iM λx hx=>(hr x hx).1⟩
 have:=ie (y:=("\n":Str)) (by decide) λx hx=>(hr x hx).2
 unfold mF;have:(dB p).length*(1400+1)<=60*1401:=iC h (ay _);omega
theorem PK(cell:Int):vm (mF (gE cell)):=Bu (Mw cell) (cp (Bt cell) (by decide))
def Yt(cell:Int):aj->Option aj
 | .tuple [.int k,.str x]=>some (.tuple [.str x,.str "x",.int (1+cq cell (20+k)%4)])
 |_=>none
theorem PL(cell:Int):(nW ((dz cell).map aK)).filterMap (Yt cell)=(CP cell).map pP:=by
 obtain⟨l0,l1,l2,l3⟩:=pj cell;refine iW λi=>?_
 have Ak:∀d∈nW ((dz cell).map aK),∃(k:Nat)(x:Str),d=.tuple [.int k,.str x]:=λd hd=>by
  obtain⟨j,hj,e⟩:=List.getElem_of_mem hd;have e':(nW ((dz cell).map aK))[j]?=some d:=by rw[aq hj,e]
  obtain⟨y,hy,rfl⟩:=gi e';rw[aI]at hy;cases hx:(dz cell)[j]? with
  |none=>rw[hx]at hy;cases hy
  |some x=>rw[hx]at hy;cases hy;exact⟨j,x,rfl⟩
 rw[filterMap_some (F:=Yt cell) (g:=λd=>(Yt cell d).getD .none) (l:=nW ((dz cell).map aK)) λd hd=>by obtain⟨k,x,rfl⟩:=Ak d hd;rfl]
 rw[aI,aI];by_cases hi:i<fP cell
 ·have e1:((dz cell).map aK)[i]?=some (.str ((dz cell).getD i "")):=by
   rw[aI,aD,aq (by omega)];rfl
  rw[K0 e1];show _=((aZ (fP cell)).map _)[i]?.map pP;rw[aI,fk hi];rfl
 ·have e1:(nW ((dz cell).map aK))[i]?=none:=eR (by rw[cv,ai];omega)
  have e2:(CP cell)[i]?=none:=eR (by show((aZ (fP cell)).map _).length<=i;rw[ai,bW];omega)
  rw[e1,e2];rfl
section
variable{P:bK}{w:cB}{K:au}{mg:Str->Option aE}{base:dg}{f:aR}{k:Nat}
abbrev Nrg:List Str:=["_law_cell","_law_m","_law_many","_law_some","_law_gates","_law_lines","_law_names_here","_law_desks_here","_law_k","_law_name","_law_places","_law_rule_here","_law_rooms","_law_line","_law_kinds","_law_times","_law_turned"]
theorem QZ:cC Nrg ["_law_cell"] (bC (top 53)):=⟨rfl,rfl,rfl,by symm,rfl,by symm,by symm⟩
def Rrg(ds:List aj)(d:aj):Prop:=∃cell:Int,ds=[.int cell]/\d=dZ (gE cell)
theorem za4(F:k9 K "_law_ring_plant" "_law_ring_plant" (top 53) f fd)(n:Ng mg)(C1:bD P w K mg base 1 "_law_mix" ["_law_cell","_law_k"] (g_ K Az))(C2:bD P w K mg base 2 "_law_names" ["_law_cell","_law_many"] (Ba K Yi))(C3:bD P w K mg base 1 "_law_rule" ["_law_m","_law_many"] (g_ K Rrl))(C4:bD P w K mg base 1 "_law_greatest" ["_law_rule_here","_law_many"] (g_ K Ts)):ft P w K mg base jP 3 f fd ["_law_cell"] (g_ K Rrg):=
 jR F QZ (λ_ _ h=>by obtain⟨_,rfl,_⟩:=h;rfl) λ_ _ h=>by
  obtain⟨cell,rfl,rfl⟩:=h;intro fV A outer s H E hr;have nd:Nrg.Nodup:=QZ.nd;have nc:(["_law_k","_law_name","_law_cell"]:List Str).Nodup:=by symm
  have lR:e8 1 _:=hr.mono (by omega)
  obtain⟨n1,n4,eN⟩:=nF cell;obtain⟨l0,l1,l2,l3⟩:=pj cell;have mx:∀j:Int,0<=j->j<=60->Az [.int cell,.int j] (.int (cq cell j)):=λj h1 h2=>⟨cell,j,rfl,by omega,by omega,rfl⟩
  have gat:∀{k:Nat},k<fP cell->nQ ((ei cell).map aK) (k:Int)=some (.str ((ei cell).getD k "")):=λ{k}hk=>bE (by rw[aI,aD,aq (show k<(ei cell).length by omega)];rfl)
  have lat:∀{k:Nat},k<fP cell->nQ ((dE cell).map aK) (k:Int)=some (.str ((dE cell).getD k "")):=λ{k}hk=>bE (by rw[aI,aD,aq (show k<(dE cell).length by omega)];rfl)
  refine aJ (cA 1 (d:=.int (vQ cell)) (bH C1 lR (ao (ae 0 rfl) (ao ax aQ)) (mx 5 (by decide) (by decide))) nd) ?_
  refine aJ (cA 2 (d:=.int (fP cell:Nat)) (VE.to (cQ ax (cw (ae 1 rfl) ax (by decide))) (by rw[eN])) nd) ?_
  refine aJ (cA 3 (d:=cV (mB cell)) (VO.ve (ko C2 (hr.mono (by omega)) (ao (bH C1 lR (ao (ae 0 rfl) (ao ax aQ)) (mx 6 (by decide) (by decide))) (ao (VE.to (o4 ax (ae 2 rfl) (.inl ⟨by decide,by decide⟩)) (k:=.int ((2*fP cell:Nat):Int)) (by congr 1)) aQ)) ⟨_,2*fP cell,rfl,by omega,rfl⟩)) nd) ?_
  refine aJ (KW 4 5 (d1:=cV (ei cell)) (d2:=cV (dE cell)) (VE.to (VO.ve (gD (ds:=(mB cell).map .str) (ae 3 rfl) .no (.yes (ae 2 rfl)))) (by rw[lG,vg];rfl)) (VE.to (VO.ve (gD (ds:=(mB cell).map .str) (ae 3 rfl) (.yes (ae 2 rfl)) .no)) (by rw[lG,jI];rfl)) rfl nd (by decide)) ?_
  refine aJ (cA 6 (d:=cV (dz cell)) (VO.ve (ko C2 (hr.mono (by omega)) (ao (bH C1 lR (ao (ae 0 rfl) (ao ax aQ)) (mx 7 (by decide) (by decide))) (ao (ae 2 rfl) aQ)) ⟨_,fP cell,rfl,by omega,rfl⟩)) nd) ?_
  refine aJ (kP 7 (fe aQ) nd) ?_
  have eD:gv cell=(aZ (fP cell)).map (iq cell):=rfl;refine aJ (mh (tgt:=.tup [8,9]) (o:=.nx [.val (.int cell),.val (.int (vQ cell)),.val (.int (fP cell:Nat)),.val (cV (mB cell)),.val (cV (ei cell)),.val (cV (dE cell)),.val (cV (dz cell)),.own (((aZ (fP cell)).map (iq cell)).map cn),.un,.un,.un,.un,.un,.un,.un,.un,.un]) cK rfl (km (ds:=(dz cell).map .str) (ae 6 rfl) n.Hi)
   (gB rfl (bU (bL (i:=8) nd rfl (a7 rfl)) (bU (bL (i:=9) nd rfl (a7 rfl)) fh))) (λi=>[.val (.int cell),.val (.int (vQ cell)),.val (.int (fP cell:Nat)),.val (cV (mB cell)),.val (cV (ei cell)),.val (cV (dE cell)),.val (cV (dz cell)),.own (((aZ i).map (iq cell)).map cn),.un,.un,.un,.un,.un,.un,.un,.un,.un]) (fP cell) rfl (by rw[cv,ai,l3];exact ay _) (λi d hi hd=>?_) (.inl ⟨by rw[cv,ai,l3],rfl⟩)) ?_
  ·obtain⟨x,hx,rfl⟩:=gi hd
   obtain rfl:x=.str ((dz cell).getD i ""):=by
    rw[aI,aq (show i<(dz cell).length by omega)]at hx
    cases hx;rw[aD,aq (show i<(dz cell).length by omega)];rfl
   obtain⟨m0,m1,_⟩:=EC cell i;have Qg:=qC cell (8+(i:Int));have pk:=(HL (l:=qL) (d:=0) (F:=fN) (by decide) (cq cell (8+(i:Int)))).1
   refine⟨_,rfl,?_⟩
   refine aJ (cA 10 (d:=cV [(ei cell).getD i "",(dE cell).getD i ""]) (VE.to (VO.ve (fe (ao (fj (ae 4 rfl) (ae 8 rfl) (gat hi)) (ao (fj (ae 5 rfl) (ae 8 rfl) (lat hi)) aQ)))) rfl) nd) ?_
   refine aJ (δ':=[.val (.int cell),.val (.int (vQ cell)),.val (.int (fP cell:Nat)),.val (cV (mB cell)),.val (cV (ei cell)),.val (cV (dE cell)),.val (cV (dz cell)),.own (((aZ i).map (iq cell)).map cn),.val (.int i),.val (.str ((dz cell).getD i "")),.val (cV (il cell i)),.un,.un,.un,.un,.un,.un]) ?_ ?_
   ·unfold il
    by_cases hp:vQ cell/4/((i:Int)+1)%2=1
    ·rw[qQ3 hp]
     exact dN (VT.to (bR hr (cu 20 _) (cu 20 _) (cw (eK (eK (ae 1 rfl) ax ⟨by decide,by decide⟩) (cQ (ae 8 rfl) ax) ⟨by omega,by omega⟩) ax (by decide)) ax) (by rw[jX];exact qQ1 hp)) (a_ (cA 10 (d:=cV [(dE cell).getD i "",(ei cell).getD i ""]) (VE.to (VO.ve (fe (ao (fj (ae 5 rfl) (ae 8 rfl) (lat hi)) (ao (fj (ae 4 rfl) (ae 8 rfl) (gat hi)) aQ)))) rfl) nd))
    ·rw[qQ2 hp]
     exact bX (VT.to (bR hr (cu 20 _) (cu 20 _) (cw (eK (eK (ae 1 rfl) ax ⟨by decide,by decide⟩) (cQ (ae 8 rfl) ax) ⟨by omega,by omega⟩) ax (by decide)) ax) (by rw[jX];exact qQ0 hp)) bM
   refine aJ (cA 11 (d:=za (kC cell i)) (bH C3 lR (ao (cQ (o4 (eK (bH C1 lR (ao (ae 0 rfl) (ao (cQ ax (ae 8 rfl)) aQ)) (mx (8+i) (by omega) (by omega))) ax ⟨by decide,by decide⟩) ax (.inr ⟨by decide,by decide⟩)) (fj (VO.ve (fe (ao ax (ao ax (ao ax (ao ax (ao ax (ao ax (ao ax aQ))))))))) (cw (bH C1 lR (ao (ae 0 rfl) (ao (cQ ax (ae 8 rfl)) aQ)) (mx (8+i) (by omega) (by omega))) ax (by decide)) pk)) (ao ax aQ)) ⟨qM cell i,2,rfl,m0,m1,by decide,rfl⟩) nd) ?_
   have e1:((i:Int)+1)%(fP cell:Int)=((i+1)%fP cell:Nat):=by
    have e0:((i+1:Nat):Int)=(i:Int)+1:=by omega
    rw[<-e0,Int.natCast_emod]
   have nR:(i+1)%fP cell<fP cell:=rP _ (by omega)
   rw[g7,aU,aU,jL,jL];exact jC (a_ (iF 7 rfl (d:=cn (iq cell i)) (VE.to (eU (ao (ae 9 rfl) (ao (fj (ae 5 rfl) (VE.to (cw (cQ (ae 8 rfl) ax) (ae 2 rfl) (by omega)) (by rw[e1])) (lat nR)) (ao (ae 11 rfl) (ao (jM kK vd (ao (ae 10 rfl) aQ) n.tup rfl) aQ))))) rfl) (gj (by simp only[ai,bW];omega)))) ⟨.inr rfl,.inr rfl,.inr rfl,.inr rfl,.inr rfl,.inr rfl,.inr rfl,.inr rfl,.inl rfl,.inl rfl,.inl rfl,.inl rfl,.inr rfl,.inr rfl,.inr rfl,.inr rfl,.inr rfl,trivial⟩
  refine eu 7 rfl ?_
  refine aJ (kP 12 (fe aQ) nd) ?_
  have dat:∀{j:Nat},j<fP cell->(((aZ (fP cell)).map (iq cell)).map cn)[j]?=some (cn (iq cell j)):=λ{j}hj=>by rw[aI,aI,fk hj];rfl
  have ej0:∀n,1<=n->nQ (((aZ n).map (iq cell)).map cn) (-1)=some (cn (iq cell (n-1))):=by
   intro n hn;obtain⟨m,rfl⟩:∃m,n=m+1:=⟨n-1,by omega⟩
   rw[g7,aU,aU];exact yA _ _
  have Sg:(((aZ (fP cell)).map (iq cell)).map cn).length=fP cell:=by simp
  refine aJ (mh (tgt:=.tup [8,13]) (o:=.nx [.val (.int cell),.val (.int (vQ cell)),.val (.int (fP cell:Nat)),.val (cV (mB cell)),.val (cV (ei cell)),.val (cV (dE cell)),.val (cV (dz cell)),.val (.list (((aZ (fP cell)).map (iq cell)).map cn)),.un,.un,.un,.un,.own (((aZ (fP cell)).map (sG cell)).map iY),.un,.un,.un,.un]) cK rfl (km (ds:=(dE cell).map .str) (ae 5 rfl) n.Hi)
   (gB rfl (bU (bL (i:=8) nd rfl (a7 rfl)) (bU (bL (i:=13) nd rfl (a7 rfl)) fh))) (λi=>[.val (.int cell),.val (.int (vQ cell)),.val (.int (fP cell:Nat)),.val (cV (mB cell)),.val (cV (ei cell)),.val (cV (dE cell)),.val (cV (dz cell)),.val (.list (((aZ (fP cell)).map (iq cell)).map cn)),.un,.un,.un,.un,.own (((aZ i).map (sG cell)).map iY),.un,.un,.un,.un]) (fP cell) rfl (by rw[cv,ai,l2];exact ay _) (λi d hi hd=>?_) (.inl ⟨by rw[cv,ai,l2],rfl⟩)) ?_
  ·obtain⟨x,hx,rfl⟩:=gi hd
   obtain rfl:x=.str ((dE cell).getD i ""):=by
    rw[aI,aq (show i<(dE cell).length by omega)]at hx
    cases hx;rw[aD,aq (show i<(dE cell).length by omega)];rfl
   have hj:(i+(fP cell-1))%fP cell<fP cell:=rP _ (by omega)
   have ej:nQ (((aZ (fP cell)).map (iq cell)).map cn) ((i:Int)-1)=some (cn (iq cell ((i+(fP cell-1))%fP cell))):=by
    cases i with
    |zero=>
     have e:(0+(fP cell-1))%fP cell=fP cell-1:=by rw[i_,mX (by omega)]
     rw[e];exact ej0 _ n1
    |succ i=>
     have e:(i+1+(fP cell-1))%fP cell=i:=by rw[show i+1+(fP cell-1)=i+fP cell by omega,Nat.add_mod_right,mX (by omega)]
     rw[e,show(((i+1:Nat):Int)-1)=(i:Nat) by omega]
     exact bE (dat (by omega))
   have e2:(il cell ((i+(fP cell-1))%fP cell)).length=2:=(zG _ _).1;refine⟨_,rfl,?_⟩
   rw[g7,aU,aU,jL,jL];exact jC (a_ (iF 12 rfl (d:=iY (sG cell i)) (VE.to (eU (ao (ae 13 rfl) (ao (cQ (bH C4 lR (ao (bT (fj (ae 7 rfl) (KL (ae 8 rfl) ax) ej) ax (bE (j:=2) rfl)) (ao ax aQ)) ⟨kC cell ((i+(fP cell-1))%fP cell),2,rfl,rfl⟩) (cw (eK (eK (ae 1 rfl) ax ⟨by decide,by decide⟩) (cQ (ae 8 rfl) ax) ⟨by omega,by omega⟩) ax (by decide))) aQ))) rfl) (gj (by simp only[ai,bW];omega)))) ⟨.inr rfl,.inr rfl,.inr rfl,.inr rfl,.inr rfl,.inr rfl,.inr rfl,.inr rfl,.inl rfl,.inl rfl,.inl rfl,.inl rfl,.inr rfl,.inl rfl,.inr rfl,.inr rfl,.inr rfl,trivial⟩
  refine eu 12 rfl ?_
  have ak:nQ [aj.none,.none,.int (3+vQ cell/128%40)] (vQ cell/8%3)=some (m9 (uH (vQ cell))):=by
   unfold uH;rcases(by omega:vQ cell/8%3=0\/vQ cell/8%3=1\/vQ cell/8%3=2)with e|e|e<;>rw[e]<;>rfl
  refine aJ (cA 14 (d:=.list ((tG cell).map lS)) (VE.to (VO.ve (fe (ao (eU (ao aN (ao gP aQ))) (ao (eU (ao aN (ao (fj (VO.ve (fe (ao gP (ao gP (ao (cQ ax (cw (eK (ae 1 rfl) ax ⟨by decide,by decide⟩) ax (by decide))) aQ))))) (cw (eK (ae 1 rfl) ax ⟨by decide,by decide⟩) ax (by decide)) ak) aQ))) aQ)))) rfl) nd) ?_
  refine aJ (vf 15 (own:=["_law_k","_law_name"]) (cap:=[0]) (N:=["_law_k","_law_name","_law_cell"]) (tgt:=.tup [0,1]) (F:=Yt cell) (ds:=nW ((dz cell).map aK)) rfl ⟨rfl,by symm,by symm,rfl,rfl,?_⟩ (km (ds:=(dz cell).map aK) (ae 6 rfl) n.Hi) (λf s3 H3=>gB rfl (bU (bL (i:=0) nc rfl (a7 rfl)) (bU (bL (i:=1) nc rfl (a7 rfl)) fh))) rfl
   (small (by rw[cv,ai];omega)) (λd hd=>?_) nd) ?_
  ·intro j hj
   rcases aG.mp hj with rfl|hj
   ·exact⟨(by show(0:Nat)<17;decide),a7 rfl,rfl⟩
   ·cases hj
  ·obtain⟨j,hj,e⟩:=List.getElem_of_mem hd
   have hj':j<fP cell:=by rw[cv,ai]at hj;omega
   have e':(nW ((dz cell).map aK))[j]?=some d:=by rw[aq hj,e]
   obtain⟨y,hy,rfl⟩:=gi e';obtain rfl:y=.str ((dz cell).getD j ""):=by
    rw[aI,aq (show j<(dz cell).length by omega)]at hy
    cases hy;rw[aD,aq (show j<(dz cell).length by omega)];rfl
   refine⟨_,rfl,λf s3 H3=>f9,λr iP f s3 H3=>?_⟩
   cases iP;exact eU (ao (ae 1 rfl) (ao aN (ao (cQ ax (cw (bH C1 lR (ao (ae 2 rfl) (ao (cQ ax (ae 0 rfl)) aQ)) (mx (20+j) (by omega) (by omega))) ax (by decide))) aQ)))
  rw[PL];refine eu 15 rfl ?_
  have eT:vQ cell/16%(fP cell:Int)=(jT cell:Nat):=by
   have a1:0<=vQ cell/16%(fP cell:Int):=a8 _ (by omega)
   unfold jT;omega
  refine aJ (cA 16 (d:=.int (jT cell:Nat)) (VE.to (cw (eK (ae 1 rfl) ax ⟨by decide,by decide⟩) (ae 2 rfl) (by omega)) (by rw[eT])) nd) ?_
  refine aJ (cA 7 (d:=.list ((gE cell).desks.map cn)) (VE.to (VO.ve (nU (d1:=((gv cell).drop (jT cell)).map cn) (d2:=((gv cell).take (jT cell)).map cn) (VE.to (VO.ve (gD (ds:=(gv cell).map cn) (ae 7 rfl) (.yes (ae 16 rfl)) .no)) (by rw[lG,jI])) (VE.to (VO.ve (gD (ds:=(gv cell).map cn) (ae 7 rfl) .no (.yes (ae 16 rfl)))) (by rw[lG,vg])) (small (by rw[ai,ai,b_,b9,eD,ai,bW];omega)))) (by rw[<-aU];rfl)) nd) ?_
  refine a_ (cg (VE.to (Cd (kvs:=eE (gE cell)) (.cons aN (ae 14 rfl) (.cons aN (ae 4 rfl) (.cons aN (ae 12 rfl) (.cons aN (ae 7 rfl) (.cons aN (ae 15 rfl) (.cons aN (VE.to (VO.ve (fe aQ)) rfl) (.cons aN (VO.ve (fe aQ)) .nil))))))) (show([("kinds":Str),"gates","lines","desks","times","hours","paces"]).Nodup by symm) (by simp[eE]) (by show 7<=15;decide)) rfl))
end
abbrev Jx:=Int×List (Str×aj)
variable{st:Jx}
def Gu(st:Jx)(name:Str)(sz:Nat):Jx:=(st.1+sz,nY st.2 name (.list (nZ st.1 sz)))
def xo(cells:List Int)(k:Nat):Nat:=(cq (cells.getD k 0) (k:Int)%4).toNat
def uI(cells:List Int)(gates:List Str):Nat->Jx
 |0=>(0,[])
 |k+1=>Gu (uI cells gates k) (gates.getD k "") (xo cells k)
def HW:Str×Int:=("",0)
def vH(cells:List Int)(full:Bool)(q:Str×Int)(k:Nat):Nat:=(if full=true then q.2 else cq (cells.getD (9+k) 0) (9+(k:Int))%(q.2+1)).toNat
def rj(cells:List Int)(full:Bool)(lines:List (Str×Int))(st:Jx):Nat->Jx
 |0=>st
 |k+1=>Gu (rj cells full lines st k) (lines.getD k HW).1 (vH cells full (lines.getD k HW) k)
def CT:Dk:=⟨"","",.eldest,[]⟩
def Jy(cells:List Int)(k:Nat):Int:=cq (cells.getD (18+k) 0) (18+(k:Int))
def oT(m:Int)(d:Dk):Nat:=if n_ d.rule="meet" then d.places.length else(1+m/4%ck d.rule d.places.length).toNat
def mI(st:Jx)(full:Bool)(m:Int)(d:Dk):Jx:=
 if(full||decide (0<m%4))=true then(st.1+oT m d,nY (nY st.2 d.name .none) d.name (.tuple [.tuple (nZ st.1 (oT m d)),.int (m/64%12)])) else(st.1,nY st.2 d.name .none)
def pq(cells:List Int)(full:Bool)(desks:List Dk)(n:Int):Nat->Jx
 |0=>(n,[])
 |k+1=>mI (pq cells full desks n k) full (Jy cells k) (desks.getD k CT)
structure PN(p:Pl):Prop where
 gn:p.gates.length<=60
 ln:p.lines.length<=60
 dn:p.desks.length<=60
 lr:∀q∈p.lines,0<=q.2/\q.2<=100
 dr:∀d∈p.desks,1<=ck d.rule d.places.length/\ck d.rule d.places.length<=100/\d.places.length<=60
def vI(p:Pl)(cells:List Int):Jx:=uI cells p.gates p.gates.length
def rm(p:Pl)(cells:List Int)(full:Bool):Jx:=rj cells full p.lines (vI p cells) p.lines.length
def ED(p:Pl)(cells:List Int)(full:Bool):Jx:=pq cells full p.desks (rm p cells full).1 p.desks.length
theorem qN(kv:List (Str×aj))(y:Str)(d:aj):(nY kv y d).length<=kv.length+1:=by
 unfold nY k_
 split
 ·rw[ai];omega
 ·rw[aY,iB];exact ay _
theorem Mx(cells:List Int)(k:Nat):xo cells k<=3/\cq (cells.getD k 0) (k:Int)%4=(xo cells k:Nat):=by unfold xo;omega
theorem zJ(cells:List Int)(gates:List Str):∀k,0<=(uI cells gates k).1/\(uI cells gates k).1<=3*k/\(uI cells gates k).2.length<=k
 |0=>⟨Int.le_refl 0,Int.le_refl 0,ay 0⟩
 |k+1=>by
  obtain⟨h1,h2,h3⟩:=zJ cells gates k;have h4:=(Mx cells k).1;have h5:=qN (uI cells gates k).2 (gates.getD k "") (.list (nZ (uI cells gates k).1 (xo cells k)));refine⟨?_,?_,?_⟩
  ·show 0<=(uI cells gates k).1+(xo cells k:Nat);omega
  ·show(uI cells gates k).1+(xo cells k:Nat)<=3*((k+1:Nat):Int);omega
  ·show(nY _ _ _).length<=k+1;omega
theorem My(cells:List Int)(full:Bool){q:Str×Int}(h:0<=q.2/\q.2<=100)(k:Nat):vH cells full q k<=100/\(if full=true then q.2 else cq (cells.getD (9+k) 0) (9+(k:Int))%(q.2+1))=(vH cells full q k:Nat):=by
 unfold vH;have a1:0<=cq (cells.getD (9+k) 0) (9+(k:Int))%(q.2+1):=a8 _ (by omega)
 have a2:cq (cells.getD (9+k) 0) (9+(k:Int))%(q.2+1)<q.2+1:=bo _ (by omega)
 split<;>omega
theorem zK(cells:List Int)(full:Bool){lines:List (Str×Int)}(hl:∀q∈lines,0<=q.2/\q.2<=100)(h0:0<=st.1):∀k,k<=lines.length->0<=(rj cells full lines st k).1/\(rj cells full lines st k).1<=st.1+100*k/\(rj cells full lines st k).2.length<=st.2.length+k
 |0,_=>⟨h0,by show st.1<=_;omega,by show st.2.length<=_;omega⟩
 |k+1,hk=>by
  obtain⟨h1,h2,h3⟩:=zK cells full hl h0 k (by omega)
  have hm:lines.getD k HW∈lines:=by rw[aD,aq (by omega)];exact dR _
  have h4:=(My cells full (hl _ hm) k).1;have h5:=qN (rj cells full lines st k).2 (lines.getD k HW).1 (.list (nZ (rj cells full lines st k).1 (vH cells full (lines.getD k HW) k)));refine⟨?_,?_,?_⟩
  ·show 0<=(rj cells full lines st k).1+(vH cells full (lines.getD k HW) k:Nat);omega
  ·show(rj cells full lines st k).1+(vH cells full (lines.getD k HW) k:Nat)<=st.1+100*((k+1:Nat):Int);omega
  ·show(nY _ _ _).length<=_;omega
theorem Mz(m:Int){d:Dk}(h:1<=ck d.rule d.places.length/\ck d.rule d.places.length<=100/\d.places.length<=60):oT m d<=100:=by
 unfold oT;obtain⟨h1,h2,h3⟩:=h;have a2:m/4%ck d.rule d.places.length<ck d.rule d.places.length:=bo _ (by omega)
 split<;>omega
theorem EE(cells:List Int)(full:Bool){desks:List Dk}(hd:∀d∈desks,1<=ck d.rule d.places.length/\ck d.rule d.places.length<=100/\d.places.length<=60){n:Int}(h0:0<=n):∀k,k<=desks.length->0<=(pq cells full desks n k).1/\(pq cells full desks n k).1<=n+100*k/\(pq cells full desks n k).2.length<=2*k
 |0,_=>⟨h0,by show n<=_;omega,ay 0⟩
 |k+1,hk=>by
  obtain⟨h1,h2,h3⟩:=EE cells full hd h0 k (by omega)
  have hm:desks.getD k CT∈desks:=by rw[aD,aq (by omega)];exact dR _
  have h4:=Mz (Jy cells k) (hd _ hm);have h5:=qN (pq cells full desks n k).2 (desks.getD k CT).name .none;have h6:=qN (nY (pq cells full desks n k).2 (desks.getD k CT).name .none) (desks.getD k CT).name (.tuple [.tuple (nZ (pq cells full desks n k).1 (oT (Jy cells k) (desks.getD k CT))),.int (Jy cells k/64%12)]);show 0<=(mI _ _ _ _).1/\(mI _ _ _ _).1<=_/\(mI _ _ _ _).2.length<=_;unfold mI
  split
  ·refine⟨?_,?_,?_⟩
   ·show 0<=(pq cells full desks n k).1+(oT (Jy cells k) (desks.getD k CT):Nat);omega
   ·show(pq cells full desks n k).1+(oT (Jy cells k) (desks.getD k CT):Nat)<=n+100*((k+1:Nat):Int);omega
   ·show(nY _ _ _).length<=_;omega
  ·refine⟨h1,?_,?_⟩
   ·show(pq cells full desks n k).1<=n+100*((k+1:Nat):Int);omega
   ·show(nY _ _ _).length<=_;omega
theorem yh{l:List Dk}(h:k<l.length):l[k]?=some (l.getD k CT):=by rw[aD,aq h];rfl
theorem HX{l:List (Str×Int)}(h:k<l.length):l[k]?=some (l.getD k HW):=by rw[aD,aq h];rfl
theorem PQ(h:k<l.length):l[k]?=some (l.getD k ""):=by rw[aD,aq h];rfl
section
variable{P:bK}{w:cB}{K:au}{mg:Str->Option aE}{base:dg}{f:aR}{k:Nat}
abbrev Yu:List Str:=["_law_h","_law_cells","_law_full","_law_number","_law_places","_law_k","_law_name","_law_size","_law_line","_law_loads","_law_desk","_law_m"]
theorem Q0:cC Yu ["_law_h","_law_cells","_law_full"] (bC (top 55)):=⟨rfl,rfl,rfl,by symm,rfl,by symm,by symm⟩
def Rfl(ds:List aj)(d:aj):Prop:=∃(p:Pl)(cells:List Int)(full:Bool),ds=[dZ p,iX cells,.bool full]/\PN p/\jD p/\d=.tuple [cF (rm p cells full).2,cF (ED p cells full).2]
theorem za6(F:k9 K "_law_floor_drawn" "_law_floor_drawn" (top 55) f fd)(n:Ng mg)(C0:bD P w K mg base 1 "_law_cell_at" ["_law_script","_law_k"] (g_ K Bj))(C1:bD P w K mg base 1 "_law_mix" ["_law_cell","_law_k"] (g_ K Az))(C4:bD P w K mg base 1 "_law_greatest" ["_law_rule_here","_law_many"] (g_ K Ts)):ft P w K mg base jP 3 f fd ["_law_h","_law_cells","_law_full"] (g_ K Rfl):=
 jR F Q0 (λ_ _ h=>by obtain⟨_,_,_,rfl,_⟩:=h;rfl) λ_ _ h=>by
  obtain⟨p,cells,full,rfl,hF,hP,rfl⟩:=h;intro fV A outer s H E hr;have nd:Yu.Nodup:=Q0.nd;have lR:e8 1 _:=hr.mono (by omega)
  obtain⟨hgn,F3,FU,hlr,hdr⟩:=hF;have cel:∀j:Nat,Bj [iX cells,.int (j:Nat)] (.int (cells.getD j 0)):=λj=>⟨cells,j,rfl,rfl⟩
  have mxr:∀(c:Int)(j:Nat),j<=200->Az [.int c,.int (j:Nat)] (.int (cq c (j:Nat))):=λc j hj=>⟨c,(j:Nat),rfl,by omega,by omega,rfl⟩
  refine yT λB0 B σ H0 Hh D fr PD=>?_
  refine cH (D0 fr (cA 3 (d:=.int 0) ax nd) λσ1 Pr Pt _ f1=>?_)
  refine cH (Ls f1 4 nd (λq=>rfl) λq σ2 H2 G2=>?_)
  refine cH (FX (tgt:=.tup [5,6]) (λi=>DR K q (uI cells p.gates i).2) (λi=>[.val (dZ p),.val (iX cells),.val (.bool full),.val (.int (uI cells p.gates i).1),.ref q,.un,.un,.un,.un,.un,.un,.un]) (λ_=>DR.mono) G2 cK rfl (km (ds:=p.gates.map .str) (fE hr (ae 0 rfl) aN (Ee p)) n.Hi)
   (gB rfl (bU (bL (i:=5) nd rfl (a7 rfl)) (bU (bL (i:=6) nd rfl (a7 rfl)) fh))) (λi d hd=>?_) λσ3 M_ Mp G3=>?_)
  ·obtain⟨x,hx,rfl⟩:=gi hd
   have hi:i<p.gates.length:=by
    have:=(aO.mp hd).1;rw[cv,ai]at this;exact this
   obtain rfl:x=.str (p.gates.getD i ""):=by rw[aI,PQ hi]at hx;cases hx;rfl
   obtain⟨b1,b2,b3⟩:=zJ cells p.gates i;obtain⟨z1,z2⟩:=Mx cells i;refine⟨_,rfl,rfl,λD' Yv σ' dS H' G qq=>?_⟩
   refine cH (lC DR.mono G (cA 7 (d:=.int (xo cells i:Nat)) (VE.to (cw (bH C1 lR (ao (bH C0 lR (ao (ae 1 rfl) (ao (ae 5 rfl) aQ)) (cel i)) (ao (ae 5 rfl) aQ)) (mxr _ i (by omega))) ax (by decide)) (by rw[z2])) nd) rfl λσ4 Dr AF G4=>?_)
   refine cH (Ck G4 hr 4 rfl (ae 6 rfl) (VO.ve (tZ (ae 3 rfl) (cQ (ae 3 rfl) (ae 7 rfl)) b1 (by omega) (by omega) rfl n.lst n.rng)) (gj (by omega)) λJ0 J1 G5=>?_)
   exact dD (lC DR.mono G5 (cA 3 (cQ (ae 3 rfl) (ae 7 rfl)) nd) rfl λσ6 Nc Pz G6=>qq σ6 Nc Pz (G6.forget DR.mono ⟨.inr rfl,.inr rfl,.inr rfl,.inr rfl,.inr rfl,.inl rfl,.inl rfl,.inl rfl,.inl rfl,.inl rfl,.inl rfl,.inl rfl,trivial⟩ rfl))
  rw[cv,ai]at G3;have G3:OF K B0 B (DR K q (vI p cells).2) M_ Mp σ3 [.val (dZ p),.val (iX cells),.val (.bool full),.val (.int (vI p cells).1),.ref q,.un,.un,.un,.un,.un,.un,.un]:=G3;obtain⟨p1a,p1b,p1c⟩:0<=(vI p cells).1/\(vI p cells).1<=180/\(vI p cells).2.length<=60:=by
   obtain⟨b1,b2,b3⟩:=zJ cells p.gates p.gates.length;exact⟨b1,by show(uI cells p.gates p.gates.length).1<=180;omega,by show(uI cells p.gates p.gates.length).2.length<=60;omega⟩
  refine cH (FX (tgt:=.tup [5,8]) (λi=>DR K q (rj cells full p.lines (vI p cells) i).2) (λi=>[.val (dZ p),.val (iX cells),.val (.bool full),.val (.int (rj cells full p.lines (vI p cells) i).1),.ref q,.un,.un,.un,.un,.un,.un,.un]) (λ_=>DR.mono) G3 cK rfl (km (ds:=p.lines.map iY) (fE hr (ae 0 rfl) aN (zj p)) n.Hi)
   (gB rfl (bU (bL (i:=5) nd rfl (a7 rfl)) (bU (bL (i:=8) nd rfl (a7 rfl)) fh))) (λi d hd=>?_) λσ4 Dr AF G4=>?_)
  ·obtain⟨x,hx,rfl⟩:=gi hd
   have hi:i<p.lines.length:=by
    have:=(aO.mp hd).1;rw[cv,ai]at this;exact this
   obtain rfl:x=iY (p.lines.getD i HW):=by rw[aI,HX hi]at hx;cases hx;rfl
   have hq:=hlr _ (bw (HX hi));obtain⟨b1,b2,b3⟩:=zK cells full hlr p1a i (by omega)
   obtain⟨z1,z2⟩:=My cells full hq i;have e9:((9:Int)+(i:Int))=((9+i:Nat):Int):=by omega
   have eS:rj cells full p.lines (vI p cells) (i+1)=Gu (rj cells full p.lines (vI p cells) i) (p.lines.getD i HW).1 (vH cells full (p.lines.getD i HW) i):=rfl;rw[eS]
   generalize rj cells full p.lines (vI p cells) i=st at *
   generalize p.lines.getD i HW=ql at *
   generalize hsz:vH cells full ql i=sz at *
   refine⟨_,rfl,rfl,λD' Yv σ' dS H' G qq=>?_⟩
   have rest:∀σ4 Dr AF,OF K Yv B (DR K q st.2) Dr AF σ4 [.val (dZ p),.val (iX cells),.val (.bool full),.val (.int st.1),.ref q,.val (.int i),.un,.val (.int (sz:Nat)),.val (iY ql),.un,.un,.un]->B6 (pG jP P w K mg base Yu "_law_floor_drawn" (bC (top 55)) f fV A outer s H E).Dq ((suite (fZ (top 55)) 3).drop 2) D' σ4 AF:=λσ4 Dr AF G4=>by
    refine cH (Ck G4 hr 4 rfl (bT (ae 8 rfl) ax (bE (j:=0) rfl)) (VO.ve (tZ (ae 3 rfl) (cQ (ae 3 rfl) (ae 7 rfl)) b1 (by omega) (by omega) rfl n.lst n.rng)) (gj (by omega)) λJ0 J1 G5=>?_)
    exact dD (lC DR.mono G5 (cA 3 (cQ (ae 3 rfl) (ae 7 rfl)) nd) rfl λσ6 Nc Pz G6=>qq σ6 Nc Pz (G6.forget DR.mono ⟨.inr rfl,.inr rfl,.inr rfl,.inr rfl,.inr rfl,.inl rfl,.inl rfl,.inl rfl,.inl rfl,.inl rfl,.inl rfl,.inl rfl,trivial⟩ rfl))
   refine cH (lC DR.mono G (cA 7 (d:=.int ql.2) (bT (ae 8 rfl) ax (bE (j:=1) rfl)) nd) rfl λσ4 Dr AF G4=>?_)
   cases full with
   |true=>
    have z2:ql.2=(sz:Nat):=z2;refine cH (lC DR.mono G4 (bX (VT.to (nS (iD (ae 2 rfl) rfl)) rfl) bM) rfl λσ5 J0 J1 G5=>rest σ5 J0 J1 ?_)
    rw[<-z2];exact G5
   |false=>
    have z2:cq (cells.getD (9+i) 0) (9+(i:Int))%(ql.2+1)=(sz:Nat):=z2;exact cH (lC DR.mono G4 (dN (VT.to (nS (iD (ae 2 rfl) rfl)) rfl) (a_ (cA 7 (d:=.int (sz:Nat)) (VE.to (cw (bH C1 lR (ao (bH C0 lR (ao (ae 1 rfl) (ao (VE.to (cQ ax (ae 5 rfl)) (by rw[e9])) aQ)) (cel (9+i))) (ao (VE.to (cQ ax (ae 5 rfl)) (by rw[e9])) aQ)) (mxr _ (9+i) (by omega))) (cQ (bT (ae 8 rfl) ax (bE (j:=1) rfl)) ax) (by omega)) (by rw[<-e9,z2])) nd))) rfl λσ5 J0 J1 G5=>rest σ5 J0 J1 G5)
  rw[cv,ai]at G4;have G4:OF K B0 B (DR K q (rm p cells full).2) Dr AF σ4 [.val (dZ p),.val (iX cells),.val (.bool full),.val (.int (rm p cells full).1),.ref q,.un,.un,.un,.un,.un,.un,.un]:=G4;obtain⟨p2a,p2b⟩:0<=(rm p cells full).1/\(rm p cells full).1<=6180:=by
   obtain⟨b1,b2,b3⟩:=zK cells full hlr p1a p.lines.length (ay _);exact⟨b1,by show(rj cells full p.lines (vI p cells) p.lines.length).1<=6180;omega⟩
  obtain⟨Hc4,_,f4⟩:=G4.done (i:=4) rfl DR.rep;refine cH (Ls f4 9 nd (λq=>rfl) λq5 σ5 H5 G5=>?_)
  have eP3:ED p cells full=pq cells full p.desks (rm p cells full).1 p.desks.length:=rfl;rw[eP3]at PD
  generalize Ue:(rm p cells full).1=n2 at *
  refine cH (FX (tgt:=.tup [5,10]) (λi=>DR K q5 (pq cells full p.desks n2 i).2) (λi=>[.val (dZ p),.val (iX cells),.val (.bool full),.val (.int (pq cells full p.desks n2 i).1),.val (cF (rm p cells full).2),.un,.un,.un,.un,.ref q5,.un,.un]) (λ_=>DR.mono) G5 cK rfl (km (ds:=p.desks.map cn) (fE hr (ae 0 rfl) aN (oh p)) n.Hi)
   (gB rfl (bU (bL (i:=5) nd rfl (a7 rfl)) (bU (bL (i:=10) nd rfl (a7 rfl)) fh))) (λi d hd=>?_) λσ6 Nc Pz G6=>?_)
  ·obtain⟨x,hx,rfl⟩:=gi hd
   have hi:i<p.desks.length:=by
    have:=(aO.mp hd).1;rw[cv,ai]at this;exact this
   obtain rfl:x=cn (p.desks.getD i CT):=by rw[aI,yh hi]at hx;cases hx;rfl
   have hq:=hdr _ (bw (yh hi));have hok:=(hP.desks _ (bw (yh hi))).2.2.1;obtain⟨b1,b2,b3⟩:=EE cells full hdr p2a i (by omega)
   have z1:=Mz (Jy cells i) hq;have e18:((18:Int)+(i:Int))=((18+i:Nat):Int):=by omega
   have eS:pq cells full p.desks n2 (i+1)=mI (pq cells full p.desks n2 i) full (Jy cells i) (p.desks.getD i CT):=rfl;rw[eS];have eM:Jy cells i=cq (cells.getD (18+i) 0) ((18+i:Nat):Int):=by unfold Jy;rw[e18]
   have hml:0<=Jy cells i:=qC _ _
   generalize pq cells full p.desks n2 i=st at *
   generalize p.desks.getD i CT=dk at *
   generalize hm:Jy cells i=m at *
   refine⟨_,rfl,rfl,λD' Yv σ' dS H' G qq=>?_⟩
   refine cH (lC DR.mono G (cA 11 (d:=.int m) (VE.to (bH C1 lR (ao (bH C0 lR (ao (ae 1 rfl) (ao (VE.to (cQ ax (ae 5 rfl)) (by rw[e18])) aQ)) (cel (18+i))) (ao (VE.to (cQ ax (ae 5 rfl)) (by rw[e18])) aQ)) (mxr _ (18+i) (by omega))) (by rw[eM])) nd) rfl λσ7 Ha7 Hb7 G7=>?_)
   refine cH (Ck G7 hr 9 rfl (bT (ae 10 rfl) ax (bE (j:=0) rfl)) gP (gj (by omega)) λHa8 Hb8 G8=>?_)
   unfold mI at qq;have qp:=qN st.2 dk.name .none;by_cases hc:(full||decide (0<m%4))=true
   ·rw[qQ3 hc]at qq
    refine dD (wZ G8.own (VT.to (j_ (iD (ae 2 rfl) rfl) (λ_=>yJ (cw (ae 11 rfl) ax (by decide)) ax)) hc) λHa9 Hb9 g9=>?_)
    have G9:=G8.go DR.mono (G8.own.grow g9) G8.no;have a1:0<=m/4%ck dk.rule dk.places.length:=a8 _ (by omega)
    refine cH (lC DR.mono G9 (cA 7 (d:=.int (1+m/4%ck dk.rule dk.places.length)) (cQ ax (cw (eK (ae 11 rfl) ax ⟨by decide,by decide⟩) (bH C4 lR (ao (bT (ae 10 rfl) ax (bE (j:=2) rfl)) (ao (VE.to (jW (ds:=dk.places.map .str) (bT (ae 10 rfl) ax (bE (j:=3) rfl)) n.len) (by rw[ai])) aQ)) ⟨dk.rule,dk.places.length,rfl,rfl⟩) (by omega))) nd) rfl λσ10 zgF zgG G10=>?_)
    have rest:∀σ4 Dr AF,OF K Yv B (DR K q5 (nY st.2 dk.name .none)) Dr AF σ4 [.val (dZ p),.val (iX cells),.val (.bool full),.val (.int st.1),.val (cF (rm p cells full).2),.val (.int i),.un,.val (.int (oT m dk:Nat)),.un,.ref q5,.val (cn dk),.val (.int m)]->B6 (pG jP P w K mg base Yu "_law_floor_drawn" (bC (top 55)) f fV A outer s H E).Dq ((suite (suite (fZ (top 55)) 5) 2).drop 2) D' σ4 AF:=λσ4 Dr AF G4=>by
     refine cH (Ck G4 hr 9 rfl (bT (ae 10 rfl) ax (bE (j:=0) rfl)) (d:=.tuple [.tuple (nZ st.1 (oT m dk)),.int (m/64%12)]) (VE.to (eU (ao (y8 (ae 3 rfl) (cQ (ae 3 rfl) (ae 7 rfl)) b1 (by omega) (by omega) rfl n.tup n.rng) (ao (cw (eK (ae 11 rfl) ax ⟨by decide,by decide⟩) ax (by decide)) aQ))) rfl) (gj (by omega)) λJ0 J1 G5=>?_)
     exact dD (lC DR.mono G5 (cA 3 (cQ (ae 3 rfl) (ae 7 rfl)) nd) rfl λσ6 Nc Pz G6=>qq σ6 Nc Pz (G6.forget DR.mono ⟨.inr rfl,.inr rfl,.inr rfl,.inr rfl,.inr rfl,.inl rfl,.inl rfl,.inl rfl,.inl rfl,.inr rfl,.inl rfl,.inl rfl,trivial⟩ rfl))
    have lw:Lay 20 (.str (n_ dk.rule)):=by
     cases dk.rule with
     |meet=>exact aW (x:="meet")
     |gather _ _=>exact aW (x:="gather")
     |many _=>exact aW (x:="many")
     |rank _=>exact aW (x:="rank")
     |turns _=>exact aW (x:="turns")
     |eldest=>exact aW (x:="eldest")
    have aw:nQ (aK (n_ dk.rule)::rB dk.rule) 0=some (.str (n_ dk.rule)):=bE (j:=0) rfl;by_cases hw:n_ dk.rule="meet"
    ·have ez:oT m dk=dk.places.length:=by unfold oT;rw[qQ3 hw]
     refine cH (lC DR.mono G10 (dN (VT.to (bR hr lw aW (bT (bT (d:=za dk.rule) (ae 10 rfl) ax (bE (j:=2) rfl)) ax aw) aN) (by rw[bO];exact qQ1 hw)) (a_ (cA 7 (d:=.int (dk.places.length:Nat)) (VE.to (jW (ds:=dk.places.map .str) (bT (ae 10 rfl) ax (bE (j:=3) rfl)) n.len) (by rw[ai])) nd))) rfl λσ11 TK TL G11=>rest σ11 TK TL ?_)
     rw[ez];exact G11
    ·have ez:(1+m/4%ck dk.rule dk.places.length:Int)=(oT m dk:Nat):=by unfold oT;rw[qQ2 hw];omega
     refine cH (lC DR.mono G10 (bX (VT.to (bR hr lw aW (bT (bT (d:=za dk.rule) (ae 10 rfl) ax (bE (j:=2) rfl)) ax aw) aN) (by rw[bO];exact qQ0 hw)) bM) rfl λσ11 TK TL G11=>rest σ11 TK TL ?_)
     rw[<-ez];exact G11
   ·rw[qQ2 hc]at qq
    have hc:(full||decide (0<m%4))=false:=by simpa using hc
    refine dD (lC DR.mono G8 (bX (VT.to (j_ (iD (ae 2 rfl) rfl) (λ_=>yJ (cw (ae 11 rfl) ax (by decide)) ax)) hc) bM) rfl λσ9 Ha9 Hb9 G9=>qq σ9 Ha9 Hb9 (G9.forget DR.mono ⟨.inr rfl,.inr rfl,.inr rfl,.inr rfl,.inr rfl,.inl rfl,.inl rfl,.inl rfl,.inl rfl,.inr rfl,.inl rfl,.inl rfl,trivial⟩ rfl))
  rw[cv,ai]at G6;obtain⟨Hc6,_,f6⟩:=G6.done (i:=9) rfl DR.rep;exact FV (a_ (cg (eU (ao (ae 4 rfl) (ao (ae 9 rfl) aQ))))) f6 PD
end
def PV(pk:List (Str×aj))(to:Str):Int:=match gU pk to with
 |some (.list xs)=>xs.length
 |_=>0
def EF(p:Pl)(to:Str):Int:=match gU (jE p) to with
 |some (.int r)=>r
 |_=>0
abbrev Ld:=Option (List aj×Int)
def UD:Ld->aj
 |none=>.none
 |some q=>.tuple [.tuple q.1,.int q.2]
def MA(p:Pl)(pk:List (Str×aj))(to:Str)(gs:List aj):Bool:=decide (to="")||decide (PV pk to+gs.length<=EF p to)
def vJ(p:Pl)(pk:List (Str×aj))(time:Int)(to:Str):Ld->Bool
 |none=>false
 |some q=>decide (q.2<=time) && !MA p pk to q.1
def Jz(p:Pl)(pk:List (Str×aj))(to:Str):Prop:=to≠""->∃xs r,gU pk to=some (.list xs)/\gU (jE p) to=some (.int r)
theorem Jz.at{to:Str}(h:Jz p pk to)(hn:to≠""):∃xs:List aj,gU pk to=some (.list xs)/\gU (jE p) to=some (.int (EF p to))/\PV pk to=xs.length:=by
 obtain⟨xs,r,h1,h2⟩:=h hn;refine⟨xs,h1,?_,?_⟩
 ·unfold EF;rw[h2]
 ·unfold PV;rw[h1]
section
open L2
theorem MB{X:Cx}{δ:List Slot}{pos:Pos}{c:bZ}{k:Bool}{body rest:List ia}{o:Out}(h:VT X c δ k)(hr:DS o=true)(h1:k=true->pC X body δ o)(h2:k=false->pC X rest δ o):pC X (.If c body [] pos::rest) δ o:=by
 cases k with
 |true=>exact di (dN h (h1 rfl)) hr
 |false=>exact aJ (bX h bM) (h2 rfl)
end
section
variable{P:bK}{w:cB}{K:au}{mg:Str->Option aE}{base:dg}{f:aR}{k:Nat}
abbrev Yw:List Str:=["plant","places","to","goods"]
theorem Xx:cC Yw Yw (bC (top 21)):=⟨rfl,rfl,rfl,by symm,rfl,by symm,by symm⟩
def Rfr(ds:List aj)(d:aj):Prop:=∃(p:Pl)(pk:List (Str×aj))(to:Str)(gs:List aj),ds=[fM p,cF pk,.str to,.tuple gs]/\lN to/\Jz p pk to/\d=.bool (MA p pk to gs)
theorem zbc(F:k9 K "finds_room" "finds_room" (top 21) f fd)(n:Na mg):ft P w K mg base jP 1 f fd Yw (g_ K Rfr):=
 jR F Xx (λ_ _ h=>by obtain⟨_,_,_,_,rfl,_⟩:=h;rfl) λ_ _ h=>by
  obtain⟨p,pk,to,gs,rfl,ot,ok,rfl⟩:=h;intro fV A outer s H E hr;unfold MA;by_cases ht:to=""
  ·refine a_ (cg (VE.to (sj (k1:=true) (k2:=false) (VE.to (oJ hr (bB ot) aW (ae 2 rfl) aN) (by rw[bO,qQ1 ht])) (λz=>by cases z)) ?_))
   rw[qQ1 ht];rfl
  ·obtain⟨xs,h1,h2,h3⟩:=ok.at ht
   refine a_ (cg (VE.to (sj (k1:=false) (VE.to (oJ hr (bB ot) aW (ae 2 rfl) aN) (by rw[bO,qQ0 ht])) (λ_=>jS (VZ (cQ (jA (ds:=xs) (fE hr (ae 1 rfl) (ae 2 rfl) h1) n.len) (jW (ae 3 rfl) n.len)) (fE hr (m8 (ae 0 rfl) (vz p)) (ae 2 rfl) h2)))) ?_))
   rw[qQ0 ht,h3]
abbrev Yx:List Str:=["plant","places","load","time","to"]
theorem Xy:cC Yx Yx (bC (top 40)):=⟨rfl,rfl,rfl,by symm,rfl,by symm,by symm⟩
def Ris(ds:List aj)(d:aj):Prop:=∃(p:Pl)(pk:List (Str×aj))(ld:Ld)(time:Int)(to:Str),ds=[fM p,cF pk,UD ld,.int time,.str to]/\lN to/\Jz p pk to/\d=.bool (vJ p pk time to ld)
theorem zbd(F:k9 K "is_stopped" "is_stopped" (top 40) f fd)(C1:bD P w K mg base 1 "finds_room" Yw (g_ K Rfr)):ft P w K mg base jP 2 f fd Yx (g_ K Ris):=
 jR F Xy (λ_ _ h=>by obtain⟨_,_,_,_,_,rfl,_⟩:=h;rfl) λ_ _ h=>by
  obtain⟨p,pk,ld,time,to,rfl,ot,ok,rfl⟩:=h;intro fV A outer s H E hr;cases ld with
  |none=>exact a_ (cg (VE.to (lB (k1:=false) (k2:=false) (o3 GO (Hv rfl) (ae 2 rfl) gP (gC _)) (λz=>by cases z)) rfl))
  |some q=>
   exact a_ (cg (VE.to (lB (k1:=true) (o3 GO (Hv rfl) (ae 2 rfl) gP (gC _)) (λ_=>lB (V0 (ae 3 rfl) (bT (d:=.int q.2) (ae 2 rfl) ax (bE (j:=1) rfl))) (λ_=>jS (vi (bH C1 hr (ao (ae 0 rfl) (ao (ae 1 rfl) (ao (ae 4 rfl) (ao (bT (d:=.tuple q.1) (ae 2 rfl) ax (bE (j:=0) rfl)) aQ)))) ⟨p,pk,to,q.1,rfl,ot,ok,rfl⟩))))) rfl))
structure MC(p:Pl)(pk lk:List (Str×aj))(L:Str->Ld):Prop where
 at_:∀d∈p.desks,gU lk d.name=some (UD (L d.name))
 to:∀d∈p.desks,Jz p pk d.to
def hU(p:Pl)(pk:List (Str×aj))(L:Str->Ld)(time:Int):List Str:=(p.desks.filter λd=>vJ p pk time d.to (L d.name)).map (·.name)
def UE(p:Pl)(pk:List (Str×aj))(L:Str->Ld)(time:Int):aj->Option aj
 | .tuple (.str nm :: .str to::_)=>if vJ p pk time to (L nm)=true then some (.str nm)else none
 |_=>none
theorem wI(p:Pl)(pk:List (Str×aj))(L:Str->Ld)(time:Int)(d:Dk):UE p pk L time (cn d)=if vJ p pk time d.to (L d.name)=true then some (.str d.name)else none:=rfl
theorem CV(p:Pl)(pk:List (Str×aj))(L:Str->Ld)(time:Int):∀l:List Dk,(l.map cn).filterMap (UE p pk L time)=((l.filter λd=>vJ p pk time d.to (L d.name)).map (·.name)).map .str
 | []=>rfl
 |d::l=>by
  rw[aH,jv];cases h:vJ p pk time d.to (L d.name) with
  |true=>rw[cX (f:=UE p pk L time) (b:=.str d.name) (by rw[wI,h,qQ3 rfl]),CV p pk L time l];rfl
  |false=>rw[eP (f:=UE p pk L time) (by rw[wI,h,qQ2 cz]),CV p pk L time l];rfl
abbrev Yy:List Str:=["plant","places","loads","time"]
theorem Xz:cC Yy Yy (bC (top 38)):=⟨rfl,rfl,rfl,by symm,rfl,by symm,by symm⟩
def Rst(ds es:List aj):Prop:=∃(p:Pl)(pk lk:List (Str×aj))(L:Str->Ld)(time:Int),ds=[fM p,cF pk,cF lk,.int time]/\jD p/\MC p pk lk L/\es=(hU p pk L time).map .str
theorem MD(hp:jD p){d:Dk}(hd:d∈p.desks):lN d.to:=by
 rcases(hp.desks d hd).2.1 with e|e
 ·rw[e];show cx _=true;symm
 ·exact e.ok.2
theorem zbe(F:k9 K "stopped" "stopped" (top 38) f fd)(C1:bD P w K mg base 2 "is_stopped" Yx (g_ K Ris)):ft P w K mg base jP 3 f fd Yy (Ba K Rst):=
 FK F Xz (λ_ _ h=>by obtain⟨_,_,_,_,_,rfl,_⟩:=h;rfl) λ_ _ h=>by
  obtain⟨p,pk,lk,L,time,rfl,hp,hL,rfl⟩:=h;intro fV A outer s H E hr;have nc:(["desk","plant","places","loads","time"]:List Str).Nodup:=by symm
  have FU:=hp.dn;refine a_ (sU (VO.to (fD (own:=["desk"]) (cap:=[0,1,2,3]) (N:=["desk","plant","places","loads","time"]) (tgt:=.one 0) (F:=UE p pk L time) (ds:=p.desks.map cn) rfl ⟨rfl,by symm,by symm,rfl,rfl,?_⟩ (g8 (m8 (ae 0 rfl) (vA p))) (λf s3 H3=>bL (i:=0) nc rfl (a7 rfl)) rfl
   (small (by rw[ai];omega)) (λd hd=>?_)) (CV p pk L time p.desks)))
  ·intro j hj
   simp only[aG,bu,or_false]at hj;rcases hj with rfl|rfl|rfl|rfl
   ·exact⟨(by show(0:Nat)<4;decide),a7 rfl,rfl⟩
   ·exact⟨(by show(1:Nat)<4;decide),a7 rfl,rfl⟩
   ·exact⟨(by show(2:Nat)<4;decide),a7 rfl,rfl⟩
   ·exact⟨(by show(3:Nat)<4;decide),a7 rfl,rfl⟩
  ·obtain⟨z,hz,rfl⟩:=av.mp hd
   refine⟨_,rfl,λf s3 H3=>?_,λr iP f s3 H3=>?_⟩
   ·refine oK (VT.to (iD (bH C1 hr (ao (ae 1 rfl) (ao (ae 2 rfl) (ao (fE (x:=z.name) (d:=UD (L z.name)) hr (ae 3 rfl) (bT (d:=.str z.name) (ae 0 rfl) ax (bE (j:=0) rfl)) (hL.at_ z hz)) (ao (ae 4 rfl) (ao (bT (d:=.str z.to) (ae 0 rfl) ax (bE (j:=1) rfl)) aQ))))) ⟨p,pk,L z.name,time,z.to,rfl,MD hp hz,hL.to z hz,rfl⟩) rfl) ?_)
    rw[wI];cases vJ p pk time z.to (L z.name)<;>rfl
   ·rw[wI]at iP
    split at iP
    ·cases iP;exact bT (ae 0 rfl) ax (bE (j:=0) rfl)
    ·cases iP
abbrev Nsh:List Str:=["_law_h","_law_places","_law_loads","_law_time","_law_desk","_law_load"]
theorem Q5:cC Nsh ["_law_h","_law_places","_law_loads","_law_time","_law_desk"] (bC (top 56)):=⟨rfl,rfl,rfl,by symm,rfl,by symm,by symm⟩
def Rsh(ds:List aj)(d:aj):Prop:=∃(p:Pl)(pk lk:List (Str×aj))(L:Str->Ld)(time:Int)(dk:Dk),ds=[dZ p,cF pk,cF lk,.int time,cn dk]/\(p.lines.map (·.1)).Nodup/\lN dk.to/\Jz p pk dk.to/\gU lk dk.name=some (UD (L dk.name))/\d=.bool (vJ p pk time dk.to (L dk.name))
theorem EG(p:Pl):p.lines.map iY=(jE p).map L2.pairD:=by unfold jE;rw[aS];rfl
theorem zbf(F:k9 K "_law_is_shut" "_law_is_shut" (top 56) f fd)(n:Na mg)(md:mg "dict"=none):ft P w K mg base jP 1 f fd ["_law_h","_law_places","_law_loads","_law_time","_law_desk"] (g_ K Rsh):=
 jR F Q5 (λ_ _ h=>by obtain⟨_,_,_,_,_,_,rfl,_⟩:=h;rfl) λ_ _ h=>by
  obtain⟨p,pk,lk,L,time,dk,rfl,KZ,ot,ok,hl,rfl⟩:=h;intro fV A outer s H E hr;have nd:Nsh.Nodup:=Q5.nd;refine aJ (cA 5 (d:=UD (L dk.name)) (fE hr (ae 2 rfl) (bT (d:=.str dk.name) (ae 4 rfl) ax (bE (j:=0) rfl)) hl) nd) ?_
  generalize L dk.name=ld at *
  cases ld with
  |none=>exact di (dN (VT.to (yM (k1:=true) (k2:=true) (k3:=true) (VT.to (ji lX pR (ae 5 rfl) gP (gC _)) rfl) (λz=>by cases z) (λz=>by cases z)) rfl) (a_ (cg DM))) rfl
  |some q=>
   show pC _ _ _ (.rt (.bool (decide (q.2<=time) && !(decide (dk.to="")||decide (PV pk dk.to+q.1.length<=EF p dk.to)))))
   refine MB (k:=decide (time<q.2)||decide (dk.to="")) (VT.to (yM (k1:=false) (k2:=decide (time<q.2)) (k3:=decide (dk.to="")) (VT.to (ji lX pR (ae 5 rfl) gP (gC _)) rfl) (λ_=>yJ (bT (d:=.int q.2) (ae 5 rfl) ax (bE (j:=1) rfl)) (ae 3 rfl)) (λ_ _=>VT.to (bR hr (bB ot) aW (bT (d:=.str dk.to) (ae 4 rfl) ax (bE (j:=1) rfl)) aN) (by rw[bO]))) rfl) rfl (λhk=>?_) λhk=>?_
   ·refine a_ (cg (VE.to DM ?_))
    congr 1
    by_cases h1:time<q.2
    ·rw[qQ0 (show ¬q.2<=time by omega)];rfl
    ·rw[qQ0 h1,Dh]at hk
     rw[hk];simp
   ·obtain⟨h1,h2⟩:=Bool.or_eq_false_iff.mp hk
    have h1:=qQ5 h1;have h2:=qQ5 h2;obtain⟨xs,e1,e2,e3⟩:=ok.at h2;refine a_ (cg (VE.to (Qj (cQ (jA (ds:=xs) (fE hr (ae 1 rfl) (bT (d:=.str dk.to) (ae 4 rfl) ax (bE (j:=1) rfl)) e1) n.len) (jW (ds:=q.1) (bT (d:=.tuple q.1) (ae 5 rfl) ax (bE (j:=0) rfl)) n.len)) (fE hr (D4 (l:=jE p) (VE.to (fE hr (ae 0 rfl) aN (zj p)) (by rw[EG])) (by rw[kr];exact KZ) rfl md) (bT (d:=.str dk.to) (ae 4 rfl) ax (bE (j:=1) rfl)) e2)) ?_))
    rw[qQ1 (show q.2<=time by omega),qQ0 h2,e3,j0,Dh]
    congr 1
    by_cases h3:(xs.length:Int)+q.1.length<=EF p dk.to
    ·rw[qQ1 h3,qQ0 (by omega)];rfl
    ·rw[qQ0 h3,qQ1 (by omega)];rfl
end
theorem PX{q:Str×aj}(h:q∈nY kv y d):q∈kv\/q=(y,d):=by
 unfold nY at h
 split at h
 ·unfold k_ at h
  obtain⟨z,hz,rfl⟩:=av.mp h;by_cases e:z.1=y
  ·rw[qQ3 e,e];exact .inr rfl
  ·rw[qQ2 e];exact .inl hz
 ·rcases bS.mp h with h|h
  ·exact .inl h
  ·exact .inr (by simpa using h)
theorem EH:(nY kv y d).map (·.1)=if(kv.any λq=>decide (q.1=y))=true then kv.map (·.1)else kv.map (·.1) ++ [y]:=by
 unfold nY
 split
 ·unfold k_
  rw[aS];refine hX λz _=>?_
  by_cases e:z.1=y
  ·simp only[z8,qQ3 e]
  ·simp only[z8,qQ2 e]
 ·rw[aU];rfl
theorem yi(h:x∈kv.map (·.1)\/x=y):x∈(nY kv y d).map (·.1):=by
 rw[EH]
 split
 ·rename_i e
  rcases h with h|rfl
  ·exact h
  ·obtain⟨z,hz,e⟩:=kE.mp e
   exact av.mpr ⟨z,hz,qQ4 e⟩
 ·rcases h with h|rfl
  ·exact dC _ h
  ·exact b0 _ (by simp)
theorem JA(h:(kv.map (·.1)).Nodup):((nY kv y d).map (·.1)).Nodup:=by
 rw[EH]
 split
 ·exact h
 ·rename_i e
  refine cZ.mpr ⟨h,by simp,λa ha b hb z=>?_⟩
  obtain rfl:b=y:=by simpa using hb
  obtain⟨q,hq,rfl⟩:=av.mp ha;exact e (kE.mpr ⟨q,hq,qQ1 z⟩)
def CW(d:aj):Prop:=∃ns:List Int,d=.list (ns.map .int)
def JB(d:aj):Prop:=d=.none\/∃(ns:List Int)(t:Int),d=.tuple [.tuple (ns.map .int),.int t]
theorem xq(lo:Int)(n:Nat):∃ns:List Int,nZ lo n=ns.map .int:=⟨(aZ n).map λ(i:Nat)=>lo+(i:Int),by unfold nZ;rw[aS];rfl⟩
structure Tab(φ:aj->Prop)(kv:List (Str×aj)):Prop where
 nd:(kv.map (·.1)).Nodup
 all:∀q∈kv,φ q.2
theorem Tab.put(h:Tab φ kv)(hd:φ d):Tab φ (nY kv y d):=⟨JA h.nd,λq hq=>by
 rcases PX hq with z|rfl
 ·exact h.all q z
 ·exact hd⟩
theorem Tab.at(h:Tab φ kv)(hx:x∈kv.map (·.1)):∃d,gU kv x=some d/\φ d:=by
 obtain⟨q,hq,rfl⟩:=av.mp hx;exact⟨q.2,L2.lE h.nd q hq,h.all q hq⟩
theorem zL(lo:Int)(n:Nat):CW (.list (nZ lo n)):=by
 obtain⟨ns,e⟩:=xq lo n;exact⟨ns,by rw[e]⟩
theorem MF(cells:List Int)(gates:List Str):∀k,Tab CW (uI cells gates k).2
 |0=>⟨lO,λq h=>by cases h⟩
 |k+1=>(MF cells gates k).put (zL _ _)
theorem MG(cells:List Int)(full:Bool)(lines:List (Str×Int))(h:Tab CW st.2):∀k,Tab CW (rj cells full lines st k).2/\∀j,j<k->(lines.getD j HW).1∈(rj cells full lines st k).2.map (·.1)
 |0=>⟨h,λj hj=>qQ7 hj (Ai _)⟩
 |k+1=>by
  obtain⟨h1,h2⟩:=MG cells full lines h k;refine⟨h1.put (zL _ _),λj hj=>yi ?_⟩
  by_cases e:j=k
  ·subst e;exact .inr rfl
  ·exact .inl (h2 j (by omega))
theorem MH(cells:List Int)(full:Bool)(desks:List Dk)(n:Int):∀k,Tab JB (pq cells full desks n k).2/\∀j,j<k->(desks.getD j CT).name∈(pq cells full desks n k).2.map (·.1)
 |0=>⟨⟨lO,λq h=>by cases h⟩,λj hj=>qQ7 hj (Ai _)⟩
 |k+1=>by
  obtain⟨h1,h2⟩:=MH cells full desks n k;have hk:∀j,j<k+1->(desks.getD j CT).name∈(pq cells full desks n k).2.map (·.1)\/(desks.getD j CT).name=(desks.getD k CT).name:=λj hj=>by
   by_cases e:j=k
   ·subst e;exact .inr rfl
   ·exact .inl (h2 j (by omega))
  show Tab JB (mI _ _ _ _).2/\∀j,j<k+1->_∈(mI _ _ _ _).2.map (·.1)
  unfold mI
  split
  ·obtain⟨ns,e⟩:=xq (pq cells full desks n k).1 (oT (Jy cells k) (desks.getD k CT))
   exact⟨(h1.put (.inl rfl)).put (.inr ⟨ns,_,by rw[e]⟩),λj hj=>yi (.inl (yi (hk j hj)))⟩
  ·exact⟨h1.put (.inl rfl),λj hj=>yi (hk j hj)⟩
def zM(lk:List (Str×aj))(nm:Str):Ld:=match gU lk nm with
 |some (.tuple [.tuple gs,.int t])=>some (gs,t)
 |_=>none
theorem PY{lk:List (Str×aj)}{nm:Str}(h:gU lk nm=some d)(hd:JB d):gU lk nm=some (UD (zM lk nm)):=by
 unfold zM;rw[h];rcases hd with rfl|⟨ns,t,rfl⟩<;>rfl
theorem XA(g:uF p)(cells:List Int)(full:Bool):Tab CW (rm p cells full).2/\Tab JB (ED p cells full).2/\MC p (rm p cells full).2 (ED p cells full).2 (zM (ED p cells full).2):=by
 obtain⟨a1,a2⟩:=MG cells full p.lines (MF cells p.gates p.gates.length) p.lines.length;obtain⟨b1,b2⟩:=MH cells full p.desks (rm p cells full).1 p.desks.length;refine⟨a1,b1,⟨λd hd=>?_,λd hd hn=>?_⟩⟩
 ·obtain⟨j,hj,rfl⟩:=tV.mp hd
  have:=b2 j hj;rw[show p.desks.getD j CT=p.desks[j]from by rw[aD,aq hj];rfl]at this
  obtain⟨z,hz,iz⟩:=b1.at this;exact PY hz iz
 ·obtain⟨_,_,Uv⟩:=g.dk d hd
  rcases Uv with e|⟨r,hr,_⟩
  ·exact qQ7 e hn
  ·obtain⟨j,hj,ej⟩:=tV.mp hr
   have:=a2 j hj;rw[show p.lines.getD j HW=p.lines[j]from by rw[aD,aq hj];rfl,ej]at this
   obtain⟨z,hz,ns,rfl⟩:=a1.at this;have F3:((jE p).map (·.1)).Nodup:=by rw[kr];exact(cZ.mp g.pn).2.1
   exact⟨_,r,hz,L2.lE F3 (d.to,fN r) (av.mpr ⟨_,hr,rfl⟩)⟩
theorem MJ(ns:List Int):∀d∈ns.map fN,qT d:=λd hd=>by
 obtain⟨i,_,rfl⟩:=av.mp hd;exact .int i
theorem CW.V4(h:CW d):qT d:=by
 obtain⟨ns,rfl⟩:=h;exact .lst (MJ ns)
theorem CW.lay(h:CW d):Lay 20 d:=by
 obtain⟨ns,rfl⟩:=h;exact oN (n:=19) λd hd=>by obtain⟨i,_,rfl⟩:=av.mp hd;exact cu _ i
theorem JB.lay(h:JB d):Lay 20 d:=by
 rcases h with rfl|⟨ns,t,rfl⟩
 ·exact N_ _
 ·refine x8 (n:=19) λd hd=>?_
  rcases aG.mp hd with rfl|hd
  ·exact x8 (n:=18) λd hd=>by obtain⟨i,_,rfl⟩:=av.mp hd;exact cu _ i
  ·obtain rfl:d=.int t:=by simpa using hd
   exact cu _ t
theorem MK(cells:List Int)(gates:List Str):∀k,(uI cells gates k).2.length<=k
 |0=>ay _
 |k+1=>cp (qN _ _ _) (qW (MK cells gates k))
theorem ML(cells:List Int)(full:Bool)(lines:List (Str×Int))(st:Jx):∀k,(rj cells full lines st k).2.length<=st.2.length+k
 |0=>ay _
 |k+1=>cp (qN _ _ _) (qW (ML cells full lines st k))
theorem TN(hp:jD p)(cells:List Int)(full:Bool):(rm p cells full).2.length<=120:=by
 have h1:=ML cells full p.lines (vI p cells) p.lines.length;have h2:=MK cells p.gates p.gates.length;have h3:=hp.gn;have h4:=hp.ln;unfold rm;have h5:(vI p cells).2.length<=p.gates.length:=h2;omega
theorem JC(p:Pl)(pk:List (Str×aj))(L:Str->Ld)(time:Int):(hU p pk L time).length<=p.desks.length:=by
 unfold hU;rw[ai];exact List.length_filter_le _ _
theorem zN(hp:jD p)(pk:List (Str×aj))(L:Str->Ld)(time:Int):∀x∈hU p pk L time,lN x:=λx hx=>by
 obtain⟨d,hd,rfl⟩:=av.mp hx;exact(hp.desks d (iQ.mp hd).1).1.ok.2
def Yz(pk:List (Str×aj)):aj->Option aj
 | .str x=>(gU pk x).map λv=>.tuple [.str x,v]
 |_=>none
theorem MN(h:(pk.map (·.1)).Nodup):∀l:List (Str×aj),(∀q∈l,q∈pk)->(l.map λq=>aK q.1).filterMap (Yz pk)=l.map L2.pairD
 | [],_=>rfl
 |q::l,hl=>by
  rw[aH,cX (f:=Yz pk) (b:=L2.pairD q) (by show(gU pk q.1).map _=_;rw[L2.lE h q (hl q aL)];rfl),MN h l (λz hz=>hl z (aT _ hz))]
  rfl
section
variable{P:bK}{w:cB}{K:au}{mg:Str->Option aE}{base:dg}{f:aR}{k:Nat}
abbrev XB:List Str:=["_law_h","_law_places","_law_loads","_law_time"]
theorem XC:cC XB XB (bC (top 57)):=⟨rfl,rfl,rfl,by symm,rfl,by symm,by symm⟩
def Rsu(ds es:List aj):Prop:=∃(p:Pl)(pk lk:List (Str×aj))(L:Str->Ld)(time:Int),ds=[dZ p,cF pk,cF lk,.int time]/\jD p/\(p.lines.map (·.1)).Nodup/\MC p pk lk L/\es=(hU p pk L time).map .str
theorem zbh(F:k9 K "_law_shut" "_law_shut" (top 57) f fd)(C1:bD P w K mg base 1 "_law_is_shut" ["_law_h","_law_places","_law_loads","_law_time","_law_desk"] (g_ K Rsh)):ft P w K mg base jP 2 f fd XB (Ba K Rsu):=
 FK F XC (λ_ _ h=>by obtain⟨_,_,_,_,_,rfl,_⟩:=h;rfl) λ_ _ h=>by
  obtain⟨p,pk,lk,L,time,rfl,hp,F3,hL,rfl⟩:=h;intro fV A outer s H E hr;have nc:(["_law_desk","_law_h","_law_places","_law_loads","_law_time"]:List Str).Nodup:=by symm
  have FU:=hp.dn;refine a_ (sU (VO.to (fD (own:=["_law_desk"]) (cap:=[0,1,2,3]) (N:=["_law_desk","_law_h","_law_places","_law_loads","_law_time"]) (tgt:=.one 0) (F:=UE p pk L time) (ds:=p.desks.map cn) rfl ⟨rfl,by symm,by symm,rfl,rfl,?_⟩ (g8 (fE hr (ae 0 rfl) aN (oh p))) (λf s3 H3=>bL (i:=0) nc rfl (a7 rfl)) rfl
   (small (by rw[ai];omega)) (λd hd=>?_)) (CV p pk L time p.desks)))
  ·intro j hj
   simp only[aG,bu,or_false]at hj;rcases hj with rfl|rfl|rfl|rfl
   ·exact⟨(by show(0:Nat)<4;decide),a7 rfl,rfl⟩
   ·exact⟨(by show(1:Nat)<4;decide),a7 rfl,rfl⟩
   ·exact⟨(by show(2:Nat)<4;decide),a7 rfl,rfl⟩
   ·exact⟨(by show(3:Nat)<4;decide),a7 rfl,rfl⟩
  ·obtain⟨z,hz,rfl⟩:=av.mp hd
   refine⟨_,rfl,λf s3 H3=>?_,λr iP f s3 H3=>?_⟩
   ·refine oK (VT.to (iD (bH C1 hr (ao (ae 1 rfl) (ao (ae 2 rfl) (ao (ae 3 rfl) (ao (ae 4 rfl) (ao (ae 0 rfl) aQ))))) ⟨p,pk,lk,L,time,z,rfl,F3,MD hp hz,hL.to z hz,hL.at_ z hz,rfl⟩) rfl) ?_)
    rw[wI];cases vJ p pk time z.to (L z.name)<;>rfl
   ·rw[wI]at iP
    split at iP
    ·cases iP;exact bT (ae 0 rfl) ax (bE (j:=0) rfl)
    ·cases iP
abbrev Q6:List Str:=["_law_found","_law_due"]
theorem XD:cC Q6 Q6 (bC (top 59)):=⟨rfl,rfl,rfl,by symm,rfl,by symm,by symm⟩
def Rtx(ds:List aj)(d:aj):Prop:=∃ts:List Str,ds=[cV ts,cV ts]/\ts.length<=1000/\(∀x∈ts,lN x)/\d=.bool true
theorem zbi(F:k9 K "_law_texts" "_law_texts" (top 59) f fd)(n:Na mg)(kt:Ka K)(mz:mg "zip"=none):ft P w K mg base jP 1 f fd Q6 (g_ K Rtx):=
 jR F XD (λ_ _ h=>by obtain⟨_,rfl,_⟩:=h;rfl) λ_ _ h=>by
  obtain⟨ts,rfl,hl,ho,rfl⟩:=h;intro fV A outer s H E hr;have nc:(["_law_one","_law_other"]:List Str).Nodup:=by symm
  refine aJ (bX (VT.to (j_ (k1:=false) (k2:=false) (VT.to (nS (iD (B8 (tn:="list") (ae 0 rfl) rfl kt.ll rfl n.X' n.lst rfl) rfl)) rfl) (λ_=>VT.to (qQ hr (cu 20 _) (cu 20 _) (jA (ds:=ts.map .str) (ae 0 rfl) n.len) (jA (ds:=ts.map .str) (ae 1 rfl) n.len)) (by rw[jX,qQ1 rfl];rfl))) rfl) bM) ?_
  refine a_ (cg (VE.to (jG (pL rfl) Be (ao (VO.ve (VO.to (fD (own:=["_law_one","_law_other"]) (cap:=[]) (N:=["_law_one","_law_other"]) (cl:=[]) (tgt:=.tup [0,1]) (F:=Yj) (ds:=xI (ts.map .str) (ts.map .str)) rfl ⟨rfl,by symm,by symm,rfl,rfl,by simp⟩ (Cb .lst .lst (ae 0 rfl) (ae 1 rfl) mz) (λf s3 H3=>gB rfl (bU (bL (i:=0) nc rfl (a7 rfl)) (bU (bL (i:=1) nc rfl (a7 rfl)) fh))) rfl
   (small (by rw[sr];simp only[ai];omega)) (λd hd=>?_)) (Cy _))) aQ) n.all rfl) (by rw[Bl])))
  obtain⟨i,hi⟩:=List.getElem?_of_mem hd
  obtain⟨x,y,h1,h2,rfl⟩:=DY hi;rw[h1]at h2;cases h2;rw[aI]at h1;cases hx:ts[i]? with
  |none=>rw[hx]at h1;cases h1
  |some t=>
   rw[hx]at h1;cases h1;have ot:=ho t (bw hx);refine⟨_,rfl,λf s3 H3=>f9,λr iP f s3 H3=>?_⟩
   cases iP;exact VE.to (lB (k1:=true) (B8 (tn:="str") (ae 0 rfl) rfl kt.ss rfl n.X' n.str rfl) (λ_=>jS (VE.to (oJ hr (bB ot) (bB ot) (ae 0 rfl) (ae 1 rfl)) (by rw[bO,qQ1 rfl])))) rfl
end
theorem CY(m:Int)(many:Nat):1<=ck (jj m many) many:=by
 have a1:0<=m/6%4:=a8 _ (by decide)
 unfold jj
 split
 ·rename_i h;show(1:Int)<=many;omega
 split
 ·show 1<=1+m/6%4;omega
 split
 ·show 1<=1+m/6%4;omega
 split
 ·show(1:Int)<=1;omega
 split
 ·show(1:Int)<=1;omega
 ·show(1:Int)<=1;omega
theorem PZ(ns:List Int):PN (eG ns):=by
 have ok:=CD ns;obtain⟨g1,g3⟩:=h_ (bP ns);obtain⟨p1,p6⟩:=iJ (bP ns);have IU:(orderOf (bP ns)).length=(placesOf (bP ns)).length:=by
  unfold orderOf;rw[aY,b_,b9];have:=mj (bP ns) (n:=(placesOf (bP ns)).length) (by omega)
  omega
 have Ed:∀d∈bQ (fz ns) (orderOf (bP ns)) (linesOf (bP ns)),_:=λd hd=>ye (by omega) (by omega) hd
 have Qg:∀d∈bQ (fz ns) (orderOf (bP ns)) (linesOf (bP ns)),1<=ck d.rule d.places.length:=λd hd=>by
  obtain⟨k,hk,rfl⟩:=av.mp hd;exact CY _ _
 refine⟨ok.gn,ok.ln,ok.dn,λq hq=>?_,λd hd=>?_⟩
 ·obtain⟨k,hk,rfl⟩:=av.mp hq
  have mo:=og (gX (bQ (fz ns) (orderOf (bP ns)) (linesOf (bP ns))) ((linesOf (bP ns)).getD k ""));have mb:maxOf (gX (bQ (fz ns) (orderOf (bP ns)) (linesOf (bP ns))) ((linesOf (bP ns)).getD k ""))<=12:=by
   rcases aG.mp mo.1 with h|h
   ·rw[h];decide
   ·obtain⟨d,hd,he⟩:=jJ.mp h
    split at he
    ·rw[<-cR he];exact(Ed d hd).2.2.2.2.2
    ·cases he
  have ml:=mo.2 1 aL;have a1:0<=cq (bP ns) (20+k)%3:=a8 _ (by decide)
  have a2:cq (bP ns) (20+k)%3<3:=bo _ (by decide)
  show 0<=maxOf (gX _ _)+cq (bP ns) (20+k)%3/\maxOf (gX _ _)+cq (bP ns) (20+k)%3<=100;omega
 ·have h1:=Qg d hd
  obtain⟨_,_,_,h2,_,h3⟩:=Ed d hd;exact⟨h1,by omega,by omega⟩
theorem XE(cell:Int):PN (gE cell):=by
 have ok:=Mw cell;refine⟨ok.gn,ok.ln,ok.dn,λq hq=>?_,λd hd=>?_⟩
 ·obtain⟨k,hk,rfl⟩:=av.mp hq
  have g:=sH cell ((k+(fP cell-1))%fP cell);show 0<=ck (kC cell ((k+(fP cell-1))%fP cell)) 2+vQ cell/64/((k:Int)+1)%2/\ck (kC cell ((k+(fP cell-1))%fP cell)) 2+vQ cell/64/((k:Int)+1)%2<=100;have a1:0<=vQ cell/64/((k:Int)+1)%2:=a8 _ (by decide)
  have a2:vQ cell/64/((k:Int)+1)%2<2:=bo _ (by decide)
  omega
 ·obtain⟨k,hk,rfl⟩:=yg hd
  have g:=sH cell k;have l:(iq cell k).places.length=2:=(zG cell k).1;rw[l];show 1<=ck (kC cell k) 2/\ck (kC cell k) 2<=100/\2<=60;omega
structure MP(p:Pl):Prop where
 ok:jD p
 gd:uF p
 fl:PN p
 kn:p.kinds≠[]
 tx:vm (mF p)
theorem TQ(ns:List Int):MP (eG ns):=⟨CD ns,Jv ns,PZ ns,(Gr ns).1,Jw ns⟩
theorem TV(cell:Int):MP (gE cell):=⟨Mw cell,PJ cell,XE cell,by show tG cell≠[];unfold tG;simp,PK cell⟩
def Bv(ns:List Int)(m:Int):Pl:=if m%3=0 then gE m else eG ns
theorem MQ(l:List Int):qT (iX l):=.lst λd hd=>by obtain⟨i,_,rfl⟩:=av.mp hd;exact .int i
theorem P0(l:List Str):qT (cV l):=.lst λd hd=>by obtain⟨i,_,rfl⟩:=av.mp hd;exact .str i
theorem HY(o:Option Int):qT (m9 o):=by cases o with|none=>exact .non|some i=>exact .int i
theorem JD(l:List (Str×Int×Int)):qT (.list (l.map pQ)):=.lst λd hd=>by
 obtain⟨q,_,rfl⟩:=av.mp hd;refine .tup λd hd=>?_
 simp only[aG,bu,or_false]at hd;rcases hd with rfl|rfl|rfl
 ·exact .str _
 ·exact .int _
 ·exact .int _
theorem EI(r:Rl):qT (za r):=by
 refine .tup λd hd=>?_
 rcases aG.mp hd with rfl|hd
 ·exact .str _
 ·cases r with
  |turns s=>
   rw[aV.mp hd];exact .tup λd hd=>by obtain⟨i,_,rfl⟩:=av.mp hd;exact .int i
  |eldest=>cases hd
  |rank b=>rw[aV.mp hd];exact HY b
  |many m=>rw[aV.mp hd];exact .int _
  |gather m a=>
   rcases aG.mp hd with rfl|hd
   ·exact .int _
   ·rw[aV.mp hd];exact .int _
  |meet=>cases hd
theorem pW(p:Pl):∀q∈eE p,qT q.2:=by
 intro q hq;unfold eE at hq;simp only[aG,bu,or_false]at hq;rcases hq with rfl|rfl|rfl|rfl|rfl|rfl|rfl
 ·refine .lst λd hd=>?_
  obtain⟨k,_,rfl⟩:=av.mp hd;refine .tup λd hd=>?_
  simp only[aG,bu,or_false]at hd;rcases hd with rfl|rfl
  ·exact .str _
  ·exact HY _
 ·exact P0 _
 ·refine .lst λd hd=>?_
  obtain⟨k,_,rfl⟩:=av.mp hd;refine .tup λd hd=>?_
  simp only[aG,bu,or_false]at hd;rcases hd with rfl|rfl
  ·exact .str _
  ·exact .int _
 ·refine .lst λd hd=>?_
  obtain⟨k,_,rfl⟩:=av.mp hd;refine .tup λd hd=>?_
  simp only[aG,bu,or_false]at hd;rcases hd with rfl|rfl|rfl|rfl
  ·exact .str _
  ·exact .str _
  ·exact EI _
  ·exact .tup λd hd=>by obtain⟨i,_,rfl⟩:=av.mp hd;exact .str i
 ·refine .lst λd hd=>?_
  obtain⟨k,_,rfl⟩:=av.mp hd;refine .tup λd hd=>?_
  simp only[aG,bu,or_false]at hd;rcases hd with rfl|rfl|rfl
  ·exact .str _
  ·exact .str _
  ·exact .int _
 ·exact JD _
 ·exact .lst λd hd=>by cases hd
def Q7(K:au):Sp:=λvs H Q _=>∃(a:aR)(ns:List Int),vs=[.ref a]/\kW K H a (ns.map V.int)/\ns.length<=63/\∀H',Q (.bl true) H'
theorem tJ{H:Hp}:∀ns:List Int,cy K H (ns.map V.int) (ns.map fN)
 | []=>.nil
 |n::ns=>.cons (.int n) (tJ ns)
theorem law_small{H:Hp}{a:aR}(h:kW K H a (ns.map V.int)):∃H0,dv H0 H/\cy K H0 [.ref a] [iX ns]/\∀b kvs,H0 b≠some (.dK kvs):=by
 rcases h with(h|⟨o,h⟩)|h
 ·refine⟨λq=>if q=a then H q else none,λb o e=>?_,.cons (.lst (.inl (.inl (by show(if a=a then H a else none)=_;rw[qQ3 rfl];exact h))) (tJ ns)) .nil,λb kvs e=>?_⟩
  ·by_cases hb:b=a
   ·have e':(if b=a then H b else none)=some o:=e
    rw[qQ3 hb]at e';exact e'
   ·have e':(if b=a then H b else none)=some o:=e
    rw[qQ2 hb]at e';cases e'
  ·have e':(if b=a then H b else none)=some (HO.dK kvs):=e
   by_cases hb:b=a
   ·rw[qQ3 hb,hb,h]at e';cases e'
   ·rw[qQ2 hb]at e';cases e'
 ·refine⟨λq=>if q=a then H q else none,λb o e=>?_,.cons (.lst (.inl (.inr ⟨o,by show(if a=a then H a else none)=_;rw[qQ3 rfl];exact h⟩)) (tJ ns)) .nil,λb kvs e=>?_⟩
  ·by_cases hb:b=a
   ·have e':(if b=a then H b else none)=some o:=e
    rw[qQ3 hb]at e';exact e'
   ·have e':(if b=a then H b else none)=some o:=e
    rw[qQ2 hb]at e';cases e'
  ·have e':(if b=a then H b else none)=some (HO.dK kvs):=e
   by_cases hb:b=a
   ·rw[qQ3 hb,hb,h]at e';cases e'
   ·rw[qQ2 hb]at e';cases e'
 ·exact⟨λ_=>none,(λb o e=>by cases e),.cons (.lst (.inr h) (tJ ns)) .nil,(λb kvs e=>by cases e)⟩
def iN(p:Pl)(x:Str):List Str:=(p.desks.filter λd=>decide (d.name=x)).map (·.to)
def pX(p:Pl)(x:Str):Option Str:=((iK p ((iN p x).headD "")).map (·.name)).head?
def dW(p:Pl)(x:Str):Nat->Str
 |0=>x
 |k+1=>(pX p (dW p x k)).getD ""
def dF(p:Pl)(x:Str)(k:Nat):List Str:=(aZ (k+1)).map (dW p x)
theorem Gv(p:Pl)(x:Str):dF p x 0=[x]:=rfl
theorem ou(p:Pl)(x:Str)(k:Nat):dF p x (k+1)=dF p x k ++ [dW p x (k+1)]:=by
 unfold dF;rw[g7,aU];rfl
theorem zO(p:Pl)(x:Str)(k:Nat):∃l,dF p x k=l ++ [dW p x k]:=by
 unfold dF;rw[g7,aU];exact⟨_,rfl⟩
theorem tK(p:Pl)(x:Str)(k:Nat):(dF p x k).length=k+1:=by unfold dF;rw[ai,bW]
def goes(p:Pl)(hs:List Str)(x:Str)(k:Nat):Prop:=∃t,pX p (dW p x k)=some t/\t∉dF p x k/\t∈hs
theorem goes.last(h:goes p hs x k):pX p (dW p x k)=some (dW p x (k+1))/\dW p x (k+1)∉dF p x k/\dW p x (k+1)∈hs:=by
 obtain⟨t,h1,h2,h3⟩:=h;have e:dW p x (k+1)=t:=by show(pX p (dW p x k)).getD ""=t;rw[h1];rfl
 rw[e];exact⟨h1,h2,h3⟩
structure Way(p:Pl)(hs:List Str)(x:Str)(m:Nat):Prop where
 on:∀k,k<m->goes p hs x k
 off:¬goes p hs x m
 few:m<p.desks.length
theorem zP(hx:x∈hs):∀{n:Nat},(∀k,k<n->goes p hs x k)->∀k,k<=n->dW p x k∈hs
 |_,_,0,_=>hx
 |n,h,k+1,hk=>(h k (by omega)).last.2.2
theorem Bw:∀{n:Nat},(∀k,k<n->goes p hs x k)->(dF p x n).Nodup
 |0,_=>by rw[Gv];simp
 |n+1,h=>by
  rw[ou];refine cZ.mpr ⟨Bw λk hk=>h k (by omega),by simp,λa ha b hb z=>?_⟩
  obtain rfl:b=dW p x (n+1):=by simpa using hb
  exact(h n (by omega)).last.2.1 (by rw[<-z];exact ha)
theorem yj(hx:x∈hs){n:Nat}(h:∀k,k<n->goes p hs x k):∀y∈dF p x n,y∈hs:=λy hy=>by
 obtain⟨k,hk,rfl⟩:=av.mp hy;exact zP hx h k (by have:=cL.mp hk;omega)
theorem EJ{α:Type}[DecidableEq α]:∀{l r:List α},l.Nodup->(∀x∈l,x∈r)->l.length<=r.length
 | [],_,_,_=>bF _
 |x::l,r,h,hs=>by
  have hx:=hs x aL;have ih:=EJ (l:=l) (r:=r.erase x) (eX.mp h).2 λy hy=>(List.mem_erase_of_ne (λe=>by subst e;exact(eX.mp h).1 hy)).mpr (hs y (aT _ hy))
  rw[List.length_erase_of_mem hx]at ih;have:=List.length_pos_of_mem hx;rw[bJ];omega
theorem TX(hx:x∈hs)(hd:∀y∈hs,y∈p.desks.map (·.name)):∃m,Way p hs x m:=by
 have zbj:∀n,(∃m,m<n/\(∀k,k<m->goes p hs x k)/\¬goes p hs x m)\/∀k,k<n->goes p hs x k:=by
  intro n
  induction n with
  |zero=>exact .inr λk hk=>qQ7 hk (Ai _)
  |succ n ih=>
   rcases ih with⟨m,h1,h2,h3⟩|h
   ·exact .inl ⟨m,by omega,h2,h3⟩
   ·by_cases g:goes p hs x n
    ·refine .inr λk hk=>?_
     by_cases e:k=n
     ·subst e;exact g
     ·exact h k (by omega)
    ·exact .inl ⟨n,by omega,h,g⟩
 rcases zbj p.desks.length with⟨m,h1,h2,h3⟩|h
 ·exact⟨m,h2,h3,h1⟩
 ·exfalso
  have nd:=Bw h;have Am:∀y∈dF p x p.desks.length,y∈p.desks.map (·.name):=λy hy=>hd y (yj hx h y hy)
  have:=EJ nd Am;rw[tK,ai]at this;omega
def jm(p:Pl)(x:Str)(m:Nat):Str×List Str:=match pX p (dW p x m) with
 |none=>("none",dF p x m)
 |some t=>if t∈dF p x m then("ring",(dF p x m).drop ((dF p x m).findIdx λy=>decide (y=t))) else("waits",dF p x m ++ [t])
theorem pY{t: Str}(h:pX p x=some t):∃d∈p.desks,d.name=t:=by
 unfold pX at h;cases e:iK p ((iN p x).headD "") with
 |nil=>rw[e]at h;cases h
 |cons d l=>
  rw[e]at h;have:d∈iK p ((iN p x).headD ""):=by rw[e];exact aL
  exact⟨d,(iQ.mp this).1,by simpa using h⟩
theorem P1(p:Pl)(x:Str)(m:Nat):(jm p x m).2.length<=m+2:=by
 have:=tK p x m;unfold jm
 split
 ·show(dF p x m).length<=_;omega
 ·split
  ·show((dF p x m).drop _).length<=_;rw[b_];omega
  ·show(dF p x m ++ [_]).length<=_;rw[aY];simp;omega
theorem MR(hp:jD p)(x:Str):lN ((iN p x).headD ""):=by
 cases e:iN p x with
 |nil=>show cx _=true;symm
 |cons y l=>
  have:y∈iN p x:=by rw[e];exact aL
  obtain⟨d,hd,rfl⟩:=av.mp this;exact MD hp (iQ.mp hd).1
theorem TY(h:x∈p.desks.map (·.name)):iN p x≠[]:=by
 obtain⟨d,hd,rfl⟩:=av.mp h;intro z;have:=List.map_eq_nil_iff.mp z;have h2:=E3.mp this d hd;exact h2 (qQ1 rfl)
theorem MS(h:x∈p.desks.map (·.name)):(iN p x)[0]?=some ((iN p x).headD ""):=by
 cases e:iN p x with
 |nil=>exact qQ7 e (TY h)
 |cons y l=>rfl
def JF(x:Str):aj->Option aj
 | .tuple (.str n :: .str t::_)=>if n=x then some (.str t)else none
 |_=>none
theorem tL(x:Str)(d:Dk):JF x (cn d)=if d.name=x then some (.str d.to)else none:=rfl
theorem vK(x:Str):∀l:List Dk,(l.map cn).filterMap (JF x)=((l.filter λd=>decide (d.name=x)).map (·.to)).map .str
 | []=>rfl
 |d::l=>by
  rw[aH,jv];by_cases h:d.name=x
  ·rw[cX (f:=JF x) (b:=.str d.to) (by rw[tL,qQ3 h]),vK x l,qQ3 (qQ1 h)];rfl
  ·rw[eP (f:=JF x) (by rw[tL,qQ2 h]),vK x l,qQ2 (by rw[qQ0 h];decide)]
theorem iu(h:∀x∈l,lN x):Lay 20 (.list (l.map aK)):=oN (n:=19) λd hd=>by
 obtain⟨y,hy,rfl⟩:=av.mp hd;exact bB (h y hy)
theorem MT{t:Str}(h:t∈l):(∃hj:(l.findIdx λy=>decide (y=t))<(l.map aK).length,cI ((l.map aK)[l.findIdx λy=>decide (y=t)]) (.str t)=true)/\∀m (hm:m<(l.map aK).length),m<(l.findIdx λy=>decide (y=t))->cI ((l.map aK)[m]) (.str t)=false:=by
 have hl:(l.findIdx λy=>decide (y=t))<l.length:=List.findIdx_lt_length_of_exists ⟨t,h,qQ1 rfl⟩
 refine⟨⟨by rw[ai];exact hl,?_⟩,λm hm nR=>?_⟩
 ·rw[qP,bO]
  exact List.findIdx_getElem (w:=hl)
 ·rw[qP,bO]
  exact List.not_of_lt_findIdx nR
section
variable{P:bK}{w:cB}{K:au}{mg:Str->Option aE}{base:dg}{f:aR}{k:Nat}
abbrev Ntb:List Str:=["plant","name","lines","takers"]
theorem Q8:cC Ntb ["plant","name"] (bC (top 41)):=⟨rfl,rfl,rfl,by symm,rfl,by symm,by symm⟩
def Rtb(ds:List aj)(d:aj):Prop:=∃(p:Pl)(x:Str),ds=[fM p,.str x]/\jD p/\lN x/\x∈p.desks.map (·.name)/\d=.str ((pX p x).getD "")
theorem zbl(F:k9 K "taker_behind" "taker_behind" (top 41) f fd)(C1:bD P w K mg base 1 "takers_of" Xe (Ba K Rit)):ft P w K mg base jP 2 f fd ["plant","name"] (g_ K Rtb):=
 jR F Q8 (λ_ _ h=>by obtain⟨_,_,rfl,_⟩:=h;rfl) λ_ _ h=>by
  obtain⟨p,x,rfl,hp,ox,hx,rfl⟩:=h;intro fV A outer s H E hr;have nd:Ntb.Nodup:=Q8.nd;have nc:(["desk","name"]:List Str).Nodup:=by symm
  have FU:=hp.dn;refine aJ (vf 2 (own:=["desk"]) (cap:=[1]) (N:=["desk","name"]) (tgt:=.one 0) (F:=JF x) (ds:=p.desks.map cn) rfl ⟨rfl,by symm,by symm,rfl,rfl,?_⟩ (g8 (m8 (ae 0 rfl) (vA p))) (λf s3 H3=>bL (i:=0) nc rfl (a7 rfl)) rfl
   (small (by rw[ai];omega)) (λd hd=>?_) nd) ?_
  ·intro j hj
   obtain rfl:j=1:=by simpa using hj
   exact⟨(by show(1:Nat)<4;decide),a7 rfl,rfl⟩
  ·obtain⟨z,hz,rfl⟩:=av.mp hd
   refine⟨_,rfl,λf s3 H3=>?_,λr iP f s3 H3=>?_⟩
   ·refine oK (VT.to (bR hr (bB (hp.desks z hz).1.ok.2) (bB ox) (bT (d:=.str z.name) (ae 0 rfl) ax (bE (j:=0) rfl)) (ae 1 rfl)) ?_)
    rw[bO,tL];by_cases h:z.name=x
    ·rw[qQ3 h,qQ1 h];rfl
    ·rw[qQ2 h,qQ0 h];rfl
   ·rw[tL]at iP
    split at iP
    ·cases iP;exact bT (ae 0 rfl) ax (bE (j:=1) rfl)
    ·cases iP
  rw[vK];refine eu 2 rfl ?_
  have h0:((iN p x).map aK)[0]?=some (.str ((iN p x).headD "")):=by rw[aI,MS hx];rfl
  refine aJ (cA 3 (d:=.list ((iK p ((iN p x).headD "")).map cn)) (VO.ve (ko C1 hr (ao (ae 0 rfl) (ao (fj (ds:=(iN p x).map .str) (ae 2 rfl) ax (bE (j:=0) h0)) aQ)) ⟨p,(iN p x).headD "",rfl,hp,MR hp x,rfl⟩)) nd) ?_
  show pC _ _ _ (.rt (.str ((((iK p ((iN p x).headD "")).map (·.name)).head?).getD "")))
  cases iK p ((iN p x).headD "") with
  |nil=>exact a_ (cg (v7 (k:=false) (VT.to (iD (ae 3 rfl) rfl) rfl) (λz=>by cases z) (λ_=>aN)))
  |cons d l=>exact a_ (cg (v7 (k:=true) (VT.to (iD (ae 3 rfl) rfl) rfl) (λ_=>bT (ds:=[.str d.name,.str d.to,za d.rule,.tuple (d.places.map .str)]) (fj (ds:=(d::l).map cn) (ae 3 rfl) ax (bE (j:=0) rfl)) ax (bE (j:=0) rfl)) (λz=>by cases z)))
abbrev XF:List Str:=["plant","places","loads","time","desk","halted","met","taker"]
theorem Q9:cC XF ["plant","places","loads","time","desk"] (bC (top 39)):=⟨rfl,rfl,rfl,by symm,rfl,by symm,by symm⟩
def Rch(K:au)(ds:List aj)(U:UR):Prop:=∃(p:Pl)(pk lk:List (Str×aj))(L:Str->Ld)(time:Int)(x:Str)(m:Nat),ds=[fM p,cF pk,cF lk,.int time,.str x]/\jD p/\MC p pk lk L/\x∈hU p pk L time/\Way p (hU p pk L time) x m/\U=uT K (jm p x m).1 ((jm p x m).2.map .str)
theorem sJ{L:Str->Ld}{time:Int}(h:y∈hU p pk L time):y∈p.desks.map (·.name):=by
 obtain⟨d,hd,rfl⟩:=av.mp h;exact av.mpr ⟨d,(iQ.mp hd).1,rfl⟩
theorem sL(hp:jD p)(h:y∈p.desks.map (·.name)):lN y/\y≠"":=by
 obtain⟨d,hd,rfl⟩:=av.mp h;refine⟨(hp.desks d hd).1.ok.2,λz=>?_⟩
 have:=(hp.desks d hd).1.1;rw[z]at this;exact qQ7 this (by symm)
theorem zbn(F:k9 K "chain_of" "chain_of" (top 39) f fd)(C1:bD P w K mg base 3 "stopped" Yy (Ba K Rst))(C2:bD P w K mg base 2 "taker_behind" ["plant","name"] (g_ K Rtb)):ft P w K mg base jP 4 f fd ["plant","places","loads","time","desk"] (Yf K (Rch K)):=
 zad F Q9 (λ_ _ h=>by obtain⟨_,_,_,_,_,_,_,rfl,_⟩:=h;rfl) λ_ _ h=>by
  obtain⟨p,pk,lk,L,time,x,m,rfl,hp,hL,hx,W,rfl⟩:=h;intro fV A outer s H E hr;have nd:XF.Nodup:=Q9.nd;have E8:e8 2 _:=hr.mono (by omega)
  have FU:=hp.dn;have E_:=zN hp pk L time;have XG:∀y∈hU p pk L time,y∈p.desks.map (·.name):=λy hy=>sJ hy
  refine aJ (cA 5 (d:=cV (hU p pk L time)) (VO.ve (ko C1 hr (ao (ae 0 rfl) (ao (ae 1 rfl) (ao (ae 2 rfl) (ao (ae 3 rfl) aQ)))) ⟨p,pk,lk,L,time,rfl,hp,hL,rfl⟩)) nd) ?_
  generalize hU p pk L time=hs at *
  refine aJ (kP 6 (ds:=[.str x]) (fe (ao (ae 4 rfl) aQ)) nd) ?_
  obtain⟨J2,T1,XH⟩:=W;have IC:=zP hx J2;have mL:∀k,k<=m->∀y∈dF p x k,lN y:=λk hk y hy=>E_ y (yj hx (λj hj=>J2 j (by omega)) y hy)
  have UG:∀k,nQ ((dF p x k).map aK) (-1)=some (.str (dW p x k)):=λk=>by
   obtain⟨l,e⟩:=zO p x k;rw[e,aU];exact yA _ _
  have hd1:∀k tk,lN (dW p x k)->VT (pG jP P w K mg base XF "chain_of" (bC (top 39)) f fV A outer s H E).Dq (LD (fZ (top 39)) 2) [.val (fM p),.val (cF pk),.val (cF lk),.val (.int time),.val (.str x),.val (cV hs),.own ((dF p x k).map .str),tk] (decide (dW p x k∈hs)):=λk tk ok=>
   VT.to (yK hr rfl (bB ok) (iu E_) (sV 6 (d:=.str (dW p x k)) rfl (fj (ds:=(dF p x k).map .str) (ae 6 rfl) (yP ax) (UG k)) rfl) (ae 5 rfl)) (ik _ _)
  have Wv:∀k,dW p x k∈hs->Rtb [fM p,.str (dW p x k)] (.str ((pX p (dW p x k)).getD "")):=λk hk=>⟨p,_,rfl,hp,E_ _ hk,XG _ hk,rfl⟩
  have turn:∀k t,k<=m->dW p x k∈hs->pX p (dW p x k)=some t->t∉dF p x k->pC (pG jP P w K mg base XF "chain_of" (bC (top 39)) f fV A outer s H E).Dq (suite (fZ (top 39)) 2) [.val (fM p),.val (cF pk),.val (cF lk),.val (.int time),.val (.str x),.val (cV hs),.own ((dF p x k).map .str),.un] (.nx [.val (fM p),.val (cF pk),.val (cF lk),.val (.int time),.val (.str x),.val (cV hs),.own ((dF p x (k+1)).map .str),.un]):=λk t hk h1 h2 h3=>by
   obtain⟨d,hd,rfl⟩:=pY h2;obtain⟨o1,o2⟩:=sL hp (av.mpr ⟨d,hd,rfl⟩);have el:dW p x (k+1)=d.name:=by show(pX p (dW p x k)).getD ""=_;rw[h2];rfl
   have ml:=tK p x k;refine aJ (cA 7 (d:=.str d.name) (VE.to (bH C2 E8 (ao (ae 0 rfl) (ao (sV 6 (d:=.str (dW p x k)) rfl (fj (ds:=(dF p x k).map .str) (ae 6 rfl) (yP ax) (UG k)) rfl) aQ)) (Wv k h1)) (by rw[h2];rfl)) nd) ?_
   refine aJ (bX (VT.to (bR hr (bB o1) aW (ae 7 rfl) aN) (by rw[bO];exact qQ0 o2)) bM) ?_
   refine aJ (bX (Hf 6 rfl (VT.to (yK hr rfl (bB o1) (iu (mL k hk)) (ae 7 rfl) (ae 6 rfl)) (by rw[ik];exact qQ0 h3))) bM) ?_
   refine jC (a_ (iF 6 rfl (ae 7 rfl) (gj (by rw[ai];omega)))) ⟨.inr rfl,.inr rfl,.inr rfl,.inr rfl,.inr rfl,.inr rfl,.inr ?_,.inl rfl,trivial⟩
   rw[ou,el,aU];rfl
  have hlm:=IC m (ay _);have XI:∀k,k<=m->VT (pG jP P w K mg base XF "chain_of" (bC (top 39)) f fV A outer s H E).Dq (LD (fZ (top 39)) 2) [.val (fM p),.val (cF pk),.val (cF lk),.val (.int time),.val (.str x),.val (cV hs),.own ((dF p x k).map .str),.un] true:=λk hk=>VT.to (hd1 k .un (E_ _ (IC k hk))) (qQ1 (IC k hk))
  cases AG:pX p (dW p x m) with
  |none=>
   have er:jm p x m=(("none":Str),dF p x m):=by unfold jm;rw[AG]
   rw[er];refine di (wu cK (λk=>[.val (fM p),.val (cF pk),.val (cF lk),.val (.int time),.val (.str x),.val (cV hs),.own ((dF p x k).map .str),.un]) m rfl (λk hk=>XI k (by omega)) (λk hk=>turn k _ (by omega) (IC k (by omega)) (J2 k hk).last.1 (J2 k hk).last.2.1) (.inr ⟨XI m (ay _),rfl,?_⟩)) rfl
   refine aJ (cA 7 (d:=.str "") (VE.to (bH C2 E8 (ao (ae 0 rfl) (ao (sV 6 (d:=.str (dW p x m)) rfl (fj (ds:=(dF p x m).map .str) (ae 6 rfl) (yP ax) (UG m)) rfl) aQ)) (Wv m hlm)) (by rw[AG];rfl)) nd) ?_
   exact di (dN (VT.to (bR hr aW aW (ae 7 rfl) aN) (by rw[bO];exact qQ1 rfl)) (a_ (D6 6 rfl aN))) rfl
  |some t=>
   by_cases ht:t∈dF p x m
   ·have er:jm p x m=(("ring":Str),(dF p x m).drop ((dF p x m).findIdx λy=>decide (y=t))):=by unfold jm;rw[AG];exact qQ3 ht
    rw[er];obtain⟨d,hd,rfl⟩:=pY AG;obtain⟨o1,o2⟩:=sL hp (av.mpr ⟨d,hd,rfl⟩);obtain⟨i1,i2⟩:=MT ht;refine di (wu cK (λk=>[.val (fM p),.val (cF pk),.val (cF lk),.val (.int time),.val (.str x),.val (cV hs),.own ((dF p x k).map .str),.un]) m rfl (λk hk=>XI k (by omega)) (λk hk=>turn k _ (by omega) (IC k (by omega)) (J2 k hk).last.1 (J2 k hk).last.2.1) (.inr ⟨XI m (ay _),rfl,?_⟩)) rfl
    refine aJ (cA 7 (d:=.str d.name) (VE.to (bH C2 E8 (ao (ae 0 rfl) (ao (sV 6 (d:=.str (dW p x m)) rfl (fj (ds:=(dF p x m).map .str) (ae 6 rfl) (yP ax) (UG m)) rfl) aQ)) (Wv m hlm)) (by rw[AG];rfl)) nd) ?_
    refine aJ (bX (VT.to (bR hr (bB o1) aW (ae 7 rfl) aN) (by rw[bO];exact qQ0 o2)) bM) ?_
    refine eu 6 rfl ?_
    refine di (dN (VT.to (yK hr rfl (bB o1) (iu (mL m (ay _))) (ae 7 rfl) (ae 6 rfl)) (by rw[ik];exact qQ1 ht)) (a_ (OV Cq (OW aN (VO.to (gD (ds:=(dF p x m).map .str) (ae 6 rfl) (.yes (DT hr (ae 6 rfl) (ae 7 rfl) (iu (mL m (ay _))) (bB o1) i1 i2)) .no) ?_))))) rfl
    rw[lG,jI]
   ·have er:jm p x m=(("waits":Str),dF p x m ++ [t]):=by unfold jm;rw[AG];exact qQ2 ht
    rw[er];have hth:t∉hs:=λz=>T1 ⟨t,AG,ht,z⟩
    have el:dW p x (m+1)=t:=by show(pX p (dW p x m)).getD ""=_;rw[AG];rfl
    have e2:dF p x m ++ [t]=dF p x (m+1):=by rw[ou,el]
    rw[e2];obtain⟨d,hd,XJ⟩:=pY AG;obtain⟨o1,o2⟩:=sL hp (av.mpr ⟨d,hd,XJ⟩);refine aJ (wu cK (λk=>[.val (fM p),.val (cF pk),.val (cF lk),.val (.int time),.val (.str x),.val (cV hs),.own ((dF p x k).map .str),.un]) (m+1) rfl (λk hk=>XI k (by omega)) (λk hk=>?_) (.inl ⟨VT.to (hd1 (m+1) .un (by rw[el];exact o1)) (by rw[el];exact qQ0 hth),rfl⟩)) (a_ (D6 6 rfl aN))
    by_cases e:k=m
    ·subst e;exact turn k t (ay _) hlm AG ht
    ·exact turn k _ (by omega) (IC k (by omega)) (J2 k (by omega)).last.1 (J2 k (by omega)).last.2.1
end
def UH(x:Str):aj->Option aj
 | .tuple [n,_,_,.tuple l]=>if(l.any λy=>cI y (.str x))=true then some n else none
 |_=>none
theorem CZ(x:Str)(d:Dk):UH x (cn d)=if x∈d.places then some (.str d.name)else none:=by
 have e:CL x (cn d)=decide (x∈d.places):=oS x d
 show(if CL x (cn d)=true then some (aK d.name)else none)=_
 rw[e];by_cases h:x∈d.places
 ·rw[qQ3 h,qQ3 (qQ1 h)]
 ·rw[qQ2 h,qQ2 (by rw[qQ0 h];decide)]
theorem C5(x:Str):∀l:List Dk,(l.map cn).filterMap (UH x)=((l.filter λd=>decide (x∈d.places)).map (·.name)).map .str
 | []=>rfl
 |d::l=>by
  rw[aH,jv];by_cases h:x∈d.places
  ·rw[cX (f:=UH x) (b:=.str d.name) (by rw[CZ,qQ3 h]),C5 x l,qQ3 (qQ1 h)];rfl
  ·rw[eP (f:=UH x) (by rw[CZ,qQ2 h]),C5 x l,qQ2 (by rw[qQ0 h];decide)]
section
variable{P:bK}{w:cB}{K:au}{mg:Str->Option aE}{base:dg}{f:aR}{k:Nat}
abbrev T2:List Str:=["_law_h","_law_places","_law_loads","_law_time","_law_name","_law_shut_here","_law_path_here","_law_step","_law_to","_law_takers"]
abbrev T3:List Str:=["_law_h","_law_places","_law_loads","_law_time","_law_name"]
theorem Q_:cC T2 T3 (bC (top 58)):=⟨rfl,rfl,rfl,by symm,rfl,by symm,by symm⟩
def Rpa(ds:List aj)(d:aj):Prop:=∃(p:Pl)(pk lk:List (Str×aj))(L:Str->Ld)(time:Int)(x:Str)(m:Nat),ds=[dZ p,cF pk,cF lk,.int time,.str x]/\jD p/\(p.lines.map (·.1)).Nodup/\MC p pk lk L/\x∈hU p pk L time/\Way p (hU p pk L time) x m/\d=.tuple [.str (jm p x m).1,cV (jm p x m).2]
theorem zbr(F:k9 K "_law_path" "_law_path" (top 58) f fd)(n:Na mg)(C1:bD P w K mg base 2 "_law_shut" XB (Ba K Rsu)):ft P w K mg base jP 3 f fd T3 (g_ K Rpa):=
 jR F Q_ (λ_ _ h=>by obtain⟨_,_,_,_,_,_,_,rfl,_⟩:=h;rfl) λ_ _ h=>by
  obtain⟨p,pk,lk,L,time,x,m,rfl,hp,F3,hL,hx,W,rfl⟩:=h;intro fV A outer s H E hr;have nd:T2.Nodup:=Q_.nd;have FU:=hp.dn;have E_:=zN hp pk L time;have XG:∀y∈hU p pk L time,y∈p.desks.map (·.name):=λy hy=>sJ hy
  refine aJ (cA 5 (d:=cV (hU p pk L time)) (VO.ve (ko C1 hr (ao (ae 0 rfl) (ao (ae 1 rfl) (ao (ae 2 rfl) (ao (ae 3 rfl) aQ)))) ⟨p,pk,lk,L,time,rfl,hp,F3,hL,rfl⟩)) nd) ?_
  generalize hU p pk L time=hs at *
  refine aJ (kP 6 (ds:=[.str x]) (fe (ao (ae 4 rfl) aQ)) nd) ?_
  obtain⟨J2,T1,XH⟩:=W;have IC:=zP hx J2;have mL:∀k,k<=m->∀y∈dF p x k,lN y:=λk hk y hy=>E_ y (yj hx (λj hj=>J2 j (by omega)) y hy)
  have UG:∀k,nQ ((dF p x k).map aK) (-1)=some (.str (dW p x k)):=λk=>by
   obtain⟨l,e⟩:=zO p x k;rw[e,aU];exact yA _ _
  have nc1:(["_law_desk","_law_path_here"]:List Str).Nodup:=by symm
  have nc2:(["_law_desk","_law_to"]:List Str).Nodup:=by symm
  have pre:∀k o,k<=m->pC (pG jP P w K mg base T2 "_law_path" (bC (top 58)) f fV A outer s H E).Dq ((suite (fZ (top 58)) 2).drop 2) [.val (dZ p),.val (cF pk),.val (cF lk),.val (.int time),.val (.str x),.val (cV hs),.own ((dF p x k).map .str),.val (.int (k:Int)),.val (.str ((iN p (dW p x k)).headD "")),.val (cV ((iK p ((iN p (dW p x k)).headD "")).map (·.name)))] o->
    pC (pG jP P w K mg base T2 "_law_path" (bC (top 58)) f fV A outer s H E).Dq (suite (fZ (top 58)) 2) [.val (dZ p),.val (cF pk),.val (cF lk),.val (.int time),.val (.str x),.val (cV hs),.own ((dF p x k).map .str),.val (.int (k:Int)),.un,.un] o:=λk o hk MV=>by
   have ol:=E_ _ (IC k hk);have h0:((iN p (dW p x k)).map aK)[0]?=some (.str ((iN p (dW p x k)).headD "")):=by rw[aI,MS (XG _ (IC k hk))];rfl
   have ot:=MR hp (dW p x k);refine aJ (cA 8 (d:=.str ((iN p (dW p x k)).headD "")) (sV 6 (ds:=(dF p x k).map .str) rfl (fj (ds:=(iN p (dW p x k)).map .str) (VO.ve (VO.to (fD (own:=["_law_desk"]) (cap:=[6]) (N:=["_law_desk","_law_path_here"]) (tgt:=.one 0) (F:=JF (dW p x k)) (ds:=p.desks.map cn) rfl ⟨rfl,by symm,by symm,rfl,rfl,?_⟩ (g8 (fE hr (ae 0 rfl) aN (oh p))) (λf s3 H3=>bL (i:=0) nc1 rfl (a7 rfl)) rfl
    (small (by rw[ai];omega)) (λd hd=>?_)) (vK (dW p x k) p.desks))) ax (bE (j:=0) h0)) rfl) nd) ?_
   ·intro j hj
    obtain rfl:j=6:=by simpa using hj
    exact⟨(by show(6:Nat)<10;decide),a7 rfl,rfl⟩
   ·obtain⟨z,hz,rfl⟩:=av.mp hd
    refine⟨_,rfl,λf s3 H3=>?_,λr iP f s3 H3=>?_⟩
    ·refine oK (VT.to (bR hr (bB (hp.desks z hz).1.ok.2) (bB ol) (bT (d:=.str z.name) (ae 0 rfl) ax (bE (j:=0) rfl)) (fj (ds:=(dF p x k).map .str) (ae 1 rfl) (yP ax) (UG k))) ?_)
     rw[bO,tL];by_cases h:z.name=dW p x k
     ·rw[qQ3 h,qQ1 h];rfl
     ·rw[qQ2 h,qQ0 h];rfl
    ·rw[tL]at iP
     split at iP
     ·cases iP;exact bT (ae 0 rfl) ax (bE (j:=1) rfl)
     ·cases iP
   generalize(iN p (dW p x k)).headD ""=to at *
   have T4:pC (pG jP P w K mg base T2 "_law_path" (bC (top 58)) f fV A outer s H E).Dq ((suite (fZ (top 58)) 2).drop 2) [.val (dZ p),.val (cF pk),.val (cF lk),.val (.int time),.val (.str x),.val (cV hs),.own ((dF p x k).map .str),.val (.int (k:Int)),.val (.str to),.own ((p.desks.map cn).filterMap (UH to))] o:=by
    rw[C5];exact eu 9 rfl MV
   refine aJ (vf 9 (own:=["_law_desk"]) (cap:=[8]) (N:=["_law_desk","_law_to"]) (tgt:=.one 0) (F:=UH to) (ds:=p.desks.map cn) rfl ⟨rfl,by symm,by symm,rfl,rfl,?_⟩ (g8 (fE hr (ae 0 rfl) aN (oh p))) (λf s3 H3=>bL (i:=0) nc2 rfl (a7 rfl)) rfl
    (small (by rw[ai];omega)) (λd hd=>?_) nd) T4
   ·intro j hj
    obtain rfl:j=8:=by simpa using hj
    exact⟨(by show(8:Nat)<10;decide),a7 rfl,rfl⟩
   ·obtain⟨z,hz,rfl⟩:=av.mp hd
    refine⟨_,rfl,λf s3 H3=>?_,λr iP f s3 H3=>?_⟩
    ·refine oK (VT.to (yK hr rfl (bB ot) (x8 (n:=19) λd hd=>by obtain⟨y,hy,rfl⟩:=av.mp hd;exact bB ((hp.desks z hz).2.2.2.2 y hy).ok.2) (ae 1 rfl) (bT (d:=.tuple (z.places.map .str)) (ae 0 rfl) ax (bE (j:=3) rfl))) ?_)
     rw[CZ,sD];by_cases h:to∈z.places
     ·rw[qQ3 h,qQ1 h];rfl
     ·rw[qQ2 h,qQ0 h];rfl
    ·rw[CZ]at iP
     split at iP
     ·cases iP;exact bT (ae 0 rfl) ax (bE (j:=0) rfl)
     ·cases iP
  have mid:∀k t l o,k<=m->pX p (dW p x k)=some t->t∉dF p x k->pC (pG jP P w K mg base T2 "_law_path" (bC (top 58)) f fV A outer s H E).Dq ((suite (fZ (top 58)) 2).drop 5) [.val (dZ p),.val (cF pk),.val (cF lk),.val (.int time),.val (.str x),.val (cV hs),.own ((dF p x (k+1)).map .str),.val (.int (k:Int)),.val (.str ((iN p (dW p x k)).headD "")),.val (cV (t::l))] o->
    (iK p ((iN p (dW p x k)).headD "")).map (·.name)=t::l->pC (pG jP P w K mg base T2 "_law_path" (bC (top 58)) f fV A outer s H E).Dq (suite (fZ (top 58)) 2) [.val (dZ p),.val (cF pk),.val (cF lk),.val (.int time),.val (.str x),.val (cV hs),.own ((dF p x k).map .str),.val (.int (k:Int)),.un,.un] o:=λk t l o hk h1 h2 MV JY=>by
   refine pre k o hk ?_
   rw[JY];obtain⟨d,hd,XJ⟩:=pY h1;obtain⟨o1,o2⟩:=sL hp (av.mpr ⟨d,hd,XJ⟩);have ml:=tK p x k;have el:dW p x (k+1)=t:=by show(pX p (dW p x k)).getD ""=_;rw[h1];rfl
   have otk:∀y∈t::l,lN y:=λy hy=>by
    rw[<-JY]at hy;obtain⟨q,hq,rfl⟩:=av.mp hy;exact(hp.desks q (iQ.mp hq).1).1.ok.2
   have Ra:nQ ((t::l).map aK) 0=some (.str t):=bE (j:=0) rfl;refine aJ (bX (VT.to (bR hr (iu otk) (oN (n:=19) (ds:=[]) λd hd=>by cases hd) (ae 9 rfl) (VO.ve (fe aQ))) rfl) bM) ?_
   refine aJ (bX (Hf 6 (ds:=(dF p x k).map .str) rfl (VT.to (yK hr rfl (bB o1) (iu (mL k hk)) (fj (ds:=(t::l).map .str) (ae 9 rfl) ax Ra) (ae 6 rfl)) (by rw[ik];exact qQ0 h2))) bM) ?_
   refine aJ (iF 6 (ds:=(dF p x k).map .str) rfl (fj (ds:=(t::l).map .str) (ae 9 rfl) ax Ra) (gj (by rw[ai];omega))) ?_
   refine Ss MV ⟨.inr rfl,.inr rfl,.inr rfl,.inr rfl,.inr rfl,.inr rfl,.inr ?_,.inr rfl,.inr rfl,.inr rfl,trivial⟩
   rw[ou,el,aU];rfl
  have tkn:∀k t,pX p (dW p x k)=some t->∃l,(iK p ((iN p (dW p x k)).headD "")).map (·.name)=t::l:=λk t h=>by
   unfold pX at h;cases e:(iK p ((iN p (dW p x k)).headD "")).map (·.name) with
   |nil=>rw[e]at h;cases h
   |cons y l=>rw[e]at h;cases h;exact⟨l,rfl⟩
  have dl:((((p.desks.map cn).length:Nat):Int).toNat)=p.desks.length:=by rw[ai];rfl
  refine di (mh (tgt:=.one 7) cK rfl (sf (n:=((p.desks.map cn).length:Nat)) (jA (ds:=p.desks.map cn) (fE hr (ae 0 rfl) aN (oh p)) n.len) n.rng (by omega) (by rw[ai];omega)) (bL (i:=7) nd rfl (a7 rfl)) (λk=>[.val (dZ p),.val (cF pk),.val (cF lk),.val (.int time),.val (.str x),.val (cV hs),.own ((dF p x k).map .str),.un,.un,.un]) m rfl (by unfold jB;rw[ai,bW,dl];omega) (λk d hk hd=>?_) (.inr ⟨.int (m:Nat),_,by unfold jB;rw[aI,fk (by rw[dl];exact XH)];rfl,rfl,rfl,?_⟩)) rfl
  ·obtain rfl:d=.int (k:Int):=by
    unfold jB at hd;rw[aI,fk (by rw[dl];omega)]at hd
    cases hd;rfl
   obtain⟨g1,g2,g3⟩:=(J2 k hk).last;obtain⟨l,el⟩:=tkn k _ g1;refine⟨_,rfl,mid k _ l _ (by omega) g1 g2 ?_ el⟩
   have Ra:nQ ((dW p x (k+1)::l).map aK) 0=some (.str (dW p x (k+1))):=bE (j:=0) rfl;exact jC (a_ (bX (VT.to (yL hr rfl (bB (E_ _ g3)) (iu E_) (fj (ds:=(dW p x (k+1)::l).map .str) (ae 9 rfl) ax Ra) (ae 5 rfl)) (by rw[ik,qQ1 g3];rfl)) bM)) ⟨.inr rfl,.inr rfl,.inr rfl,.inr rfl,.inr rfl,.inr rfl,.inr rfl,.inl rfl,.inl rfl,.inl rfl,trivial⟩
  ·cases AG:pX p (dW p x m) with
   |none=>
    have er:jm p x m=(("none":Str),dF p x m):=by unfold jm;rw[AG]
    have JY:(iK p ((iN p (dW p x m)).headD "")).map (·.name)=[]:=by
     unfold pX at AG;exact List.head?_eq_none_iff.mp AG
    rw[er];refine pre m _ (ay _) ?_
    rw[JY];refine eu 6 rfl ?_
    exact di (dN (VT.to (bR hr (oN (n:=19) (ds:=[]) λd hd=>by cases hd) (oN (n:=19) (ds:=[]) λd hd=>by cases hd) (ae 9 rfl) (VO.ve (fe aQ))) rfl) (a_ (cg (eU (ao aN (ao (ae 6 rfl) aQ)))))) rfl
   |some t=>
    obtain⟨d,hd,XJ⟩:=pY AG;obtain⟨o1,o2⟩:=sL hp (av.mpr ⟨d,hd,XJ⟩);obtain⟨l,JY⟩:=tkn m t AG;have Ra:nQ ((t::l).map aK) 0=some (.str t):=bE (j:=0) rfl;have otk:∀y∈t::l,lN y:=λy hy=>by
     rw[<-JY]at hy;obtain⟨q,hq,rfl⟩:=av.mp hy;exact(hp.desks q (iQ.mp hq).1).1.ok.2
    by_cases ht:t∈dF p x m
    ·have er:jm p x m=(("ring":Str),(dF p x m).drop ((dF p x m).findIdx λy=>decide (y=t))):=by unfold jm;rw[AG];exact qQ3 ht
     rw[er];obtain⟨i1,i2⟩:=MT ht;refine pre m _ (ay _) ?_
     rw[JY];refine aJ (bX (VT.to (bR hr (iu otk) (oN (n:=19) (ds:=[]) λd hd=>by cases hd) (ae 9 rfl) (VO.ve (fe aQ))) rfl) bM) ?_
     refine eu 6 rfl ?_
     exact di (dN (VT.to (yK hr rfl (bB o1) (iu (mL m (ay _))) (fj (ds:=(t::l).map .str) (ae 9 rfl) ax Ra) (ae 6 rfl)) (by rw[ik];exact qQ1 ht)) (a_ (cg (eU (ao aN (ao (VE.to (VO.ve (gD (ds:=(dF p x m).map .str) (ae 6 rfl) (.yes (DT hr (ae 6 rfl) (fj (ds:=(t::l).map .str) (ae 9 rfl) ax Ra) (iu (mL m (ay _))) (bB o1) i1 i2)) .no)) (by rw[lG,jI];rfl)) aQ)))))) rfl
    ·have er:jm p x m=(("waits":Str),dF p x m ++ [t]):=by unfold jm;rw[AG];exact qQ2 ht
     have hth:t∉hs:=λz=>T1 ⟨t,AG,ht,z⟩
     have el:dW p x (m+1)=t:=by show(pX p (dW p x m)).getD ""=_;rw[AG];rfl
     have e2:dF p x m ++ [t]=dF p x (m+1):=by rw[ou,el]
     rw[er,e2];refine mid m t l _ (ay _) AG ht ?_ JY
     refine eu 6 rfl ?_
     exact a_ (dN (VT.to (yL hr rfl (bB o1) (iu E_) (fj (ds:=(t::l).map .str) (ae 9 rfl) ax Ra) (ae 5 rfl)) (by rw[ik,qQ0 hth];rfl)) (a_ (cg (eU (ao aN (ao (ae 6 rfl) aQ))))))
theorem T5:cC Q6 Q6 (bC (top 60)):=⟨rfl,rfl,rfl,by symm,rfl,by symm,by symm⟩
def T6(ds:List aj)(d:aj):Prop:=∃(x:Str)(ts:List Str),ds=[.tuple [.str x,cV ts],.tuple [.str x,cV ts]]/\lN x/\ts.length<=1000/\(∀x∈ts,lN x)/\d=.bool true
theorem XM(F:k9 K "_law_path_told" "_law_path_told" (top 60) f fd)(n:Na mg)(kt:Ka K)(C1:bD P w K mg base 1 "_law_texts" Q6 (g_ K Rtx)):ft P w K mg base jP 2 f fd Q6 (g_ K T6):=
 jR F T5 (λ_ _ h=>by obtain⟨_,_,rfl,_⟩:=h;rfl) λ_ _ h=>by
  obtain⟨x,ts,rfl,ox,hl,ho,rfl⟩:=h;intro fV A outer s H E hr;have g0:nQ [aK x,cV ts] 0=some (.str x):=bE (j:=0) rfl;have g1:nQ [aK x,cV ts] 1=some (cV ts):=bE (j:=1) rfl;refine aJ (bX (VT.to (yM (k1:=false) (k2:=false) (k3:=false) (VT.to (nS (iD (B8 (tn:="tuple") (ae 0 rfl) rfl kt.tt rfl n.X' n.tup rfl) rfl)) rfl) (λ_=>VT.to (qQ hr (cu 20 _) (cu 20 _) (jW (ae 0 rfl) n.len) ax) (by rw[jX];rfl)) (λ_ _=>VT.to (nS (iD (B8 (tn:="str") (bT (ae 0 rfl) ax g0) rfl kt.ss rfl n.X' n.str rfl) rfl)) rfl)) rfl) bM) ?_
  exact a_ (cg (VE.to (lB (k1:=true) (VE.to (oJ hr (bB ox) (bB ox) (bT (ae 0 rfl) ax g0) (bT (ae 1 rfl) ax g0)) (by rw[bO,qQ1 rfl])) (λ_=>jS (bH C1 hr (ao (bT (ae 0 rfl) ax g1) (ao (bT (ae 1 rfl) ax g1) aQ)) ⟨ts,rfl,hl,ho,rfl⟩))) rfl))
end
theorem T7(hp:jD p){m:Nat}(hx:x∈hs)(E_:∀y∈hs,lN y)(W:Way p hs x m):lN (jm p x m).1/\∀y∈(jm p x m).2,lN y:=by
 have hm:=yj hx W.on;unfold jm
 split
 ·exact⟨by show cx (.str ("none":Str))=true;symm,λy hy=>E_ y (hm y hy)⟩
 ·rename_i t ht
  split
  ·exact⟨by show cx (.str ("ring":Str))=true;symm,λy hy=>E_ y (hm y (dU hy))⟩
  ·refine⟨by show cx (.str ("waits":Str))=true;symm,λy hy=>?_⟩
   rcases bS.mp hy with hy|hy
   ·exact E_ y (hm y hy)
   ·obtain⟨d,hd,e⟩:=pY ht
    rw[aV.mp hy,<-e];exact(hp.desks d hd).1.ok.2
section
variable{P:bK}{w:cB}{K:au}{mg:Str->Option aE}{base:dg}{f:aR}{k:Nat}
abbrev Nas:List Str:=["_law_plant_here","_law_h","_law_drawn","_law_time","_law_places","_law_loads","_law_handed","_law_name","_law_due","_law_found"]
theorem Rb:cC Nas ["_law_plant_here","_law_h","_law_drawn","_law_time"] (bC (top 61)):=⟨rfl,rfl,rfl,by symm,rfl,by symm,by symm⟩
def Ras(ds:List aj)(d:aj):Prop:=∃(p:Pl)(cells:List Int)(full:Bool)(time:Int),ds=[fM p,dZ p,.tuple [cF (rm p cells full).2,cF (ED p cells full).2],.int time]/\jD p/\uF p/\d=.bool true
theorem zbt(F:k9 K "_law_asked" "_law_asked" (top 61) f fd)(n:Na mg)(md:mg "dict"=none)(C1:bD P w K mg base 2 "_law_shut" XB (Ba K Rsu))(C2:bD P w K mg base 3 "_law_path" T3 (g_ K Rpa))(C3:bD P w K mg base 4 "chain_of" ["plant","places","loads","time","desk"] (Yf K (Rch K)))(C4:bD P w K mg base 2 "_law_path_told" Q6 (g_ K T6)):ft P w K mg base jP 5 f fd ["_law_plant_here","_law_h","_law_drawn","_law_time"] (g_ K Ras):=
 jR F Rb (λ_ _ h=>by obtain⟨_,_,_,_,rfl,_⟩:=h;rfl) λ_ _ h=>by
  obtain⟨p,cells,full,time,rfl,hp,hg,rfl⟩:=h;intro fV A outer s H E hr;have nd:Nas.Nodup:=Rb.nd;have E8:e8 2 _:=hr.mono (by omega)
  have UI:e8 3 _:=hr.mono (by omega)
  obtain⟨T8,tb2,hL⟩:=XA hg cells full;have F3:=TN hp cells full;have X8:(p.lines.map (·.1)).Nodup:=(cZ.mp hg.pn).2.1
  generalize hpk:(rm p cells full).2=pk at *
  generalize zgK:(ED p cells full).2=lk at *
  have FU:=hp.dn;have hsl:=JC p pk (zM lk) time;have E_:=zN hp pk (zM lk) time;have XG:∀y∈hU p pk (zM lk) time,y∈p.desks.map (·.name):=λy hy=>sJ hy
  refine aJ (Sw (.tup [4,5]) (ae 2 rfl) (gB rfl (bU (bL (i:=4) nd rfl (cj rfl)) (bU (bL (i:=5) nd rfl (a7 rfl)) fh))) rfl) ?_
  have nc:(["_law_name","_law_places"]:List Str).Nodup:=by symm
  refine aJ (cA 6 (d:=.tuple [cF pk,cF lk]) (eU (ao (D4 (l:=pk) (VO.ve (Jd (kvs:=pk) (δ':=[.un,.un,.un,.un,.val (Jc pk),.un,.un,.un,.un,.un]) 4 rfl rfl (λj sl e=>?_) (λq hq=>(T8.all q hq).V4) (λd hd=>?_)
   (VO.to (fD (own:=["_law_name"]) (cap:=[4]) (N:=["_law_name","_law_places"]) (tgt:=.one 0) (F:=Yz pk) (ds:=pk.map λq=>.str q.1) rfl ⟨rfl,by symm,by symm,rfl,rfl,?_⟩ (Ly (ae 4 rfl)) (λf s3 H3=>bL (i:=0) nc rfl (a7 rfl)) rfl
    (small (by rw[ai];omega)) (λd hd=>?_)) (MN T8.nd pk λq hq=>hq)))) T8.nd rfl md) (ao (LC (ae 5 rfl) md) aQ))) nd) ?_
  ·match j,e with
   |0,e=>cases e;exact .inl rfl
   |1,e=>cases e;exact .inl rfl
   |2,e=>cases e;exact .inl rfl
   |3,e=>cases e;exact .inl rfl
   |4,e=>cases e;exact .inr ⟨rfl,rfl⟩
   |5,e=>cases e;exact .inl rfl
   |6,e=>cases e;exact .inl rfl
   |7,e=>cases e;exact .inl rfl
   |8,e=>cases e;exact .inl rfl
   |9,e=>cases e;exact .inl rfl
   |m+10,e=>simp at e
  ·obtain⟨q,hq,rfl⟩:=av.mp hd
   refine .tup λz hz=>?_
   rcases aG.mp hz with rfl|hz
   ·exact .str _
   ·obtain rfl:z=q.2:=by simpa using hz
    exact(T8.all q hq).V4
  ·intro j hj
   obtain rfl:j=4:=by simpa using hj
   exact⟨(by show(4:Nat)<10;decide),a7 rfl,rfl⟩
  ·obtain⟨q,hq,rfl⟩:=av.mp hd
   have hv:=L2.lE T8.nd q hq;have er:Yz pk (.str q.1)=some (.tuple [.str q.1,q.2]):=by show(gU pk q.1).map _=_;rw[hv];rfl
   refine⟨_,rfl,λf s3 H3=>by rw[er];exact f9,λr iP f s3 H3=>?_⟩
   rw[er]at iP;cases iP;obtain⟨ns,Iy⟩:=T8.all q hq;refine VE.to (eU (ao (ae 0 rfl) (ao (VO.ve (v9 qu KP (ao (Lz hr (ae 1 rfl) (ae 0 rfl) (d:=.list (ns.map .int)) (by rw[hv,Iy])) aQ) n.lst rfl)) aQ))) ?_
   rw[Iy]
  have g0:nQ [cF pk,cF lk] 0=some (cF pk):=bE (j:=0) rfl;have g1:nQ [cF pk,cF lk] 1=some (cF lk):=bE (j:=1) rfl;refine aJ (mh (tgt:=.one 7) (o:=.nx [.val (fM p),.val (dZ p),.val (.tuple [cF pk,cF lk]),.val (.int time),.val (cF pk),.val (cF lk),.val (.tuple [cF pk,cF lk]),.un,.un,.un]) cK rfl (g8 (ds:=(hU p pk (zM lk) time).map .str) (VO.ve (ko C1 E8 (ao (ae 1 rfl) (ao (ae 4 rfl) (ao (ae 5 rfl) (ao (ae 3 rfl) aQ)))) ⟨p,pk,lk,zM lk,time,rfl,hp,X8,hL,rfl⟩))) (bL (i:=7) nd rfl (a7 rfl))
   (λ_=>[.val (fM p),.val (dZ p),.val (.tuple [cF pk,cF lk]),.val (.int time),.val (cF pk),.val (cF lk),.val (.tuple [cF pk,cF lk]),.un,.un,.un]) ((hU p pk (zM lk) time).map aK).length rfl (ay _) (λi d hi hd=>?_) (.inl ⟨rfl,rfl⟩)) ?_
  ·obtain⟨y,hy,rfl⟩:=av.mp (bw hd)
   obtain⟨m,W⟩:=TX hy XG;obtain⟨ow,ol⟩:=T7 hp hy E_ W;have hf:=P1 p y m;have hwf:=W.few;have Qv:Rpa [dZ p,cF pk,cF lk,.int time,.str y] (.tuple [.str (jm p y m).1,cV (jm p y m).2]):=⟨p,pk,lk,zM lk,time,y,m,rfl,hp,X8,hL,hy,W,rfl⟩;have Fh:Rch K [fM p,cF pk,cF lk,.int time,.str y] (uT K (jm p y m).1 ((jm p y m).2.map .str)):=⟨p,pk,lk,zM lk,time,y,m,rfl,hp,hL,hy,W,rfl⟩
   generalize(jm p y m).1=rw at *
   generalize(jm p y m).2=rs at *
   have htd:T6 [.tuple [.str rw,cV rs],.tuple [.str rw,cV rs]] (.bool true):=⟨rw,rs,rfl,ow,by omega,ol,rfl⟩
   refine⟨_,rfl,OU rfl rfl λσ H0 Hh D fr PD=>?_⟩
   refine cH (D0 fr (cA 8 (d:=.tuple [.str rw,cV rs]) (bH C2 UI (ao (ae 1 rfl) (ao (ae 4 rfl) (ao (ae 5 rfl) (ao (ae 3 rfl) (ao (ae 7 rfl) aQ))))) Qv) nd) λσ1 Pr Pt _ f1=>?_)
   refine cH (S' (w:=rw) (ds:=rs.map .str) f1 9 (HD C3 hr Cq (ao (ae 0 rfl) (ao (bT (ae 6 rfl) ax g0) (ao (bT (ae 6 rfl) ax g1) (ao (ae 3 rfl) (ao (ae 7 rfl) aQ))))) Fh) nd (λq=>rfl) λt σ2 Pw Px G2=>?_)
   refine cH (Ta TR.mono G2 9 rfl TR.rep (VT.to (nS (iD (bH C4 E8 (ao (ae 9 rfl) (ao (ae 8 rfl) aQ)) htd) rfl)) rfl) λMp G3=>?_)
   refine cH (Tb G3 9 rfl aN (gj (by rw[ai];omega)) λDr AF G4=>?_)
   refine dD (D0 G4.fr (bX (VT.to (nS (iD (bH C4 E8 (ao (WH (HD C3 hr Cq (ao (ae 0 rfl) (ao (bT (ae 6 rfl) ax g0) (ao (bT (ae 6 rfl) ax g1) (ao (ae 3 rfl) (ao (ae 7 rfl) aQ))))) Fh)) (ao (ae 8 rfl) aQ)) htd) rfl)) rfl) bM) λσ5 J0 J1 _ f5=>PD σ5 J0 J1 ?_)
   have hfg:JW [.val (fM p),.val (dZ p),.val (.tuple [cF pk,cF lk]),.val (.int time),.val (cF pk),.val (cF lk),.val (.tuple [cF pk,cF lk]),.val (.str y),.val (.tuple [.str rw,cV rs]),.ref t] [.val (fM p),.val (dZ p),.val (.tuple [cF pk,cF lk]),.val (.int time),.val (cF pk),.val (cF lk),.val (.tuple [cF pk,cF lk]),.un,.un,.un]:=⟨.inr rfl,.inr rfl,.inr rfl,.inr rfl,.inr rfl,.inr rfl,.inr rfl,.inl rfl,.inl rfl,.inl rfl,trivial⟩;exact f5.forget hfg.len hfg.at
  exact a_ (cg (VE.to (OS hr (λq hq=>(T8.all q hq).lay) (λq hq=>(tb2.all q hq).lay) (ae 6 rfl) (eU (ao (ae 4 rfl) (ao (ae 5 rfl) aQ)))) rfl))
end
theorem JG(m:Int)(k:Nat):∃c q,∀y∈(pO m k).cps.toList,y=c\/y=q:=by
 have hs:=sZ m;have hl:(stemOf m).cps.toList.length=(1+m/78%8).toNat:=by rw[hs,dq]
 have b1:0<=m/78%8:=a8 _ (by decide)
 have b2:m/78%8<8:=bo _ (by decide)
 have p1:0<=m/624%(1+m/78%8):=a8 _ (by omega)
 have p2:m/624%(1+m/78%8)<1+m/78%8:=bo _ (by omega)
 have e1:kJ (stemOf m) none (some (m/624%(1+m/78%8)))=_:=rO (x:=stemOf m) ⟨p1,by rw[hl];omega⟩
 have e2:kJ (stemOf m) (some (m/624%(1+m/78%8)+1)) none=_:=qg (x:=stemOf m) ⟨by omega,by rw[hl];omega⟩
 have e:(pO m k).cps.toList=(stemOf m).cps.toList.take (m/624%(1+m/78%8)).toNat ++ [97+((m/3+5*k)%26).toNat]++(stemOf m).cps.toList.drop (m/624%(1+m/78%8)+1).toNat:=by
  unfold pO;rw[e1,e2]
  show((_++_++_:Array Nat)).toList=_
  simp only[ui,ku,Fg,Ct,one];rw[cO (l:=List.drop _ _) (by rw[b_];omega)]
 refine⟨97+(m/4992%26).toNat,97+((m/3+5*k)%26).toNat,λy hy=>?_⟩
 rw[e,hs]at hy;rcases bS.mp hy with hc|hc
 ·rcases bS.mp hc with hc|hc
  ·exact .inl (fB.mp (eA hc)).2
  ·exact .inr (aV.mp hc)
 ·exact .inl (fB.mp (dU hc)).2
theorem JH{many:Nat}(h:x∈namesOf cell many):∃c q,∀y∈x.cps.toList,y=c\/y=q:=by
 unfold namesOf at h
 split at h
 ·obtain⟨k,hk,rfl⟩:=av.mp h
  have e:(nameA (cq cell 3) many k).cps.toList=bh (many-k) (97+(cq cell 3/3%26).toNat):=yc _ _;exact⟨97+(cq cell 3/3%26).toNat,0,λy hy=>.inl (by rw[e]at hy;exact(fB.mp hy).2)⟩
 ·obtain⟨k,hk,rfl⟩:=av.mp h
  exact JG _ _
theorem MX(cell:Int)(many:Nat):("endline":Str)∉namesOf cell many:=λh=>by
 obtain⟨c,q,hy⟩:=JH h;have h1:=hy 101 (by symm)
 have h2:=hy 110 (by symm)
 have h3:=hy 100 (by symm)
 omega
theorem wJ:dM "endline":=wG (by symm)
structure P2(p:Pl):Prop extends MP p where
 rows:(dB p).length<=44
 ds:1<=p.desks.length
 ne:("endline":Str)∉p.gates++p.lines.map (·.1)
 lf:p.lines.length<=59
 gr:∀d∈p.desks,ck d.rule d.places.length<=99
theorem T9(ns:List Int):P2 (eG ns):=by
 obtain⟨g1,g3⟩:=h_ (bP ns);obtain⟨p1,p6⟩:=iJ (bP ns);have IU:(orderOf (bP ns)).length=(placesOf (bP ns)).length:=by
  unfold orderOf;rw[aY,b_,b9];have:=mj (bP ns) (n:=(placesOf (bP ns)).length) (by omega)
  omega
 have Md:(eG ns).lines.map (·.1)=linesOf (bP ns):=by
  show((aZ (linesOf (bP ns)).length).map (roomAt (bP ns) (bQ (fz ns) (orderOf (bP ns)) (linesOf (bP ns))) (linesOf (bP ns)))).map (·.1)=_
  rw[aS];exact my _
 have gl:(eG ns).gates++linesOf (bP ns)=placesOf (bP ns):=fw _ _;refine⟨TQ ns,Bs ns,Gs ns,by rw[Md,gl];exact MX _ _,?_,λd hd=>?_⟩
 ·have:=qQ6 fq Md
  rw[ai]at this;rw[this];unfold linesOf;rw[b_];omega
 ·have Rr:d∈bQ (fz ns) (orderOf (bP ns)) (linesOf (bP ns)):=hd
  obtain⟨_,_,_,_,_,h6⟩:=ye (by omega) (by omega) Rr
  omega
theorem T_(cell:Int):P2 (gE cell):=by
 obtain⟨n1,n4,_⟩:=nF cell;refine⟨TV cell,Bt cell,?_,?_,?_,λd hd=>?_⟩
 ·show 1<=((gv cell).drop (jT cell)++(gv cell).take (jT cell)).length
  rw[(sI (gv cell) (jT cell)).length_eq];show 1<=((aZ (fP cell)).map (iq cell)).length;rw[ai,bW];exact n1
 ·rw[zI]
  show("endline":Str)∉ei cell++dE cell
  rw[Mu];exact MX _ _
 ·show((aZ (fP cell)).map (sG cell)).length<=59
  rw[ai,bW];omega
 ·obtain⟨k,hk,rfl⟩:=yg hd
  have g:=sH cell k;have l:(iq cell k).places.length=2:=(zG cell k).1;rw[l];show ck (kC cell k) 2<=99;omega
theorem P4(ns:List Int)(m:Int):P2 (Bv ns m):=by
 unfold Bv
 split
 ·exact T_ m
 ·exact T9 ns
def xP(p:Pl)(m:Int):Nat:=(m%(p.desks.length:Int)).toNat
def hV(p:Pl)(m:Int):Dk:=p.desks.getD (xP p m) CT
def xQ(p:Pl)(m:Int):Int:=ck (hV p m).rule (hV p m).places.length+m/8%2
def la(p:Pl)(m:Int):Pl:=⟨p.kinds,p.gates,p.lines ++ [(("endline":Str),xQ p m)],p.desks.set (xP p m) ⟨(hV p m).name,"endline",(hV p m).rule,(hV p m).places⟩,p.times,p.hours⟩
theorem HZ(h:1<=p.desks.length)(m:Int):xP p m<p.desks.length/\m%(p.desks.length:Int)=(xP p m:Nat):=by
 have h1:0<=m%(p.desks.length:Int):=a8 _ (by omega)
 have h2:m%(p.desks.length:Int)<p.desks.length:=bo _ (by omega)
 unfold xP;omega
theorem H_(h:1<=p.desks.length)(m:Int):p.desks[xP p m]?=some (hV p m):=yh (HZ h m).1
theorem set_same{α β:Type}(g:α->β):∀{l:List α}{i:Nat}{a b:α},l[i]?=some a->g b=g a->(l.set i b).map g=l.map g
 | [],_,_,_,_,_=>rfl
 |x::l,0,a,b,h,e=>by
  cases h;show g b::l.map g=g x::l.map g;rw[e]
 |x::l,i+1,a,b,h,e=>by
  show g x::(l.set i b).map g=g x::l.map g;rw[set_same g (by simpa using h) e]
theorem XO(h:P2 p){m:Int}(hm:0<=m):MP (la p m):=by
 have Pp:=H_ h.ds m;have mL:hV p m∈p.desks:=bw Pp;obtain⟨ok,gd,fl,kn,_⟩:=h.toMP;have hg1:=(fl.dr _ mL).1;have Qn:=h.gr _ mL;have b1:0<=m/8%2:=a8 _ (by decide)
 have b2:m/8%2<2:=bo _ (by decide)
 have r1:1<=xQ p m:=by unfold xQ;omega
 have r2:xQ p m<=100:=by unfold xQ;omega
 have Xu:(la p m).desks.map (·.name)=p.desks.map (·.name):=set_same (b:=⟨(hV p m).name,"endline",(hV p m).rule,(hV p m).places⟩) (·.name) Pp rfl
 have dpl:(la p m).desks.map (·.places)=p.desks.map (·.places):=set_same (b:=⟨(hV p m).name,"endline",(hV p m).rule,(hV p m).places⟩) (·.places) Pp rfl
 have iw:∀d∈(la p m).desks,d∈p.desks\/d=⟨(hV p m).name,"endline",(hV p m).rule,(hV p m).places⟩:=λd hd=>BK hd
 have Md:(la p m).lines.map (·.1)=p.lines.map (·.1) ++ [("endline":Str)]:=by show(p.lines ++ [_]).map _=_;rw[aU];rfl
 have YB:jD (la p m):=by
  obtain⟨e1,e2,e3,e4,e5⟩:=ok.desks _ mL;refine⟨ok.kn,ok.gn,by show(p.lines ++ [_]).length<=60;rw[aY];have:=h.lf;simp;omega,by show(p.desks.set _ _).length<=60;rw[k7];exact ok.dn,ok.tn,ok.hn,ok.kinds,ok.gates,λq hq=>?_,λd hd=>?_,ok.times,ok.hours⟩
  ·rcases bS.mp hq with hq|hq
   ·exact ok.lines q hq
   ·rw[aV.mp hq]
    exact⟨wJ,by show 0<=xQ p m;omega,by show xQ p m<1000000;omega⟩
  ·rcases iw d hd with hd|rfl
   ·exact ok.desks d hd
   ·exact⟨e1,.inr wJ,e3,e4,e5⟩
 refine⟨YB,⟨gd.kn,?_,by rw[Xu];exact gd.dn,λd hd=>?_,by rw[dpl];exact gd.dj,gd.tn,λq hq=>by rw[Xu];exact gd.tm q hq,λq hq=>by rw[Xu];exact gd.hr q hq,gd.kk,λq hq=>?_⟩,⟨fl.gn,YB.ln,YB.dn,λq hq=>?_,λd hd=>?_⟩,kn,Bu YB ?_⟩
 ·rw[Md]
  show(p.gates++(p.lines.map (·.1) ++ [("endline":Str)])).Nodup
  rw[<-cP];refine cZ.mpr ⟨gd.pn,by simp,λa ha b hb z=>?_⟩
  rw[aV.mp hb]at z;exact h.ne (z▸ha)
 ·have sub:∀x∈p.gates++p.lines.map (·.1),x∈(la p m).gates++(la p m).lines.map (·.1):=λx hx=>by
   rw[Md];show x∈p.gates++(p.lines.map (·.1) ++ [("endline":Str)])
   rw[<-cP];exact dC _ hx
  rcases iw d hd with hd|rfl
  ·obtain⟨z1,z2,z3⟩:=gd.dk d hd
   refine⟨z1,λx hx=>sub x (z2 x hx),?_⟩
   rcases z3 with z3|⟨r,z3,z4⟩
   ·exact .inl z3
   ·exact .inr ⟨r,dC _ z3,z4⟩
  ·obtain⟨⟨y1,y2,y3,y4⟩,z2,z3⟩:=gd.dk _ mL
   refine⟨⟨y1,.inr wJ,y3,y4⟩,λx hx=>sub x (z2 x hx),.inr ⟨xQ p m,b0 _ (by simp),?_⟩⟩
   show ck (hV p m).rule (hV p m).places.length<=xQ p m;unfold xQ;omega
 ·rcases bS.mp hq with hq|hq
  ·exact gd.ll q hq
  ·rw[aV.mp hq];exact r1
 ·rcases bS.mp hq with hq|hq
  ·exact fl.lr q hq
  ·rw[aV.mp hq]
   exact⟨by show 0<=xQ p m;omega,r2⟩
 ·rcases iw d hd with hd|rfl
  ·exact fl.dr d hd
  ·exact fl.dr (hV p m) mL
 ·have:=h.rows
  unfold dB mQ at this ⊢;simp only[aY,ai,la,k7,iB]at this ⊢;omega
theorem wK(p:Pl)(d:aj):k_ (eE p) "desks" d=([("kinds",.list (p.kinds.map lS)),("gates",cV p.gates),("lines",.list (p.lines.map iY)),("desks",d),("times",.list (p.times.map pP)),("hours",.list (p.hours.map pQ)),("paces",.list [])]:List (Str×aj)):=by
 unfold k_ eE;rfl
theorem P5(p:Pl)(m:Int):k_ (k_ (eE p) "desks" (.list ((la p m).desks.map cn))) "lines" (.list ((la p m).lines.map iY))=eE (la p m):=by
 unfold k_ eE;rfl
section
variable{P:bK}{w:cB}{K:au}{mg:Str->Option aE}{base:dg}{f:aR}{k:Nat}
abbrev Noe:List Str:=["_law_h","_law_m","_law_desks_here","_law_at","_law_name","_law_to","_law_rule_here","_law_places"]
theorem Rc:cC Noe ["_law_h","_law_m"] (bC (top 54)):=⟨rfl,rfl,rfl,by symm,rfl,by symm,by symm⟩
def Rf(kv:List (Str×aj))(d:aj)(kv':List (Str×aj)):Prop:=∃(p:Pl)(m:Int),kv=eE p/\d=.int m/\0<=m/\m<2000000000/\jD p/\1<=p.desks.length/\p.lines.length<=59/\kv'=eE (la p m)
theorem zbu(F:k9 K "_law_open_end" "_law_open_end" (top 54) f fd)(n:Na mg)(C1:bD P w K mg base 1 "_law_greatest" ["_law_rule_here","_law_many"] (g_ K Ts)):ft P w K mg base jP 2 f fd ["_law_h","_law_m"] (HF K Rf):=by
 refine Tc F Rc (by decide) λkv d kv' hok fV A outer s H E hr p0 B0 B σ H0 Hh D nb fr h0 fin=>?_
 obtain⟨p,m,rfl,rfl,hm,hm2,hp,M0,hlf,rfl⟩:=hok;have nd:Noe.Nodup:=Rc.nd;have FU:=hp.dn;obtain⟨i1,i2⟩:=HZ M0 m;have Pp:=H_ M0 m;have mL:hV p m∈p.desks:=bw Pp;have zbv:(p.desks.map cn)[xP p m]?=some (cn (hV p m)):=by rw[aI,Pp];rfl
 have fr:fJ K B0 B H0 Hh σ [.val (dZ p),.val (.int m),.un,.un,.un,.un,.un,.un]:=fr;refine cH (O1 fr 2 (ds:=p.desks.map cn) (v9 qu KP (ao (fE hr (ae 0 rfl) aN (oh p)) aQ) n.lst rfl) nd λv1 Pr Pt f1=>?_)
 refine cH (Te f1 3 (d:=.int (xP p m:Nat)) (VE.to (cw (ae 1 rfl) (sV 2 (ds:=p.desks.map cn) rfl (jA (ds:=p.desks.map cn) (ae 2 rfl) n.len) rfl) (by rw[ai];omega)) (by rw[ai,i2])) nd λv2 Pw Px f2=>?_)
 have eD:cn (hV p m)=.tuple [.str (hV p m).name,.str (hV p m).to,za (hV p m).rule,.tuple ((hV p m).places.map .str)]:=rfl;refine cH (Tf f2 [4,5,6,7] (ds:=[.str (hV p m).name,.str (hV p m).to,za (hV p m).rule,.tuple ((hV p m).places.map .str)]) (S8 2 (ds:=p.desks.map cn) rfl (ae 3 rfl) (by rw[zbv,eD])) (gB rfl (bU (bL (i:=4) nd rfl (a7 rfl)) (bU (bL (i:=5) nd rfl (a7 rfl)) (bU (bL (i:=6) nd rfl (a7 rfl)) (bU (bL (i:=7) nd rfl (a7 rfl)) fh))))) rfl λσ3 M_ Mp f3 VL=>?_)
 have f3:fJ K B0 B M_ Mp σ3 [.val (dZ p),.val (.int m),.own (p.desks.map cn),.val (.int (xP p m:Nat)),.val (.str (hV p m).name),.val (.str (hV p m).to),.val (za (hV p m).rule),.val (.tuple ((hV p m).places.map .str))]:=f3;have s0:σ3[0]?=some (some (.ref p0)):=by
  rw[VL 0 (by decide),aX (by decide),aX (by decide)]
  exact h0
 refine cH (LN f3 2 (ds:=p.desks.map cn) (j:=xP p m) (d:=cn ⟨(hV p m).name,"endline",(hV p m).rule,(hV p m).places⟩) rfl (ae 3 rfl) (by rw[ai];exact i1) (VE.to (eU (ao (ae 4 rfl) (ao aN (ao (ae 6 rfl) (ao (ae 7 rfl) aQ))))) rfl) λDr AF f4=>?_)
 have zbw:(p.desks.map cn).set (xP p m) (cn ⟨(hV p m).name,"endline",(hV p m).rule,(hV p m).places⟩)=(la p m).desks.map cn:=by
  show _=(p.desks.set _ _).map cn;rw[E1]
 rw[zbw]at f4;obtain⟨pe,xe,z1,z2,_,_,_⟩:=f4.slot 2 _ rfl;obtain⟨f5,_⟩:=f4.freeze rfl z1 z2;have f6:fJ K B0 B _ AF σ3 [.val (dZ p),.val (.int m),.val (.list ((la p m).desks.map cn)),.val (.int (xP p m:Nat)),.val (.str (hV p m).name),.val (.str (hV p m).to),.val (za (hV p m).rule),.val (.tuple ((hV p m).places.map .str))]:=f5;have nde:qT (.list ((la p m).desks.map cn)):=by
  have:=pW (la p m) ("desks",.list ((la p m).desks.map cn)) (by unfold eE;simp)
  exact this
 have ndl:qT (.list ((la p m).lines.map iY)):=by
  have:=pW (la p m) ("lines",.list ((la p m).lines.map iY)) (by unfold eE;simp)
  exact this
 refine cH (Lq (δ2:=[.val (cF (k_ (eE p) "desks" (.list ((la p m).desks.map cn)))),.val (.int m),.un,.un,.un,.un,.val (za (hV p m).rule),.val (.tuple ((hV p m).places.map .str))]) (d:=.list ((la p m).desks.map cn)) f6 hr nb 0 (kv:=eE p) rfl rfl ?_ (pW p) (by unfold eE;simp) (ae 2 rfl) nde (gj (by show 7<=1000000;decide)) λHa7 Hb7 f7=>?_)
 ·intro j sl e
  match j,e with
  |0,e=>cases e;exact .inr (.inl ⟨rfl,rfl⟩)
  |1,e=>cases e;exact .inr (.inr ⟨rfl,_,rfl,.int _⟩)
  |2,e=>cases e;exact .inl rfl
  |3,e=>cases e;exact .inl rfl
  |4,e=>cases e;exact .inl rfl
  |5,e=>cases e;exact .inl rfl
  |6,e=>cases e;exact .inr (.inr ⟨rfl,_,rfl,EI _⟩)
  |7,e=>cases e;exact .inr (.inr ⟨rfl,_,rfl,.tup λd hd=>by obtain⟨i,_,rfl⟩:=av.mp hd;exact .str i⟩)
  |j+8,e=>simp at e
 have kvl:gU (k_ (eE p) "desks" (.list ((la p m).desks.map cn))) "lines"=some (.list (p.lines.map iY)):=by
  rw[wK];exact(cW (show ¬(("kinds":Str)="lines") by symm)).trans ((cW (show ¬(("gates":Str)="lines") by symm)).trans (fK rfl))
 have ndk:∀q∈k_ (eE p) "desks" (.list ((la p m).desks.map cn)),qT q.2:=λq hq=>by
  unfold k_ at hq;obtain⟨z,hz,rfl⟩:=av.mp hq;by_cases e:z.1="desks"
  ·rw[qQ3 e];exact nde
  ·rw[qQ2 e];exact pW p z hz
 refine dD (Lq (δ2:=[.val (dZ (la p m)),.un,.un,.un,.un,.un,.un,.un]) (d:=.list ((la p m).lines.map iY)) f7 hr nb 0 (kv:=k_ (eE p) "desks" (.list ((la p m).desks.map cn))) rfl rfl ?_ ndk (by rw[wK];simp) (VE.to (VO.ve (nU (d1:=p.lines.map iY) (d2:=[iY ("endline",xQ p m)]) (fE hr (ae 0 rfl) aN kvl) (VO.ve (fe (ao (VE.to (eU (ao aN (ao (cQ (bH C1 hr (ao (ae 6 rfl) (ao (VE.to (jW (ds:=(hV p m).places.map .str) (ae 7 rfl) n.len) (by rw[ai])) aQ)) ⟨(hV p m).rule,(hV p m).places.length,rfl,rfl⟩) (cw (eK (ae 1 rfl) ax ⟨by decide,by decide⟩) ax (by decide))) aQ))) rfl) aQ))) (small (by rw[ai];simp;omega)))) (by show _=sQ ((p.lines ++ [_]).map iY);rw[aU];rfl)) ndl (gj (by rw[wK];show 7<=1000000;decide)) λHa8 Hb8 f8=>fin σ3 _ Ha8 Hb8 f8 rfl s0)
 rw[P5];intro j sl e
 match j,e with
 |0,e=>cases e;exact .inr (.inl ⟨rfl,rfl⟩)
 |1,e=>cases e;exact .inl rfl
 |2,e=>cases e;exact .inl rfl
 |3,e=>cases e;exact .inl rfl
 |4,e=>cases e;exact .inl rfl
 |5,e=>cases e;exact .inl rfl
 |6,e=>cases e;exact .inl rfl
 |7,e=>cases e;exact .inl rfl
 |j+8,e=>simp at e
end
structure LawC(P:bK)(w:cB)(K:au)(mg:Str->Option aE)(base:dg):Prop where
 n:Na mg
 ca:bD P w K mg base 1 "_law_cell_at" ["_law_script","_law_k"] (g_ K Bj)
 mx:bD P w K mg base 1 "_law_mix" ["_law_cell","_law_k"] (g_ K Az)
 pl:bD P w K mg base 4 "_law_plant" ["_law_script"] (g_ K Rpl)
 rg:bD P w K mg base 3 "_law_ring_plant" ["_law_cell"] (g_ K Rrg)
 oe:bD P w K mg base 2 "_law_open_end" ["_law_h","_law_m"] (HF K Rf)
 pt:bD P w K mg base 3 "_law_plant_text" ["_law_h"] (g_ K Rpt)
 rp:bD P w K mg base 9 "read_plant" ["text"] (g_ K Rrp)
 fl:bD P w K mg base 3 "_law_floor_drawn" ["_law_h","_law_cells","_law_full"] (g_ K Rfl)
 as:bD P w K mg base 5 "_law_asked" ["_law_plant_here","_law_h","_law_drawn","_law_time"] (g_ K Ras)
section
variable{P:bK}{w:cB}{K:au}{mg:Str->Option aE}{base:dg}{f:aR}{k:Nat}
abbrev JK:List Str:=["_law_script","_law_m","_law_h","_law_plant_here","_law_turn","_law_drawn"]
theorem Gw:cC JK ["_law_script"] (bC (top 62)):=⟨rfl,rfl,rfl,by symm,rfl,by symm,by symm⟩
theorem MY(C:LawC P w K mg base)(hp:MP p)(ns:List Int)(m:Int)(hm0:0<=m):∀fV A outer s H E,e8 9 (A.deeper (envOfC "law" (bC (top 62)) s.heap.objs.size f fV))->pC (pG jP P w K mg base JK "law" (bC (top 62)) f fV A outer s H E).Dq ((fZ (top 62)).drop 4) [.val (iX ns),.val (.int m),.val (dZ p),.un,.un,.un] (.rt (.bool true)):=by
 intro fV A outer s H E hr;have n:=C.n;have nd:JK.Nodup:=Gw.nd;have UI:e8 3 _:=hr.mono (by omega)
 have hr5:e8 5 _:=hr.mono (by omega)
 obtain⟨QB,gdp,flp,VD,otx⟩:=hp;refine aJ (cA 3 (d:=fM p) (bH C.rp hr (ao (bH C.pt UI (ao (ae 2 rfl) aQ) ⟨p,rfl,QB,rfl⟩) aQ) ⟨mF p,Ez p,rfl,otx,EA QB VD,Xt QB gdp,by rw[(Mt QB gdp).2]⟩) nd) ?_
 refine aJ (mh (tgt:=.one 4) (o:=.nx [.val (iX ns),.val (.int m),.val (dZ p),.val (fM p),.un,.un]) cK rfl (sf (n:=3) ax n.rng (by decide) (by decide)) (bL (i:=4) nd rfl (a7 rfl)) (λ_=>[.val (iX ns),.val (.int m),.val (dZ p),.val (fM p),.un,.un]) 3 rfl (ay _) (λt d ht hd=>?_) (.inl ⟨rfl,rfl⟩)) (a_ (cg DM))
 obtain rfl:d=.int (t:Int):=by
  unfold jB at hd;rw[aI,fk (by exact ht)]at hd
  cases hd;rfl
 refine⟨_,rfl,?_⟩
 refine aJ (cA 5 (d:=.tuple [cF (rm p (L2.cutD ns (some (3+18*(t:Int))) none) (decide (m/3%2=(t:Int)%2))).2,cF (ED p (L2.cutD ns (some (3+18*(t:Int))) none) (decide (m/3%2=(t:Int)%2))).2]) (bH C.fl UI (ao (ae 2 rfl) (ao (VO.ve (VO.to (gD (ds:=ns.map fN) (ae 0 rfl) (.yes (cQ ax (o4 ax (ae 4 rfl) (.inl ⟨by decide,by decide⟩)))) .no) (lG _ _ _ _))) (ao (VE.to (oJ hr (cu 20 _) (cu 20 _) (cw (eK (ae 1 rfl) ax ⟨by decide,by decide⟩) ax (by decide)) (cw (ae 4 rfl) ax (by decide))) (by rw[jX])) aQ))) ⟨p,_,_,rfl,flp,QB,rfl⟩) nd) ?_
 refine jC (a_ (bX (VT.to (nS (iD (bH C.as hr5 (ao (ae 3 rfl) (ao (ae 2 rfl) (ao (ae 5 rfl) (ao (cQ ax (cw (eK (ae 1 rfl) (cQ (ae 4 rfl) ax) ⟨by omega,by omega⟩) ax (by decide))) aQ)))) ⟨p,_,_,_,rfl,QB,gdp,rfl⟩) rfl)) rfl) bM)) ⟨.inr rfl,.inr rfl,.inr rfl,.inr rfl,.inl rfl,.inl rfl,trivial⟩
theorem XQ(C:LawC P w K mg base)(hn:ns.length<=63):∀fV A outer s H E,e8 9 (A.deeper (envOfC "law" (bC (top 62)) s.heap.objs.size f fV))->∀B0 B σ H0 Hh D,(∀b kvs,B0 b≠some (HO.dK kvs))->fJ K B0 B H0 Hh σ (wa JK [iX ns])->(∀v dS H',eB B0 B dS H'->Rep K dS v (.bool true)->D.rt v H')->
  B6 (pG jP P w K mg base JK "law" (bC (top 62)) f fV A outer s H E).Dq (fZ (top 62)) D σ Hh:=by
 intro fV A outer s H E hr B0 B σ H0 Hh D nb fr PD;have n:=C.n;have nd:JK.Nodup:=Gw.nd;have lR:e8 1 _:=hr.mono (by omega)
 have E8:e8 2 _:=hr.mono (by omega)
 have UI:e8 3 _:=hr.mono (by omega)
 have hr4:e8 4 _:=hr.mono (by omega)
 refine cH (D0 fr (cA 1 (d:=.int (cq (ns.getD 0 0) 90)) (bH C.mx lR (ao (bH C.ca lR (ao (ae 0 rfl) (ao ax aQ)) ⟨ns,0,rfl,rfl⟩) (ao ax aQ)) ⟨ns.getD 0 0,90,rfl,by decide,by decide,rfl⟩) nd) λσ1 Pr Pt _ f1=>?_)
 refine cH (D0 f1 (cA 2 (d:=dZ (eG ns)) (bH C.pl hr4 (ao (ae 0 rfl) aQ) ⟨ns,rfl,rfl⟩) nd) λσ2 Pw Px _ f2=>?_)
 have hm0:=qC (ns.getD 0 0) 90;have hm1:=Cr (ns.getD 0 0) 90
 generalize cq (ns.getD 0 0) 90=m at *
 refine cH (D0 (δ':=[.val (iX ns),.val (.int m),.val (dZ (Bv ns m)),.un,.un,.un]) f2 (Ql (k:=decide (m%3=0)) (VT.to (bR hr (cu 20 _) (cu 20 _) (cw (ae 1 rfl) ax (by decide)) ax) (by rw[jX])) (λhk=>?_) λhk=>?_) λσ3 M_ Mp _ f3=>?_)
 ·have e:Bv ns m=gE m:=qQ3 (qQ4 hk)
  rw[e];exact a_ (cA 2 (bH C.rg UI (ao (ae 1 rfl) aQ) ⟨m,rfl,rfl⟩) nd)
 ·have e:Bv ns m=eG ns:=qQ2 (qQ5 hk)
  rw[e];exact bM
 have lq:=P4 ns m
 generalize Bv ns m=p at *
 have e5:cI (.int (m/5%4)) (.int 0)=decide (m/5%4=0):=jX _ _;by_cases h5:m/5%4=0
 ·refine cH (wZ f3 (VT.to (bR hr (cu 20 _) (cu 20 _) (cw (eK (ae 1 rfl) ax ⟨by decide,by decide⟩) ax (by decide)) ax) (by rw[e5,qQ1 h5])) λDr AF g4=>?_)
  have f4:=f3.grow g4;refine dD (Td (δ2:=[.val (iX ns),.val (.int m),.val (dZ (la p (m/20))),.un,.un,.un]) (kv:=eE p) (kv':=eE (la p (m/20))) (d:=.int (m/20)) C.oe E8 f4 nb 2 rfl (pW p) rfl ?_ (eK (ae 1 rfl) ax ⟨by decide,by decide⟩) (.int _) ⟨p,m/20,rfl,rfl,by omega,by omega,lq.ok,lq.ds,lq.lf,rfl⟩ λJ0 J1 f5=>?_)
  ·intro j sl e
   match j,e with
   |0,e=>cases e;exact .inr (.inr ⟨rfl,_,rfl,MQ ns⟩)
   |1,e=>cases e;exact .inr (.inr ⟨rfl,_,rfl,.int _⟩)
   |2,e=>cases e;exact .inr (.inl ⟨rfl,rfl⟩)
   |3,e=>cases e;exact .inl rfl
   |4,e=>cases e;exact .inl rfl
   |5,e=>cases e;exact .inl rfl
   |j+6,e=>simp at e
  exact FV (MY C (XO lq (by omega)) ns m hm0 fV A outer s H E hr) f5 PD
 ·refine cH (nh f3 (VT.to (bR hr (cu 20 _) (cu 20 _) (cw (eK (ae 1 rfl) ax ⟨by decide,by decide⟩) ax (by decide)) ax) (by rw[e5,qQ0 h5])) λDr AF g4=>?_)
  have f4:=f3.grow g4;exact OZ (FV (MY C lq.toMP ns m hm0 fV A outer s H E hr) f4 PD)
theorem XR(F:k9 K "law" "law" (top 62) f fd)(C:LawC P w K mg base):ft P w K mg base jP 10 f fd ["_law_script"] (Q7 K):=by
 refine F.ok Gw (λvs H Q E h=>?_) (λfV A outer s H vs Q E hr h=>?_)
 ·obtain⟨a,ns,rfl,_⟩:=h
  rfl
 ·obtain⟨a,ns,rfl,hS,hn,q⟩:=h
  obtain⟨H0,sm,r,nb⟩:=law_small hS;exact⟨_,mN,XQ C hn fV A outer s H E hr H0 H _ H0 H _ nb (.start sm r) λv dS H' g r=>by cases r;exact q H'⟩
end
end Mg
namespace Mg
open L2 PySem PyProof.Rows
variable{g:aR}{Ki:Array (Option aE)}{h:dg}{ps:List Str}{od:Option aR}{st:ia}{oc:aE}
structure eJ(K:au)(mg:Str->Option aE)(g x:Str)(st:ia)(ps:List Str):Prop where
 ex:∃f fd,k9 K x x st f fd/\mg g=some (.ref f)/\∀us:List aE,us.length=ps.length->bindArgs fd ⟨us,[]⟩=pure (ps.zip us)
theorem zQ{K:au}{mg:Str->Option aE}{g x:Str}{f:aR}{an: Option aR}{kV doc pm fV ct:aE}(X:K.In h)(G:h.Ns mainGlobals mg)
  (hb:∀(kV doc pm:aE)(an:Option aR)(fV ct:aE)(us:List aE),us.length=ps.length->bindArgs (jy x x (qx st) (fZ st) (bC st) .none kV doc pm an fV ct) ⟨us,[]⟩=pure (ps.zip us))
  (a:PySem.W.nsIn K mainGlobals g=some (some (.ref f)))(l:K.lookup f=some ⟨oc,od,.func (jy x x (qx st) (fZ st) (bC st) .none kV doc pm an fV ct),Ki⟩)
  (c:nJ K fV x=true)(k:jg K (.ref f)=true):eJ K mg g x st ps:=
 ⟨f,_,Km l c k,oV X G a,hb kV doc pm an fV ct⟩
section
variable{P:bK}{w:cB}{K:au}{mg:Str->Option aE}{base:dg}{f:aR}{k:Nat}
theorem eJ.call{g x:Str}{sp:Sp}(D:eJ K mg g x st ps)(h:∀f fd,k9 K x x st f fd->ft P w K mg base jP k f fd ps sp):bD P w K mg base k g ps sp:=by
 obtain⟨f,fd,F,hm,hb⟩:=D.ex;exact⟨f,fd,h f fd F,hm,F.kp,.all hb⟩
theorem lI{ws:List Str}{its:Array aE}{n:Nat}{sl:Array (Option aE)}(l:K.lookup g=some ⟨.type "tuple",od,.seq its n,sl⟩)(hs:its.size<=100)(hv:dX (ws.map V.str) its.toList):Le K g ws:=
 ⟨_,_,_,l,rfl,rfl,small (by omega),hv⟩
theorem Rg{pr:BG}{kvs:List (Str×List Str)}{es:Array wO}{ep:Nat}(nm:(g==sysModules)=false)(nd:(kvs.map (·.1)).Nodup)(l:K.lookup g=some ⟨.type "dict",none,.dict es ep,#[]⟩)(ge:GE pr K es.toList kvs):GD pr K g kvs:=
 ⟨nm,nd,_,es,ep,l,⟨rfl,rfl,rfl⟩,rfl,ge⟩
structure P6(K:au)(mg:Str->Option aE):Prop where
 ex:∃C fi fd,mg "Plant"=some (.ref C)/\DB K C/\(∀f∈Yn,kB K C f)/\Mk K C fi/\k9 K "__init__" "Plant.__init__" zB fi fd/\Binds K fd ["self"] []
theorem XS{C f:aR}{an: Option aR}{kV doc pm fV ct:aE}(X:K.In h)(G:h.Ns mainGlobals mg)(aC:PySem.W.nsIn K mainGlobals "Plant"=some (some (.ref C)))
  (a1:dG K (.ref C) "__init__"=some (some (.ref f)))(i1:PySem.W.isFn K (.ref f)=true)(l:K.lookup f=some ⟨oc,od,.func (jy "__init__" "Plant.__init__" (qx zB) (fZ zB) (bC zB) .none kV doc pm an fV ct),Ki⟩)(c:nJ K fV "Plant.__init__"=true)(k:jg K (.ref f)=true)
  (pg:pD K C fY=true)(hd:oE K C=true)(po:uR K C=true)(sa:dG K (.ref C) "__setattr__"=some (some (.builtin "object.__setattr__")))(mk:xA K C=true)(kc:jg K (.ref C)=true)
  (z1:dG K (.ref C) "kinds"=some none)(z2:dG K (.ref C) "gates"=some none)(z3:dG K (.ref C) "lines"=some none)(z4:dG K (.ref C) "desks"=some none)(z5:dG K (.ref C) "times"=some none)(z6:dG K (.ref C) "hours"=some none)(z7:dG K (.ref C) "paces"=some none):P6 K mg:=by
 have F:=Km (st:=zB) l c k;refine⟨C,f,_,oV X G aC,⟨pg,hd,po,sa⟩,λf hf=>?_,⟨mk,a1,i1,kc⟩,F,F.binds (ps:=["self"]) λ_ _ _ _ _ _ us hl=>match us,hl with | [_],_=>rfl⟩
 simp only[aG,bu,or_false]at hf;rcases hf with rfl|rfl|rfl|rfl|rfl|rfl|rfl
 ·exact z1
 ·exact z2
 ·exact z3
 ·exact z4
 ·exact z5
 ·exact z6
 ·exact z7
theorem P6.pc(T:P6 K mg):PlC P w K mg base:=by
 obtain⟨C,fi,fd,h1,h2,h3,h4,h5,h6⟩:=T.ex;exact⟨C,fi,fd,h1,h2,h3,h4,zaV h5 h2 h3,h6⟩
structure Defs(K:au)(mg:Str->Option aE)(pr:BG):Prop where
 n:Np mg pr K
 nw:Nw mg
 kt:Ka K
 pa:P6 K mg
 md:mg "dict"=none
 d0:eJ K mg "is_made_of" "is_made_of" (top 10) ["signs","longest","word"]
 d1:eJ K mg "is_name" "is_name" (top 11) ["word"]
 d2:eJ K mg "is_number" "is_number" (top 12) ["word"]
 d3:eJ K mg "words_of" "words_of" (top 13) ["row"]
 d4:eJ K mg "rows_of" "rows_of" (top 14) ["text"]
 d5:eJ K mg "greatest_load" "greatest_load" (top 4) ["rule","many"]
 d6:eJ K mg "read_plant" "read_plant" (top 20) ["text"]
 d7:eJ K mg "fits" "fits" (top 22) ["shape","word"]
 d8:eJ K mg "value_of" "value_of" (top 23) ["shape","word"]
 d9:eJ K mg "values_of" "values_of" (top 24) ["shapes","words"]
 d10:eJ K mg "entry_of" "entry_of" (top 25) ["words"]
 d11:eJ K mg "desk_entry" "desk_entry" (top 26) ["words"]
 d12:eJ K mg "rule_of" "rule_of" (top 27) ["words","many"]
 d13:eJ K mg "are_places" "are_places" (top 28) ["names"]
 d14:eJ K mg "fault_of" "fault_of" (top 29) ["plant","entry"]
 d15:eJ K mg "tells_twice" "tells_twice" (top 30) ["plant","entry"]
 d16:eJ K mg "lacks_name" "lacks_name" (top 31) ["plant","entry"]
 d17:eJ K mg "lacks_room" "lacks_room" (top 32) ["plant","entry"]
 d18:eJ K mg "is_place" "is_place" (top 33) ["plant","name"]
 d19:eJ K mg "is_desk" "is_desk" (top 34) ["plant","name"]
 d20:eJ K mg "takers_of" "takers_of" (top 35) ["plant","place"]
 d21:eJ K mg "add_entry" "add_entry" (top 36) ["plant","entry"]
 d22:eJ K mg "finds_room" "finds_room" (top 21) ["plant","places","to","goods"]
 d23:eJ K mg "is_stopped" "is_stopped" (top 40) ["plant","places","load","time","to"]
 d24:eJ K mg "stopped" "stopped" (top 38) ["plant","places","loads","time"]
 d25:eJ K mg "taker_behind" "taker_behind" (top 41) ["plant","name"]
 d26:eJ K mg "chain_of" "chain_of" (top 39) ["plant","places","loads","time","desk"]
 d27:eJ K mg "_law_cell_at" "_law_cell_at" (top 43) ["_law_script","_law_k"]
 d28:eJ K mg "_law_mix" "_law_mix" (top 44) ["_law_cell","_law_k"]
 d29:eJ K mg "_law_names" "_law_names" (top 45) ["_law_cell","_law_many"]
 d30:eJ K mg "_law_rule" "_law_rule" (top 46) ["_law_m","_law_many"]
 d31:eJ K mg "_law_greatest" "_law_greatest" (top 47) ["_law_rule_here","_law_many"]
 d32:eJ K mg "_law_desks" "_law_desks" (top 48) ["_law_cell","_law_places","_law_lines"]
 d33:eJ K mg "_law_plant" "_law_plant" (top 49) ["_law_script"]
 d34:eJ K mg "_law_dash" "_law_dash" (top 50) ["_law_thing"]
 d35:eJ K mg "_law_rule_text" "_law_rule_text" (top 51) ["_law_rule_here"]
 d36:eJ K mg "_law_plant_text" "_law_plant_text" (top 52) ["_law_h"]
 d37:eJ K mg "_law_ring_plant" "_law_ring_plant" (top 53) ["_law_cell"]
 d38:eJ K mg "_law_open_end" "_law_open_end" (top 54) ["_law_h","_law_m"]
 d39:eJ K mg "_law_floor_drawn" "_law_floor_drawn" (top 55) ["_law_h","_law_cells","_law_full"]
 d40:eJ K mg "_law_is_shut" "_law_is_shut" (top 56) ["_law_h","_law_places","_law_loads","_law_time","_law_desk"]
 d41:eJ K mg "_law_shut" "_law_shut" (top 57) ["_law_h","_law_places","_law_loads","_law_time"]
 d42:eJ K mg "_law_path" "_law_path" (top 58) ["_law_h","_law_places","_law_loads","_law_time","_law_name"]
 d43:eJ K mg "_law_texts" "_law_texts" (top 59) ["_law_found","_law_due"]
 d44:eJ K mg "_law_path_told" "_law_path_told" (top 60) ["_law_found","_law_due"]
 d45:eJ K mg "_law_asked" "_law_asked" (top 61) ["_law_plant_here","_law_h","_law_drawn","_law_time"]
theorem Defs.all(D:Defs K mg w.params):LawC P w K mg base:=by
 have n:=D.n;have nw:=D.nw;have pc:=D.pa.pc (P:=P) (w:=w) (base:=base);have vL:=D.d0.call (P:=P) (w:=w) (base:=base) λ_ _ F=>zaf F nw
 have wL:=D.d1.call (P:=P) (w:=w) (base:=base) λ_ _ F=>zag F nw vL
 have xr:=D.d2.call (P:=P) (w:=w) (base:=base) λ_ _ F=>zah F nw vL
 have Gx:=D.d3.call (P:=P) (w:=w) (base:=base) λ_ _ F=>zai F
 have JL:=D.d4.call (P:=P) (w:=w) (base:=base) λ_ _ F=>zaj F nw Gx
 have xR:=D.d5.call (P:=P) (w:=w) (base:=base) λ_ _ F=>zaR F
 have P7:=D.d7.call (P:=P) (w:=w) (base:=base) λ_ _ F=>W1 F n.toNa wL xr
 have Ua:=D.d7.call (P:=P) (w:=w) (base:=base) λ_ _ F=>zax F n.toNa wL xr P7
 have Gy:=D.d8.call (P:=P) (w:=w) (base:=base) λ_ _ F=>zay F n.toNa
 have sM:=D.d9.call (P:=P) (w:=w) (base:=base) λ_ _ F=>zaz F n.toNa n.zip Ua Gy
 have JM:=D.d12.call (P:=P) (w:=w) (base:=base) λ_ _ F=>W8 F n sM
 have C6:=D.d13.call (P:=P) (w:=w) (base:=base) λ_ _ F=>zaB F n wL
 have C7:=D.d11.call (P:=P) (w:=w) (base:=base) λ_ _ F=>zaD F n sM JM C6
 have Gz:=D.d10.call (P:=P) (w:=w) (base:=base) λ_ _ F=>zaK F n sM C7
 have zR:=D.d18.call (P:=P) (w:=w) (base:=base) λ_ _ F=>zaO F
 have Bx:=D.d19.call (P:=P) (w:=w) (base:=base) λ_ _ F=>zaP F
 have xt:=D.d20.call (P:=P) (w:=w) (base:=base) λ_ _ F=>zaQ F
 have AH:=D.d15.call (P:=P) (w:=w) (base:=base) λ_ _ F=>zaS F n zR Bx xt
 have C8:=D.d16.call (P:=P) (w:=w) (base:=base) λ_ _ F=>zaT F n zR Bx
 have C9:=D.d17.call (P:=P) (w:=w) (base:=base) λ_ _ F=>Xk F n xR
 have GA:=D.d14.call (P:=P) (w:=w) (base:=base) λ_ _ F=>zaU F AH C8 C9
 have EK:=D.d21.call (P:=P) (w:=w) (base:=base) λ_ _ F=>zaX F
 have C_:=D.d6.call (P:=P) (w:=w) (base:=base) λ_ _ F=>za1 F n pc JL Gz GA EK
 have Dc:=D.d22.call (P:=P) (w:=w) (base:=base) λ_ _ F=>zbc F n.toNa
 have Dd:=D.d23.call (P:=P) (w:=w) (base:=base) λ_ _ F=>zbd F Dc
 have JN:=D.d24.call (P:=P) (w:=w) (base:=base) λ_ _ F=>zbe F Dd
 have zS:=D.d25.call (P:=P) (w:=w) (base:=base) λ_ _ F=>zbl F xt
 have GB:=D.d26.call (P:=P) (w:=w) (base:=base) λ_ _ F=>zbn F JN zS
 have pw:=D.d27.call (P:=P) (w:=w) (base:=base) λ_ _ F=>Tn F n.len
 have nH:=D.d28.call (P:=P) (w:=w) (base:=base) λ_ _ F=>WT F
 have sN:=D.d29.call (P:=P) (w:=w) (base:=base) λ_ _ F=>zak F n.toNm nH
 have zT:=D.d30.call (P:=P) (w:=w) (base:=base) λ_ _ F=>zam F n.toNm
 have lJ:=D.d31.call (P:=P) (w:=w) (base:=base) λ_ _ F=>zan F
 have EL:=D.d32.call (P:=P) (w:=w) (base:=base) λ_ _ F=>zao F n.toNm nH sN zT
 have ER:=D.d33.call (P:=P) (w:=w) (base:=base) λ_ _ F=>zaq F n.toNm pw nH sN lJ EL
 have zU:=D.d34.call (P:=P) (w:=w) (base:=base) λ_ _ F=>zau F n.toNa
 have xS:=D.d35.call (P:=P) (w:=w) (base:=base) λ_ _ F=>zav F n.toNa zU
 have wM:=D.d36.call (P:=P) (w:=w) (base:=base) λ_ _ F=>zaw F n.toNa zU xS
 have wN:=D.d37.call (P:=P) (w:=w) (base:=base) λ_ _ F=>za4 F n.toNm nH sN zT lJ
 have zV:=D.d38.call (P:=P) (w:=w) (base:=base) λ_ _ F=>zbu F n.toNa lJ
 have vM:=D.d39.call (P:=P) (w:=w) (base:=base) λ_ _ F=>za6 F n.toNm pw nH lJ
 have AI:=D.d40.call (P:=P) (w:=w) (base:=base) λ_ _ F=>zbf F n.toNa D.md
 have zW:=D.d41.call (P:=P) (w:=w) (base:=base) λ_ _ F=>zbh F AI
 have GC:=D.d42.call (P:=P) (w:=w) (base:=base) λ_ _ F=>zbr F n.toNa zW
 have EV:=D.d43.call (P:=P) (w:=w) (base:=base) λ_ _ F=>zbi F n.toNa D.kt n.zip
 have xT:=D.d44.call (P:=P) (w:=w) (base:=base) λ_ _ F=>XM F n.toNa D.kt EV
 have EW:=D.d45.call (P:=P) (w:=w) (base:=base) λ_ _ F=>zbt F n.toNa D.md zW GC GB xT
 exact⟨n.toNa,pw,nH,ER,wN,zV,wM,C_,vM,EW⟩
end
theorem walk{l:PySem.W.OpenLaw}{q:bK}{loose:List Str}{XP:(Str->Option aE)->dg->Prop}{YP:cB->dg->Prop}{d:DefRec}{K:BG->au}(hn:l.most=some 63)(Vv:d.params.defaults=[])(FU:d.name="law")
  (hY:∀(w:cB)(h:dg),YP w h->(K w.params).In h)
  (F:∀(w:cB)(mg:Str->Option aE)(h:dg),(K w.params).In h->h.Ns mainGlobals mg->Defs (K w.params) mg w.params/\eJ (K w.params) mg "law" "law" (top 62) ["_law_script"]):
  PySem.W.WalkO q loose XP YP l.row.toRowW d [] (λf vs=>PySem.call f vs):=
 L2.NR (n:=63) (k:=10) (x:="_law_script") (CX:=λ_=>jP) (sp:=λw=>Q7 (K w.params)) hn (by decide) Vv ⟨rfl,by decide,by decide⟩ hY (λw mg fa h X G JV=>by
  obtain⟨D,L⟩:=F w mg h X G;obtain⟨f,fd,Fl,hm,hb⟩:=L.ex;rw[FU]at JV;rw[hm]at JV;cases JV;exact⟨fd,λs v=>.of_eq (hb [v] rfl),λbase _ _=>XR Fl D.all⟩) (λ_ _ a ns hl _ hS=>⟨a,ns,rfl,hS,hl,λ_=>rfl⟩) λ_ _ _ _ _ z=>z
end Mg
namespace PySem.W.Fast
def tw10000082616715470758:=()
def tw10045190080354105818:=()
def tw10229879418716622917:=()
def tw10336147014466539270:=()
def tw10376685305890840717:=()
def tw10387955045318018789:=()
def tw1047707699064329617:=()
def tw10511566392389472773:=()
def tw10646559702875023335:=()
def tw10925955654124041182:=()
def tw11036467780580647835:=()
def tw11041946804958573095:=()
def tw11090845788393481067:=()
def tw11111346683044931697:=()
def tw11122029637163319019:=()
def tw11297973881766414848:=()
def tw11395790595413439347:=()
def tw11586477325409367302:=()
def tw11649809587482892305:=()
def tw11776969918916643669:=()
def tw11784389597188635718:=()
def tw11785945013523188338:=()
def tw1185231534658614768:=()
def tw11855979567285600500:=()
def tw11858904134122935552:=()
def tw11890588012970185991:=()
def tw11907292466792004779:=()
def tw12000852774604002014:=()
def tw12076565454484215822:=()
def tw12081001117608959871:=()
def tw12132277430153620023:=()
def tw12170271692788836958:=()
def tw12182621691300403742:=()
def tw12221086439100414051:=()
def tw12245519340715188040:=()
def tw12396136051352937456:=()
def tw12575740362671862515:=()
def tw12631677771113381320:=()
def tw1265316054798503297:=()
def tw12658621364067051214:=()
def tw12662848134803920984:=()
def tw12796952611302985220:=()
def tw12798979007240417601:=()
def tw12805796112332993928:=()
def tw12855254788554000515:=()
def tw12902942667903442629:=()
def tw12929505903501779449:=()
def tw12933208003881080258:=()
def tw13180048678484041945:=()
def tw13289905509672988253:=()
def tw13388002565587855784:=()
def tw13425458842522983660:=()
def tw13485628702079446418:=()
def tw1351737168307010948:=()
def tw13528618135450802965:=()
def tw13540280876536424816:=()
def tw13574138373854784607:=()
def tw13622674730929474057:=()
def tw13657296178214908166:=()
def tw13710050131142075014:=()
def tw1378288781487555472:=()
def tw14009304423313542462:=()
def tw14020283477519971750:=()
def tw14023363977265129414:=()
def tw14061874738441358768:=()
def tw14080847055358140306:=()
def tw14104302706143621879:=()
def tw14230671939810237544:=()
def tw14236585053748329238:=()
def tw14243973621223147671:=()
def tw14268788497193919728:=()
def tw14274150349404037764:=()
def tw14279729079532922520:=()
def tw14362035007031252741:=()
def tw14385194870444200408:=()
def tw14459423500080138014:=()
def tw14497871291889388516:=()
def tw14539890150925379042:=()
def tw14628672770875761494:=()
def tw14631566993516258158:=()
def tw14655448076988567275:=()
def tw14832131042565359381:=()
def tw14837532849590461752:=()
def tw14863580100458198797:=()
def tw14872874048866800018:=()
def tw14905237234396541168:=()
def tw14913388886376397106:=()
def tw1492075562314659163:=()
def tw14929681748360547156:=()
def tw1502705008903425607:=()
def tw15038810174755690142:=()
def tw15060557932255662480:=()
def tw15319116232289588205:=()
def tw15319354304323402463:=()
def tw15334781967249737156:=()
def tw15337932255795515313:=()
def tw15382647764147592692:=()
def tw15520156018985103097:=()
def tw15560596659734639248:=()
def tw15599176982849705201:=()
def tw15674085278361746139:=()
def tw15674529718894109236:=()
def tw15690155045212580903:=()
def tw15779466200067416584:=()
def tw15815230632184688167:=()
def tw15906052059105647229:=()
def tw15913869074526545015:=()
def tw15926728318991843059:=()
def tw15955790543097389048:=()
def tw16016282451517145806:=()
def tw16021469042361231310:=()
def tw16060261161956810397:=()
def tw16180850631651619996:=()
def tw16234427693646184003:=()
def tw16307528951071827434:=()
def tw16337247421431333843:=()
def tw16376276969549184031:=()
def tw16382491793279781393:=()
def tw16428378461395017811:=()
def tw16536291876951852561:=()
def tw16611080762373241266:=()
def tw16675972710510716520:=()
def tw16693485314480740165:=()
def tw16732579372554661049:=()
def tw1676768649148197669:=()
def tw16810447299019738570:=()
def tw16914294168683662404:=()
def tw1696520735447113220:=()
def tw16988173021308483273:=()
def tw17029804054496806088:=()
def tw17137177244010783383:=()
def tw17193545984944684793:=()
def tw17206271585314641597:=()
def tw17255275009776542055:=()
def tw17386251083283752537:=()
def tw1756222517205065830:=()
def tw17742255537264744797:=()
def tw17978641633322634986:=()
def tw18051366792702930357:=()
def tw18075538770024553402:=()
def tw18174278220950045913:=()
def tw18206780944242509562:=()
def tw183002604112443939:=()
def tw18309919484470526392:=()
def tw18425158527839689604:=()
def tw1852967752254888673:=()
def tw1874140241595005801:=()
def tw1937976513933498816:=()
def tw1941853892471167621:=()
def tw1954090752717312451:=()
def tw1965317793226022541:=()
def tw1985423593023560619:=()
def tw2005910578120661560:=()
def tw2122275936369139272:=()
def tw2139392919769847977:=()
def tw2172210017917762142:=()
def tw2224473801933282382:=()
def tw2238215739480018450:=()
def tw2240194665908366265:=()
def tw2248017804553249645:=()
def tw2283267272360160239:=()
def tw2287445407426897950:=()
def tw234937138044843137:=()
def tw2363673009161077825:=()
def tw2424775645925967568:=()
def tw2433201524420533970:=()
def tw243425791512298176:=()
def tw2480062832284754700:=()
def tw260635819770874931:=()
def tw2635389595475859129:=()
def tw2637715174308860867:=()
def tw269812927739844515:=()
def tw2703220935514139981:=()
def tw2862847875578662165:=()
def tw2881154842854898576:=()
def tw2918217909114623314:=()
def tw2930097479018293095:=()
def tw2960600028507376050:=()
def tw2970203188408913854:=()
def tw2981620199711066506:=()
def tw304995944980461603:=()
def tw31459452883933529:=()
def tw3198296798993013074:=()
def tw3240930135201557711:=()
def tw3241353243841048625:=()
def tw326166778544046061:=()
def tw3405565582556999461:=()
def tw3419128960831443435:=()
def tw3432103658410473316:=()
def tw3478301433601454938:=()
def tw3592482152747613226:=()
def tw3690863937517554083:=()
def tw369661849499439525:=()
def tw3735466528845067246:=()
def tw3783182434291034334:=()
def tw3798186601150351014:=()
def tw3835655448148961783:=()
def tw3920420236373989826:=()
def tw3920752060437148547:=()
def tw3948609193916173066:=()
def tw404648989631870851:=()
def tw4090285333693558411:=()
def tw4178153560592219886:=()
def tw4274637497651595114:=()
def tw4346755454009314959:=()
def tw4398639328048134622:=()
def tw4465164155559349552:=()
def tw453992954693625461:=()
def tw4584399679998332470:=()
def tw4641847718387598063:=()
def tw4642180564071802326:=()
def tw4687183188461723729:=()
def tw4711183116695165036:=()
def tw4712061358986096552:=()
def tw47442300950493856:=()
def tw4773826404705751980:=()
def tw4905009284492501090:=()
def tw4966610796483782616:=()
def tw4971683304895111583:=()
def tw4971883015479537635:=()
def tw5043887029763483464:=()
def tw5096907162906663323:=()
def tw5104122364514378908:=()
def tw5144632605528506038:=()
def tw515678966953237840:=()
def tw5162440975313156348:=()
def tw5196096486351363110:=()
def tw5203336079121094265:=()
def tw5238983004643690367:=()
def tw5302425623113354847:=()
def tw5315618609747068233:=()
def tw5333522679427351214:=()
def tw5455642073651693600:=()
def tw5503681773213384845:=()
def tw5595490494808948079:=()
def tw5638457837463924435:=()
def tw5662627659442267723:=()
def tw5684250961390579977:=()
def tw5688001035587796745:=()
def tw5691596812400928771:=()
def tw5820919121260498265:=()
def tw5848230704277383448:=()
def tw5868985142396141250:=()
def tw5921158192917194617:=()
def tw5932374820518414821:=()
def tw5937199069261474657:=()
def tw5938722487012839940:=()
def tw5946986187592094788:=()
def tw5948727019531927553:=()
def tw5986399274612444270:=()
def tw6043086347926535750:=()
def tw6049974237158619958:=()
def tw605062829255108299:=()
def tw6096449765484899428:=()
def tw613649042324574095:=()
def tw6182452372645253917:=()
def tw6216156442408088162:=()
def tw6276521546067195841:=()
def tw6280906412772290367:=()
def tw6399564748379270718:=()
def tw6439965888018002458:=()
def tw6496773598033557884:=()
def tw6520165811462273777:=()
def tw6520796582709818540:=()
def tw6675130316859052867:=()
def tw6700477478422918876:=()
def tw6740613225688307188:=()
def tw6910150075978678248:=()
def tw7013940554575539815:=()
def tw7083265885787464671:=()
def tw7112521338652117957:=()
def tw7200137758034925584:=()
def tw7212203770928206677:=()
def tw7213338673392428355:=()
def tw7218344126927342215:=()
def tw7232507897982559682:=()
def tw7380941887475762381:=()
def tw7442483548823262048:=()
def tw7477940818876881859:=()
def tw7534264024193303785:=()
def tw7583484900532648528:=()
def tw7586266026836586653:=()
def tw7623677085632258699:=()
def tw7809511858163867556:=()
def tw7874951405708728610:=()
def tw7980851862386250666:=()
def tw7997584733244682489:=()
def tw8014493918726263982:=()
def tw805235687105564565:=()
def tw8087514924631728737:=()
def tw8102599652417662881:=()
def tw8143894623968407813:=()
def tw8242424590485928908:=()
def tw824438585031396960:=()
def tw8288853655424483760:=()
def tw8294156149348792320:=()
def tw8318810496247787681:=()
def tw8405405747149686714:=()
def tw8413018620284725702:=()
def tw8433220978198074729:=()
def tw8441728946782141854:=()
def tw8509662553419911916:=()
def tw8511757368535222578:=()
def tw8557696124380304651:=()
def tw8562513262617276517:=()
def tw8580687878712731240:=()
def tw8675869747795745905:=()
def tw8684098466658106889:=()
def tw8750551102782925298:=()
def tw8770167549306289511:=()
def tw87979981460678744:=()
def tw8834650087931748980:=()
def tw8878486215372553619:=()
def tw8973250759510050307:=()
def tw9014918762611385886:=()
def tw9101429722337270876:=()
def tw9111079820981506940:=()
def tw9138175321877602437:=()
def tw9205021215117545525:=()
def tw9290742832464056202:=()
def tw9324400040581205408:=()
def tw9357086846230518352:=()
def tw9422597281441352051:=()
def tw9428212465003021305:=()
def tw9452948218219444085:=()
def tw948312999666266206:=()
def tw9555016404756406044:=()
def tw9588241920051874561:=()
def tw9622610778945246505:=()
def tw9629087126478562603:=()
def tw9673418740121723744:=()
def tw9774288703550067265:=()
def tw9856911823405174937:=()
def tw9956279168980365769:=()
end PySem.W.Fast
open PySem PySem.W PyProof.Rows
theorem PySem.Challenge.cw_mergeline_k52_chains_holds : PySem.Challenge.rw_mergeline_k52_chains.Holds := by
 w_on;o_law;k_head;(case hw=>w_witness2)
 k_fill
 refine Mg.walk (l:=PySem.Challenge.rw_mergeline_k52_chains) rfl rfl rfl (λw h Y=>PySem.W.kIn_of Y) ?F
 case F=>
  intro w mg h KX G;refine⟨⟨⟨⟨⟨?n1,?n2,?n3,?n4,?n5,?n6,?n7,?n8,?n9,?n10,?n11,?n12⟩,?n13,?n14⟩,?y1,?y2,?y3,?ymp,?yfo,?yru⟩,⟨?w1,?w2,?w3,?xa,?xb,?xc,?xd⟩,⟨?t0,?t1,?t2,?t3,?t4,?t5,?t6,?t7,?t8,?t9,?t10,?t11⟩,?ypl,?md,?d0,?d1,?d2,?d3,?d4,?d5,?d6,?d7,?d8,?d9,?d10,?d11,?d12,?d13,?d14,?d15,?d16,?d17,?d18,?d19,?d20,?d21,?d22,?d23,?d24,?d25,?d26,?d27,?d28,?d29,?d30,?d31,?d32,?d33,?d34,?d35,?d36,?d37,?d38,?d39,?d40,?d41,?d42,?d43,?d44,?d45⟩,?law⟩
  case n1|n2|n3|n4|n5|n6|n7|n8|n9|n10|n11|n12|n13|n14|y1|y2|y3|w1|w2|w3|md=>exact PySem.W.mg_none_of KX G (by k_is)
  case ymp|xa|xb|xc|xd=>exact⟨_,oV KX G (by k_is)⟩
  case yfo=>refine⟨_,oV KX G (by k_is),Mg.Rg (by decide) (by symm) (by k_is) (.cons rfl (Mg.lI (by k_is) (by decide) (.cons ⟨_,rfl⟩ (.cons ⟨_,rfl⟩ .nil))) (.cons rfl (Mg.lI (by k_is) (by decide) (.cons ⟨_,rfl⟩ .nil)) (.cons rfl (Mg.lI (by k_is) (by decide) (.cons ⟨_,rfl⟩ (.cons ⟨_,rfl⟩ .nil))) (.cons rfl (Mg.lI (by k_is) (by decide) (.cons ⟨_,rfl⟩ (.cons ⟨_,rfl⟩ (.cons ⟨_,rfl⟩ .nil)))) (.cons rfl (Mg.lI (by k_is) (by decide) (.cons ⟨_,rfl⟩ (.cons ⟨_,rfl⟩ (.cons ⟨_,rfl⟩ .nil)))) (.cons rfl (Mg.lI (by k_is) (by decide) (.cons ⟨_,rfl⟩ (.cons ⟨_,rfl⟩ (.cons ⟨_,rfl⟩ (.cons ⟨_,rfl⟩ .nil))))) .nil))))))⟩
  case yru=>refine⟨_,oV KX G (by k_is),Mg.Rg (by decide) (by symm) (by k_is) (.cons rfl (Mg.lI (by k_is) (by decide) .nil) (.cons rfl (Mg.lI (by k_is) (by decide) (.cons ⟨_,rfl⟩ .nil)) (.cons rfl (Mg.lI (by k_is) (by decide) (.cons ⟨_,rfl⟩ .nil)) (.cons rfl (Mg.lI (by k_is) (by decide) (.cons ⟨_,rfl⟩ (.cons ⟨_,rfl⟩ .nil))) (.cons rfl (Mg.lI (by k_is) (by decide) .nil) .nil)))))⟩
  case t0|t1|t2|t3|t4|t5|t6|t7|t8|t9|t10|t11=>kit_is
  case ypl=>refine' Mg.XS KX G ?aC ?a1 ?i1 ?l ?c ?k ?pg ?hd ?po ?sa ?mk ?kc ?z1 ?z2 ?z3 ?z4 ?z5 ?z6 ?z7;(case aC|a1|i1|l|c|k|pg|hd|po|sa|mk|kc|z1|z2|z3|z4|z5|z6|z7=>k_is)
  case d1|d2|d3|d4|d6|d10|d11|d13|d33|d34|d35|d36|d37|law=>refine' Mg.zQ KX G (λ_ _ _ _ _ _ us hl=>match us,hl with | [_],_=>rfl) ?a ?l ?c ?k;(case a|l|c|k=>k_is)
  case d5|d7|d8|d9|d12|d14|d15|d16|d17|d18|d19|d20|d21|d25|d27|d28|d29|d30|d31|d38|d43|d44=>refine' Mg.zQ KX G (λ_ _ _ _ _ _ us hl=>match us,hl with | [_,_],_=>rfl) ?a ?l ?c ?k;(case a|l|c|k=>k_is)
  case d0|d32|d39=>refine' Mg.zQ KX G (λ_ _ _ _ _ _ us hl=>match us,hl with | [_,_,_],_=>rfl) ?a ?l ?c ?k;(case a|l|c|k=>k_is)
  case d22|d24|d41|d45=>refine' Mg.zQ KX G (λ_ _ _ _ _ _ us hl=>match us,hl with | [_,_,_,_],_=>rfl) ?a ?l ?c ?k;(case a|l|c|k=>k_is)
  case d23|d26|d40|d42=>refine' Mg.zQ KX G (λ_ _ _ _ _ _ us hl=>match us,hl with | [_,_,_,_,_],_=>rfl) ?a ?l ?c ?k;(case a|l|c|k=>k_is)
