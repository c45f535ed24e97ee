import PyProof.Rows.All
import Wide.All
import OpenK.AllK
import Wide.FinOn
import Lean
import PyProof.EqAt
import PyProof.EqKinds
import PyProof.TupleCall
import PyProof.Rows.SetFrom
import PyProof.TupleKey
import KE.KSortTup
import PyProof.ListRange
import PyProof.ConsumeS
import KE.KIntText
import PyProof.StrCalls2
import PyProof.StrOps2
import PyProof.SliceStr2
import PyProof.StrWalks
import PyProof.Rows.StrJoin2
import PyProof.ZipIter
import PyProof.TupleIter
import PyProof.ListMulRoad
import PyProof.WalksMore
import KE.KDictLaws
import KE.KDictList
import PyProof.IsiH_list
import PyProof.AttrMiss
import KE.KDictOf
import PyProof.StationsW
import PyProof.ExcInit
import PyProof.ExcClass2
import PyProof.ExcBaseAll.ValueError
import OpenK.KMake
import OpenK.KCls
import PyProof.Rows.FStr
import PyProof.LayNew
import PyProof.RulesAs
import PyProof.NsDelKeeps
import PyProof.ExcAttrAll.ValueError
import KE.KIsAll
import PyProof.CollectIter
import PyProof.TupleOfStr
import KE.KEqDict
import PyProof.DictWalks
import PySem.Challenge.RW_mergeline_k51_desks_that_are_stopped
set_option Elab.async false
set_option linter.all false
set_option maxRecDepth 100000
set_option maxHeartbeats 4000000
open Array renaming getElem?_toList→qg,length_toList→cN,toList_append→EG
open Bool renaming and_eq_true_iff→eG,and_eq_true→pK,eq_iff_iff→gC,false_ne_true→cu,false_or→Bo,or_eq_true→yp,or_true→Dj,true_and→jl
open False renaming elim→gT
open ForInStep renaming yield→oK
open Int renaming emod_lt_of_pos→bw,emod_nonneg→aZ,eq_ofNat_of_zero_le→kL,toNat_natCast→fw
open List renaming all_eq_true→d_,all_map→Di,any_cons→lQ,any_eq_true→lL,append_assoc→cV,append_nil→eI,drop_eq_nil_of_le→pY,drop_succ_cons→tf,drop_zero→kQ,eq_nil_of_length_eq_zero→lY,ext_getElem?→il,filterMap_append→qX,filterMap_cons_none→fX,filterMap_cons_some→c9,filterMap_cons→mG,filterMap_map→cL,filter_cons→lM,find?_cons→eJ,flatten_cons→ft,foldl_append→gv,foldl_cons→my,forIn_cons→yo,fst_mem_of_mem_zipIdx→jH,getD_eq_getElem?_getD→ax,getElem?_append_left→cD,getElem?_append_right→cA,getElem?_eq_getElem→au,getElem?_eq_none→eu,getElem?_eq_some_iff→aM,getElem?_map→aJ,getElem?_range→gJ,getElem?_replicate→dQ,getElem?_set_ne→a9,getElem?_set_self→bq,getElem?_zipIdx→ik,getElem_cons_drop→Dl,getElem_mem→dG,getElem_toArray→ED,length_append→a7,length_cons→bD,length_drop→cG,length_filterMap_le→oM,length_map→ao,length_nil→cB,length_range→cp,length_replicate→dA,length_set→yq,length_singleton→jt,length_take→cj,length→fD,lookup_cons→dZ,lookup→ko,map_append→aU,map_congr_left→gK,map_cons→aH,map_drop→oN,map_map→aS,map_nil→fV,map_singleton→i_,map_take→Bt,map→rP,mem_append_left→dX,mem_append_right→b9,mem_append→bZ,mem_cons_of_mem→aT,mem_cons_self→aN,mem_cons→aI,mem_filterMap→iX,mem_filter→ym,mem_flatMap→wm,mem_iff_getElem?→qY,mem_iff_getElem→rQ,mem_map→aG,mem_of_getElem?→bA,mem_of_mem_drop→eE,mem_of_mem_take→eC,mem_range→cF,mem_replicate→iZ,mem_singleton→bh,nil_append→mB,nodup_append→cZ,nodup_cons→fB,nodup_nil→kP,not_mem_nil→bG,of_mem_zip→qd,pairwise_iff_getElem→h7,perm_append_comm→qZ,range_eq_range'→EF,range_succ→jg,range→aW,replicate_succ→dO,replicate→a_,set_comm→tE,size_toArray→bu,sum_cons→Bu,take_add_one→dm,take_append_drop→fL,take_length→iM,take_of_length_le→cM,zipIdx_cons→wg,zip_cons_cons→km
open List.Pairwise renaming map→yT
open List.cons renaming inj→jJ
open Nat renaming add_lt_add_left→iL,eq_zero_or_pos→uJ,le_add_right→eO,le_of_lt→qc,le_of_not_lt→fS,le_refl→aD,le_succ→oJ,le_trans→b_,lt_add_of_pos_right→pS,lt_irrefl→jq,lt_of_lt_of_le→bV,lt_succ_of_lt→kX,lt_succ_self→jN,lt_trans→vQ,min_eq_left→mI,mod_eq_of_lt→lS,mod_lt→qp,mul_le_mul→g7,ne_of_gt→fY,ne_of_lt→aX,succ_le_succ→pR,succ_mul→Dt,toDigits_of_lt_base→kM,toDigits→iw,zero_add→iu,zero_le→bx
open Ne renaming symm→bY
open Option renaming isSome_map→uE,map_some→iY,toList_some→sZ
open Option.some renaming injEq→gU,inj→cY
open Or renaming inl→bj,inr→cP
open PyProof.Rows renaming AllBare→r6,IntsAre→yy,assignInOrder_cons→ju,assignInOrder_nil→yv,callWith_type1→iO,slot_tuple_getitem→j9
open PyProof.Rows.F renaming entry_set_update_loop→EC,plain_set_update_loop→qe
open PyProof.Rows.IsTup renaming new→oQ
open PySem renaming Addr→aK,Around→cU,Builtin→pX,CmpOp→Bm,DictEntry→vn,Expr→bR,FuncData→bS,GenState→oP,Heap→cK,IsPair→qj,IsPart→zN,IsZip→Br,Keyword→iK,NameKind→lO,Paired→Ds,Params→wH,PassesOwn→zK,Program→bo,PyData→aj,Result→sf,Scope→lb,Shared→aF,Spec→fk,Stmt→gZ,Value→av,Within→Bx,World→bX,boot_len→rH,call_meets→kU,codeAny_builtin→iJ,codeAny_mono→nZ,length_partsBetween→vR,mem_of_lookup→iI,plainId_quiet→qf,sizeLine_eq→dI,tupleKind_room_in1→kW,typeIs_str→sj,wpAny_Call_Name_kw→oT,wpAny_bindName→oS,wpAny_bind→ay,wpAny_callSpecial?_slot→jb,wpAny_call_entry→kf,wpAny_execs_nil→Bz,wpAny_field→fq,wpAny_holding→nh,wpAny_ite_false→kR,wpAny_loadPart'→fP,wpAny_mono→h8,wpAny_newObj_type→eB,wpAny_onRaise→wj,wpAny_passesOwn→nG,wpAny_pure→a8,wpAny_pyIter_list→lN,wpAny_pyIter_tuple→wF,wpAny_rule→r9,wpAny_seqItems→h_,wpAny_setField_rec→jv,wpAny_standAt→wc,wpAny_truthy_bool→eW,wpAny_typeOf→yx,wpAny_updateSeq_pair→uK
open PySem.Around renaming under_plainId→fW,under→Bn
open PySem.AutoSeq1 renaming idx_int→EE,sub_tuple_tuple→yr
open PySem.Builtin.Dict renaming updateFrom→vU
open PySem.Builtin.List renaming listFitsIndex→uF
open PySem.Builtin.Range renaming rangeSize→hU,small→kS
open PySem.Builtin.Slice renaming sliceAdjust→lP,sliceApplied→tG,slicePlaces→jf
open PySem.Builtin.SmallTypes renaming nextOf→cX,ownedTupleHandOut→nu,ownedTupleIsFree→fM
open PySem.Builtin.Tuple renaming tupleExact→fx,tupleTooMany→tH
open PySem.Calls renaming Name_function_global→yu,callWith_builtin→pP,evalArgs_plain→rG,spliced_cons→j',spliced_nil→uI
open PySem.Code renaming isFrame→Dh
open PySem.F renaming args_dict_get_3→yR,args_str_split_2→vS,args_tuple_add_2→yw,args_tuple_iterator_next_1→zQ,called_set→jY,entry_dict_get→zO,entry_str_split→wI,entry_tuple_add→yQ,entry_tuple_iterator_next→Bq,plainAttrs_dict→yS,plainAttrs_list→iD,plainAttrs_str→zP,slot_dict_getitem→yn,slot_dict_get→pQ,slot_dict_setdefault→vT,slot_list_append→nI,slot_list_getattribute→kr,slot_str_split→yz,slot_tuple_add→zM,slot_tuple_eq→Bs,slot_tuple_iterator_next→jO,slot_tuple_mul→qm,slot_zip_next→rO,type_list_append→nJ
open PySem.Flow renaming next→BD
open PySem.Heap renaming NewAttrErr→qo,SameBut→ie,get?_push_of_some→aE,get?_push_size→bp,lt_size→aY,size_push→gX
open PySem.Heap.SameBut renaming update→yA
open PySem.MeetsSeq renaming plain_index_loop→qk
open PySem.NameKind renaming cell→jM,free→dP
open PySem.Paired renaming length→rZ
open PySem.PassesOwn renaming never→c7
open PySem.PyData renaming bool→kj,canLay0→cJ,canLayAll0→nH,eqv→du,int→fj,list→vV,str→aP,tuple→fQ
open PySem.SeqAt renaming readOf→uL
open PySem.Str renaming empty→fz,join→cW,length_append→cw,ofString→ni
open PySem.StrLaws renaming found_one→tJ,join_split→mJ,occ_length_le→Bp,sliceText_from→zR,sliceText_to→BF,split_free→mK
open PySem.Txt renaming slice_le→Du,slice→lR,split→cz
open PySem.Value renaming int→Bk,isStrOf→sY,none→iq,ref→c0,str→Bl,type→tq
open PySem.W renaming Frag→ai,cellsFrom_some→zL,codeIn→mH,emptyDict→e8,findIn→di,fnOf→iP,hasDictIn→nr,instObj→g_,keepIn→iC,kia_one→jT,kitOne→dY,lookIn→wG,makesIn→vP,methodObj→tD,mg_of→nL,plainGet→nY,plainOver→tF,takerIn→vO
open Sum renaming inl→vN,inr→bF
open Sum.inr renaming inj→p_
open True renaming intro→fN
namespace L2
open PySem PySem.Spec PyProof.Rows
abbrev Key:=Sum Int Str
def yU:Key->av->Bool
 | .inl k,v=>av.isInt k v
 | .inr x,v=>sY x v
def Vq(w:bX):Key->Int
 | .inl k=>hashInt k
 | .inr x=>hashStr w x
theorem gL:∀{k:Key}{v:av},yU k v=true->(∃i t,k=vN i/\v=Bk i t)\/(∃x t,k=bF x/\v=Bl x t)
 | .inl i,v,h=>by
  obtain⟨t,e⟩:=av.isInt_shape (k:=i) (v:=v) h;exact .inl ⟨i,t,rfl,e⟩
 | .inr x,v,h=>by
  obtain⟨t,e⟩:=av.isStrOf_shape (x:=x) (v:=v) h;exact .inr ⟨x,t,rfl,e⟩
theorem FK(i:Int)(t:Tok):yU (.inl i) (.int i t)=true:=by simp[yU,av.isInt]
theorem FL(x:Str)(t:Tok):yU (.inr x) (.str x t)=true:=by simp[yU,sY]
theorem Oc(a b:Int):decide ((vN a:Key)=vN b)=(a==b):=by
 by_cases e:a=b
 ·subst e;simp
 ·have h:¬(vN a:Key)=vN b:=λq=>e (vN.inj q)
  rw[decide_eq_false h];exact(beq_eq_false_iff_ne.mpr e).symm
theorem Od(a b:Str):decide ((bF a:Key)=bF b)=decide (a=b):=by
 by_cases e:a=b
 ·subst e;simp
 ·have h:¬(bF a:Key)=bF b:=λq=>e (p_ q)
  rw[decide_eq_false h,decide_eq_false e]
theorem Oe(a:Int)(b:Str):decide ((vN a:Key)=bF b)=false:=decide_eq_false (λq=>nomatch q)
theorem Og(a:Str)(b:Int):decide ((bF a:Key)=vN b)=false:=decide_eq_false (λq=>nomatch q)
def eK(prog:bo)(w:bX):PySem.KeyKind prog w Key where
 is:=yU
 hash:=Vq w
 inj:=λv a b ha hb=>by
  rcases gL ha with⟨i,t,rfl,rfl⟩|⟨x,t,rfl,rfl⟩
  ·rcases gL hb with⟨j,u,rfl,e⟩|⟨y,u,rfl,e⟩
   ·injection e with e1 _;rw[e1]
   ·exact nomatch e
  ·rcases gL hb with⟨j,u,rfl,e⟩|⟨y,u,rfl,e⟩
   ·exact nomatch e
   ·injection e with e1 _;rw[e1]
 byValue:=λk v h=>by
  rcases gL h with⟨i,t,rfl,rfl⟩|⟨x,t,rfl,rfl⟩<;>rfl
 pyHash:=λhv h=>by
  rcases gL hv with⟨i,t,rfl,rfl⟩|⟨x,t,rfl,rfl⟩
  ·exact wpAny_pyHash_int h
  ·exact wpAny_pyHash_str h
 eqBool:=λhu hv h=>by
  rcases gL hu with⟨i,t,rfl,rfl⟩|⟨x,t,rfl,rfl⟩
  ·rcases gL hv with⟨j,u,rfl,rfl⟩|⟨y,u,rfl,rfl⟩
   ·rw[Oc]at h;exact wpAny_eqBool_int h
   ·rw[Oe]at h;exact SeqAt.EqAt.int_str i t y u _ _ _ _ h
  ·rcases gL hv with⟨j,u,rfl,rfl⟩|⟨y,u,rfl,rfl⟩
   ·rw[Og]at h;exact SeqAt.EqAt.str_int x t j u _ _ _ _ h
   ·rw[Od]at h;exact wpAny_eqBool_str h
 «strs»:=λk x t v h=>by
  rcases gL h with⟨i,u,rfl,e⟩|⟨y,u,rfl,e⟩
  ·exact nomatch e
  ·injection e with e1 _
   subst e1;cases v<;>rfl
theorem BG(prog:bo)(w:bX)(i:Int)(t:Tok):(eK prog w).is (.inl i) (.int i t)=true:=FK i t
theorem qt(prog:bo)(w:bX)(x:Str)(t:Tok):(eK prog w).is (.inr x) (.str x t)=true:=FL x t
inductive V where
 |non|bl (b:Bool)|int (i:Int)|str (x:Str)|QG (b:Array UInt8)|flt (b:UInt64)|ref (a:aK)|ty (n:String)
 deriving DecidableEq
def RelV:V->av->Prop
 | .non,u=>u=iq
 | .bl b,u=>u=av.bool b
 | .int i,u=>∃t,u=Bk i t
 | .str x,u=>∃t,u=Bl x t
 | .QG b,u=>∃t,u=av.bytes b t
 | .flt b,u=>∃t,u=av.float b t
 | .ref a,u=>u=c0 a
 | .ty n,u=>u=tq n
abbrev dS:List V->List av->Prop:=Ds RelV
theorem dS.length{xs:List V}{us:List av}(r:dS xs us):xs.length=us.length:=rZ r
theorem dS.get:∀{xs:List V}{us:List av}{i:Nat}{x:V},dS xs us->xs[i]?=some x->∃u,us[i]?=some u/\RelV x u
 |_,_,_,_,.nil,e=>by simp at e
 |_,_,0,_,.cons r _,e=>by simp at e;subst e;exact⟨_,rfl,r⟩
 |_,_,i+1,x,.cons _ t,e=>by
  obtain⟨u,h1,h2⟩:=dS.get (i:=i) (x:=x) t (by simpa using e)
  exact⟨u,by simpa using h1,h2⟩
theorem dS.append:∀{xs ys:List V}{us ws:List av},dS xs us->dS ys ws->dS (xs++ys) (us++ws)
 |_,_,_,_,.nil,s=>s
 |_,_,_,_,.cons r t,s=>.cons r (dS.append t s)
theorem dS.take:∀{xs:List V}{us:List av}(n:Nat),dS xs us->dS (xs.take n) (us.take n)
 |_,_,0,_=>.nil
 |_,_,_+1,.nil=>.nil
 |_,_,n+1,.cons r t=>.cons r (dS.take n t)
theorem dS.drop:∀{xs:List V}{us:List av}(n:Nat),dS xs us->dS (xs.drop n) (us.drop n)
 |_,_,0,r=>r
 |_,_,_+1,.nil=>.nil
 |_,_,n+1,.cons _ t=>dS.drop n t
def sk:Option V->Option av->Prop
 |some v,some u=>RelV v u
 |none,none=>True
 |_,_=>False
def KV{κ:Type}:List (κ×V)->List (κ×av)->Prop:=Ds λ(p:κ×V)(q:κ×av)=>p.1=q.1/\RelV p.2 q.2
def kV:Key->V
 | .inl i=>.int i
 | .inr x=>.str x
inductive HO where
 |lst (xs:List V)
 |tup (xs:List V)
 |dK (kvs:List (Key×V))|dT (kvs:List (List Key×V))
 |set (S:Int->Bool) (n:Nat)
 |ins (C dx:aK) (fs:List (Str×V))
 |own (x:aK)
 |xd (fs:List (Str×V))
 |met (f x:aK)
 |rng (lo hi:Int)
 |pZ (o:Obj) (u:HO)
 |Oh (ps:Array av)
 |ext (φ:cK->Prop)
abbrev Hp:=aK->Option HO
def upd(H:Hp)(a:aK)(o:HO):Hp:=λb=>if b=a then some o else H b
theorem bB{H:Hp}{a:aK}{o:HO}:upd H a o a=some o:=by unfold upd;rw[if_pos rfl]
theorem aR{H:Hp}{a b:aK}{o:HO}(h:b≠a):upd H a o b=H b:=by unfold upd;rw[if_neg h]
theorem Rn{H:Hp}{a b:aK}{o u:HO}(h:H a=some o)(h':H b=some u)(d:o≠u):a≠b:=by
 intro e;subst e;rw[h]at h';exact d (cY h')
theorem bT{H:Hp}{a b:aK}{o:HO}(h:H a=some o)(h':H b=none):a≠b:=by
 intro e;subst e;rw[h]at h';cases h'
section
variable(P:bo)(w:bX)
def gw(H:Hp)(h:cK)(a:aK):HO->Prop
 | .lst xs=>xs.length<=sizeLine/\∃(its:List av)(n:Nat),dS xs its/\h.get? a=some { cls:=.type "list",data:=.seq its.toArray n }
 | .tup xs=>xs.length<=sizeLine/\∃its:List av,dS xs its/\IsTup h a its.toArray
 | .dK kvs=>kvs.length<=sizeLine/\(a==sysModules)=false/\∃vs,KV kvs vs/\h.DictOf (eK P w) a vs
 | .dT kvs=>kvs.length<=sizeLine/\(a==sysModules)=false/\∃xs:List (List Key×aK×av),
   Ds (λ(p:List Key×V)(q:List Key×aK×av)=>p.1=q.1/\H q.2.1=some (.tup (p.1.map kV))/\RelV p.2 q.2.2) kvs xs/\
   ∃o es ep,h.get? a=some o/\o.ExactDict/\o.data=.dict es ep/\es.toList=xs.map (entryOfKey (tupleKind (eK P w)))/\(xs.map (·.1)).Nodup
 | .set S n=>h.SetOf (intKind P w) a S n
 | .ins C dx fs=>H dx=some (.own a)/\fs.length<=1000/\dx≠a/\h.get? a=some (g_ C dx)/\
   ∃mA,h.Ns1 dx mA/\(∀f,sk (fs.lookup f) (mA f))/\Bx mA (fs.map (·.1))
 | .own _=>∃o,h.get? a=some o
 | .xd fs=>∃mA,h.Ns1 a mA/\∀f,sk (fs.lookup f) (mA f)
 | .rng lo hi=>∃t u v,h.get? a=some { cls:=.type "range",data:=.fields #[.int lo t,.int hi u,.int 1 v] }
 | .pZ o u=>h.get? a=some o/\gw H h a u
 | .Oh ps=>h.get? a=some { cls:=.none,data:=.fields ps }
 | .met f x=>h.get? a=some (tD (.ref f) (.ref x))
 | .ext φ=>φ h/\(∃o,h.get? a=some o)/\∀h1 h2:cK,φ h1->(∀o,h1.get? a=some o->h2.get? a=some o)->φ h2
def tj(H:Hp)(h:cK):Prop:=∀a o,H a=some o->gw P w H h a o
end
section
variable{P:bo}{w:bX}{H H':Hp}{h h':cK}{a:aK}{o:HO}
theorem gw.lt(x:gw P w H h a o):a<h.objs.size:=by
 cases o with
 |lst xs=>obtain⟨_,_,_,_,e⟩:=x;exact aY e
 |tup xs=>obtain⟨_,_,_,p⟩:=x;exact p.lt
 |dK kvs=>obtain⟨_,_,_,_,o,_,_,e,_⟩:=x;exact aY e
 |dT kvs=>obtain⟨_,_,_,_,o,_,_,e,_⟩:=x;exact aY e
 |set S n=>obtain⟨o,_,_,_,e,_⟩:=x;exact aY e
 |ins C dx fs=>obtain⟨_,_,_,e,_⟩:=x;exact aY e
 |own y=>obtain⟨_,e⟩:=x;exact aY e
 |xd fs=>obtain⟨_,⟨_,_,_,e,_⟩,_⟩:=x;exact aY e
 |rng lo hi=>obtain⟨_,_,_,e⟩:=x;exact aY e
 |pZ ob u=>obtain⟨e,_⟩:=x;exact aY e
 |Oh ps=>exact aY (show h.get? a=some _ from x)
 |met f y=>exact aY (show h.get? a=some _ from x)
 |ext φ=>obtain⟨_,⟨_,e⟩,_⟩:=x;exact aY e
theorem Ds.Oi{α β:Type}{F G:α->β->Prop}:∀{l₁:List α}{l₂:List β},Ds F l₁ l₂->(∀a b,F a b->G a b)->Ds G l₁ l₂
 |_,_,.nil,_=>.nil
 |_,_,.cons r t,f=>.cons (f _ _ r) (Ds.Oi t f)
theorem gw.stay(x:gw P w H h a o)(k:∀b u,(b=a\/H b=some (.own a))->h.get? b=some u->h'.get? b=some u)
  (ho:∀b,H b=some (.own a)->H' b=some (.own a))(ht:∀b xs,H b=some (.tup xs)->H' b=some (.tup xs)):gw P w H' h' a o:=by
 induction o with
 |lst xs=>obtain⟨z,its,n,r,e⟩:=x;exact⟨z,its,n,r,k _ _ (.inl rfl) e⟩
 |tup xs=>obtain⟨z,its,r,ob,e,c⟩:=x;exact⟨z,its,r,ob,k _ _ (.inl rfl) e,c⟩
 |dK kvs=>obtain⟨z,y,vs,r,ob,es,ep,e,c⟩:=x;exact⟨z,y,vs,r,ob,es,ep,k _ _ (.inl rfl) e,c⟩
 |dT kvs=>
  obtain⟨z,y,xs,r,ob,es,ep,e,c⟩:=x;exact⟨z,y,xs,Ds.Oi r λp q z=>⟨z.1,ht _ _ z.2.1,z.2.2⟩,ob,es,ep,k _ _ (.inl rfl) e,c⟩
 |set S n=>obtain⟨ob,es,ep,t,e,c⟩:=x;exact⟨ob,es,ep,t,k _ _ (.inl rfl) e,c⟩
 |ins C dx fs=>
  obtain⟨d,z,ne,e,mA,⟨od,es,ep,e2,c⟩,r⟩:=x;exact⟨ho _ d,z,ne,k _ _ (.inl rfl) e,mA,⟨od,es,ep,k _ _ (.inr d) e2,c⟩,r⟩
 |own y=>obtain⟨ob,e⟩:=x;exact⟨ob,k _ _ (.inl rfl) e⟩
 |xd fs=>obtain⟨mA,⟨od,es,ep,e,c⟩,r⟩:=x;exact⟨mA,⟨od,es,ep,k _ _ (.inl rfl) e,c⟩,r⟩
 |rng lo hi=>obtain⟨t,u,v,e⟩:=x;exact⟨t,u,v,k _ _ (.inl rfl) e⟩
 |pZ ob u ih=>obtain⟨e,q⟩:=x;exact⟨k _ _ (.inl rfl) e,ih q⟩
 |Oh ps=>
  have e:h.get? a=some { cls:=.none,data:=.fields ps }:=x;show h'.get? a=some { cls:=.none,data:=.fields ps };exact k a _ (.inl rfl) e
 |met f y=>
  have e:h.get? a=some (tD (.ref f) (.ref y)):=x;show h'.get? a=some (tD (.ref f) (.ref y));exact k a _ (.inl rfl) e
 |ext φ=>obtain⟨p,⟨o,e⟩,st⟩:=x;exact⟨st _ _ p λo q=>k _ _ (.inl rfl) q,⟨o,k _ _ (.inl rfl) e⟩,st⟩
theorem tj.lt(x:tj P w H h)(e:H a=some o):a<h.objs.size:=(x a o e).lt
theorem tj.fresh(x:tj P w H h)(e:h.objs.size<=a):H a=none:=by
 cases q:H a with
 |none=>rfl
 |some u=>exact absurd (bV (x.lt q) e) (jq _)
theorem tj.kept(x:tj P w H h)(k:∀b u,h.get? b=some u->h'.get? b=some u):tj P w H h':=λa o e=>
 (x a o e).stay (λb u _ q=>k b u q) (λ_ q=>q) λ_ _ q=>q
theorem tj.laid(x:tj P w H h)(k:∀b u,h.get? b=some u->h'.get? b=some u)(hp:h.objs.size<=a)(new:gw P w (upd H a o) h' a o):tj P w (upd H a o) h':=λb u e=>by
 have hn:=x.fresh hp;by_cases hb:b=a
 ·subst hb;rw[bB]at e;cases e;exact new
 ·rw[aR hb]at e
  exact(x b u e).stay (λc v _ q=>k c v q) (λc q=>by rw[aR (bT q hn)];exact q) λc xs q=>by rw[aR (bT q hn)];exact q
end
def Rd(H:Hp)(a:aK)(u:HO):Prop:=H a=some u\/∃o,H a=some (.pZ o u)
theorem Rd.ok{P:bo}{w:bX}{H:Hp}{h:cK}{a:aK}{u:HO}(r:Rd H a u)(x:tj P w H h):gw P w H h a u:=by
 rcases r with r|⟨o,r⟩
 ·exact x a u r
 ·obtain⟨_,q⟩:=x a _ r
  exact q
def Ro:Option HO->Prop
 |some (.lst _)=>True
 |some (.dK _)=>True
 |some (.dT _)=>True
 |some (.set _ _)=>True
 |some (.ins _ _ _)=>True
 |some (.ext _)=>True
 |_=>False
section
variable{P:bo}{w:bX}{H:Hp}{h h':cK}{x e:aK}{o':HO}
theorem tj.write(ok:tj P w H h)(mu:Ro (H x))(he:e=x\/H e=some (.own x))(k:∀b u,b≠e->h.get? b=some u->h'.get? b=some u)(MS:∃u,h'.get? e=some u)
  (new:gw P w (upd H x o') h' x o'):tj P w (upd H x o') h':=λb u q=>by
 have Rp:∀c y,H c=some (.own y)->c≠x:=λc y r z=>by subst z;rw[r]at mu;exact mu
 have Vr:∀c xs,H c=some (.tup xs)->c≠x:=λc xs r z=>by subst z;rw[r]at mu;exact mu
 by_cases hb:b=x
 ·subst hb;rw[bB]at q;cases q;exact new
 ·rw[aR hb]at q
  by_cases Oj:b=e
  ·have q':H b=some (.own x):=by
    rcases he with z|z
    ·exact absurd (Oj.trans z) hb
    ·rw[Oj];exact z
   rw[q]at q';cases q';obtain⟨v,hv⟩:=MS;exact⟨v,by rw[Oj];exact hv⟩
  ·refine(ok b u q).stay (λc v hc r=>k c v ?_ r) (λc r=>by rw[aR (Rp c b r)];exact r) λc xs r=>by rw[aR (Vr c xs r)];exact r
   rcases hc with rfl|hc
   ·exact Oj
   ·rintro rfl
    rcases he with z|z
    ·exact Rp c b hc z
    ·rw[hc]at z;cases z;exact hb rfl
end
structure Un(fs ex:List aK)(H H':Hp)(h h':cK):Prop where
 keep:∀b o,h.get? b=some o->H b=none->b∉fs->b∉ex->h'.get? b=some o
 slot:∀b o,h.get? b=some o->H b=none->b∈fs->b∉ex->∃sl,h'.get? b=some { o with slots:=sl }
 free:∀b o,h.get? b=some o->H b=none->b∉ex->H' b=none
 there:∀b o,h.get? b=some o->b∉ex->∃o',h'.get? b=some o'
 tups:∀b xs,H b=some (.tup xs)->H' b=some (.tup xs)
 uM:∀b o u,H b=some (.pZ o u)->H' b=some (.pZ o u)
 wJ:∀b ps,H b=some (.Oh ps)->∃more,H' b=some (.Oh (ps++more))
section
variable{fs fs' ex ex':List aK}{H H1 H2:Hp}{h h1 h2 h':cK}{a x e:aK}{o:HO}
theorem Un.any(u:Un fs ex H H1 h h1){b:aK}{ob:Obj}(q:h.get? b=some ob)(n:H b=none)(hx:b∉ex):∃sl,h1.get? b=some { ob with slots:=sl }:=by
 by_cases hb:b∈fs
 ·exact u.slot b ob q n hb hx
 ·exact⟨ob.slots,u.keep b ob q n hb hx⟩
theorem Un.kept(k:∀b u,h.get? b=some u->h'.get? b=some u):Un fs ex H H h h':=
 ⟨λb ob q _ _ _=>k b ob q,λb ob q _ _ _=>⟨ob.slots,k b ob q⟩,λ_ _ _ n _=>n,λb ob q _=>⟨ob,k b ob q⟩,λ_ _ q=>q,λ_ _ _ q=>q,λ_ ps q=>⟨#[],by rw[q];simp⟩⟩
theorem Un.refl:Un fs ex H H h h:=Un.kept λ_ _ q=>q
theorem Un.laid(k:∀b u,h.get? b=some u->h'.get? b=some u)(hp:h.objs.size<=a)(hn:H a=none):Un fs ex H (upd H a o) h h' where
 keep:=λb u q _ _ _=>k b u q
 slot:=λb u q _ _ _=>⟨u.slots,k b u q⟩
 free:=λb u q n _=>by rw[aR (aX (bV (aY q) hp))];exact n
 there:=λb u q _=>⟨u,k b u q⟩
 tups:=λb xs q=>by rw[aR (bT q hn)];exact q
 uM:=λb u xs q=>by rw[aR (bT q hn)];exact q
 wJ:=λb ps q=>⟨#[],by rw[aR (bT q hn),q];simp⟩
theorem Un.write(mu:Ro (H x))(he:e=x\/H e=some (.own x))(k:∀b u,b≠e->h.get? b=some u->h'.get? b=some u)(MS:∃u,h'.get? e=some u):Un fs ex H (upd H x o) h h':=by
 have hx:∀b,H b=none->b≠x:=λb n z=>by subst z;rw[n]at mu;exact mu
 have hb:∀b,H b=none->b≠e:=λb n z=>by
  subst z;rcases he with r|r
  ·exact hx b n r
  ·rw[n]at r;cases r
 have hm:∀b u,H b=some u->¬Ro (some u)->b≠x:=λb u q nm z=>by subst z;rw[q]at mu;exact nm mu
 refine⟨λb u q n _ _=>k b u (hb b n) q,λb u q n _ _=>⟨u.slots,k b u (hb b n) q⟩,λb u q n _=>by rw[aR (hx b n)];exact n,λb u q _=>?_,
  λb xs q=>by rw[aR (hm b _ q λz=>z)];exact q,λb u xs q=>by rw[aR (hm b _ q λz=>z)];exact q,λb ps q=>⟨#[],by rw[aR (hm b _ q λz=>z),q];simp⟩⟩
 by_cases Oj:b=e
 ·subst Oj;exact MS
 ·exact⟨u,k b u Oj q⟩
end
def UH(h:cK)(H:Hp):List aK:=(aW h.objs.size).filter λa=>(H a).isSome
def zS(h:cK)(H:Hp):cK:=PySem.W.hideAll h (UH h H)
theorem FN(h:cK)(H:Hp):(zS h H).objs.size=h.objs.size:=PySem.W.hideAll_size _ _
theorem Hs{h:cK}{H:Hp}{b:aK}{o:Obj}(e:h.get? b=some o)(n:H b=none):(zS h H).get? b=some o:=
 PySem.W.hideAll_get _ e λhm=>by
  have q:(H b).isSome=true:=(ym.mp hm).2;rw[n]at q;simp at q
theorem Ks{h:cK}{H:Hp}{b:aK}{o:Obj}(e:(zS h H).get? b=some o):h.get? b=some o/\H b=none:=by
 have e':h.get? b=some o:=PySem.W.of_hideAll (UH h H) e;refine⟨e',?_⟩
 cases q:H b with
 |none=>rfl
 |some x=>
  have hm:b∈UH h H:=ym.mpr ⟨cF.mpr (aY e'),by simp[q]⟩
  have z:(zS h H).get? b=none:=PySem.W.hideAll_none (UH h H) hm;rw[z]at e;cases e
structure Mod(K:ai)(mg:Str->Option av)(base:cK):Prop where
 Rq:K.In base
 glob:base.Ns mainGlobals mg
 blt:∃mb,base.Ns builtinsNs mb/\∀x:Str,x≠"__name__"->mb x=bootBuiltins x
 nolimit:base.NoLimit
structure Cx where
 prog:bo
 w:bX
 K:ai
 mg:Str->Option av
 base:cK
 A:cU
 N:List Str
 s₀:aF
 H₀:Hp
 env:Env
 outer:List Env
 stack:List Env
 ex:List aK
 fn:Str->Bool
 calm:Bool
 pn:List (aK×Obj)
 xe:av->aF->Prop
def Hi(l:List Env):List aK:=l.filterMap (·.frame)
abbrev Cx.fs(X:Cx):List aK:=Hi X.outer
def EH(sc:lb)(x:Str):Prop:=sc.names.lookup x=some .local\/sc.names.lookup x=some .cell\/sc.names.lookup x=some .free
def Loc(sc:lb)(x:Str):Prop:=sc.names.lookup x=some .local\/sc.names.lookup x=some .cell
def Look(env:Env)(h:cK)(m:Str->Option av)(x:Str)(u:av):Prop:=
 (env.kindOf x=some .local/\m x=some u)\/((env.kindOf x=some .cell\/env.kindOf x=some .free)/\∃c,env.cells.lookup x=some c/\h.IsCell c (some u))
structure Cx.Ok(X:Cx):Prop where
 mod:Mod X.K X.mg X.base
 kind:X.env.scope.kind=.function
 glob:X.env.globals=mainGlobals
 blt:X.env.builtins=builtinsNs
 above:X.s₀.heap.objs.size<=X.env.locals
 inj:∀x y c,X.env.cells.lookup x=some c->X.env.cells.lookup y=some c->x=y
 has:∀x,(X.env.kindOf x=some .cell\/X.env.kindOf x=some .free)->∃c,X.env.cells.lookup x=some c
 cab:∀x c,X.fn x=true->X.env.cells.lookup x=some c->X.s₀.heap.objs.size<=c
 hd:X.calm=true->X.A.handled=none
 frames:X.A.frames=some X.stack
 stk:X.stack=X.outer\/(X.stack=X.env::X.outer/\X.env.frame=some X.env.locals)
 YX:∀b∈X.ex,b≠X.env.locals/\∀x c,X.env.cells.lookup x=some c->c≠b
 bs:∀b o,X.base.get? b=some o->X.s₀.heap.get? b=some o/\X.H₀ b=none
 MT:X.base.objs.size<=X.s₀.heap.objs.size
 Ht:∀b o,X.base.get? b=some o->b∉X.ex
 Kt:∀b∈X.ex,b∉X.fs
 vW:X.s₀.heap.FunFrames X.base X.outer
 Ol:∀b∈X.fs,X.H₀ b=none
structure Inv(X:Cx)(pins:List (aK×Obj))(σ:List (Option V))(H:Hp)(s:aF):Prop where
 ok:X.Ok
 os:s.os=X.s₀.os
 bare:r6 s.gens
 base:Un X.fs X.ex X.H₀ H X.s₀.heap s.heap
 loc:∃m,s.heap.Ns X.env.locals m/\∀(i:Nat)(x:Str)(v:V),X.N[i]?=some x->σ[i]?=some (some v)->EH X.env.scope x->∃u,RelV v u/\Look X.env s.heap m x u
 cell:∀x c,X.env.cells.lookup x=some c->∃v,s.heap.IsCell c v
 free:H X.env.locals=none
 n_:∀x c,X.env.cells.lookup x=some c->H c=none
 pin:∀p∈X.pn++pins,s.heap.get? p.1=some p.2/\H p.1=none/\p.1≠X.env.locals/\p.1∉X.fs/\∀v,p.2.data≠.cell v
 hok:tj X.prog X.w H s.heap
 len:σ.length=X.N.length
section
variable{X:Cx}{pins:List (aK×Obj)}{σ:List (Option V)}{H H':Hp}{s:aF}{h':cK}
theorem Cx.Ok.Vs(ok:X.Ok){b:aK}{o:Obj}(e:X.base.get? b=some o):b∉X.fs:=λhb=>by
 have:=(ok.vW.mem hb).1;rw[e]at this;cases this
theorem Inv.bs(I:Inv X pins σ H s):∀b o,X.base.get? b=some o->s.heap.get? b=some o/\H b=none:=λb o e=>
 ⟨I.base.keep b o (I.ok.bs b o e).1 (I.ok.bs b o e).2 (I.ok.Vs e) (I.ok.Ht b o e),I.base.free b o (I.ok.bs b o e).1 (I.ok.bs b o e).2 (I.ok.Ht b o e)⟩
theorem Inv.bk(I:Inv X pins σ H s):∀b o,X.base.get? b=some o->s.heap.get? b=some o:=λb o e=>(I.bs b o e).1
theorem Inv.mod(I:Inv X pins σ H s):Mod X.K X.mg X.base:=I.ok.mod
theorem Inv.zT(I:Inv X pins σ H s):X.K.In s.heap:=I.ok.mod.Rq.keeps I.bk
theorem Inv.lt(I:Inv X pins σ H s):X.env.locals<s.heap.objs.size:=let⟨_,hn,_⟩:=I.loc;hn.lt
theorem Inv.sz(I:Inv X pins σ H s):X.s₀.heap.objs.size<=s.heap.objs.size:=b_ I.ok.above (qc I.lt)
theorem Inv.Vt(I:Inv X pins σ H s){a:aK}(h:s.heap.objs.size<=a):a∉X.fs:=λhb=>by
 obtain⟨_,o,ho,_⟩:=I.ok.vW.mem hb;exact absurd (bV (aY ho) (b_ I.sz h)) (jq _)
theorem Inv.Om(I:Inv X pins σ H s):∀x c,X.env.cells.lookup x=some c->c≠X.env.locals:=λx c e z=>by
 obtain⟨v,o,ho,hd⟩:=I.cell x c e;obtain⟨m,⟨o',es,ep,zU,Rr,_⟩,_⟩:=I.loc;rw[z,zU]at ho;cases ho;rw[Rr]at hd;cases hd
theorem Inv.vW(I:Inv X pins σ H s):s.heap.FunFrames X.base X.outer:=by
 have all:∀(l:List Env),(∀b∈Hi l,b∈X.fs)->X.s₀.heap.FunFrames X.base l->s.heap.FunFrames X.base l:=by
  intro l
  induction l with
  |nil=>intro _ _;trivial
  |cons env r ih=>
   intro hs hl;obtain⟨hk,⟨L,o,hf,hn,ho,hd⟩,hr⟩:=hl;have hL:L∈X.fs:=hs L (by unfold Hi;rw[mG,hf];exact aN)
   obtain⟨sl,e⟩:=I.base.slot L o ho (I.ok.Ol L hL) hL λz=>I.ok.Kt L z hL
   exact⟨hk,⟨L,_,hf,hn,e,hd⟩,ih (λb hb=>hs b (by unfold Hi;rw[mG,hf];exact aT _ hb)) hr⟩
 exact all X.outer (λ_ hb=>hb) I.ok.vW
theorem Inv.stack(I:Inv X pins σ H s):s.heap.FunFrames X.base X.stack:=by
 rcases I.ok.stk with e|⟨e,hf⟩
 ·rw[e];exact I.vW
 ·rw[e]
  obtain⟨m,hn,_⟩:=I.loc;refine .cons (by rw[I.ok.kind];decide) hf hn ?_ I.vW
  exact cK.get?_none_of_le (b_ I.ok.MT I.ok.above)
theorem Inv.zV(I:Inv X pins σ H s):∀b∈Hi X.stack,b∈X.env.locals::X.fs:=λb hb=>by
 rcases I.ok.stk with e|⟨e,hf⟩
 ·rw[e]at hb;exact aT _ hb
 ·rw[e]at hb
  unfold Hi at hb;rw[mG,hf]at hb;exact hb
theorem Inv.EI(I:Inv X pins σ H s):∀b∈Hi X.stack,H b=none:=λb hb=>by
 rcases aI.mp (I.zV b hb)with e|hb
 ·rw[e];exact I.free
 ·obtain⟨_,o,ho,_⟩:=I.ok.vW.mem hb
  exact I.base.free b o ho (I.ok.Ol b hb) λz=>I.ok.Kt b z hb
theorem Inv.step{g':Array oP}{t':Nat}{d':Drawn}{ch:List aK}(I:Inv X pins σ H s)
  (Hj:∀b∈ch,(b∈X.ex\/X.s₀.heap.objs.size<=b)/\b≠X.env.locals/\(∀x c,X.env.cells.lookup x=some c->c≠b)/\∀p∈X.pn++pins,p.1≠b)
  (keep:∀b o,b≠X.env.locals->b∉X.fs->b∉ch->s.heap.get? b=some o->H b=none->h'.get? b=some o)
  (slot:∀b o,b≠X.env.locals->b∈X.fs->b∉ch->s.heap.get? b=some o->H b=none->∃sl,h'.get? b=some { o with slots:=sl })(free:∀b o,b∉ch->s.heap.get? b=some o->H b=none->H' b=none)
  (there:∀b o,b∉ch->s.heap.get? b=some o->∃o',h'.get? b=some o')
  (tups:∀b xs,H b=some (.tup xs)->H' b=some (.tup xs))(uM:∀b o u,H b=some (.pZ o u)->H' b=some (.pZ o u))(wJ:∀b ps,H b=some (.Oh ps)->∃more,H' b=some (.Oh (ps++more)))
  (ns:∀m,s.heap.Ns X.env.locals m->h'.Ns X.env.locals m)(hok:tj X.prog X.w H' h')(hg:r6 g'):
  Inv X pins σ H' { s with heap:=h',gens:=g',drawn:=d',toks:=t' }:=by
 have YY:∀b o,X.s₀.heap.get? b=some o->b≠X.env.locals:=λb o e=>aX (bV (aY e) I.ok.above)
 have QH:∀b o,X.s₀.heap.get? b=some o->b∉X.ex->b∉ch:=λb o e hx hb=>by
  rcases(Hj b hb).1 with z|z
  ·exact hx z
  ·exact absurd (bV (aY e) z) (jq _)
 have cellK:∀x c,X.env.cells.lookup x=some c->∀v,s.heap.IsCell c v->h'.IsCell c v:=λx c e v ⟨o,ho,hd⟩=>by
  have Rt:c∉ch:=λz=>(Hj c z).2.2.1 x c e rfl
  by_cases hc:c∈X.fs
  ·obtain⟨sl,q⟩:=slot c o (I.Om x c e) hc Rt ho (I.n_ x c e)
   exact⟨_,q,hd⟩
  ·exact⟨o,keep c o (I.Om x c e) hc Rt ho (I.n_ x c e),hd⟩
 refine⟨I.ok,I.os,hg,⟨λb o e n hb hx=>?_,λb o e n hb hx=>?_,λb o e n hx=>?_,λb o e hx=>?_,λb xs e=>tups b xs (I.base.tups b xs e),λb o xs e=>uM b o xs (I.base.uM b o xs e),λb ps e=>?_⟩,?_,λx c e=>?_,?_,λx c e=>?_,λp hp=>?_,hok,I.len⟩
 ·exact keep b o (YY b o e) hb (QH b o e hx) (I.base.keep b o e n hb hx) (I.base.free b o e n hx)
 ·obtain⟨sl,e1⟩:=I.base.slot b o e n hb hx
  obtain⟨Ru,e2⟩:=slot b _ (YY b o e) hb (QH b o e hx) e1 (I.base.free b o e n hx);exact⟨Ru,e2⟩
 ·obtain⟨o',e1⟩:=I.base.there b o e hx
  exact free b o' (QH b o e hx) e1 (I.base.free b o e n hx)
 ·obtain⟨o',e1⟩:=I.base.there b o e hx
  exact there b o' (QH b o e hx) e1
 ·obtain⟨m1,e1⟩:=I.base.wJ b ps e
  obtain⟨m2,e2⟩:=wJ b _ e1;exact⟨m1++m2,by rw[e2,Array.append_assoc]⟩
 ·obtain⟨m,hn,hl⟩:=I.loc
  refine⟨m,ns m hn,λi x v e1 e2 e3=>?_⟩
  obtain⟨u,r,l⟩:=hl i x v e1 e2 e3;refine⟨u,r,?_⟩
  rcases l with l|⟨k,c,e,z⟩
  ·exact .inl l
  ·exact .inr ⟨k,c,e,cellK x c e _ z⟩
 ·obtain⟨v,z⟩:=I.cell x c e
  exact⟨v,cellK x c e v z⟩
 ·obtain⟨m,⟨o,_,_,ho,_⟩,_⟩:=I.loc
  exact free _ o (λz=>(Hj _ z).2.1 rfl) ho I.free
 ·obtain⟨v,o,ho,hd⟩:=I.cell x c e
  exact free c o (λz=>(Hj c z).2.2.1 x c e rfl) ho (I.n_ x c e)
 ·obtain⟨e,n,ne,nf,d⟩:=I.pin p hp
  have Rt:p.1∉ch:=λz=>(Hj p.1 z).2.2.2 p hp rfl
  exact⟨keep p.1 p.2 ne nf Rt e n,free p.1 p.2 Rt e n,ne,nf,d⟩
theorem Inv.un{t':Nat}(I:Inv X pins σ H s)(u:Un X.fs [] H H' s.heap h')(hok:tj X.prog X.w H' h'):Inv X pins σ H' { s with heap:=h',toks:=t' }:=by
 obtain⟨m,⟨o,es,ep,ho,r⟩,_⟩:=id I.loc;obtain⟨sl,hL⟩:=u.any ho I.free (by simp)
 exact I.step (g':=s.gens) (d':=s.drawn) (ch:=[]) (λ_ z=>nomatch z) (λb o _ hb _ e n=>u.keep b o e n hb (by simp)) (λb o _ hb _ e n=>u.slot b o e n hb (by simp)) (λb o _ e n=>u.free b o e n (by simp)) (λb o _ e=>u.there b o e (by simp)) u.tups u.uM u.wJ (λm' hm=>by
  obtain⟨o',Rv,Rw,zU,r'⟩:=hm;rw[ho]at zU;cases zU;exact⟨_,Rv,Rw,hL,r'⟩) hok I.bare
theorem Inv.call{g':Array oP}{t':Nat}{d':Drawn}{ch:List aK}(I:Inv X pins σ H s)(u:Un (Hi X.stack) ch H H' s.heap h')(hok:tj X.prog X.w H' h')(hg:r6 g')
  (Hj:∀b∈ch,(b∈X.ex\/X.s₀.heap.objs.size<=b)/\b≠X.env.locals/\(∀x c,X.env.cells.lookup x=some c->c≠b)/\∀p∈X.pn++pins,p.1≠b):
  Inv X pins σ H' { s with heap:=h',gens:=g',drawn:=d',toks:=t' }:=by
 obtain⟨m,⟨o,es,ep,ho,r⟩,_⟩:=id I.loc;obtain⟨sl,hL⟩:=u.any ho I.free λz=>(Hj _ z).2.1 rfl
 exact I.step (ch:=ch) Hj (λb o hL hb hc e n=>u.keep b o e n (λz=>(aI.mp (I.zV b z)).elim hL hb) hc) (λb o _ _ hc e n=>u.any e n hc) (λb o hc e n=>u.free b o e n hc) (λb o hc e=>u.there b o e hc) u.tups u.uM u.wJ (λm' hm=>by
  obtain⟨o',Rv,Rw,zU,r'⟩:=hm;rw[ho]at zU;cases zU;exact⟨_,Rv,Rw,hL,r'⟩) hok hg
theorem Inv.turned{t':Nat}{it:aK}(I:Inv X pins σ H s)(k:∀b o,b≠it->s.heap.get? b=some o->h'.get? b=some o)(hn:H it=none)(hL:it≠X.env.locals)
  (h1:it∈X.ex\/X.s₀.heap.objs.size<=it)(h2:∀x c,X.env.cells.lookup x=some c->c≠it)(h3:∀p∈X.pn++pins,p.1≠it):Inv X pins σ H { s with heap:=h',toks:=t' }:=by
 have Rx:∀b u,H b=some u->b≠it:=λb u e z=>by rw[z,hn]at e;cases e
 refine I.step (g':=s.gens) (d':=s.drawn) (ch:=[it]) (λb hb=>?_) (λb o _ _ hc e _=>k b o (λz=>hc (by simp[z])) e) (λb o _ _ hc e _=>⟨o.slots,k b o (λz=>hc (by simp[z])) e⟩) (λ_ _ _ _ n=>n)
  (λb o hc e=>⟨o,k b o (λz=>hc (by simp[z])) e⟩) (λ_ _ e=>e) (λ_ _ _ e=>e) (λb ps e=>⟨#[],by rw[e];simp⟩) (λm hm=>?_) (λb u e=>?_) I.bare
 ·have e:b=it:=by simpa using hb
  subst e;exact⟨h1,hL,h2,h3⟩
 ·obtain⟨o,es,ep,ho,r⟩:=hm
  exact⟨o,es,ep,k _ o (bY hL) ho,r⟩
 ·refine(I.hok b u e).stay (λc v hc q=>k c v ?_ q) (λ_ q=>q) λ_ _ q=>q
  rcases hc with z|z
  ·rw[z];exact Rx b u e
  ·exact Rx c _ z
theorem Inv.tok(I:Inv X pins σ H s)(t:Nat):Inv X pins σ H { s with toks:=t }:=I.un (h':=s.heap) (t':=t) Un.refl I.hok
theorem Inv.kept{t':Nat}(I:Inv X pins σ H s)(k:∀b u,s.heap.get? b=some u->h'.get? b=some u):Inv X pins σ H { s with heap:=h',toks:=t' }:=I.un (Un.kept k) (I.hok.kept k)
theorem Inv.laid{a:aK}{o:HO}{t':Nat}(I:Inv X pins σ H s)(k:∀b u,s.heap.get? b=some u->h'.get? b=some u)(hp:s.heap.objs.size<=a)(new:gw X.prog X.w (upd H a o) h' a o):
  Inv X pins σ (upd H a o) { s with heap:=h',toks:=t' }:=I.un (Un.laid k hp (I.hok.fresh hp)) (I.hok.laid k hp new)
theorem Inv.write{x e:aK}{o:HO}{t':Nat}(I:Inv X pins σ H s)(mu:Ro (H x))(he:e=x\/H e=some (.own x))(k:∀b u,b≠e->s.heap.get? b=some u->h'.get? b=some u)(MS:∃u,h'.get? e=some u)
  (new:gw X.prog X.w (upd H x o) h' x o):Inv X pins σ (upd H x o) { s with heap:=h',toks:=t' }:=I.un (Un.write mu he k MS) (I.hok.write mu he k MS new)
theorem Inv.EJ{MV:List (aK×Obj)}(I:Inv X pins σ H s)(h:∀p∈MV,s.heap.get? p.1=some p.2/\H p.1=none/\p.1≠X.env.locals/\p.1∉X.fs/\∀v,p.2.data≠.cell v):Inv X MV σ H s:=
 ⟨I.ok,I.os,I.bare,I.base,I.loc,I.cell,I.free,I.n_,λp hp=>(bZ.mp hp).elim (λz=>I.pin p (dX _ z)) (h p),I.hok,I.len⟩
theorem BH{N:List Str}(hN:N.Nodup){i j:Nat}{x:Str}(a:N[i]?=some x)(b:N[j]?=some x):i=j:=by
 obtain⟨h1,e1⟩:=aM.mp a;obtain⟨h2,e2⟩:=aM.mp b;exact(List.getElem_inj hN).mp (e1.trans e2.symm)
theorem yV{M:Model}{A:cU}{E:av->aF->Prop}{i:Nat}{x:Str}{v:V}{u:av}{Q:Unit->aF->Prop}(I:Inv X pins σ H s)(hN:X.N.Nodup)(hi:X.N[i]?=some x)(hx:Loc X.env.scope x)(r:RelV v u)
  (h:∀s',Inv X pins (σ.set i (some v)) H s'->(∃a,ie a s.heap s'.heap/\(a=X.env.locals\/X.env.cells.lookup x=some a))->Q () s')(hf:X.fn x=true\/X.env.scope.names.lookup x=some .local:=by first|exact .inl rfl|exact .inr rfl|assumption):wpAny M A (storeName X.env x u) Q E s:=by
 obtain⟨m,hn,hl⟩:=id I.loc;have Vu:(X.env.scope.kind == .class||(X.env.scope.kind == .module&&X.env.locals != X.env.globals))=false:=by rw[I.ok.kind];rfl
 have hiσ:i < σ.length:=by rw[I.len];exact(aM.mp hi).1
 have Om:=I.Om;have tracked:∀{a:aK}{h':cK},(∃o,s.heap.get? a=some o/\H a=none)->ie a s.heap h'->tj X.prog X.w H h':=λ{a h'}ha hs b ob e=>by
  obtain⟨_,_,MX⟩:=ha;refine(I.hok b ob e).stay (λc w' hc q=>(hs.2 c ?_).trans q) (λ_ q=>q) λ_ _ q=>q
  rintro rfl
  rcases hc with rfl|hc
  ·rw[MX]at e;cases e
  ·rw[MX]at hc;cases hc
 rcases hx with hk|hk
 ·refine wpAny_storeName_local hk hn (λh' hn' hs=>?_) Vu
  obtain⟨oL,_,_,hoL,_⟩:=id hn;refine h _ ⟨I.ok,I.os,I.bare,⟨λb o e n hb hx=>?_,λb o e n hb hx=>?_,I.base.free,λb o e hx=>?_,I.base.tups,I.base.uM,I.base.wJ⟩,⟨_,hn',λj y v' e1 e2 e3=>?_⟩,λy c e=>?_,I.free,I.n_,λp hp=>?_,tracked ⟨oL,hoL,I.free⟩ hs,by simpa using I.len⟩ ⟨_,hs,.inl rfl⟩
  ·exact(hs.2 b (aX (bV (aY e) I.ok.above))).trans (I.base.keep b o e n hb hx)
  ·obtain⟨sl,e1⟩:=I.base.slot b o e n hb hx
   exact⟨sl,(hs.2 b (aX (bV (aY e) I.ok.above))).trans e1⟩
  ·obtain⟨o',e1⟩:=I.base.there b o e hx
   exact⟨o',(hs.2 b (aX (bV (aY e) I.ok.above))).trans e1⟩
  ·by_cases hj:j=i
   ·subst hj
    rw[hi]at e1;cases e1;rw[bq hiσ]at e2;cases e2;exact⟨u,r,.inl ⟨hk,by simp⟩⟩
   ·rw[a9 (bY hj)]at e2
    obtain⟨u',r',q⟩:=hl j y v' e1 e2 e3;refine⟨u',r',?_⟩
    rcases q with⟨k,e⟩|⟨k,c,e,z⟩
    ·refine .inl ⟨k,?_⟩
     have:y≠x:=λe=>hj (BH hN e1 (e▸hi))
     simp[this,e]
    ·exact .inr ⟨k,c,e,z.sameBut hs (Om y c e)⟩
  ·obtain⟨w',z⟩:=I.cell y c e
   exact⟨w',z.sameBut hs (Om y c e)⟩
  ·obtain⟨e,n,ne,nf,d⟩:=I.pin p hp
   exact⟨(hs.2 p.1 ne).trans e,n,ne,nf,d⟩
 ·have Vv:X.fn x=true:=by
   rcases hf with z|z
   ·exact z
   ·rw[z]at hk;cases hk
  obtain⟨c,hc⟩:=I.ok.has x (.inl hk);obtain⟨w',z⟩:=I.cell x c hc;refine wpAny_storeName_cell I.ok.kind hk hc z (λh' QI hs=>?_)
  obtain⟨oc,YZ,Vw⟩:=id z;refine h { s with heap:=h' } ⟨I.ok,I.os,I.bare,⟨λb o e n hb hx=>?_,λb o e n hb hx=>?_,I.base.free,λb o e hx=>?_,I.base.tups,I.base.uM,I.base.wJ⟩,⟨m,hn.sameBut hs (bY (Om x c hc)),λj y v' e1 e2 e3=>?_⟩,λy c' e=>?_,I.free,I.n_,λp hp=>?_,tracked ⟨oc,YZ,I.n_ x c hc⟩ hs,by simpa using I.len⟩ ⟨c,hs,.inr hc⟩
  ·exact(hs.2 b (aX (bV (aY e) (I.ok.cab x c Vv hc)))).trans (I.base.keep b o e n hb hx)
  ·obtain⟨sl,e1⟩:=I.base.slot b o e n hb hx
   exact⟨sl,(hs.2 b (aX (bV (aY e) (I.ok.cab x c Vv hc)))).trans e1⟩
  ·obtain⟨o',e1⟩:=I.base.there b o e hx
   exact⟨o',(hs.2 b (aX (bV (aY e) (I.ok.cab x c Vv hc)))).trans e1⟩
  ·by_cases hj:j=i
   ·subst hj
    rw[hi]at e1;cases e1;rw[bq hiσ]at e2;cases e2;exact⟨u,r,.inr ⟨.inl hk,c,hc,QI⟩⟩
   ·rw[a9 (bY hj)]at e2
    obtain⟨u',r',q⟩:=hl j y v' e1 e2 e3;refine⟨u',r',?_⟩
    rcases q with q|⟨k,c',e,z'⟩
    ·exact .inl q
    ·refine .inr ⟨k,c',e,z'.sameBut hs ?_⟩
     rintro rfl
     exact hj (BH hN e1 (I.ok.inj _ _ _ e hc▸hi))
  ·by_cases UI:c'=c
   ·subst UI;exact⟨_,QI⟩
   ·obtain⟨w2,z2⟩:=I.cell y c' e
    exact⟨w2,z2.sameBut hs UI⟩
  ·obtain⟨e,n,ne,nf,d⟩:=I.pin p hp
   refine⟨(hs.2 p.1 ?_).trans e,n,ne,nf,d⟩
   intro q;rw[q,YZ]at e;have q':oc=p.2:=cY e;exact d w' (by rw[<-q'];exact Vw)
theorem mL{M:Model}{A:cU}{E:av->aF->Prop}{i:Nat}{x:Str}{v:V}{u:av}{Q:Unit->aF->Prop}(I:Inv X pins σ H s)(hN:X.N.Nodup)(hi:X.N[i]?=some x)(hx:Loc X.env.scope x)(r:RelV v u)
  (h:∀s',Inv X pins (σ.set i (some v)) H s'->Q () s')(hf:X.fn x=true\/X.env.scope.names.lookup x=some .local:=by first|exact .inl rfl|exact .inr rfl|assumption):wpAny M A (storeName X.env x u) Q E s:=
 yV I hN hi hx r (λs' I' _=>h s' I') hf
theorem Inv.call'{s':aF}{ch:List aK}(I:Inv X pins σ H s)(ho:s'.os=s.os)(u:Un (Hi X.stack) ch H H' s.heap s'.heap)(hok:tj X.prog X.w H' s'.heap)(hg:r6 s'.gens)
  (Hj:∀b∈ch,(b∈X.ex\/X.s₀.heap.objs.size<=b)/\b≠X.env.locals/\(∀x c,X.env.cells.lookup x=some c->c≠b)/\∀p∈X.pn++pins,p.1≠b):Inv X pins σ H' s':=by
 obtain⟨h',g',d',t',o'⟩:=s';have e:o'=s.os:=ho;subst e;exact I.call (g':=g') (t':=t') (d':=d') u hok hg Hj
end
abbrev XK:=av->Option aK->Hp->Prop
abbrev St:=List (Option V)
abbrev VK:=V->Hp->Prop
abbrev TE:=St->Hp->VK->Prop
abbrev TT:=St->Hp->(Bool->Hp->Prop)->Prop
abbrev TA:=St->Hp->(List V->Hp->Prop)->Prop
structure Ends where
 nx:St->Hp->Prop
 rt:VK
 bk:St->Hp->Prop:=λ_ _=>False
 ct:St->Hp->Prop:=λ_ _=>False
abbrev TS:=Ends->St->Hp->Prop
def EP(X:Cx)(pins:List (aK×Obj))(σ:St)(Q:VK)(u:av)(s':aF):Prop:=∃v H',Inv X pins σ H' s'/\RelV v u/\Q v H'
def TP(X:Cx)(pins:List (aK×Obj))(σ:St)(Q:Bool->Hp->Prop)(b:Bool)(s':aF):Prop:=∃H',Inv X pins σ H' s'/\Q b H'
def AP(X:Cx)(pins:List (aK×Obj))(σ:St)(Q:List V->Hp->Prop)(us:List av)(s':aF):Prop:=∃vs H',Inv X pins σ H' s'/\dS vs us/\Q vs H'
def SP(X:Cx)(pins:List (aK×Obj))(D:Ends)(f:Flow)(s':aF):Prop:=
 match f with
 | .next=>∃σ' H',Inv X pins σ' H' s'/\D.nx σ' H'
 | .brk=>∃σ' H',Inv X pins σ' H' s'/\D.bk σ' H'
 | .cont=>∃σ' H',Inv X pins σ' H' s'/\D.ct σ' H'
 | .ret u=>∃v σ' H',Inv X pins σ' H' s'/\RelV v u/\D.rt v H'
def PE(X:Cx)(e:bR)(t:TE):Prop:=
 ∀(pins:List (aK×Obj))(s:aF)(σ:St)(H:Hp)(Q:VK),Inv X pins σ H s->t σ H Q->wpAny (model X.prog X.w) X.A (eval e X.env) (EP X pins σ Q) X.xe s
def PT(X:Cx)(e:bR)(t:TT):Prop:=
 ∀(pins:List (aK×Obj))(s:aF)(σ:St)(H:Hp)(Q:Bool->Hp->Prop),Inv X pins σ H s->t σ H Q->wpAny (model X.prog X.w) X.A (isTrue e X.env (eval e X.env)) (TP X pins σ Q) X.xe s
def PW(X:Cx)(e:bR)(t:TT):Prop:=
 ∀(whole:Sem av)(pins:List (aK×Obj))(s:aF)(σ:St)(H:Hp)(Q:Bool->Hp->Prop),Inv X pins σ H s->t σ H Q->wpAny (model X.prog X.w) X.A (isTrue e X.env whole) (TP X pins σ Q) X.xe s
theorem PW.pt{X:Cx}{e:bR}{t:TT}(h:PW X e t):PT X e t:=h _
def PA(X:Cx)(es:List bR)(t:TA):Prop:=
 ∀(pos:Pos)(pins:List (aK×Obj))(s:aF)(σ:St)(H:Hp)(Q:List V->Hp->Prop),Inv X pins σ H s->t σ H Q->wpAny (model X.prog X.w) X.A (spliced (backTo pos (starEach es X.env))) (AP X pins σ Q) X.xe s
def PS(X:Cx)(st:gZ)(t:TS):Prop:=
 ∀(pins:List (aK×Obj))(s:aF)(σ:St)(H:Hp)(D:Ends),Inv X pins σ H s->t D σ H->wpAny (model X.prog X.w) X.A (exec st X.env) (SP X pins D) X.xe s
def EK(X:Cx)(st:List gZ)(t:TS):Prop:=
 ∀(pins:List (aK×Obj))(s:aF)(σ:St)(H:Hp)(D:Ends),Inv X pins σ H s->t D σ H->wpAny (model X.prog X.w) X.A (execs st X.env) (SP X pins D) X.xe s
theorem gD{α:Type}{t:Sem α}{Q Q':α->aF->Prop}{M:Model}{A:cU}{E:av->aF->Prop}{s:aF}(h:wpAny M A t Q E s)(hQ:∀a s,Q a s->Q' a s):wpAny M A t Q' E s:=h8 h hQ λ_ _ x=>x
section
variable{X:Cx}
theorem bin{a b:bR}{ta tb:TE}(ha:PE X a ta)(hb:PE X b tb){pins:List (aK×Obj)}{s:aF}{σ:St}{H:Hp}{R:V->V->Hp->Prop}(I:Inv X pins σ H s)(h:ta σ H λx H1=>tb σ H1 λy H2=>R x y H2)
  {α:Type}{Q:α->aF->Prop}{f:av->av->Sem α}
  (hf:∀v u s2 x y H2,Inv X pins σ H2 s2->RelV x v->RelV y u->R x y H2->wpAny (model X.prog X.w) X.A (f v u) Q X.xe s2):
  wpAny (model X.prog X.w) X.A (eval a X.env) (λv s₁=>wpAny (model X.prog X.w) X.A (eval b X.env) (λu s₂=>wpAny (model X.prog X.w) X.A (f v u) Q X.xe s₂) X.xe s₁) X.xe s:=by
 refine gD (ha pins s σ H _ I h) λv s1 ⟨x,H1,I1,r1,q1⟩=>?_
 refine gD (hb pins s1 σ H1 _ I1 q1) λu s2 ⟨y,H2,I2,r2,q2⟩=>?_
 exact hf v u s2 x y H2 I2 r1 r2 q2
def Ry(i:Nat):TE:=λσ H Q=>∃v,σ[i]?=some (some v)/\Q v H
def tC(v:V):TE:=λ_ H Q=>Q v H
theorem lU{i:Nat}{x:Str}{pos:Pos}(hN:X.N[i]?=some x)(hv:EH X.env.scope x)(hd:(x==("__debug__":Str))=false:=by decide)(rJ:(x==("__classdict__":Str))=false:=by decide):PE X (.Name x pos) (Ry i):=by
 intro pins s σ H Q I h;obtain⟨v,e,h⟩:=h;obtain⟨m,hn,hl⟩:=I.loc;obtain⟨u,r,l⟩:=hl i x v hN e hv;have fin:EP X pins σ Q u s:=⟨v,H,I,r,h⟩;rcases l with⟨hk,hm⟩|⟨hk,c,hc,MY⟩
 ·exact wpAny_Name (wpAny_loadName_local I.ok.kind hk hn hm fin) hd
 ·rcases hk with hk|hk
  ·exact wpAny_Name (wpAny_loadName_cell I.ok.kind hk hc MY fin) hd
  ·exact wpAny_Name (wpAny_loadName_free I.ok.kind hk hc MY fin rJ) hd
theorem Oo{i j pos}:PE X (.Constant (.int i) j pos) (tC (.int i)):=λ_ _ _ H _ I h=>wpAny_Constant_int ⟨.int i,H,I.tok _,⟨_,rfl⟩,h⟩
theorem Rz{b j pos}:PE X (.Constant (.bool b) j pos) (tC (.bl b)):=λ_ _ _ H _ I h=>Constant_bool ⟨.bl b,H,I,rfl,h⟩
theorem Oq{j pos}:PE X (.Constant .none j pos) (tC .non):=λ_ _ _ H _ I h=>Constant_none ⟨.non,H,I,rfl,h⟩
theorem Ot{x j pos}:PE X (.Constant (.str x) j pos) (tC (.str x)):=λ_ _ _ H _ I h=>Calls.Constant_str ⟨.str x,H,I.tok _,⟨_,rfl⟩,h⟩
def Gl(X:Cx)(x:Str):Prop:=X.env.kindOf x=some .globalImplicit
theorem zW{E:av->aF->Prop}{pins:List (aK×Obj)}{s:aF}{σ:St}{H:Hp}{x:Str}{u:av}{pos:Pos}{Q:av->aF->Prop}(I:Inv X pins σ H s)(hg:Gl X x)(hm:X.mg x=some u)(h:Q u s)
  (hd:(x==("__debug__":Str))=false:=by decide):wpAny (model X.prog X.w) X.A (eval (.Name x pos) X.env) Q E s:=
 yu I.ok.kind hg (Calls.loadGlobal_global (by rw[I.ok.glob];exact I.mod.glob.keeps I.bk) hm h) hd
theorem uN{E:av->aF->Prop}{pins:List (aK×Obj)}{s:aF}{σ:St}{H:Hp}{x:Str}{u:av}{pos:Pos}{Q:av->aF->Prop}(I:Inv X pins σ H s)(hg:Gl X x)(hm:X.mg x=none)(hv:bootBuiltins x=some u)(h:Q u s)
  (hn:x≠"__name__":=by decide)(hd:(x==("__debug__":Str))=false:=by decide):wpAny (model X.prog X.w) X.A (eval (.Name x pos) X.env) Q E s:=by
 obtain⟨mb,h1,h2⟩:=I.mod.blt;exact yu I.ok.kind hg (Calls.loadGlobal_builtin (by rw[I.ok.glob];exact I.mod.glob.keeps I.bk) hm (by rw[I.ok.blt];exact h1.keeps I.bk) ((h2 x hn).trans hv) h) hd
theorem wo{x:Str}{v:V}{u:av}{pos:Pos}(hg:Gl X x)(hm:X.mg x=some u)(r:RelV v u)(hd:(x==("__debug__":Str))=false:=by decide):PE X (.Name x pos) (tC v):=
 λ_ _ _ H _ I h=>zW I hg hm ⟨v,H,I,r,h⟩ hd
theorem Ku{x:Str}{v:V}{u:av}{pos:Pos}(hg:Gl X x)(hm:X.mg x=none)(hv:bootBuiltins x=some u)(r:RelV v u)(hn:x≠"__name__":=by decide)(hd:(x==("__debug__":Str))=false:=by decide):PE X (.Name x pos) (tC v):=
 λ_ _ _ H _ I h=>uN I hg hm hv ⟨v,H,I,r,h⟩ hn hd
variable{a b:bR}{ta tb:TE}{pos:Pos}
def PC(X:Cx)(op:Bm)(a b:bR)(t:TE):Prop:=
 ∀(pins:List (aK×Obj))(s:aF)(σ:St)(H:Hp)(Q:VK),Inv X pins σ H s->t σ H Q->
  wpAny (model X.prog X.w) X.A (eval a X.env) (λv s₁=>wpAny (model X.prog X.w) X.A (eval b X.env) (λu s₂=>wpAny (model X.prog X.w) X.A (compareOp op v u) (EP X pins σ Q) X.xe s₂) X.xe s₁) X.xe s
def tB(t:TE):TT:=λσ H Q=>t σ H λx H1=>∃c,x=.bl c/\Q c H1
theorem Dv{op:Bm}{t:TE}(h:PC X op a b t)(h1:behindInMarks op b=false:=by first|exact Hu _ (by decide) (by decide)|rfl):PE X (.Compare a [op] [b] pos) t:=λpins s σ H Q I hw=>wpAny_Compare1 (h pins s σ H Q I hw) h1
theorem Ou{op:Bm}{t:TE}(h:PC X op a b t)(h1:behindInMarks op b=false:=by first|exact Hu _ (by decide) (by decide)|rfl):PT X (.Compare a [op] [b] pos) (tB t):=by
 intro pins s σ H Q I hw;refine wpAny_isTrue_Compare1 (gD (h pins s σ H _ I hw) λv s1 h1=>gD h1 λu s2 h2=>gD h2 λc s3 ⟨x,H1,I1,r1,q1⟩=>?_) h1
 obtain⟨d,rfl,q⟩:=q1;cases r1;exact eW ⟨H1,I1,q⟩
variable{tA UJ:TT}{rest:List bR}
def Vx(t u:TT):TT:=λσ H Q=>t σ H λc H1=>if c=true then u σ H1 Q else Q false H1
def tOr(t u:TT):TT:=λσ H Q=>t σ H λc H1=>if c=true then Q true H1 else u σ H1 Q
def Vy(t:TT):TT:=λσ H Q=>t σ H λc H1=>Q (!c) H1
theorem pw_and1(ha:PT X a tA):PW X (.BoolOp .And [a] pos) tA:=by
 intro wh pins s σ H Q I h;refine isTrue_and (gD (ha pins s σ H Q I h) λc s1 e=>?_)
 cases c with
 |true=>exact isTrue_and_nil e
 |false=>exact e
theorem pw_or1(ha:PT X a tA):PW X (.BoolOp .Or [a] pos) tA:=by
 intro wh pins s σ H Q I h;refine isTrue_or (gD (ha pins s σ H Q I h) λc s1 e=>?_)
 cases c with
 |false=>exact isTrue_or_nil e
 |true=>exact e
theorem pw_and(ha:PT X a tA)(hb:PW X (.BoolOp .And (b::rest) pos) UJ):PW X (.BoolOp .And (a::b::rest) pos) (Vx tA UJ):=by
 intro wh pins s σ H Q I h;refine isTrue_and (gD (ha pins s σ H _ I h) λc s1 ⟨H1,I1,q1⟩=>?_)
 cases c with
 |true=>exact hb wh pins s1 σ H1 Q I1 q1
 |false=>exact⟨H1,I1,q1⟩
theorem pw_or(ha:PT X a tA)(hb:PW X (.BoolOp .Or (b::rest) pos) UJ):PW X (.BoolOp .Or (a::b::rest) pos) (tOr tA UJ):=by
 intro wh pins s σ H Q I h;refine isTrue_or (gD (ha pins s σ H _ I h) λc s1 ⟨H1,I1,q1⟩=>?_)
 cases c with
 |true=>exact⟨H1,I1,q1⟩
 |false=>exact hb wh pins s1 σ H1 Q I1 q1
theorem Ov(ha:PT X a tA):PT X (.UnaryOp .Not a pos) (Vy tA):=by
 intro pins s σ H Q I h;exact isTrue_not (ha pins s σ H (λc H1=>Q (!c) H1) I h)
def RA(ta tb:TE):TE:=λσ H Q=>ta σ H λx H1=>∃c,x=.bl c/\if c=true then tb σ H1 Q else Q (.bl false) H1
def Vz(ta tb:TE):TE:=λσ H Q=>ta σ H λx H1=>∃c,x=.bl c/\if c=true then Q (.bl true) H1 else tb σ H1 Q
def RB(ta:TE):TE:=λσ H Q=>ta σ H λx H1=>∃c,x=.bl c/\Q (.bl (!c)) H1
theorem Ow{op}{t:TE}(h:PE X a t):PE X (.BoolOp op [a] pos) t:=λpins s σ H Q I hw=>BoolOp_one (h pins s σ H Q I hw)
theorem Hv(ha:PE X a ta)(hb:PE X (.BoolOp .And (b::rest) pos) tb):PE X (.BoolOp .And (a::b::rest) pos) (RA ta tb):=by
 intro pins s σ H Q I h;refine BoolOp_and (gD (ha pins s σ H _ I h) λv s1 ⟨x,H1,I1,r1,q1⟩=>?_)
 obtain⟨c,rfl,q1⟩:=q1;cases r1;refine eW ?_
 cases c with
 |true=>exact hb pins s1 σ H1 Q I1 q1
 |false=>exact⟨.bl false,H1,I1,rfl,q1⟩
theorem MZ(ha:PE X a ta)(hb:PE X (.BoolOp .Or (b::rest) pos) tb):PE X (.BoolOp .Or (a::b::rest) pos) (Vz ta tb):=by
 intro pins s σ H Q I h;refine BoolOp_or (gD (ha pins s σ H _ I h) λv s1 ⟨x,H1,I1,r1,q1⟩=>?_)
 obtain⟨c,rfl,q1⟩:=q1;cases r1;refine eW ?_
 cases c with
 |false=>exact hb pins s1 σ H1 Q I1 q1
 |true=>exact⟨.bl true,H1,I1,rfl,q1⟩
theorem Ox(ha:PE X a ta):PE X (.UnaryOp .Not a pos) (RB ta):=by
 intro pins s σ H Q I h;refine UnaryOp_ (gD (ha pins s σ H _ I h) λv s1 ⟨x,H1,I1,r1,q1⟩=>?_)
 obtain⟨c,rfl,q1⟩:=q1;cases r1;exact not_of (eW ⟨.bl (!c),H1,I1,rfl,q1⟩)
def tIf(t:TT)(ta tb:TE):TE:=λσ H Q=>t σ H λc H1=>if c=true then ta σ H1 Q else tb σ H1 Q
theorem Hw{c:bR}(hc:PT X c tA)(ha:PE X a ta)(hb:PE X b tb):PE X (.IfExp c a b pos) (tIf tA ta tb):=by
 intro pins s σ H Q I h;refine wpAny_IfExp (gD (hc pins s σ H _ I h) λd s1 ⟨H1,I1,q1⟩=>?_)
 cases d with
 |true=>exact ha pins s1 σ H1 Q I1 q1
 |false=>exact hb pins s1 σ H1 Q I1 q1
end
def kO(K:ai)(H:Hp)(a:aK)(xs:List V):Prop:=
 Rd H a (.lst xs)\/
  ∃(o:Obj)(its:Array av)(n:Nat),K.lookup a=some o/\o.cls=.type "list"/\o.dict=none/\o.data=.seq its n/\its.size<=sizeLine/\dS xs its.toList
def og(K:ai)(H:Hp)(a:aK)(xs:List V):Prop:=
 Rd H a (.tup xs)\/
  ∃(o:Obj)(its:Array av)(n:Nat),K.lookup a=some o/\o.cls=.type "tuple"/\o.data=.seq its n/\its.size<=sizeLine/\dS xs its.toList
def VB:av->Option V
 | .none=>some .non
 | .bool b=>some (.bl b)
 | .int i _=>some (.int i)
 | .str x _=>some (.str x)
 | .bytes b _=>some (.QG b)
 | .float b _=>some (.flt b)
 | .ref a=>some (.ref a)
 | .type n=>some (.ty n)
 |_=>none
theorem RelV.abs{x:V}{u:av}(r:RelV x u):VB u=some x:=by
 cases x with
 |non=>cases r;rfl
 |bl _=>cases r;rfl
 |int _=>obtain⟨t,rfl⟩:=r;rfl
 |str _=>obtain⟨t,rfl⟩:=r;rfl
 |QG _=>obtain⟨t,rfl⟩:=r;rfl
 |flt _=>obtain⟨t,rfl⟩:=r;rfl
 |ref _=>cases r;rfl
 |ty _=>cases r;rfl
theorem RelV.inj{x y:V}{u:av}(r:RelV x u)(q:RelV y u):x=y:=cY (r.abs.symm.trans q.abs)
theorem dS.inj:∀{xs ys:List V}{us:List av},dS xs us->dS ys us->xs=ys
 |_,_,_,.nil,.nil=>rfl
 |_,_,_,.cons r t,.cons r' t'=>by rw[r.inj r',dS.inj t t']
section
variable{X:Cx}{pins:List (aK×Obj)}{σ:St}{H:Hp}{s:aF}{a:aK}{xs ys:List V}
theorem kO.of{K:ai}(h:H a=some (.lst xs)):kO K H a xs:=.inl (.inl h)
theorem og.of{K:ai}(h:H a=some (.tup xs)):og K H a xs:=.inl (.inl h)
theorem Inv.list(I:Inv X pins σ H s)(h:kO X.K H a xs):∃its:List av,dS xs its/\PlainL s.heap a its.toArray/\xs.length<=sizeLine:=by
 rcases h with h|⟨o,its,n,hk,hc,hd,hs,hz,r⟩
 ·obtain⟨z,its,n,r,e⟩:=h.ok I.hok
  exact⟨its,r,⟨_,n,e,rfl,rfl,rfl⟩,z⟩
 ·refine⟨its.toList,r,⟨o,n,I.zT a o hk,hc,hd,by simpa using hs⟩,?_⟩
  have e:=r.length;simp only[cN]at e;omega
theorem Inv.tuple(I:Inv X pins σ H s)(h:og X.K H a xs):∃its:List av,dS xs its/\IsTup s.heap a its.toArray/\xs.length<=sizeLine:=by
 rcases h with h|⟨o,its,n,hk,hc,hs,hz,r⟩
 ·obtain⟨z,its,r,p⟩:=h.ok I.hok
  exact⟨its,r,p,z⟩
 ·refine⟨its.toList,r,⟨o,I.zT a o hk,hc,n,by simpa using hs⟩,?_⟩
  have e:=r.length;simp only[cN]at e;omega
theorem Inv.wK(I:Inv X pins σ H s)(h:kO X.K H a xs)(h':kO X.K H a ys):xs=ys:=by
 obtain⟨its,r,⟨o,n,e,_,_,d⟩,_⟩:=I.list h;obtain⟨its',r',⟨o',n',e',_,_,d'⟩,_⟩:=I.list h';rw[e]at e';cases e';rw[d]at d'
 injection d' with d1 _
 have:its=its':=by simpa using congrArg Array.toList d1
 subst this;exact r.inj r'
theorem Inv.yW(I:Inv X pins σ H s)(h:og X.K H a xs)(h':og X.K H a ys):xs=ys:=by
 obtain⟨its,r,⟨o,e,_,n,d⟩,_⟩:=I.tuple h;obtain⟨its',r',⟨o',e',_,n',d'⟩,_⟩:=I.tuple h';rw[e]at e';cases e';rw[d]at d'
 injection d' with d1 _
 have:its=its':=by simpa using congrArg Array.toList d1
 subst this;exact r.inj r'
end
abbrev Cx.wish(X:Cx)(E:av->aF->Prop):Cx:={ X with xe:=E }
abbrev Cx.Oy(X:Cx):Cx:=X.wish λ_ _=>False
theorem Cx.Ok.wish{X:Cx}(ok:X.Ok)(E:av->aF->Prop):(X.wish E).Ok:=
 ⟨ok.mod,ok.kind,ok.glob,ok.blt,ok.above,ok.inj,ok.has,ok.cab,ok.hd,ok.frames,ok.stk,ok.YX,ok.bs,ok.MT,ok.Ht,ok.Kt,ok.vW,ok.Ol⟩
theorem Cx.Ok.qu{X:Cx}{E:av->aF->Prop}(ok:(X.wish E).Ok):X.Ok:=
 ⟨ok.mod,ok.kind,ok.glob,ok.blt,ok.above,ok.inj,ok.has,ok.cab,ok.hd,ok.frames,ok.stk,ok.YX,ok.bs,ok.MT,ok.Ht,ok.Kt,ok.vW,ok.Ol⟩
section
variable{X:Cx}{pins:List (aK×Obj)}{σ:St}{H:Hp}{s:aF}{E:av->aF->Prop}
theorem Inv.wish(I:Inv X pins σ H s)(E:av->aF->Prop):Inv (X.wish E) pins σ H s:=⟨I.ok.wish E,I.os,I.bare,I.base,I.loc,I.cell,I.free,I.n_,I.pin,I.hok,I.len⟩
theorem Inv.qu(I:Inv (X.wish E) pins σ H s):Inv X pins σ H s:=⟨I.ok.qu,I.os,I.bare,I.base,I.loc,I.cell,I.free,I.n_,I.pin,I.hok,I.len⟩
theorem SP.qu{D:Ends}{f:Flow}{s':aF}(h:SP (X.wish E) pins D f s'):SP X pins D f s':=by
 cases f with
 |next=>obtain⟨σ',H',I,q⟩:=h;exact⟨σ',H',I.qu,q⟩
 |brk=>obtain⟨σ',H',I,q⟩:=h;exact⟨σ',H',I.qu,q⟩
 |cont=>obtain⟨σ',H',I,q⟩:=h;exact⟨σ',H',I.qu,q⟩
 |ret u=>obtain⟨v,σ',H',I,r,q⟩:=h;exact⟨v,σ',H',I.qu,r,q⟩
theorem EK.Oy{st:List gZ}{t:TS}(h:EK X.Oy st t):EK X st t:=λpins s σ H D I hw=>
 h8 (h pins s σ H D (I.wish _) hw) (λ_ _ q=>q.qu) λ_ _ z=>gT z
end
section
variable{X:Cx}{st:gZ}{rest:List gZ}{t u:TS}{e:bR}{te:TE}{pos:Pos}
def RC:TS:=λD σ H=>D.nx σ H
def VC(t u:TS):TS:=λD σ H=>t { D with nx:=u D } σ H
theorem Kv:EK X [] RC:=λ_ _ σ H _ I h=>Bz ⟨σ,H,I,h⟩
theorem ku(h1:PS X st t)(h2:EK X rest u):EK X (st::rest) (VC t u):=by
 intro pins s σ H D I h;refine wpAny_execs_cons (gD (h1 pins s σ H { D with nx:=u D } I h) λf s1 q=>?_)
 cases f with
 |next=>
  obtain⟨σ',H',I',q⟩:=q;exact h2 pins s1 σ' H' D I' q
 |ret v=>exact q
 |brk=>exact q
 |cont=>exact q
theorem zX(h1:PS X st t):EK X [st] t:=by
 intro pins s σ H D I h;refine wpAny_execs_cons (gD (h1 pins s σ H D I h) λf s1 q=>?_)
 cases f with
 |next=>exact Bz q
 |ret v=>exact q
 |brk=>exact q
 |cont=>exact q
theorem Inv.quiet{pins:List (aK×Obj)}{σ:St}{H:Hp}{s:aF}(I:Inv X pins σ H s):interactive X.env=false:=by simp[interactive,I.ok.kind]
def RD(te:TE):TS:=λD σ H=>te σ H λ_ H1=>D.nx σ H1
theorem tK(he:PE X e te)(hs:swapsWith e none pos.line X.env=pure false:=by rfl):PS X (.Expr e pos) (RD te):=by
 intro pins s σ H D I h;exact wpAny_Expr_any (gD (he pins s σ H _ I h) λv s1 ⟨x,H1,I1,r1,q1⟩=>⟨σ,H1,I1,q1⟩) I.quiet hs
def VD(te:TE):TS:=λD σ H=>te σ H D.rt
theorem zY(he:PE X e te):PS X (.Return (some e) pos) (VD te):=by
 intro pins s σ H D I h;exact wpAny_Return_some (gD (he pins s σ H _ I h) λv s1 ⟨x,H1,I1,r1,q1⟩=>⟨x,σ,H1,I1,r1,q1⟩)
def VF(c:TT)(t u:TS):TS:=λD σ H=>c σ H λb H1=>if b=true then t D σ H1 else u D σ H1
theorem EL{c:bR}{a b:List gZ}{tc:TT}(hc:PT X c tc)(ha:EK X a t)(hb:EK X b u):PS X (.If c a b pos) (VF tc t u):=by
 intro pins s σ H D I h;refine wpAny_If (gD (hc pins s σ H _ I h) λd s1 ⟨H1,I1,q1⟩=>?_)
 cases d with
 |true=>exact ha pins s1 σ H1 D I1 q1
 |false=>exact hb pins s1 σ H1 D I1 q1
def Oz:TS:=λ_ _ _=>False
theorem oh{sts:List gZ}:EK X sts Oz:=λ_ _ _ _ _ _ h=>h.elim
end
abbrev TG:=V->St->Hp->(St->Hp->Prop)->Prop
abbrev M0:=List V->St->Hp->(St->Hp->Prop)->Prop
def PG(X:Cx)(target:bR)(t:TG):Prop:=
 ∀(pins:List (aK×Obj))(s:aF)(σ:St)(H:Hp)(v:V)(u:av)(Q:St->Hp->Prop),Inv X pins σ H s->RelV v u->t v σ H Q->
  wpAny (model X.prog X.w) X.A (assign target X.env u) (λ_ s'=>∃σ' H',Inv X pins σ' H' s'/\Q σ' H') X.xe s
def UK(X:Cx)(ts:List bR)(t:M0):Prop:=
 ∀(pins:List (aK×Obj))(s:aF)(σ:St)(H:Hp)(vs:List V)(us:List av)(Q:St->Hp->Prop),Inv X pins σ H s->dS vs us->t vs σ H Q->
  wpAny (model X.prog X.w) X.A (assignInOrder ((assignEach ts X.env).map (·.2)) us) (λ_ s'=>∃σ' H',Inv X pins σ' H' s'/\Q σ' H') X.xe s
section
variable{X:Cx}{pos:Pos}
def yX(i:Nat):TG:=λv σ H Q=>Q (σ.set i (some v)) H
theorem bM{i:Nat}{x:Str}(hN:X.N.Nodup)(hi:X.N[i]?=some x)(hx:Loc X.env.scope x)(hf:X.fn x=true\/X.env.scope.names.lookup x=some .local:=by first|exact .inl rfl|exact .inr rfl|assumption):PG X (.Name x pos) (yX i):=by
 intro pins s σ H v u Q I r h;exact wpAny_assign_Name (mL I hN hi hx r (λs' I'=>⟨_,H,I',h⟩) hf)
def RG:M0:=λvs σ H Q=>vs=[]/\Q σ H
def M3(t:TG)(u:M0):M0:=λvs σ H Q=>∃v r,vs=v::r/\t v σ H λσ' H'=>u r σ' H' Q
theorem eR:UK X [] RG:=by
 intro pins s σ H vs us Q I r h;obtain⟨e,h⟩:=h;subst e;cases r;exact yv ⟨σ,H,I,h⟩
theorem bU{e:bR}{es:List bR}{t:TG}{u:M0}(h1:PG X e t)(h2:UK X es u)
  (hs:(assignEach (e::es) X.env).map (·.2)=assign e X.env::(assignEach es X.env).map (·.2):=by rfl):UK X (e::es) (M3 t u):=by
 intro pins s σ H vs us Q I r h;obtain⟨v,vr,e1,h⟩:=h;subst e1;cases r with
 |cons r rr=>
  rw[hs];refine ju (gD (h1 pins s σ H _ _ _ I r h) λ_ s1 ⟨σ1,H1,I1,q1⟩=>?_)
  exact h2 pins s1 σ1 H1 _ _ Q I1 rr q1
def RH(K:ai)(n:Nat)(t:M0):TG:=λv σ H Q=>∃a xs,v=.ref a/\og K H a xs/\xs.length=n/\t xs σ H Q
theorem gf{es:List bR}{k:Nat}{t:M0}{n:Nat}(hc:X.calm=true)(h:UK X es t)
  (hn:(assignEach es X.env).length=n:=by rfl)(Hz:(assignEach es X.env).findIdx? (·.1)=none:=by rfl):PG X (.Tuple es k pos) (RH X.K n t):=by
 intro pins s σ H v u Q I r hw;obtain⟨a,xs,e1,hq,hl,hw⟩:=hw;subst e1;cases r;obtain⟨its,rv,ht,hz⟩:=I.tuple hq;refine assign_Tuple_tuple (I.ok.hd hc) ht (by simp[hn,<-hl,rv.length]) Hz λh' hx=>?_
 have I1:Inv X pins σ H { s with heap:=h' }:=I.kept (t':=s.toks) λb o e=>hx b o (aX (aY e)) e
 exact h pins _ σ H xs _ Q I1 (by simpa using rv) hw
def OB(te:TE)(g:TG):TS:=λD σ H=>te σ H λx H1=>g x σ H1 D.nx
theorem OD{tg e:bR}{te:TE}{g:TG}(he:PE X e te)(hg:PG X tg g)(hs:swapsWithSole [tg] e pos.line X.env=pure false:=by rfl)(hw:swappedStores [tg] e X.env=pure none:=by rfl)
  (h1:(assignEach [tg] X.env).map (·.2)=[assign tg X.env]:=by rfl):PS X (.Assign [tg] e pos) (OB te g):=by
 intro pins s σ H D I h;refine wpAny_Assign_stores (gD (he pins s σ H _ I h) λv s1 ⟨x,H1,I1,r1,q1⟩=>?_) hs hw
 rw[h1];exact gD (hg pins s1 σ H1 x v _ I1 r1 q1) λ_ s2 q=>q
theorem wL{i:Nat}{x:Str}{e:bR}{te:TE}{pos':Pos}(hN:X.N.Nodup)(hi:X.N[i]?=some x)(hx:Loc X.env.scope x)(he:PE X e te)(hs:swapsWith e (some (.Name x pos')) pos.line X.env=pure false:=by rfl)(hf:X.fn x=true\/X.env.scope.names.lookup x=some .local:=by first|exact .inl rfl|exact .inr rfl|assumption):
  PS X (.Assign [.Name x pos'] e pos) (OB te (yX i)):=by
 intro pins s σ H D I h;refine wpAny_Assign_Name (gD (he pins s σ H _ I h) λv s1 ⟨y,H1,I1,r1,q1⟩=>?_) hs
 exact mL I1 hN hi hx r1 (λs2 I2=>⟨_,H1,I2,q1⟩) hf
def VG(i j:Nat)(ta:TA):TS:=λD σ H=>ta σ H λvs H1=>∃v w,vs=[v,w]/\D.nx ((σ.set i (some v)).set j (some w)) H1
theorem HB{i j:Nat}{x y:Str}{a b:bR}{ta:TA}{px py pt:Pos}{kt k2 Dw}(hc:X.calm=true)(hN:X.N.Nodup)(hi:X.N[i]?=some x)(hj:X.N[j]?=some y)(yZ:i≠j)
  (hx:X.env.scope.names.lookup x=some .local)(hy:X.env.scope.names.lookup y=some .local)(ha:PA X [a,b] ta)
  (hw:swappedStores [.Tuple [.Name x px,.Name y py] kt pt] (.Tuple [a,b] k2 Dw) X.env=pure (some [x,y]))
  (hs:swapsWithSole [.Tuple [.Name x px,.Name y py] kt pt] (.Tuple [a,b] k2 Dw) pos.line X.env=pure false:=by rfl):
  PS X (.Assign [.Tuple [.Name x px,.Name y py] kt pt] (.Tuple [a,b] k2 Dw) pos) (VG i j ta):=by
 intro pins s σ H D I h;rw[exec_Assign_arm];refine ay (wc ?_)
 rw[hs];refine ay (a8 ?_)
 rw[if_neg (by decide)]
 refine ay (Tuple_ (gD (ha _ pins s σ H _ I h) λus s1 ⟨vs,H1,I1,r1,q1⟩=>?_))
 obtain⟨v,w,e1,q1⟩:=q1;subst e1;obtain⟨u1,u2,rfl,rv,oU⟩:∃u1 u2,us=[u1,u2]/\RelV v u1/\RelV w u2:=by
  cases r1 with
  |cons p q=>
   cases q with
   |cons p' q'=>
    cases q';exact⟨_,_,rfl,p,p'⟩
 refine eB ?_ (by show 2<=sizeLine;decide)
 have I2:Inv X pins σ H1 { s1 with heap:=s1.heap.push { cls:=.type "tuple",data:=.seq [u1,u2].toArray } }:=I1.kept (t':=s1.toks) λb o e=>aE _ e
 rw[hw];refine ay (a8 ?_)
 show wpAny (model X.prog X.w) X.A (do rule "assign.swapped-stores";let items <-unpackItems (.ref s1.heap.objs.size) 2 none;assignInOrder [λv=>bindName X.env y v,λv=>bindName X.env x v] items.reverse;pure BD) _ _ _
 refine ay (r9 (ay (unpackItems_tuple (items:=#[u1,u2]) (I.ok.hd hc) (oQ s1.heap _) λh' VH=>?_)))
 have I3:=I2.kept (h':=h') (t':=s1.toks) λb o e=>VH b o (aX (aY e)) e
 show wpAny _ _ (assignInOrder [λv=>bindName X.env y v,λv=>bindName X.env x v] [u2,u1] >>= λ_=>pure BD) _ _ _
 refine ay (ju (oS (mL I3 hN hj (.inl hy) oU (λs2 I4=>?_) (.inr hy))))
 refine ju (oS (mL I4 hN hi (.inl hx) rv (λs3 I5=>yv (a8 ?_)) (.inr hx)))
 rw[tE _ _ (bY yZ)]at I5;exact⟨_,H1,I5,q1⟩
end
section
variable{X:Cx}{pos:Pos}
end
structure It where
 go:Nat->Hp->Prop
 RJ:Nat->Hp->V->Hp->Prop
 stop:Nat->Hp->Prop
def tL(X:Cx)(pins:List (aK×Obj))(H:Hp)(b:aK):Prop:=
 H b=none/\b≠X.env.locals/\b∉X.fs/\(b∈X.ex\/X.s₀.heap.objs.size<=b)/\(∀x c,X.env.cells.lookup x=some c->c≠b)/\∀p∈X.pn++pins,p.1≠b
theorem Inv.wM{X:Cx}{pins:List (aK×Obj)}{σ:St}{H H':Hp}{s:aF}{b:aK}(I:Inv X pins σ H s)(hb:s.heap.objs.size<=b)(hn:H' b=none):tL X pins H' b:=by
 refine⟨hn,fY (bV I.lt hb),I.Vt hb,.inr (b_ I.sz hb),λx c e z=>?_,λp hp z=>?_⟩
 ·obtain⟨v,q⟩:=I.cell x c e
  exact absurd (bV q.lt (by rw[z];exact hb)) (jq _)
 ·exact absurd (bV (aY (I.pin p hp).1) (by rw[z];exact hb)) (jq _)
structure Turn(P:bo)(w:bX)(K:ai)(tg:bR)(J:It)(fp:List aK)(it:aK)(tn:Nat->cK->Prop):Prop where
 mem:it∈fp
 obj:∀i h,tn i h->∀b∈fp,∃o,h.get? b=some o/\∀v,o.data≠.cell v
 keep:∀i h h',tn i h->(∀b∈fp,∀o,h.get? b=some o->h'.get? b=some o)->tn i h'
 item:∀(X:Cx),X.prog=P->X.w=w->X.K=K->X.calm=true->∀(i:Nat)(pins:List (aK×Obj))(s:aF)(σ:St)(H:Hp)(E:av->aF->Prop),Inv X pins σ H s->(∀b∈fp,tL X pins H b)->tn i s.heap->J.go i H->
  wpAny (model P w) X.A (pyNext (.ref it)) (λr s1=>∃u,r=some u/\
   wpAny (model P w) X.A (letOwnedTupleGo tg (.ref it) u) (λ_ s2=>∃x H',Inv X pins σ H' s2/\RelV x u/\J.RJ i H x H'/\tn (i+1) s2.heap/\∀b∈fp,H' b=none) E s1) E s
 done:∀(X:Cx),X.prog=P->X.w=w->X.K=K->X.calm=true->∀(i:Nat)(pins:List (aK×Obj))(s:aF)(σ:St)(H:Hp)(E:av->aF->Prop),Inv X pins σ H s->(∀b∈fp,tL X pins H b)->tn i s.heap->J.stop i H->
  wpAny (model P w) X.A (pyNext (.ref it)) (λr s1=>r=none/\Inv X pins σ H s1) E s
 self:∀(A:cU)(i:Nat)(s:aF)(Q:av->aF->Prop)(E:av->aF->Prop),tn i s.heap->Q (.ref it) s->wpAny (model P w) A (pyIter (.ref it)) Q E s
abbrev TI:=St->Hp->(It->Hp->Prop)->Prop
def VJ(X:Cx)(pins:List (aK×Obj))(σ:St)(tg:bR)(R:It->Hp->Prop)(UL:av)(s2:aF):Prop:=
 ∃(it:aK)(fp:List aK)(tn:Nat->cK->Prop)(J:It)(H':Hp),UL=.ref it/\Inv X pins σ H' s2/\Turn X.prog X.w X.K tg J fp it tn/\tn 0 s2.heap/\(∀b∈fp,tL X pins H' b)/\R J H'
def PI(X:Cx)(tg iter:bR)(wi:TI):Prop:=
 ∀(pins:List (aK×Obj))(s:aF)(σ:St)(H:Hp)(R:It->Hp->Prop),Inv X pins σ H s->wi σ H R->
  wpAny (model X.prog X.w) X.A (eval iter X.env) (λv s1=>wpAny (model X.prog X.w) X.A (pyIter v) (VJ X pins σ tg R) X.xe s1) X.xe s
theorem BI{M:Model}{A:cU}{E:av->aF->Prop}{s:aF}{tg:bR}{it:aK}{u:av}{o:Obj}{n:String}{vs:Array av}{Q:Unit->aF->Prop}(ho:s.heap.get? it=some o)(hc:o.cls=.type n)(hd:o.data=.fields vs)
    (hn:["enumerate","zip","dict_itemiterator","dict_reverseitemiterator","odict_iterator","itertools.zip_longest","itertools.pairwise"].contains n=false)(hQ:Q () s):wpAny M A (letOwnedTupleGo tg (.ref it) u) Q E s:=by
  unfold letOwnedTupleGo;cases tg<;>first
    | exact a8 hQ
    | (cases u<;>first
        | exact a8 hQ
        | (refine ay (wpAny_load ho ?_)
           rw[hc,hd];show wpAny M A (if(["enumerate","zip","dict_itemiterator","dict_reverseitemiterator","odict_iterator","itertools.zip_longest","itertools.pairwise"].contains n&&vs[0]?==some (rawInt _))=true then _ else _) Q E s
           rw[if_neg (by intro h;rw[hn,Bool.false_and]at h;cases h)]
           exact a8 hQ))
def Y0(K:ai)(a:aK):It:=
 ⟨λi H=>∃xs x,kO K H a xs/\xs[i]?=some x,λi H x H'=>H'=H/\∀xs,kO K H a xs->xs[i]?=some x,λi H=>∃xs,kO K H a xs/\xs.length<=i⟩
def Y1(K:ai)(a:aK):It:=
 ⟨λi H=>∃xs x,og K H a xs/\xs[i]?=some x,λi H x H'=>H'=H/\∀xs,og K H a xs->xs[i]?=some x,λi H=>∃xs,og K H a xs/\xs.length<=i⟩
def VL(lo:Int)(n:Nat):It:=⟨λi _=>i<n,λi H x H'=>H'=H/\x=.int (lo+i),λi _=>n<=i⟩
theorem FP{P:bo}{w:bX}{K:ai}{tg:bR}(a it:aK):Turn P w K tg (Y0 K a) [it] it (λi h=>h.IsListIter it a i) where
 mem:=by simp
 obj:=λi h st b hb=>by
  have e:b=it:=by simpa using hb
  subst e;obtain⟨o,e,c,d⟩:=st;exact⟨o,e,λv z=>by rw[d]at z;cases z⟩
 keep:=λi h h' st k=>st.at λo e=>k it (by simp) o e
 item:=by
  intro X hP hw hK hc i pins s σ H E I hf st hg;subst hP hw hK;obtain⟨xs,x,hq,hx⟩:=hg;obtain⟨its,rv,p,hz⟩:=I.list hq;obtain⟨u,hu,ru⟩:=rv.get hx;obtain⟨f0,f1,f2,f3,f4,f5⟩:=hf it (by simp)
  refine wpAny_pyNext_list_item st p.isList (x:=u) (by simpa using hu) λh' wq sb=>?_
  have I1:Inv X pins σ H { s with heap:=h' }:=I.turned (t':=s.toks) (λb o hb e=>(sb.2 b hb).trans e) f0 f1 f3 f4 f5
  obtain⟨o,e,c,d⟩:=id wq;exact⟨u,rfl,BI (s:={ s with heap:=h' }) e c d (by decide) ⟨x,H,I1,ru,⟨rfl,λys hy=>by rw[I.wK hy hq];exact hx⟩,wq,λb hb=>(hf b hb).1⟩⟩
 done:=by
  intro X hP hw hK hc i pins s σ H E I hf st hg;subst hP hw hK;obtain⟨xs,hq,hx⟩:=hg;obtain⟨its,rv,p,hz⟩:=I.list hq;obtain⟨f0,f1,f2,f3,f4,f5⟩:=hf it (by simp)
  have hl:=rv.length;exact wpAny_pyNext_list_end (I.ok.hd hc) st p.isList (by simp;omega) λh' eb=>⟨rfl,I.turned (t':=s.toks) (λb o hb e=>eb b o hb e) f0 f1 f3 f4 f5⟩
 self:=λ_ _ _ _ _ st h=>wpAny_pyIter_listiter st h
theorem Dx{P:bo}{w:bX}{K:ai}{tg:bR}(a it:aK):Turn P w K tg (Y1 K a) [it] it (λi h=>h.IsTupleIter it a i) where
 mem:=by simp
 obj:=λi h st b hb=>by
  have e:b=it:=by simpa using hb
  subst e;obtain⟨o,e,c,d⟩:=st;exact⟨o,e,λv z=>by rw[d]at z;cases z⟩
 keep:=λi h h' st k=>st.at λo e=>k it (by simp) o e
 item:=by
  intro X hP hw hK hc i pins s σ H E I hf st hg;subst hP hw hK;obtain⟨xs,x,hq,hx⟩:=hg;obtain⟨its,rv,p,hz⟩:=I.tuple hq;obtain⟨u,hu,ru⟩:=rv.get hx;obtain⟨f0,f1,f2,f3,f4,f5⟩:=hf it (by simp)
  refine wpAny_pyNext_tuple_item st (show s.heap.IsTuple a its.toArray from p) (x:=u) (by simpa using hu) λh' wq sb=>?_
  have I1:Inv X pins σ H { s with heap:=h' }:=I.turned (t':=s.toks) (λb o hb e=>(sb.2 b hb).trans e) f0 f1 f3 f4 f5
  obtain⟨o,e,c,d⟩:=id wq;exact⟨u,rfl,BI (s:={ s with heap:=h' }) e c d (by decide) ⟨x,H,I1,ru,⟨rfl,λys hy=>by rw[I.yW hy hq];exact hx⟩,wq,λb hb=>(hf b hb).1⟩⟩
 done:=by
  intro X hP hw hK hc i pins s σ H E I hf st hg;subst hP hw hK;obtain⟨xs,hq,hx⟩:=hg;obtain⟨its,rv,p,hz⟩:=I.tuple hq;obtain⟨f0,f1,f2,f3,f4,f5⟩:=hf it (by simp)
  have hl:=rv.length;exact wpAny_pyNext_tuple_end (I.ok.hd hc) st (show s.heap.IsTuple a its.toArray from p) (by simp;omega) λh' eb=>⟨rfl,I.turned (t':=s.toks) (λb o hb e=>eb b o hb e) f0 f1 f3 f4 f5⟩
 self:=λ_ _ _ _ _ st h=>wpAny_pyIter_tupleiter st h
theorem Dy{P:bo}{w:bX}{K:ai}{tg:bR}(it:aK)(lo:Int)(n:Nat):Turn P w K tg (VL lo n) [it] it (λi h=>IsRangeIter h it (lo+(i:Nat)*1) ((n:Int)-(i:Nat)) 1) where
 mem:=by simp
 obj:=λi h st b hb=>by
  have e:b=it:=by simpa using hb
  subst e;exact⟨_,st,λv z=>by
   have z':Data.fields _=Data.cell v:=z;cases z'⟩
 keep:=λi h h' st k=>k it (by simp) _ st
 item:=by
  intro X hP hw hK hc i pins s σ H E I hf st hg;subst hP hw hK;obtain⟨f0,f1,f2,f3,f4,f5⟩:=hf it (by simp)
  have W:=Walks.range (prog:=X.prog) (w:=X.w) (I.ok.hd hc) it lo 1 n;refine W.item i s _ _ hg st λv h' tk hv wq kk=>?_
  obtain⟨t,rfl⟩:=hv;have I1:Inv X pins σ H { s with heap:=h',toks:=tk }:=I.turned (λb o hb e=>kk b o (by simpa using hb) e) f0 f1 f3 f4 f5
  refine⟨_,rfl,BI (s:={ s with heap:=h',toks:=tk }) (n:="range_iterator") wq rfl rfl (by decide) ⟨.int (lo+i),H,I1,⟨t,?_⟩,⟨rfl,rfl⟩,wq,λb hb=>(hf b hb).1⟩⟩
  rw[Int.mul_one]
 done:=by
  intro X hP hw hK hc i pins s σ H E I hf st hg;subst hP hw hK;obtain⟨f0,f1,f2,f3,f4,f5⟩:=hf it (by simp)
  exact wpAny_pyNext_range_end (I.ok.hd hc) st (by have:n<=i:=hg;omega) λh' eb=>⟨rfl,I.turned (t':=s.toks) (λb o hb e=>eb b o hb e) f0 f1 f3 f4 f5⟩
 self:=λ_ _ _ _ _ st h=>wpAny_pyIter_rangeiter st h
section
variable{X:Cx}{tg:bR}
def RK(K:ai)(tl:TE):TI:=λσ H R=>tl σ H λx H1=>∃a,x=.ref a/\(∃xs,kO K H1 a xs)/\R (Y0 K a) H1
def VM(K:ai)(tl:TE):TI:=λσ H R=>tl σ H λx H1=>∃a,x=.ref a/\(∃xs,og K H1 a xs)/\R (Y1 K a) H1
theorem Kw{l:bR}{tl:TE}(hl:PE X l tl):PI X tg l (RK X.K tl):=by
 intro pins s σ H R I h;refine gD (hl pins s σ H _ I h) λv s1 ⟨x,H1,I1,r1,q1⟩=>?_
 obtain⟨a,e,⟨xs,hq⟩,q⟩:=q1;subst e;cases r1;obtain⟨its,rv,p,hz⟩:=I1.list hq;refine lN p.isList ?_
 refine⟨s1.heap.objs.size,[s1.heap.objs.size],_,_,H1,rfl,I1.kept (t':=s1.toks) λb o e=>aE _ e,FP a _,⟨_,bp _ rfl,rfl,rfl⟩,λb hb=>?_,q⟩
 have e:b=s1.heap.objs.size:=by simpa using hb
 subst e;exact I1.wM (aD _) (I1.hok.fresh (aD _))
theorem OG{l:bR}{tl:TE}(hl:PE X l tl):PI X tg l (VM X.K tl):=by
 intro pins s σ H R I h;refine gD (hl pins s σ H _ I h) λv s1 ⟨x,H1,I1,r1,q1⟩=>?_
 obtain⟨a,e,⟨xs,hq⟩,q⟩:=q1;subst e;cases r1;obtain⟨its,rv,p,hz⟩:=I1.tuple hq;refine wF (show s1.heap.IsTuple a its.toArray from p) ?_
 refine⟨s1.heap.objs.size,[s1.heap.objs.size],_,_,H1,rfl,I1.kept (t':=s1.toks) λb o e=>aE _ e,Dx a _,⟨_,bp _ rfl,rfl,rfl⟩,λb hb=>?_,q⟩
 have e:b=s1.heap.objs.size:=by simpa using hb
 subst e;exact I1.wM (aD _) (I1.hok.fresh (aD _))
theorem HC{pins:List (aK×Obj)}{σ:St}{H:Hp}{s:aF}{R:It->Hp->Prop}{E:av->aF->Prop}{lo hi:Int}{t u v:Tok}{tk:Nat}(I:Inv X pins σ H s)(h1:-(2^62)<=lo)(h2:lo<2^62)(h3:-(2^62)<=hi)(h4:hi<2^62)
  (q:R (VL lo (hi-lo).toNat) H):wpAny (model X.prog X.w) X.A (pyIter (.ref s.heap.objs.size)) (VJ X pins σ tg R) E { s with heap:=s.heap.push { cls:=.type "range",data:=.fields #[.int lo t,.int hi u,.int 1 v] },toks:=tk }:=by
 refine wpAny_pyIter_range (IsRange.new ..) (small_one h1 h2 h3 h4) ?_
 have I1:Inv X pins σ H { s with heap:=s.heap.push { cls:=.type "range",data:=.fields #[.int lo t,.int hi u,.int 1 v] },toks:=tk }:=I.kept λb o e=>aE _ e
 refine⟨(s.heap.push { cls:=.type "range",data:=.fields #[.int lo t,.int hi u,.int 1 v] }).objs.size,[(s.heap.push { cls:=.type "range",data:=.fields #[.int lo t,.int hi u,.int 1 v] }).objs.size],_,_,H,rfl,
  I1.kept (t':=tk) λb o e=>aE _ e,Dy _ lo (hi-lo).toNat,?_,λb hb=>?_,q⟩
 ·have e1:lo+((0:Nat):Int)*1=lo:=by simp
  have e2:(((hi-lo).toNat:Nat):Int)-((0:Nat):Int)=hU lo hi 1:=by rw[rangeSize_one];split<;>omega
  show IsRangeIter _ _ (lo+((0:Nat):Int)*1) ((((hi-lo).toNat:Nat):Int)-((0:Nat):Int)) 1;rw[e1,e2];exact bp _ rfl
 ·have e:b=(s.heap.push { cls:=.type "range",data:=.fields #[.int lo t,.int hi u,.int 1 v] }).objs.size:=by simpa using hb
  subst e;exact I1.wM (aD _) (I1.hok.fresh (aD _))
def RL(ta:TA):TI:=λσ H R=>ta σ H λvs H1=>∃j:Int,vs=[.int j]/\-(2^62)<=j/\j<2^62/\R (VL 0 j.toNat) H1
theorem FQ{a:bR}{ta:TA}{p pos:Pos}(hg:Gl X "range")(hm:X.mg "range"=none)(ha:PA X [a] ta)(hs:starEach [a] X.env=[(false,eval a X.env)]:=by rfl):PI X tg (.Call (.Name "range" p) [a] [] pos) (RL ta):=by
 intro pins s σ H R I h;refine Call_ (uN I hg hm boot_range (iO (gD (ha pos pins s σ H _ I h) λus s1 ⟨vs,H1,I1,r1,q1⟩=>?_) hs rfl))
 obtain⟨j,e,q1,q2,q⟩:=q1;subst e;cases r1 with
 |cons r rr=>
  cases rr;obtain⟨t,rfl⟩:=r;exact call_range_1 (HC I1 (by omega) (by omega) q1 q2 (by simpa using q))
def VN(wi:TI)(g:TG)(tb:TS):TS:=λD σ H=>wi σ H λJ H1=>∃W:Nat->Nat->St->Hp->Prop,(∃m,W 0 m σ H1)/\∀i m σ H,W i m σ H->
 (J.stop i H/\D.nx σ H)\/(J.go i H/\∃N:St->Hp->Prop,(∀σ' H',N σ' H'->∃m',m'<m/\W (i+1) m' σ' H')/\∀x H',J.RJ i H x H'->g x σ H' λσ2 H2=>tb { D with nx:=N,ct:=N,bk:=D.nx } σ2 H2)
def wN(fp:List aK)(h:cK):List (aK×Obj):=fp.filterMap λb=>(h.get? b).map λo=>(b,o)
theorem oV{fp:List aK}{h:cK}{b:aK}{o:Obj}(hb:b∈fp)(e:h.get? b=some o):(b,o)∈wN fp h:=iX.mpr ⟨b,hb,by rw[e];rfl⟩
theorem FT{fp:List aK}{h:cK}{p:aK×Obj}(hp:p∈wN fp h):p.1∈fp/\h.get? p.1=some p.2:=by
 obtain⟨b,hb,e⟩:=iX.mp hp;cases q:h.get? b with
 |none=>rw[q]at e;cases e
 |some o=>
  rw[q]at e;have e':(b,o)=p:=cY e;subst e';exact⟨hb,q⟩
theorem Inv.pinned{pins:List (aK×Obj)}{σ:St}{H:Hp}{s:aF}{fp:List aK}(I:Inv X pins σ H s)(hf:∀b∈fp,tL X pins H b)(ho:∀b∈fp,∃o,s.heap.get? b=some o/\∀v,o.data≠.cell v):Inv X (pins++wN fp s.heap) σ H s:=
 I.EJ λp hp=>(bZ.mp hp).elim (λz=>I.pin p (b9 _ z)) λz=>by
  obtain⟨hb,e⟩:=FT z;obtain⟨f0,f1,f2,_⟩:=hf p.1 hb;obtain⟨o,e',d⟩:=ho p.1 hb;rw[e]at e';cases e';exact⟨e,f0,f1,f2,d⟩
theorem Inv.qv{pins pl:List (aK×Obj)}{σ:St}{H:Hp}{s:aF}(I:Inv X (pins++pl) σ H s):Inv X pins σ H s:=I.EJ λp hp=>I.pin p (b9 _ (dX _ hp))
theorem zZ{iter:bR}{body:List gZ}{wi:TI}{g:TG}{tb:TS}{pos:Pos}(hp:zK (model X.prog X.w) X.A X.env X.xe)(hc:X.calm=true)(hi:PI X tg iter wi)(hg:PG X tg g)(hb:EK X body tb)
  (hs:∀x,foldedSetIterable iter X.env x=pure x:=by intro _;rfl):PS X (.For tg iter body [] pos) (VN wi g tb):=by
 intro pins s σ H D I h;refine wpAny_For (gD (hi pins s σ H _ I h) λv s1 h1=>gD h1 λUL s2 h2=>?_) hs
 obtain⟨it,fp,tn,J,H2,e,I2,T,RM,f2,W,⟨m0,w0⟩,turn⟩:=h2;subst e;have stat:∀{H':Hp},(∀b∈fp,H' b=none)->∀b∈fp,tL X pins H' b:=λhn b hb=>⟨hn b hb,(f2 b hb).2⟩
 refine codeAny_forLoop_any (λn s'=>∃i σ' H',Inv X pins σ' H' s'/\tn i s'.heap/\(∀b∈fp,H' b=none)/\W i n σ' H') ?_ m0 ⟨0,σ,H2,I2,RM,λb hb=>(f2 b hb).1,w0⟩
 rintro n s3 ⟨i,σ3,H3,I3,Y2,Y3,w3⟩
 rcases turn i n σ3 H3 w3 with⟨stop,qn⟩|⟨go,N,hN,step⟩
 ·refine nG hp (gD (T.done X rfl rfl rfl hc i pins s3 σ3 H3 X.xe I3 (stat Y3) Y2 stop) λr s4 ⟨hr,I4⟩=>?_)
  subst hr;exact Bz ⟨σ3,H3,I4,qn⟩
 ·refine nG hp (gD (T.item X rfl rfl rfl hc i pins s3 σ3 H3 X.xe I3 (stat Y3) Y2 go) λr s4 ⟨u,hr,h4⟩=>?_)
  subst hr;refine nG hp (gD h4 λ_ s5 ⟨x,H5,I5,r5,y5,VQ,fr5⟩=>?_)
  have I5':=I5.pinned (stat fr5) (T.obj _ _ VQ);refine nG hp (gD (hg _ s5 σ3 H5 x u _ I5' r5 (step x H5 y5)) λ_ s6 ⟨σ6,H6,I6,q6⟩=>?_)
  refine nG hp (gD (hb _ s6 σ6 H6 _ I6 q6) λf s7 q7=>?_)
  have again:∀{σ7:St}{H7:Hp},Inv X (pins++wN fp s5.heap) σ7 H7 s7->N σ7 H7->∃m,m<n/\∃i σ' H',Inv X pins σ' H' s7/\tn i s7.heap/\(∀b∈fp,H' b=none)/\W i m σ' H':=λ{σ7 H7}I7 n7=>by
   obtain⟨m',hm,w7⟩:=hN σ7 H7 n7;refine⟨m',hm,i+1,σ7,H7,I7.qv,T.keep _ _ _ VQ λb hb o e=>(I7.pin (b,o) (b9 _ (b9 _ (oV hb e)))).1,λb hb=>?_,w7⟩
   obtain⟨o,e,d⟩:=T.obj _ _ VQ b hb;exact(I7.pin (b,o) (b9 _ (b9 _ (oV hb e)))).2.1
  cases f with
  |next=>obtain⟨σ7,H7,I7,n7⟩:=q7;exact again I7 n7
  |cont=>obtain⟨σ7,H7,I7,n7⟩:=q7;exact again I7 n7
  |brk=>obtain⟨σ7,H7,I7,q7⟩:=q7;exact⟨σ7,H7,I7.qv,q7⟩
  |ret v=>obtain⟨x7,σ7,H7,I7,r7,q7⟩:=q7;exact⟨x7,σ7,H7,I7.qv,r7,q7⟩
end
abbrev R2:=V->V->Hp->VK->Prop
def qw(X:Cx)(f:av->av->Sem av)(r:R2):Prop:=
 ∀(pins:List (aK×Obj))(s:aF)(σ:St)(H:Hp)(x y:V)(v u:av)(Q:VK),Inv X pins σ H s->RelV x v->RelV y u->r x y H Q->
  wpAny (model X.prog X.w) X.A (f v u) (EP X pins σ Q) X.xe s
def jh(X:Cx)(f:av)(r:List V->Hp->VK->Prop):Prop:=
 ∀(pins:List (aK×Obj))(s:aF)(σ:St)(H:Hp)(xs:List V)(us:List av)(Q:VK),Inv X pins σ H s->dS xs us->r xs H Q->
  wpAny (model X.prog X.w) X.A (call f us) (EP X pins σ Q) X.xe s
def VR(X:Cx)(r:V->Hp->(Bool->Hp->Prop)->Prop):Prop:=
 ∀(pins:List (aK×Obj))(s:aF)(σ:St)(H:Hp)(x:V)(v:av)(Q:Bool->Hp->Prop),Inv X pins σ H s->RelV x v->r x H Q->
  wpAny (model X.prog X.w) X.A (truthy v) (TP X pins σ Q) X.xe s
def RN(r:R2)(ta tb:TE):TE:=λσ H Q=>ta σ H λx H1=>tb σ H1 λy H2=>r x y H2 Q
def rI(C:Int->Int->Prop)(g:Int->Int->V):R2:=λx y H Q=>∃i j,x=.int i/\y=.int j/\C i j/\Q (g i j) H
def Kg(g:Int->Int->V):R2:=λx y H Q=>∃i j,x=.int i/\y=.int j/\Q (g i j) H
section
variable{X:Cx}{a b c:bR}{ta tb tc:TE}{pos:Pos}
theorem OI(ha:PE X a ta)(hb:PE X b tb){pins:List (aK×Obj)}{s:aF}{σ:St}{H:Hp}{R:V->V->Hp->Prop}(I:Inv X pins σ H s)
  (h:ta σ H λx H1=>tb σ H1 λy H2=>R x y H2){Q:av->aF->Prop}{f:av->av->Sem av}
  (hf:∀v u s2 x y H2,Inv X pins σ H2 s2->RelV x v->RelV y u->R x y H2->wpAny (model X.prog X.w) X.A (f v u) Q X.xe s2):
  wpAny (model X.prog X.w) X.A (eval a X.env) (λv s₁=>wpAny (model X.prog X.w) X.A (eval b X.env) (λu s₂=>wpAny (model X.prog X.w) X.A (f v u) Q X.xe s₂) X.xe s₁) X.xe s:=by
 refine gD (ha pins s σ H _ I h) λv s1 ⟨x,H1,I1,r1,q1⟩=>?_
 refine gD (hb pins s1 σ H1 _ I1 q1) λu s2 ⟨y,H2,I2,r2,q2⟩=>?_
 exact hf v u s2 x y H2 I2 r1 r2 q2
theorem ER{op:Operator}{r:R2}(ho:qw X (binaryOp op) r)(ha:PE X a ta)(hb:PE X b tb):PE X (.BinOp a op b pos) (RN r ta tb):=by
 intro pins s σ H Q I h;exact wpAny_BinOp (OI ha hb I h λv u s2 x y H2 I2 rx ry q=>ho pins s2 σ H2 x y v u Q I2 rx ry q)
theorem VW{f:av->av->Sem av}{C:Int->Int->Prop}{g:Int->Int->Int}
  (rule:∀(i j:Int)(t u:Tok)(s:aF)(Q:av->aF->Prop)(E:av->aF->Prop),C i j->Q (.int (g i j) s.toks) { s with toks:=s.toks+1 }->wpAny (model X.prog X.w) X.A (f (.int i t) (.int j u)) Q E s):
  qw X f (rI C λi j=>.int (g i j)):=by
 intro pins s σ H x y v u Q I rx ry h;obtain⟨i,j,rfl,rfl,hc,q⟩:=h;obtain⟨t,rfl⟩:=rx;obtain⟨t',rfl⟩:=ry;exact rule i j t t' s _ _ hc ⟨.int (g i j),H,I.tok _,⟨_,rfl⟩,q⟩
theorem RP{f:av->av->Sem av}{g:Int->Int->Int}
  (rule:∀(i j:Int)(t u:Tok)(s:aF)(Q:av->aF->Prop)(E:av->aF->Prop),Q (.int (g i j) s.toks) { s with toks:=s.toks+1 }->wpAny (model X.prog X.w) X.A (f (.int i t) (.int j u)) Q E s):
  qw X f (Kg λi j=>.int (g i j)):=by
 intro pins s σ H x y v u Q I rx ry h;obtain⟨i,j,rfl,rfl,q⟩:=h;obtain⟨t,rfl⟩:=rx;obtain⟨t',rfl⟩:=ry;exact rule i j t t' s _ _ ⟨.int (g i j),H,I.tok _,⟨_,rfl⟩,q⟩
theorem Kx{f:av->av->Sem av}{g:Int->Int->Bool}
  (rule:∀(i j:Int)(t u:Tok)(s:aF)(Q:av->aF->Prop)(E:av->aF->Prop),Q (.bool (g i j)) s->wpAny (model X.prog X.w) X.A (f (.int i t) (.int j u)) Q E s):
  qw X f (Kg λi j=>.bl (g i j)):=by
 intro pins s σ H x y v u Q I rx ry h;obtain⟨i,j,rfl,rfl,q⟩:=h;obtain⟨t,rfl⟩:=rx;obtain⟨t',rfl⟩:=ry;exact rule i j t t' s _ _ ⟨.bl (g i j),H,I,rfl,q⟩
def RQ(i j:Int):Prop:=0<j/\j<1073741824
def Ky(i j:Int):Prop:=(-(2^64)<i/\i<2^64)\/(-(2^64)<j/\j<2^64)
theorem Ky.ok{i j:Int}(h:Ky i j):IntMulOk i j:=by
 rcases h with⟨h1,h2⟩|⟨h1,h2⟩
 ·exact .of_left (intBits_le_64 h1 h2)
 ·exact .of_right (intBits_le_64 h1 h2)
theorem OJ:qw X (binaryOp .Add) (Kg λi j=>.int (i+j)):=RP λ_ _ _ _ _ _ _ q=>add_int q
theorem OL:qw X (binaryOp .Sub) (Kg λi j=>.int (i-j)):=RP λ_ _ _ _ _ _ _ q=>sub_int q
theorem OO:qw X (binaryOp .Mult) (rI Ky λi j=>.int (i*j)):=VW λ_ _ _ _ _ _ _ hc q=>mul_int q hc.ok
theorem Kz:qw X (binaryOp .FloorDiv) (rI RQ λi j=>.int (i/j)):=VW λi j _ _ _ _ _ hc q=>by
 have h1:(0:Int)<j:=hc.1;have h2:j<1073741824:=hc.2;exact floordiv_int (by omega) (by rw[Int.fdiv_eq_ediv_of_nonneg i (by omega)];exact q) (.inl (PyProof.noPylong_small (by omega)))
theorem OQ:qw X (binaryOp .Mod) (rI (λ_ j=>0<j) λi j=>.int (i%j)):=VW λi j _ _ _ _ _ hc q=>by
 have h1:(0:Int)<j:=hc;exact mod_int' (by omega) (by rw[Int.fmod_eq_emod_of_nonneg i (by omega)];exact q)
end
section
variable{X:Cx}{a b c:bR}{ta tb tc:TE}{pos:Pos}
theorem Dz{pins:List (aK×Obj)}{σ:St}{H:Hp}{s:aF}{Q:VK}{k k':Bool}(I:Inv X pins σ H s)(q:Q (.bl k) H)(e:k=k'):EP X pins σ Q (.bool k') s:=by
 subst e;exact⟨.bl k,H,I,rfl,q⟩
theorem RT:qw X (compareOp .Lt) (Kg λi j=>.bl (decide (i<j))):=Kx λ_ _ _ _ _ _ _ q=>lt_int q
theorem BJ:qw X (compareOp .LtE) (Kg λi j=>.bl (decide (i<=j))):=Kx λ_ _ _ _ _ _ _ q=>le_int q
theorem M4:qw X (compareOp .Gt) (Kg λi j=>.bl (decide (j<i))):=Kx λ_ _ _ _ _ _ _ q=>gt_int q
theorem M5:qw X (compareOp .GtE) (Kg λi j=>.bl (decide (j<=i))):=Kx λ_ _ _ _ _ _ _ q=>ge_int q
theorem FU:qw X (compareOp .In) (λx y H Q=>∃i j,x=.str i/\y=.str j/\Q (.bl (!(pX.Str.occurrences j i 0 j.length 1).isEmpty)) H):=by
 intro pins s σ H x y v u Q I rx ry h;obtain⟨i,j,rfl,rfl,q⟩:=h;obtain⟨t,rfl⟩:=rx;obtain⟨t',rfl⟩:=ry;exact in_str (Dz I q rfl)
theorem kY:qw X (compareOp .Is) (λx y H Q=>y=.non/\Q (.bl (decide (x=.non))) H):=by
 intro pins s σ H x y v u Q I rx ry h;obtain⟨rfl,q⟩:=h;cases ry;refine is_none_gen (Dz I q ?_)
 cases x<;>first
  |(cases rx;rfl)
  |(obtain⟨t,rfl⟩:=rx;rfl)
theorem EV:qw X (compareOp .IsNot) (λx y H Q=>y=.non/\Q (.bl (!decide (x=.non))) H):=by
 intro pins s σ H x y v u Q I rx ry h;obtain⟨rfl,q⟩:=h;cases ry;refine isnot_none_gen (Dz I q ?_)
 cases x<;>first
  |(cases rx;rfl)
  |(obtain⟨t,rfl⟩:=rx;rfl)
theorem fU(b:bR){op:Bm}(h:op≠.In:=by decide)(h2:op≠.NotIn:=by decide):behindInMarks op b=false:=by
 have e1:(op==Bm.In)=false:=by cases op<;>first|rfl|exact absurd rfl h
 have e2:(op==Bm.NotIn)=false:=by cases op<;>first|rfl|exact absurd rfl h2
 cases b<;>simp[behindInMarks,e1,e2]
theorem KC{op:Bm}{r:R2}(ho:qw X (compareOp op) r)(ha:PE X a ta)(hb:PE X b tb)(hm:behindInMarks op b=false):PE X (.Compare a [op] [b] pos) (RN r ta tb):=by
 intro pins s σ H Q I h;exact wpAny_Compare1 (OI ha hb I h λv u s2 x y H2 I2 rx ry q=>ho pins s2 σ H2 x y v u Q I2 rx ry q) hm
def RV(t:TE):TT:=λσ H Q=>t σ H λx H'=>∃k,x=.bl k/\Q k H'
theorem KD{op:Bm}{r:R2}(ho:qw X (compareOp op) r)(ha:PE X a ta)(hb:PE X b tb)(hm:behindInMarks op b=false):PT X (.Compare a [op] [b] pos) (RV (RN r ta tb)):=by
 intro pins s σ H Q I h;refine wpAny_isTrue_Compare1 (gD (ha pins s σ H _ I h) λv s1 ⟨x,H1,I1,r1,q1⟩=>gD (hb pins s1 σ H1 _ I1 q1) λu s2 ⟨y,H2,I2,r2,q2⟩=>
  gD (ho pins s2 σ H2 x y v u _ I2 r1 r2 q2) λc s3 ⟨z,H3,I3,r3,k,e,q3⟩=>?_) hm
 subst e;cases r3;exact eW ⟨H3,I3,q3⟩
def OS(r r':R2)(ta tb tc:TE):TE:=λσ H Q=>ta σ H λx H1=>tb σ H1 λy H2=>r x y H2 λz H3=>∃k,z=.bl k/\
 (if k=true then tc σ H3 λw' H4=>r' y w' H4 Q else Q (.bl false) H3)
theorem BK{op op':Bm}{r r':R2}(ho:qw X (compareOp op) r)(zU:qw X (compareOp op') r')(ha:PE X a ta)(hb:PE X b tb)(hc:PE X c tc)
  (hm:lastMarks [op,op'] [b,c]=false:=by with_unfolding_all rfl):PE X (.Compare a [op,op'] [b,c] pos) (OS r r' ta tb tc):=by
 intro pins s σ H Q I h;refine Compare_chain (gD (ha pins s σ H _ I h) λv s1 ⟨x,H1,I1,r1,q1⟩=>chain_link (gD (hb pins s1 σ H1 _ I1 q1) λu s2 ⟨y,H2,I2,r2,q2⟩=>
  gD (ho pins s2 σ H2 x y v u _ I2 r1 r2 q2) λd s3 ⟨z,H3,I3,r3,k,e,q3⟩=>?_)) hm
 subst e;cases r3;refine eW ?_
 cases k with
 |false=>exact ite_ff ⟨.bl false,H3,I3,rfl,q3⟩
 |true=>exact ite_tt (chain_last (gD (hc pins s3 σ H3 _ I3 q3) λw' s4 ⟨z',H4,I4,r4,q4⟩=>zU pins s4 σ H4 y z' u w' Q I4 r2 r4 q4))
def RW(K:ai)(x:V)(H:Hp)(k:Bool):Prop:=
 match x with
 | .non=>k=false
 | .bl b=>k=b
 | .int i=>k=(i != 0)
 | .str y=>y.length<=sizeLine/\k=((y.length:Int) != 0)
 | .QG y=>y.size<=sizeLine/\k=((y.size:Int) != 0)
 | .ref p=>(∃xs,kO K H p xs/\k=!xs.isEmpty)\/(∃xs,og K H p xs/\k=!xs.isEmpty)\/∃kvs,H p=some (.dK kvs)/\k=!kvs.isEmpty
 |_=>False
theorem DB{κ:Type}{kvs:List (κ×V)}{vs:List (κ×av)}(r:KV kvs vs):(!vs.isEmpty)=!kvs.isEmpty:=by
 cases r<;>rfl
theorem wO{xs:List V}{its:List av}(r:dS xs its):(!its.toArray.isEmpty)=!xs.isEmpty:=by
 cases r<;>simp
theorem sr:(sizeLine:Nat)<2^63:=by rw[dI];decide
theorem OU:VR X (λx H Q=>∃k,RW X.K x H k/\Q k H):=by
 intro pins s σ H x v Q I rx h;obtain⟨k,e,q⟩:=h;have hl:=sr;have hs:sizeLine=16777216:=dI;cases x with
 |non=>
  cases rx;have e':k=false:=e;subst e';exact truthy_none ⟨H,I,q⟩
 |bl b=>
  cases rx;have e':k=b:=e;subst e';exact eW ⟨H,I,q⟩
 |int i=>
  obtain⟨t,rfl⟩:=rx;have e':k=(i != 0):=e;subst e';exact PySem.P.truthy_int ⟨H,I,q⟩
 |str y=>
  obtain⟨t,rfl⟩:=rx;obtain⟨hy,e'⟩:y.length<=sizeLine/\k=((y.length:Int) != 0):=e;subst e';exact PySem.P.truthy_str (by omega) ⟨H,I.tok _,q⟩
 |QG y=>
  obtain⟨t,rfl⟩:=rx;obtain⟨hy,e'⟩:y.size<=sizeLine/\k=((y.size:Int) != 0):=e;subst e';exact PySem.W.truthy_bytes (by omega) ⟨H,I.tok _,q⟩
 |ref p=>
  cases rx;have e':(∃xs,kO X.K H p xs/\k=!xs.isEmpty)\/(∃xs,og X.K H p xs/\k=!xs.isEmpty)\/∃kvs,H p=some (.dK kvs)/\k=!kvs.isEmpty:=e;rcases e' with⟨xs,hx,e'⟩|⟨xs,hx,e'⟩|⟨kvs,hx,e'⟩
  ·subst e'
   obtain⟨its,r,pl,hz⟩:=I.list hx;have hlen:=r.length;exact wpAny_truthy_list pl.isList (by simp only[bu];omega) ⟨H,I.tok _,by rw[wO r];exact q⟩
  ·subst e'
   obtain⟨its,r,pl,hz⟩:=I.tuple hx;have hlen:=r.length;exact truthy_tuple pl (by simp only[bu];omega) ⟨H,I.tok _,by rw[wO r];exact q⟩
  ·subst e'
   obtain⟨hz,hS,vs,r,m⟩:kvs.length<=sizeLine/\(p==sysModules)=false/\∃vs,KV kvs vs/\s.heap.DictOf (eK X.prog X.w) p vs:=I.hok p _ hx;have hlen:kvs.length=vs.length:=rZ r;exact wpAny_truthy_dict hS m (by omega) ⟨H,I.tok _,by rw[DB r];exact q⟩
 |_=>exact(show False from e).elim
theorem HD(ha:PE X a ta)(he:∀whole,isTrue a X.env whole=(do let v <-whole;standAt a.pos;holding [v] (truthy v))):
  PT X a (λσ H Q=>ta σ H λx H'=>∃k,RW X.K x H' k/\Q k H'):=by
 intro pins s σ H Q I h;exact isTrue_plain (gD (ha pins s σ H _ I h) λv s1 ⟨x,H1,I1,r1,q1⟩=>OU pins s1 σ H1 x v Q I1 r1 q1) (he _)
theorem DC:qw X (binaryOp .Add) (λx y H Q=>∃i j,x=.str i/\y=.str j/\i.length+j.length<=sizeLine/\Q (.str (i++j)) H):=by
 intro pins s σ H x y v u Q I rx ry h;obtain⟨i,j,rfl,rfl,hz,q⟩:=h;obtain⟨t,rfl⟩:=rx;obtain⟨t',rfl⟩:=ry;exact add_str (λt' tk=>⟨.str (i++j),H,I.tok _,⟨_,rfl⟩,q⟩) hz
theorem vals1{x:V}{us:List av}(r:dS [x] us):∃u,us=[u]/\RelV x u:=by
 cases r with
 |cons r1 r2=>cases r2;exact⟨_,rfl,r1⟩
theorem vals2{x y:V}{us:List av}(r:dS [x,y] us):∃u w',us=[u,w']/\RelV x u/\RelV y w':=by
 cases r with
 |cons r1 r2=>
  cases r2 with
  |cons r3 r4=>cases r4;exact⟨_,_,rfl,r1,r3⟩
theorem FV(hc:X.calm=true):jh X (.builtin "min") (λxs H Q=>∃i j,xs=[.int i,.int j]/\Q (.int (if j<i then j else i)) H):=by
 intro pins s σ H xs us Q I r h;obtain⟨i,j,rfl,q⟩:=h;obtain⟨u,w',rfl,⟨t,rfl⟩,⟨t',rfl⟩⟩:=vals2 r;refine min_two_ints (I.ok.hd hc) λh' tk k=>⟨_,H,I.kept k,?_,q⟩
 by_cases hj:j<i
 ·rw[if_pos hj,if_pos hj];exact⟨_,rfl⟩
 ·rw[if_neg hj,if_neg hj];exact⟨_,rfl⟩
theorem z0:jh X (.type "str") (λxs H Q=>∃i,xs=[.int i]/\i.natAbs.log2<1920/\Q (.str (toString i)) H):=by
 intro pins s σ H xs us Q I r h;obtain⟨i,rfl,hz,q⟩:=h;obtain⟨u,rfl,t,rfl⟩:=vals1 r;exact PySem.P.str_of_int hz ⟨.str _,H,I.tok _,⟨_,rfl⟩,q⟩
end
structure FW(h:cK)(x dx C:aK)(mA:Str->Option av):Prop where
 obj:h.get? x=some (g_ C dx)
 ns:h.Ns1 dx mA
 ne:dx≠x
theorem FX{h:cK}{dx:aK}{mA:Str->Option av}(n:h.Ns1 dx mA):∃od,h.get? dx=some od/\∀name,wG name od=some (mA name):=by
 obtain⟨o,es,ep,ho,hd,hk,_,hm⟩:=n;refine⟨o,ho,λname=>?_⟩
 have e:=hm name;unfold nsFind findBy at e;rw[<-Array.find?_toList]at e
 unfold wG;rw[hd]
 dsimp only
 split
 ·rename_i y q
  rw[q]at e;exact congrArg some e
 ·rename_i q
  rw[q]at e;have a:es.toList.any (·.refKey)=false:=by
   rw[List.any_eq_false];intro y hy;obtain⟨z,t,OV⟩:=hk y (Array.mem_toList_iff.mp hy);simp[vn.refKey,OV]
  have a':¬es.toList.any (·.refKey)=true:=by rw[a];exact cu
  rw[if_neg a'];exact congrArg some e
theorem FW.look{h:cK}{x dx C:aK}{mA:Str->Option av}(I:FW h x dx C mA):∃od,PySem.W.InstAt h x (g_ C dx) C (some od)/\∀name,wG name od=some (mA name):=
 let⟨od,ho,hl⟩:=FX I.ns
 ⟨od,⟨I.obj,rfl,rfl,ho⟩,hl⟩
section
variable{prog:bo}{w:bX}{A:cU}{E:av->aF->Prop}{s:aF}{K:ai}{x dx C f:aK}{mA:Str->Option av}{name:Str}{v:av}
theorem get_map{expr:Bool}{Q:av->aF->Prop}(X:K.In s.heap)(I:FW s.heap x dx C mA)(hg:nY K C name=true)(hh:nr K C=true)
  (ha:di K (.ref C) name=some none)(hv:mA name=some v)(HF:PySem.W.handedIn v=true)(h:Q v { s with toks:=s.toks+1 }):
  wpAny (model prog w) A (getAttr (.ref x) name expr) Q E s:=by
 obtain⟨od,J,hl⟩:=I.look;exact PySem.W.get_value X J (PySem.W.plainGet_of hg).1 (PySem.W.findObj_own hh ha rfl (by rw[hl,hv])) HF h
theorem KG{ns:List Str}{Q:Unit->aF->Prop}(X:K.In s.heap)(I:FW s.heap x dx C mA)
  (hs:di K (.ref C) "__setattr__"=some (some (.builtin "object.__setattr__")))(hp:tF K C=true)(ht:vO K C name=some none)(hh:nr K C=true)
  (hw:Bx mA ns)(hsz:ns.length<=sizeLine)
  (h:∀h',FW h' x dx C (λy=>if y=name then some v else mA y)->ie dx s.heap h'->Q () { s with heap:=h',toks:=s.toks+2 }):
  wpAny (model prog w) A (setAttr (.ref x) name v) Q E s:=by
 obtain⟨od,J,hl⟩:=I.look;refine PySem.W.set_plain X J hs (PySem.W.osa_open (s:={ s with toks:=s.toks+1 }) (r:=none) X J hp ht λb=>?_)
 obtain⟨cd,hc,Rr⟩:=PySem.W.any_some hh;have hx:s.heap.get? x=some ⟨.ref C,some dx,.plain,#[]⟩:=I.obj;refine ay (a8 (ay (ay (wpAny_loadPart hx (ay (PySem.W.Looks.here (s:={ s with toks:=s.toks+1 }) (PySem.W.looks_clsIn X hc) ?_))))))
 rw[Rr];refine a8 (a:=some dx) (ay (a8 (ay ?_)))
 refine wpAny_nsSet1 (s:={ s with toks:=s.toks+1 }) I.ns λh' QJ pL=>?_
 obtain⟨oD,esD,epD,hoD,hdD,hcD⟩:=QJ.count (Bx.cons name v hw);refine ay (wpAny_lookBehind hoD (by rw[hdD];exact pastItsLine_dict (b_ hcD (by rw[bD];omega))) ?_)
 exact a8 (h _ ⟨(pL.2 _ (bY I.ne)).trans I.obj,QJ,I.ne⟩ pL)
theorem HG{R:sf->aF->Prop}{vs:List av}{kw:List (Str×av)}(X:K.In s.heap)(hm:vP K C=true)
  (hi:di K (.ref C) "__init__"=some (some (.ref f)))(hf:PySem.W.typeIn K (.ref f)=some (.type "function"))
  (h:codeAny (model prog w) (A.under (.builtin "type.__call__" ⟨.ref C::vs,kw⟩)) (.call (.ref f) ⟨.ref (s.heap.objs.size+1)::vs,kw⟩) (PySem.W.InitBack (s.heap.objs.size+1) R)
   { s with heap:=(s.heap.push e8).push (g_ C s.heap.objs.size) }) :
  codeAny (model prog w) A (.call (.ref C) ⟨vs,kw⟩) R s:=by
 obtain⟨hh,g,d,t,os⟩:=s;exact PySem.W.make_core (PySem.W.makes_of X hm) (PySem.W.looks_findIn X hi) (λself=>PySem.W.bind_fn X self hf) (.inl rfl) h
end
def lV(f:Str)(v:V):List (Str×V)->List (Str×V)
 | []=>[(f,v)]
 |(g,x)::r=>if g=f then(g,v)::r else(g,x)::lV f v r
theorem vp(f g:Str)(v:V):∀fs:List (Str×V),(lV f v fs).lookup g=if g=f then some v else fs.lookup g
 | []=>by
  show ko g [(f,v)]=_;by_cases h:g=f
  ·have hb:(g==f)=true:=beq_iff_eq.mpr h
   simp only[ko,hb,if_pos h]
  ·have hb:(g==f)=false:=beq_eq_false_iff_ne.mpr h
   simp only[ko,hb,if_neg h]
 |(k,x)::r=>by
  have ih:=vp f g v r;rw[show lV f v ((k,x)::r)=(if k=f then(k,v)::r else(k,x)::lV f v r)from rfl]
  by_cases hk:k=f
  ·rw[if_pos hk]
   by_cases h:g=k
   ·have hb:(g==k)=true:=beq_iff_eq.mpr h
    simp only[ko,hb,if_pos (h.trans hk)]
   ·have hb:(g==k)=false:=beq_eq_false_iff_ne.mpr h
    simp only[ko,hb,if_neg (λe:g=f=>h (e.trans hk.symm))]
  ·rw[if_neg hk]
   by_cases h:g=k
   ·have hb:(g==k)=true:=beq_iff_eq.mpr h
    simp only[ko,hb,if_neg (λe:g=f=>hk (h.symm.trans e))]
   ·have hb:(g==k)=false:=beq_eq_false_iff_ne.mpr h
    simp only[ko,hb];exact ih
theorem uO(f:Str)(v:V):∀fs:List (Str×V),f∈(lV f v fs).map (·.1)/\∀g,g∈fs.map (·.1)->g∈(lV f v fs).map (·.1)
 | []=>⟨by simp[lV],λg h=>by simp at h⟩
 |(k,x)::r=>by
  obtain⟨i1,i2⟩:=uO f v r;rw[show lV f v ((k,x)::r)=(if k=f then(k,v)::r else(k,x)::lV f v r)from rfl]
  by_cases hk:k=f
  ·rw[if_pos hk]
   subst hk;exact⟨by simp,λg h=>by simpa using h⟩
  ·rw[if_neg hk]
   refine⟨?_,λg h=>?_⟩
   ·rw[aH]
    exact aT _ i1
   ·rw[aH]at h ⊢
    rcases aI.mp h with e|e
    ·exact aI.mpr (.inl e)
    ·exact aT _ (i2 g e)
theorem vq(f:Str)(v:V):∀fs:List (Str×V),(lV f v fs).length<=fs.length+1
 | []=>by simp[lV]
 |(k,x)::r=>by
  have ih:=vq f v r;rw[show lV f v ((k,x)::r)=(if k=f then(k,v)::r else(k,x)::lV f v r)from rfl]
  by_cases hk:k=f
  ·rw[if_pos hk,bD,bD];omega
  ·rw[if_neg hk,bD,bD];omega
theorem sk.some_of{v:V}{o:Option av}(r:sk (some v) o):∃u,o=some u/\RelV v u:=by
 cases o with
 |none=>exact(show False from r).elim
 |some u=>exact⟨u,rfl,r⟩
theorem FY{v:V}{u:av}(r:RelV v u):PySem.W.handedIn u=true:=by
 cases v with
 |non=>cases(show u=iq from r);rfl
 |bl b=>cases(show u=av.bool b from r);rfl
 |int i=>obtain⟨t,e⟩:=(show ∃t,u=Bk i t from r);cases e;rfl
 |str x=>obtain⟨t,e⟩:=(show ∃t,u=Bl x t from r);cases e;rfl
 |QG b=>obtain⟨t,e⟩:=(show ∃t,u=av.bytes b t from r);cases e;rfl
 |flt b=>obtain⟨t,e⟩:=(show ∃t,u=av.float b t from r);cases e;rfl
 |ref a=>cases(show u=c0 a from r);rfl
 |ty n=>cases(show u=tq n from r);rfl
section
variable{P:bo}{w:bX}{H H':Hp}{h h':cK}{a C dx:aK}{fs fs':List (Str×V)}
theorem EW(hok:tj P w H h)(e:H a=some (.ins C dx fs)):∃mA,FW h a dx C mA/\(∀f,sk (fs.lookup f) (mA f))/\Bx mA (fs.map (·.1))/\fs.length<=1000/\H dx=some (.own a):=by
 obtain⟨d,z,ne,ob,mA,n,r,q⟩:=(show gw P w H h a (.ins C dx fs)from hok a _ e)
 exact⟨mA,⟨ob,n,ne⟩,r,q,z,d⟩
end
structure BL(K:ai)(C:aK):Prop where
 pg:nY K C fz=true
 hd:nr K C=true
 po:tF K C=true
 sa:di K (.ref C) "__setattr__"=some (some (.builtin "object.__setattr__"))
theorem BL.get{K:ai}{C:aK}(c:BL K C)(f:Str):nY K C f=true:=c.pg
def jK(K:ai)(C:aK)(f:Str):Prop:=di K (.ref C) f=some none
theorem jK.taker{K:ai}{C:aK}{f:Str}(n:jK K C f):vO K C f=some none:=by
 unfold vO;rw[show di K (.ref C) f=some none from n]
 rfl
section
variable{X:Cx}{pins:List (aK×Obj)}{σ:St}{H:Hp}{s:aF}{a C dx:aK}{fs:List (Str×V)}{f:Str}{v:V}{A:cU}{E:av->aF->Prop}
theorem DE{b:Bool}{Q:av->aF->Prop}(I:Inv X pins σ H s)(e:H a=some (.ins C dx fs))(c:BL X.K C)(n:jK X.K C f)(l:fs.lookup f=some v)
  (h:∀u s',Inv X pins σ H s'->RelV v u->Q u s'):wpAny (model X.prog X.w) A (getAttr (.ref a) f b) Q E s:=by
 obtain⟨mA,O,r,_,_,_⟩:=EW I.hok e;obtain⟨u,hu,ru⟩:=sk.some_of (v:=v) (o:=mA f) (by rw[<-l];exact r f)
 exact get_map I.zT O (c.get f) c.hd n hu (FY ru) (h u _ (I.tok _) ru)
theorem DF{y:V}{u:av}{Q:Unit->aF->Prop}(I:Inv X pins σ H s)(e:H a=some (.ins C dx fs))(c:BL X.K C)(n:jK X.K C f)(hl:fs.length<1000)(ry:RelV y u)
  (h:∀s',Inv X pins σ (upd H a (.ins C dx (lV f y fs))) s'->Q () s'):wpAny (model X.prog X.w) A (setAttr (.ref a) f u) Q E s:=by
 obtain⟨mA,O,r,wi,_,ho⟩:=EW I.hok e;have hz:(fs.map (·.1)).length<=sizeLine:=by rw[ao,dI];omega
 refine KG I.zT O c.sa c.po n.taker c.hd wi hz λh' O' sb=>h _ ?_
 have hd:∃o,h'.get? dx=some o:=let⟨o,_,_,e',_⟩:=O'.ns;⟨o,e'⟩;refine I.write (x:=a) (e:=dx) (by rw[e];exact fN) (.inr ho) (λb q hb z=>(sb.2 b hb).trans z) hd ?_
 refine⟨by rw[aR O.ne];exact ho,?_,O.ne,O'.obj,_,O'.ns,λg=>?_,λg hg=>?_⟩
 ·have:=vq f y fs;omega
 ·show sk ((lV f y fs).lookup g) (if g=f then some u else mA g)
  rw[vp];by_cases q:g=f
  ·rw[if_pos q,if_pos q];exact ry
  ·rw[if_neg q,if_neg q];exact r g
 ·by_cases q:g=f
  ·rw[q];exact(uO f y fs).1
  ·refine(uO f y fs).2 g (wi g λz=>hg ?_)
   show(if g=f then some u else mA g)=none
   rw[if_neg q];exact z
theorem Inv.made(I:Inv X pins σ H s):Inv X pins σ (upd (upd H s.heap.objs.size (.own (s.heap.objs.size+1))) (s.heap.objs.size+1) (.ins C s.heap.objs.size []))
  { s with heap:=(s.heap.push e8).push (g_ C s.heap.objs.size) }:=by
 have e1:(s.heap.push e8).get? s.heap.objs.size=some e8:=bp s.heap rfl;have e2:((s.heap.push e8).push (g_ C s.heap.objs.size)).get? (s.heap.objs.size+1)=some (g_ C s.heap.objs.size):=by
  have:=bp (s.heap.push e8) (o:=g_ C s.heap.objs.size) rfl
  rwa [gX]at this
 have e3:(s.heap.push e8).Ns s.heap.objs.size (λ_=>none):=⟨e8,#[],_,e1,rfl,(λe he=>absurd he (by simp)),λ_=>rfl⟩
 have I1:=I.laid (a:=s.heap.objs.size) (o:=.own (s.heap.objs.size+1)) (h':=s.heap.push e8) (t':=s.toks) (λb u q=>aE _ q) (aD _) ⟨_,e1⟩
 refine I1.laid (a:=s.heap.objs.size+1) (o:=.ins C s.heap.objs.size []) (t':=s.toks) (λb u q=>aE _ q) (Nat.le_of_eq (gX _ _)) ?_
 have ne:s.heap.objs.size≠s.heap.objs.size+1:=aX (jN _);refine⟨by rw[aR ne,bB],bx _,ne,e2,λ_=>none,(cK.Ns1.of_empty e3).at λo q=>aE _ q,λ_=>fN,λy hy=>absurd rfl hy⟩
theorem KH{prog:bo}{w:bX}{env:Env}{e:bR}{f:Str}{pos:Pos}{s:aF}{Q:av->aF->Prop}(hb:attributeBase e f env (eval e env)=eval e env)
  (h:wpAny (model prog w) A (eval e env) (λo s₁=>wpAny (model prog w) A (getAttr o f true) Q E s₁) E s):wpAny (model prog w) A (eval (.Attribute e f pos) env) Q E s:=
 Attribute_any_ h (by rw[arm_eval_Attribute,hb])
end
def VX(K:ai)(ta:TE)(f:Str):TE:=λσ H Q=>ta σ H λx H1=>∃a C dx fs v,x=.ref a/\H1 a=some (.ins C dx fs)/\BL K C/\jK K C f/\fs.lookup f=some v/\Q v H1
def VY(K:ai)(ta tv:TE)(f:Str):TS:=λD σ H=>tv σ H λy H1=>ta σ H1 λx H2=>∃a C dx fs,x=.ref a/\H2 a=some (.ins C dx fs)/\BL K C/\jK K C f/\fs.length<1000/\
 D.nx σ (upd H2 a (.ins C dx (lV f y fs)))
section
variable{X:Cx}{o e value:bR}{f:Str}{pos pos' VZ:Pos}{ta tv:TE}
theorem wQ(he:PE X e ta)(hb:attributeBase e f X.env (eval e X.env)=eval e X.env):PE X (.Attribute e f pos) (VX X.K ta f):=by
 intro pins s σ H Q I h;refine KH hb (gD (he pins s σ H _ I h) λu s1 ⟨x,H1,I1,rx,a,C,dx,fs,v,ex,ea,c,n,l,q⟩=>?_)
 subst ex;obtain rfl:u=c0 a:=rx;exact DE I1 ea c n l λu' s2 I2 ru=>⟨v,H1,I2,ru,q⟩
theorem su(ha:PE X o ta)(hv:PE X value tv)(hs:swapsWith value (some (.Attribute o f pos')) pos.line X.env=pure false):PS X (.Assign [.Attribute o f pos'] value pos) (VY X.K ta tv f):=by
 intro pins s σ H D I h;refine plainObj_wpAny_Assign_Attribute (gD (hv pins s σ H _ I h) λu s1 ⟨y,H1,I1,ry,q⟩=>gD (ha pins s1 σ H1 _ I1 q) λov s2 ⟨x,H2,I2,rx,a,C,dx,fs,ex,ea,c,n,l,q2⟩=>?_) hs
 subst ex;obtain rfl:ov=c0 a:=rx;exact DF I2 ea c n l ry λs3 I3=>⟨σ,_,I3,q2⟩
end
section
variable{X:Cx}{pins:List (aK×Obj)}{σ:St}{H:Hp}{s:aF}{A:cU}{E:av->aF->Prop}{Q:av->aF->Prop}{c:av}{b:Bool}
inductive wR(K:ai)(H:Hp):V->av->Prop where
 |non:wR K H .non (.type "NoneType")
 |bl (x:Bool):wR K H (.bl x) (.type "bool")
 |int (i:Int):wR K H (.int i) (.type "int")
 |str (x:Str):wR K H (.str x) (.type "str")
 |flt (x:UInt64):wR K H (.flt x) (.type "float")
 |lst {a:aK} {xs:List V} (e:H a=some (.lst xs)):wR K H (.ref a) (.type "list")
 |pZ {a:aK} {o:Obj} {xs:List V} (e:H a=some (.pZ o (.lst xs))):wR K H (.ref a) (.type "list")
 |tup {a:aK} {xs:List V} (e:H a=some (.tup xs)):wR K H (.ref a) (.type "tuple")
 |dK {a:aK} {kvs:List (Key×V)} (e:H a=some (.dK kvs)):wR K H (.ref a) (.type "dict")
 |dT {a:aK} {kvs:List (List Key×V)} (e:H a=some (.dT kvs)):wR K H (.ref a) (.type "dict")
 |ins {a C dx:aK} {fs:List (Str×V)} (e:H a=some (.ins C dx fs)) (cl:BL K C) (ha:di K (.ref C) "__class__"=some (some (.builtin "object.__class__")))
   (hn:PySem.W.specialIn K (.builtin "object.__class__") "__get__"=some (some (.builtin "getset_descriptor.__get__"))) (QK:PySem.W.takesIn K (.builtin "object.__class__")=some true)
   (hm:PySem.W.mroIn K C (.type "object")=some true):wR K H (.ref a) (.ref C)
end
structure fc(k:Nat)(A:cU):Prop where
 hd:A.handled=none
 dp:A.depth+3*k+5<recursionLimit
 un:A.units+16*k+200<cLine
theorem fc.mono{j k:Nat}{A:cU}(r:fc k A)(h:j<=k):fc j A:=⟨r.hd,by have:=r.dp;omega,by have:=r.un;omega⟩
theorem fc.deeper{k:Nat}{A:cU}(r:fc (k+1) A)(env:Env):fc k (A.deeper env):=
 ⟨r.hd,by have:=r.dp;show A.depth+1+3*k+5<_;omega,by have:=r.un;show A.units+3+16*k+200<_;omega⟩
theorem DG{A:cU}{C:aK}{us:List av}{kw:List (Str×av)}:(A.under (.builtin "type.__call__" ⟨.ref C::us,kw⟩)).depth=A.depth+1:=by
 first|rfl|simp[Bn,Code.weight,Code.isCreation,Code.isGuard,Code.isCaller,Code.frames,Dh,guardIds]
theorem DH{A:cU}{C:aK}{us:List av}{kw:List (Str×av)}:(A.under (.builtin "type.__call__" ⟨.ref C::us,kw⟩)).units=A.units+1:=by
 first|rfl|simp[Bn,Code.cUnits,Code.frames,Dh]
theorem fc.make{k:Nat}{A:cU}(r:fc (k+1) A)(C:aK)(us:List av)(kw:List (Str×av)):fc k (A.under (.builtin "type.__call__" ⟨.ref C::us,kw⟩)):=
 ⟨r.hd,by have:=r.dp;rw[DG];omega,by have:=r.un;rw[DH];omega⟩
theorem fc.depth{k:Nat}{A:cU}(r:fc k A):A.depth<recursionLimit:=by have:=r.dp;omega
def RX:TA:=λ_ H Q=>Q [] H
def RZ(ta:TE)(tr:TA):TA:=λσ H Q=>ta σ H λx H1=>tr σ H1 λxs H2=>Q (x::xs) H2
section
variable{X:Cx}{e:bR}{es:List bR}{te:TE}{t:TA}{pos:Pos}
theorem gi:PA X [] RX:=λ_ _ _ _ H Q I h=>uI ⟨[],H,I,.nil,h⟩
theorem dR(ha:PE X e te)(hr:PA X es t)(hs:starEach (e::es) X.env=(false,eval e X.env)::starEach es X.env:=by rfl):PA X (e::es) (RZ te t):=by
 intro pos pins s σ H Q I h;rw[hs];show wpAny _ _ (spliced ((false,eval e X.env)::backTo pos (starEach es X.env))) _ _ s;refine j' (gD (ha pins s σ H _ I h) λu s1 ⟨x,H1,I1,r1,q1⟩=>?_)
 exact gD (hr pos pins s1 σ H1 _ I1 q1) λus s2 ⟨xs,H2,I2,r2,q2⟩=>⟨x::xs,H2,I2,.cons r1 r2,q2⟩
def V0(t:TA):TE:=λσ H Q=>t σ H λxs H1=>xs.length<=sizeLine/\∀p,H1 p=none->Q (.ref p) (upd H1 p (.tup xs))
def V1(t:TA):TE:=λσ H Q=>t σ H λxs H1=>xs.length<=sizeLine/\∀p,H1 p=none->Q (.ref p) (upd H1 p (.lst xs))
theorem DI{x1}(h:PA X es t):PE X (.Tuple es x1 pos) (V0 t):=by
 intro pins s σ H Q I hq;refine wpAny_Tuple_spliced (gD (h pos pins s σ H _ I hq) λus s1 ⟨xs,H1,I1,r,z,q⟩=>⟨by rw[<-r.length];exact z,?_⟩)
 have hf:H1 s1.heap.objs.size=none:=I1.hok.fresh (aD _);refine⟨.ref s1.heap.objs.size,upd H1 s1.heap.objs.size (.tup xs),I1.laid (t':=s1.toks) (λb u e=>aE _ e) (aD _) ?_,rfl,q _ hf⟩
 exact⟨z,us,r,⟨_,bp _ rfl,rfl,_,rfl⟩⟩
theorem z8(h:PA X es t):PE X (.List es pos) (V1 t):=by
 intro pins s σ H Q I hq;refine wpAny_List_spliced (gD (h pos pins s σ H _ I hq) λus s1 ⟨xs,H1,I1,r,z,q⟩=>⟨by rw[<-r.length];exact z,?_⟩)
 have hf:H1 s1.heap.objs.size=none:=I1.hok.fresh (aD _);refine⟨.ref s1.heap.objs.size,upd H1 s1.heap.objs.size (.lst xs),I1.laid (t':=s1.toks) (λb u e=>aE _ e) (aD _) ?_,rfl,q _ hf⟩
 exact⟨z,us,0,r,bp _ rfl⟩
end
abbrev Sp:=List V->Hp->VK->XK->Prop
abbrev EX:=List Env->Hp->aF->XK->av->aF->Prop
structure DJ(P:bo)(w:bX)(K:ai)(mg:Str->Option av)(base:cK)(A:cU)(outer:List Env)(s:aF)(H:Hp):Prop where
 frames:A.frames=some outer
 mod:Mod K mg base
 bs:∀b o,base.get? b=some o->s.heap.get? b=some o/\H b=none
 MT:base.objs.size<=s.heap.objs.size
 vW:s.heap.FunFrames base outer
 Ol:∀b∈Hi outer,H b=none
 hok:tj P w H s.heap
 bare:r6 s.gens
def CE(outer:List Env)(P:bo)(w:bX)(H:Hp)(s:aF)(Q:VK)(u:av)(s':aF):Prop:=
 ∃v H',s'.os=s.os/\r6 s'.gens/\Un (Hi outer) [] H H' s.heap s'.heap/\tj P w H' s'.heap/\RelV v u/\Q v H'
def CR(CX:EX)(outer:List Env)(P:bo)(w:bX)(H:Hp)(s:aF)(Q:VK)(E:XK)(r:sf)(s':aF):Prop:=
 match r with
 | .ok (.ret u)=>CE outer P w H s Q u s'
 | .ok _=>False
 | .error e=>CX outer H s E e s'
structure eU(P:bo)(w:bX)(K:ai)(mg:Str->Option av)(base:cK)(CX:EX)(k:Nat)(f:aK)(fd:bS)(ps:List Str)(sp:Sp):Prop where
 len:∀vs H Q E,sp vs H Q E->vs.length=ps.length
 run:∀(A:cU)(outer:List Env)(s:aF)(H:Hp)(args:Args)(us:List av)(vs:List V)(Q:VK)(E:XK),fc k A->DJ P w K mg base A outer s H->BindsTo s fd args (ps.zip us)->dS vs us->sp vs H Q E->
  codeAny (model P w) A (.call (.ref f) args) (CR CX outer P w H s Q E) s
theorem eU.imp{P:bo}{w:bX}{K:ai}{mg:Str->Option av}{base:cK}{CX:EX}{k:Nat}{f:aK}{fd:bS}{ps:List Str}{sp Y4:Sp}(F:eU P w K mg base CX k f fd ps sp)
  (h:∀vs H Q E,Y4 vs H Q E->sp vs H Q E):eU P w K mg base CX k f fd ps Y4:=
 ⟨λvs H Q E q=>F.len vs H Q E (h _ _ _ _ q),λA outer s H args us vs Q E hr he hb hv hs=>F.run A outer s H args us vs Q E hr he hb hv (h _ _ _ _ hs)⟩
theorem DJ.make{P:bo}{w:bX}{K:ai}{mg:Str->Option av}{base:cK}{A:cU}{outer:List Env}{s:aF}{H:Hp}(e:DJ P w K mg base A outer s H)(C:aK)(us:List av)(kw:List (Str×av)):
  DJ P w K mg base (A.under (.builtin "type.__call__" ⟨.ref C::us,kw⟩)) outer s H:=⟨by first|exact e.frames|(simpa[Bn,Code.envs,Dh,pushEnvs]using e.frames),e.mod,e.bs,e.MT,e.vW,e.Ol,e.hok,e.bare⟩
section
variable{X:Cx}{pins:List (aK×Obj)}{σ:St}{H:Hp}{s s':aF}
theorem Inv.env0(I:Inv X pins σ H s):DJ X.prog X.w X.K X.mg X.base X.A X.stack s H:=
 ⟨I.ok.frames,I.ok.mod,I.bs,b_ I.ok.MT I.sz,I.stack,I.EI,I.hok,I.bare⟩
theorem Inv.after{Q:VK}{u:av}(I:Inv X pins σ H s)(h:CE X.stack X.prog X.w H s Q u s'):EP X pins σ Q u s':=by
 obtain⟨v,H',os,bare,un,hok,r,q⟩:=h;obtain⟨hh,g,d,t,KJ⟩:=s';obtain rfl:KJ=s.os:=os;exact⟨v,H',I.call (h':=hh) (g':=g) (d':=d) (t':=t) (ch:=[]) un hok bare (λb z=>absurd z (by simp)),r,q⟩
end
def R0(sp:Sp)(DK:List V)(E:XK)(t:TA):TE:=λσ H Q=>t σ H λvs H1=>sp (vs++DK) H1 Q E
def R1(C:aK)(sp:Sp)(DK:List V)(E:XK)(t:TA):TE:=λσ H Q=>t σ H λvs H1=>∀x dx,H1 x=none->H1 dx=none->dx≠x->
 sp (.ref x::(vs++DK)) (upd (upd H1 dx (.own x)) x (.ins C dx [])) (λv H2=>v=.non/\Q (.ref x) H2) E
def Binds(K:ai)(fd:bS)(ps:List Str)(ds:List av):Prop:=
 ∀(s:aF)(us:List av),K.In s.heap->(us++ds).length=ps.length->BindsTo s fd ⟨us,[]⟩ (ps.zip (us++ds))
theorem Binds.all{K:ai}{fd:bS}{ps:List Str}(h:∀us:List av,us.length=ps.length->bindArgs fd ⟨us,[]⟩=pure (ps.zip us)):Binds K fd ps []:=λs us _ hl=>by
 rw[eI]at hl ⊢;exact .of_eq (h us hl)
def wU(CX:EX)(X:Cx)(E:XK):Prop:=∀(pins:List (aK×Obj))(σ:St)(H:Hp)(s:aF)(e:av)(s':aF),Inv X pins σ H s->CX X.stack H s E e s'->X.xe e s'
section
variable{X:Cx}{CX:EX}{k:Nat}{f C:aK}{fd:bS}{ps:List Str}{sp:Sp}{DK:List V}{ds:List av}{E:XK}{x m:Str}{p pos apos:Pos}{e o:bR}{es:List bR}{ta:TE}{t:TA}
theorem OW{pins:List (aK×Obj)}{σ:St}{H:Hp}{s:aF}{Q:VK}{us:List av}{vs:List V}(F:eU X.prog X.w X.K X.mg X.base CX k f fd ps sp)(hr:fc k X.A)(hb:Binds X.K fd ps ds)(hd:dS DK ds)(hx:wU CX X E)
  (I:Inv X pins σ H s)(r:dS vs us)(h:sp (vs++DK) H Q E):wpAny (model X.prog X.w) X.A (call (.ref f) us) (EP X pins σ Q) X.xe s:=by
 have r2:dS (vs++DK) (us++ds):=r.append hd;have hl:(us++ds).length=ps.length:=by rw[<-r2.length];exact F.len _ _ _ _ h
 refine wpAny_call (nZ (F.run X.A X.stack s H ⟨us,[]⟩ (us++ds) (vs++DK) Q E hr I.env0 (hb s us I.zT hl) r2 h) λr s' hq=>?_)
 cases r with
 |error e=>exact hx pins σ H s e s' I hq
 |ok fl=>
  cases fl with
  |ret u=>exact I.after hq
  |next=>exact gT hq
  |brk=>exact gT hq
  |cont=>exact gT hq
theorem z_(F:eU X.prog X.w X.K X.mg X.base CX k f fd ps sp)(hr:fc k X.A)(hg:Gl X x)(hm:X.mg x=some (.ref f))(hk:iC X.K (.ref f)=true)(hb:Binds X.K fd ps ds)(hd:dS DK ds)(hx:wU CX X E)
  (ha:PA X (e::es) t)(qx:(x==("__debug__":Str))=false:=by decide)(he:starEach (e::es) X.env=(false,eval e X.env)::starEach es X.env:=by rfl)(qy:(backTo pos (starEach es X.env)).any (·.1)=false:=by rfl):
  PE X (.Call (.Name x p) (e::es) [] pos) (R0 sp DK E t):=by
 intro pins s σ H Q I h;refine oT (zW I hg hm ?_ qx)
 refine PySem.W.callWith_K (h₀:=X.base) I.ok.mod.Rq hk (gD (ha pos pins s σ H _ I h) λus s1 ⟨vs,H1,I1,r,q⟩=>⟨I1.zT,?_⟩) he qy
 exact OW F hr hb hd hx I1 r q
structure Mk(K:ai)(C f:aK):Prop where
 makes:vP K C=true
 init:di K (.ref C) "__init__"=some (some (.ref f))
 fn:PySem.W.isFn K (.ref f)=true
 kp:iC K (.ref C)=true
theorem HJ{pins:List (aK×Obj)}{σ:St}{H:Hp}{s:aF}{Q:VK}{us:List av}{vs:List V}(M:Mk X.K C f)(F:eU X.prog X.w X.K X.mg X.base CX k f fd ps sp)(hr:fc (k+1) X.A)(hb:Binds X.K fd ps ds)(hd:dS DK ds)
  (hx:wU CX X E)(I:Inv X pins σ H s)(r:dS vs us)
  (h:∀x dx,H x=none->H dx=none->dx≠x->sp (.ref x::(vs++DK)) (upd (upd H dx (.own x)) x (.ins C dx [])) (λv H2=>v=.non/\Q (.ref x) H2) E):
  wpAny (model X.prog X.w) X.A (call (.ref C) us) (EP X pins σ Q) X.xe s:=by
 have hq:=h (s.heap.objs.size+1) s.heap.objs.size (I.hok.fresh (oJ _)) (I.hok.fresh (aD _)) (aX (jN _));have I2:=Inv.made (C:=C) I;have r2:dS (V.ref (s.heap.objs.size+1)::(vs++DK)) (c0 (s.heap.objs.size+1)::(us++ds)):=.cons rfl (r.append hd);have hl:(c0 (s.heap.objs.size+1)::us++ds).length=ps.length:=by
  have e:=r2.length;rw[F.len _ _ _ _ hq]at e;exact e.symm
 refine wpAny_call (HG (f:=f) I.zT M.makes M.init (beq_iff_eq.mp M.fn) (nZ (F.run _ X.stack _ _ ⟨c0 (s.heap.objs.size+1)::us,[]⟩ (c0 (s.heap.objs.size+1)::(us++ds)) _ _ E (hr.make C us [])
  (I2.env0.make C us []) (hb _ (c0 (s.heap.objs.size+1)::us) I2.zT hl) r2 hq) λr s' FZ=>?_))
 cases r with
 |error e=>exact hx pins σ _ _ e s' I2 FZ
 |ok fl=>
  cases fl with
  |ret u=>
   obtain⟨v,H',I3,rv,ev,q3⟩:=I2.after FZ;subst ev;exact⟨rv,⟨V.ref (s.heap.objs.size+1),H',I3,rfl,q3⟩⟩
  |next=>exact gT FZ
  |brk=>exact gT FZ
  |cont=>exact gT FZ
theorem HK(M:Mk X.K C f)(F:eU X.prog X.w X.K X.mg X.base CX k f fd ps sp)(hr:fc (k+1) X.A)(hg:Gl X x)(hm:X.mg x=some (.ref C))(hb:Binds X.K fd ps ds)(hd:dS DK ds)(hx:wU CX X E)
  (qx:(x==("__debug__":Str))=false:=by decide):PE X (.Call (.Name x p) [] [] pos) (R1 C sp DK E RX):=by
 intro pins s σ H Q I h;refine oT (zW I hg hm ?_ qx)
 exact PySem.W.callWith_K0 I.zT M.kp (HJ (us:=[]) M F hr hb hd hx I .nil h)
end
section
variable{X:Cx}{CX:EX}{k:Nat}{f C:aK}{fd:bS}{ps ks:List Str}{sp:Sp}{E:XK}{x m:Str}{p pos apos zbl:Pos}{e o:bR}{es:List bR}{kws:List iK}{te ta:TE}{t tk:TA}{nm:Option Str}
variable{g:List av->List av->List av}{gV:List V->List V->List V}
end
structure cH(N P:List Str)(sc:lb):Prop where
 kind:sc.kind=.function
 co:sc.isCoroutine=false
 gen:sc.isGenerator=false
 nd:N.Nodup
 pre:N.take P.length=P
 par:∀x∈P,sc.names.lookup x=some .local\/sc.names.lookup x=some .cell
 OX:∀y∈sc.names,y.2≠.free
theorem y0{kindOf:Str->Option lO}{x:Str}:∀{binds:List (Str×av)}{m:Str->Option av},(∀v,(x,v)∉binds)->bindL kindOf binds m x=m x
 | [],_,_=>rfl
 |(n,v)::r,m,h=>by
  unfold bindL;rw[y0 λw hw=>h w (aT _ hw)]
  split
  ·have:x≠n:=by rintro rfl;exact h v aN
   simp[this]
  ·rfl
theorem y4{kindOf:Str->Option lO}{x:Str}:∀{binds:List (Str×av)}{m:Str->Option av},(∀v,(x,v)∉binds)->bindC kindOf binds m x=m x
 | [],_,_=>rfl
 |(n,v)::r,m,h=>by
  unfold bindC;rw[y4 λw hw=>h w (aT _ hw)]
  split
  ·rfl
  ·have:x≠n:=by rintro rfl;exact h v aN
   simp[this]
theorem y6{kindOf:Str->Option lO}{x:Str}{v:av}:∀{P:List Str}{vs:List av}{i:Nat}{m:Str->Option av},P.Nodup->P[i]?=some x->vs[i]?=some v->kindOf x=some .local->
  bindL kindOf (P.zip vs) m x=some v
 | [],_,_,_,_,h,_,_=>by simp at h
 |_::_,[],_,_,_,_,h,_=>by simp at h
 |p::P,w::vs,0,m,nd,h1,h2,hk=>by
  simp at h1 h2;subst h1;subst h2;show bindL kindOf ((p,w)::P.zip vs) m p=_;unfold bindL;rw[y0 λv hv=>(fB.mp nd).1 (qd hv).1,if_pos hk]
  simp
 |p::P,w::vs,i+1,m,nd,h1,h2,hk=>by
  show bindL kindOf ((p,w)::P.zip vs) m x=_;unfold bindL;exact y6 (i:=i) (fB.mp nd).2 (by simpa using h1) (by simpa using h2) hk
theorem y8{kindOf:Str->Option lO}{x:Str}{v:av}:∀{P:List Str}{vs:List av}{i:Nat}{m:Str->Option av},P.Nodup->P[i]?=some x->vs[i]?=some v->kindOf x≠some .local->
  bindC kindOf (P.zip vs) m x=some v
 | [],_,_,_,_,h,_,_=>by simp at h
 |_::_,[],_,_,_,_,h,_=>by simp at h
 |p::P,w::vs,0,m,nd,h1,h2,hk=>by
  simp at h1 h2;subst h1;subst h2;show bindC kindOf ((p,w)::P.zip vs) m p=_;unfold bindC;rw[y4 λv hv=>(fB.mp nd).1 (qd hv).1,if_neg hk]
  simp
 |p::P,w::vs,i+1,m,nd,h1,h2,hk=>by
  show bindC kindOf ((p,w)::P.zip vs) m x=_;unfold bindC;exact y8 (i:=i) (fB.mp nd).2 (by simpa using h1) (by simpa using h2) hk
def start(N:List Str)(vs:List V):St:=vs.map some++a_ (N.length-vs.length) none
def Aa(CX:EX)(P:bo)(w:bX)(K:ai)(mg:Str->Option av)(base:cK)(N:List Str)(qual:Str)(scope:lb)(f:aK)(cd:av)(A:cU)(outer:List Env)(s:aF)(H:Hp)(E:XK):Cx where
 prog:=P
 w:=w
 K:=K
 mg:=mg
 base:=base
 A:=A.deeper (envOfC qual scope s.heap.objs.size f cd)
 N:=N
 s₀:=s
 H₀:=H
 env:=envOfC qual scope s.heap.objs.size f cd
 outer:=outer
 stack:=envOfC qual scope s.heap.objs.size f cd::outer
 ex:=[]
 calm:=true
 fn:=λ_=>true
 pn:=[]
 xe:=λe s'=>wpAny (model P w) (A.deeper (envOfC qual scope s.heap.objs.size f cd)) (leaving (envOfC qual scope s.heap.objs.size f cd) e) (λ_ KL=>CX outer H s E e KL) (λe' KL=>CX outer H s E e' KL) s'
theorem BM{sc:lb}{n:Nat}{x:Str}(h:sc.names.lookup x=some .cell):∃c,(cellsFrom n sc.names []).lookup x=some c:=by
 have q:=zL sc.names n [] (.inl h);exact Option.isSome_iff_exists.mp q
theorem F0{CX:EX}{P:bo}{w:bX}{K:ai}{mg:Str->Option av}{base:cK}{N ps:List Str}{qual:Str}{scope:lb}{f:aK}{cd:av}{A:cU}{outer:List Env}{s s1:aF}{H:Hp}{E:XK}{us:List av}{vs:List V}
  (S:cH N ps scope)(hd:A.handled=none)(e0:DJ P w K mg base A outer s H)(hl:vs.length=ps.length)(r:dS vs us)
  (x:InCallC s s.heap.objs.size (bindL (envOfC qual scope s.heap.objs.size f cd).kindOf (ps.zip us) λ_=>none) (cellsFrom (s.heap.objs.size+1) scope.names []) (bindC (envOfC qual scope s.heap.objs.size f cd).kindOf (ps.zip us) λ_=>none) s1):
  Inv (Aa CX P w K mg base N qual scope f cd A outer s H E) [] (start N vs) H s1:=by
 have qy:ps.length<=N.length:=by have:=congrArg fD S.pre;rw[cj]at this;omega
 obtain⟨h1,tk,rfl,hk⟩:=x.done;have R3:∀b:aK,b∉(Aa CX P w K mg base N qual scope f cd A outer s H E).ex:=λb z=>absurd (show b∈([]:List aK)from z) (by simp)
 refine⟨⟨e0.mod,S.kind,rfl,rfl,aD _,λy z c h1 h2=>?_,λy hy=>?_,λy c _ h=>?_,λ_=>hd,cU.frames_deeper e0.frames,.inr ⟨rfl,rfl⟩,λb z=>absurd z (R3 b),e0.bs,e0.MT,λb _ _=>R3 b,λb z=>absurd z (R3 b),e0.vW,e0.Ol⟩,
  rfl,e0.bare,Un.kept hk,⟨_,x.toInCall.ns,λi y v h1 h2 h3=>?_⟩,λy c h=>⟨_,x.cell y c h⟩,e0.hok.fresh (aD _),λy c h=>?_,λp hp=>absurd (show p∈([]:List (aK×Obj))from hp) (by simp),e0.hok.kept hk,?_⟩
 ·exact name_of_addr x.apart (iI h1) (iI h2)
 ·have hy:scope.names.lookup y=some .cell\/scope.names.lookup y=some .free:=hy
  rcases hy with hy|hy
  ·exact BM hy
  ·exact absurd rfl (S.OX _ (iI hy))
 ·exact qc (x.above y c (iI h))
 ·have hi:i<vs.length:=by
   unfold start at h2;by_cases hi:i<vs.length
   ·exact hi
   ·rw[cA (by simpa using hi)]at h2
    rw[dQ]at h2
    split at h2<;>cases h2
  have ha:vs[i]?=some v:=by
   unfold start at h2;rw[cD (by simpa using hi),aJ]at h2
   cases e:vs[i]? with
   |none=>rw[e]at h2;cases h2
   |some a=>rw[e]at h2;cases h2;rfl
  obtain⟨u,hu,rv⟩:=r.get ha;have hp:ps[i]?=some y:=by
   rw[<-S.pre,List.getElem?_take_of_lt (by omega)];exact h1
  have Y5:ps.Nodup:=by rw[<-S.pre];exact S.nd.sublist (List.take_sublist _ _)
  refine⟨u,rv,?_⟩
  rcases S.par y (bA hp)with k|k
  ·exact .inl ⟨k,y6 Y5 hp hu k⟩
  ·obtain⟨c,e⟩:=BM (n:=s.heap.objs.size+1) k
   refine .inr ⟨.inl k,c,e,?_⟩
   have q:=x.cell y c e;rw[y8 Y5 hp hu (by show scope.names.lookup y≠_;rw[k];decide)]at q
   exact q
 ·exact e0.hok.fresh (qc (x.above y c (iI h)))
 ·unfold start
  show _=N.length;rw[a7,ao,dA];omega
theorem R4{CX:EX}{P:bo}{w:bX}{K:ai}{mg:Str->Option av}{base:cK}{k:Nat}{f:aK}{name qual:Str}{params:Arguments}{body:List gZ}{scope:lb}{dV kV doc pm ix ct oc:av}{an od:Option aK}
  {Hn:Array (Option av)}{N ps:List Str}{sp:Sp}(lk:K.lookup f=some ⟨oc,od,.func (iP name qual params body scope dV kV doc pm an ix ct),Hn⟩)(rJ:mH K ix qual=true)(S:cH N ps scope)
  (len:∀vs H Q E,sp vs H Q E->vs.length=ps.length)
  (HL:∀(A:cU)(outer:List Env)(s:aF)(H:Hp)(vs:List V)(Q:VK)(E:XK),fc k (A.deeper (envOfC qual scope s.heap.objs.size f ix))->sp vs H Q E->
   ∃t,EK (Aa CX P w K mg base N qual scope f ix A outer s H E) body t/\t { nx:=λ_ H'=>Q .non H',rt:=Q } (start N vs) H) :
  eU P w K mg base CX (k+1) f (iP name qual params body scope dV kV doc pm an ix ct) ps sp:=by
 refine⟨len,λA outer s H args us vs Q E hr e0 hb r Ab=>?_⟩
 have hl:=len _ _ _ _ Ab;have KX:K.In s.heap:=e0.mod.Rq.keeps λb o e=>(e0.bs b o e).1
 have lim:s.heap.NoLimit:=e0.mod.nolimit.keeps λb o e=>(e0.bs b o e).1
 have BO:∀y∈ps.zip us,scope.names.lookup y.1=some .local\/(scope.names.lookup y.1=some .cell/\((cellsFrom (s.heap.objs.size+1) scope.names []).lookup y.1).isSome=true):=λ⟨n,v⟩ hy=>by
  rcases S.par n (qd hy).1 with q|q
  ·exact .inl q
  ·exact .inr ⟨q,zL _ _ _ (.inl q)⟩
 refine codeAny_call_function hr.depth (KX _ _ lk) rfl S.co S.gen rfl (PySem.W.codeRec_of KX rJ) (hb _ _ _ _ ?_)
 refine wpAny_newFunctionEnv_cells S.kind BO λenv he s1 x=>?_
 subst he;refine⟨lim.keeps x.toInCall.keep,codeAny_func ?_⟩
 obtain⟨t,ht,hq⟩:=HL A outer s H vs Q E (hr.deeper _) Ab;have I:Inv (Aa CX P w K mg base N qual scope f ix A outer s H E) [] (start N vs) H s1:=F0 S hr.hd e0 hl r x;refine h8 (ht [] s1 (start N vs) H _ I hq) (λfl s' hs=>?_) λe s' hs=>hs
 have fin:∀{σ':St}{H':Hp}{v:V}{u:av},Inv (Aa CX P w K mg base N qual scope f ix A outer s H E) [] σ' H' s'->RelV v u->Q v H'->CE outer P w H s Q u s':=
  λ{σ' H' v u}J rv q=>⟨v,H',J.os,J.bare,J.base,J.hok,rv,q⟩
 cases fl with
 |ret u=>
  obtain⟨v,σ',H',J,rv,q⟩:=hs;exact fin J rv q
 |next=>
  obtain⟨σ',H',J,q⟩:=hs;exact fin (v:=V.non) (u:=iq) J rfl q
 |brk=>
  obtain⟨_,_,_,q⟩:=hs;exact gT q
 |cont=>
  obtain⟨_,_,_,q⟩:=hs;exact gT q
section
variable{X:Cx}{x:Str}{p pos:Pos}{e:bR}{es:List bR}{t:TA}{id T:String}{r:List V->Hp->VK->Prop}
def Y6(r:List V->Hp->VK->Prop)(t:TA):TE:=λσ H Q=>t σ H λvs H1=>r vs H1 Q
theorem wV(hc:jh X (.builtin id) r)(hg:Gl X x)(hm:X.mg x=none)(hv:bootBuiltins x=some (.builtin id))(ha:PA X (e::es) t)(hn:x≠"__name__":=by decide)(qx:(x==("__debug__":Str))=false:=by decide)
  (he:starEach (e::es) X.env=(false,eval e X.env)::starEach es X.env:=by rfl)(qy:(backTo pos (starEach es X.env)).any (·.1)=false:=by rfl):PE X (.Call (.Name x p) (e::es) [] pos) (Y6 r t):=by
 intro pins s σ H Q I h;refine oT (uN I hg hm hv ?_ hn qx)
 exact PyProof.Rows.callWith_builtin1 (gD (ha pos pins s σ H _ I h) λus s1 ⟨vs,H1,I1,r1,q1⟩=>hc pins s1 σ H1 vs us Q I1 r1 q1) he qy
theorem kZ(hc:jh X (.type T) r)(hg:Gl X x)(hm:X.mg x=none)(hv:bootBuiltins x=some (.type T))(ha:PA X (e::es) t)(hn:x≠"__name__":=by decide)(qx:(x==("__debug__":Str))=false:=by decide)
  (he:starEach (e::es) X.env=(false,eval e X.env)::starEach es X.env:=by rfl)(qy:(backTo pos (starEach es X.env)).any (·.1)=false:=by rfl):PE X (.Call (.Name x p) (e::es) [] pos) (Y6 r t):=by
 intro pins s σ H Q I h;refine oT (uN I hg hm hv ?_ hn qx)
 exact iO (gD (ha pos pins s σ H _ I h) λus s1 ⟨vs,H1,I1,r1,q1⟩=>hc pins s1 σ H1 vs us Q I1 r1 q1) he qy
end
end L2
namespace HT
open PySem PyProof.Rows
section
open PySem.SeqAt
open PySem.AutoSeq1 (wpAny_loadPart')
open PySem.MeetsSeq PySem.MeetsSeq2 PySem.MeetsSeq3
end
section
variable{prog:bo}{w:bX}{A:cU}{E:av->aF->Prop}{s:aF}
theorem KN{t b:aK}{vs ws:List av}{Q:av->aF->Prop}(ht:IsTup s.heap t vs.toArray)(hb:IsTup s.heap b ws.toArray)(hv:vs≠[])
  (h1:ws=[]->Q (.ref t) s)(h2:ws≠[]->Q (.ref s.heap.objs.size) { s with heap:=s.heap.push { cls:=.type "tuple",data:=.seq (vs++ws).toArray } })
  (hsz:vs.length+ws.length<=sizeLine):wpAny (model prog w) A (binaryOp .Add (.ref t) (.ref b)) Q E s:=by
 obtain⟨⟨cls,dd,data,sl⟩,ho,hc,n,hd⟩:=id ht;obtain⟨⟨V2,UM,data2,UN⟩,QL,UO,n2,hd2⟩:=id hb;simp only at hc hd UO hd2;subst hc hd UO hd2;have e:vs.toArray++ws.toArray=(vs++ws).toArray:=by simp
 by_cases hw:ws=[]
 ·exact concat_meets ⟨_,ho,rfl⟩ ⟨_,QL,rfl⟩ noFill_tuple_add seq_tuple_add zM yQ (yw _ _)
   (tuple_addW1 t b vs.toArray ws.toArray n n2 dd UM sl UN (by simpa using hv) (by simp[hw])) ⟨ho,QL,h1 hw⟩
 ·refine concat_meets ⟨_,ho,rfl⟩ ⟨_,QL,rfl⟩ noFill_tuple_add seq_tuple_add zM yQ (yw _ _)
   (tuple_addW2 t b vs.toArray ws.toArray n n2 dd UM sl UN (by simpa using hv) (by simpa using hw) (by rw[bu,bu];exact hsz)) ⟨ho,QL,?_⟩
  rw[e];exact h2 hw
def kN(n d:Nat):Option Int->Nat
 |none=>d
 |some v=>if v<0 then(v+(n:Int)).toNat else min v.toNat n
theorem BP(n d:Nat):kN n d none=d:=rfl
theorem oW(n d k:Nat):kN n d (some (k:Int))=min k n:=by
 show(if(k:Int)<0 then((k:Int)+(n:Int)).toNat else min (k:Int).toNat n)=min k n
 rw[if_neg (by omega),fw]
theorem OY(n d:Nat)(hd:d<=n)(o:Option Int):kN n d o<=n:=by
 cases o with
 |none=>exact hd
 |some v=>
  show(if v<0 then(v+(n:Int)).toNat else min v.toNat n)<=n
  by_cases hv:v<0
  ·rw[if_pos hv];omega
  ·rw[if_neg hv];exact Nat.min_le_right _ _
theorem EY(v:Int)(n d:Nat):(if v<0 then max (v+(n:Int)) 0 else min v (n:Int))=((kN n d (some v):Nat):Int):=by
 show(if v<0 then max (v+(n:Int)) 0 else min v (n:Int))=(((if v<0 then(v+(n:Int)).toNat else min v.toNat n):Nat):Int)
 by_cases hv:v<0
 ·simp only[if_pos hv];omega
 ·simp only[if_neg hv];omega
theorem DL(lo hi:Option Int)(n:Nat):lP lo hi 1 (n:Int)=(((kN n 0 lo:Nat):Int),((kN n n hi:Nat):Int)):=by
 have h1:¬((1:Int)<0):=by omega
 unfold lP;simp only[h1,if_false];refine Prod.ext ?_ ?_
 ·cases lo with
  |none=>rfl
  |some v=>exact EY v n 0
 ·cases hi with
  |none=>rfl
  |some v=>exact EY v n n
theorem DM(i j:Nat):jf (i:Int) (j:Int) 1=j-i:=by
 unfold jf;have h1:(1:Int)>0:=by omega
 simp only[h1,if_true,Int.ediv_one]
 split<;>omega
theorem wW{v:av}{o:Option Int}{Q:Option Int->aF->Prop}(p:zN v o)(h:Q o s):wpAny (model prog w) A (pX.Slice.slicePartIndex v) Q E s:=by
 cases p with
 |none=>exact slicePart_none h
 |int i t=>exact slicePart_int h
theorem uP{sl:aK}{vl vu:av}{lo hi:Option Int}{n:Nat}{Q:Int×Int×Nat->aF->Prop}(hs:s.heap.IsSliceOf sl vl vu .none)(pl:zN vl lo)(pu:zN vu hi)
  (h:Q (((kN n 0 lo:Nat):Int),1,kN n n hi-kN n 0 lo) s):wpAny (model prog w) A (tG (.ref sl) (pure (n:Int))) Q E s:=by
 obtain⟨os,R5,R6,OZ⟩:=id hs;unfold tG pX.Slice.sliceFields;refine ay (ay (fq R5 OZ (x:=vl) rfl (ay (fq R5 OZ (x:=vu) rfl (ay (fq R5 OZ (x:=.none) rfl (a8 ?_)))))))
 refine ay (slicePart_none ?_)
 show wpAny _ _ (if((1:Int)==0)=true then _ else _) _ _ s
 rw[if_neg (by decide)]
 refine ay (wW pl (ay (wW pu (ay (a8 ?_)))))
 show wpAny _ _ (match lP lo hi 1 (n:Int)with|(lo,hi)=>pure (lo,(1:Int),jf lo hi 1)) _ _ s
 rw[DL lo hi n];show wpAny _ _ (pure (((kN n 0 lo:Nat):Int),(1:Int),jf ((kN n 0 lo:Nat):Int) ((kN n n hi:Nat):Int) 1)) _ _ s;rw[DM];exact a8 h
theorem HM(xs:Array av)(i k:Nat):((aW k).filterMap λ(m:Nat)=>xs[((i:Int)+(m:Int)*1).toNat]?).toArray=((xs.toList.drop i).take k).toArray:=by
 have e:(λ(m:Nat)=>xs[((i:Int)+(m:Int)*1).toNat]?)=λm=>xs[i+m]?:=by
  funext m
  have:((i:Int)+(m:Int)*1).toNat=i+m:=by omega
  rw[this]
 rw[e];have:=pick_run xs i k;rw[cL]at this;have e2:((λx=>xs[x]?)∘λx=>i+x)=λm=>xs[i+m]?:=rfl
 rw[e2]at this;rw[this]
theorem tM{t sl:aK}{items:Array av}{vl vu:av}{lo hi:Option Int}{Q:av->aF->Prop}(ht:IsTup s.heap t items)(hs:s.heap.IsSliceOf sl vl vu .none)(pl:zN vl lo)(pu:zN vu hi)
  (hw:¬(kN items.size 0 lo=0/\kN items.size items.size hi=items.size))
  (h:Q (.ref s.heap.objs.size) { s with heap:=s.heap.push { cls:=.type "tuple",data:=.seq ((items.toList.drop (kN items.size 0 lo)).take (kN items.size items.size hi-kN items.size 0 lo)).toArray } })
  (hsz:items.size<=sizeLine):wpAny (model prog w) A (getItem (.ref t) (.ref sl)) Q E s:=by
 have EZ:sizeOk (.seq ((items.toList.drop (kN items.size 0 lo)).take (kN items.size items.size hi-kN items.size 0 lo)).toArray):=by
  show((items.toList.drop (kN items.size 0 lo)).take (kN items.size items.size hi-kN items.size 0 lo)).toArray.size<=sizeLine
  rw[bu,cj,cG,cN];omega
 have hj:kN items.size items.size hi<=items.size:=OY _ _ (aD _) hi;obtain⟨os,R5,R6,OZ⟩:=id hs;have hTs:s.TypeIs (.ref sl) "slice":=⟨os,R5,R6⟩;unfold getItem
 try with_reducible refine nh ?_
 first|refine ay (a8 ?_)|skip
 refine ay (wpAny_sequenceKey ht.typeIs (by decide) ?_)
 refine ay (jb (name:=ni "__getitem__") ht.typeIs j9
  (kf j9 ht.typeIs entry_tuple_getitem ?_ (args_tuple_getitem _ _)))
 show wpAny _ _ (pX.Tuple.tupleItemsOf (.ref t) >>= _) _ _ s;refine ay (tupleItemsOf_ ht ?_)
 refine ay (yx hTs ?_)
 rw[if_pos (by decide)]
 refine ay (uP hs pl pu ?_)
 have Ho:¬((((kN items.size 0 lo:Nat):Int)==0&&(1:Int)==1&&(kN items.size items.size hi-kN items.size 0 lo)==items.size)=true):=by
  intro q;rw[pK,pK]at q;have q1:((kN items.size 0 lo:Nat):Int)=0:=eq_of_beq q.1.1;have q2:kN items.size items.size hi-kN items.size 0 lo=items.size:=eq_of_beq q.2;exact hw ⟨by omega,by omega⟩
 show wpAny _ _ (if(((kN items.size 0 lo:Nat):Int)==0&&(1:Int)==1&&(kN items.size items.size hi-kN items.size 0 lo)==items.size)=true then _ else _) _ _ s
 rw[if_neg Ho,HM]
 first
  |exact ay (m:=fx _) (eB (a8 ⟨_,rfl,a8 h⟩) EZ)
  |exact ay (m:=fx _) (eB (ay (a8 (a8 ⟨_,rfl,a8 h⟩))) EZ)
  |exact ay (ay (m:=fx _) (eB (a8 (a8 ⟨_,rfl,a8 h⟩)) EZ))
  |exact ay (ay (m:=fx _) (eB (a8 ⟨_,rfl,a8 h⟩) EZ))
end
end HT
namespace L2
open PySem PySem.Spec PyProof.Rows
abbrev TO:=St->Hp->(Option Int->Hp->Prop)->Prop
def PO(X:Cx)(e:Option bR)(t:TO):Prop:=
 ∀(pins:List (aK×Obj))(s:aF)(σ:St)(H:Hp)(Q:Option Int->Hp->Prop),Inv X pins σ H s->t σ H Q->
  wpAny (model X.prog X.w) X.A (evalPart e X.env) (λu s'=>∃o H',Inv X pins σ H' s'/\zN u o/\Q o H') X.xe s
def KP:TO:=λ_ H Q=>Q none H
def R7(t:TE):TO:=λσ H Q=>t σ H λx H1=>∃i,x=.int i/\Q (some i) H1
theorem intsAre_of{ns:List Int}:∀{us:List av},dS (ns.map V.int) us->yy us ns:=by
 induction ns with
 |nil=>intro us r;rw[fV]at r;cases r;exact .nil
 |cons n ns ih=>
  intro us r;rw[aH]at r;cases r with
  |cons r1 r2=>
   obtain⟨t,e⟩:=r1;subst e;exact .cons n t (ih r2)
section
variable{X:Cx}{e:bR}{te:TE}{lo hi:Option bR}{tl th:TO}{pos p2:Pos}
theorem KQ:PO X none KP:=by
 intro pins s σ H Q I h;rw[evalPart_none];exact a8 ⟨none,H,I,.none,h⟩
theorem KR(h:PE X e te):PO X (some e) (R7 te):=by
 intro pins s σ H Q I hw;rw[evalPart_some];refine gD (h pins s σ H _ I hw) λu s1 ⟨x,H1,I1,r1,q1⟩=>?_
 obtain⟨i,rfl,q⟩:=q1;obtain⟨t,rfl⟩:=r1;exact⟨some i,H1,I1,.int i t,q⟩
def UQ(X:Cx)(r:V->Option Int->Option Int->Hp->VK->Prop):Prop:=
 ∀(pins:List (aK×Obj))(s:aF)(σ:St)(H:Hp)(x:V)(v vl vu:av)(lo hi:Option Int)(sl:aK)(Q:VK),Inv X pins σ H s->RelV x v->s.heap.IsSliceOf sl vl vu .none->zN vl lo->zN vu hi->r x lo hi H Q->
  ∃T id,typeLookup (.type T) "__getitem__"=pure (some (.builtin id))/\s.TypeIs v T/\wpAny (model X.prog X.w) X.A (getItem v (.ref sl)) (EP X pins σ Q) X.xe s
def tSl(r:V->Option Int->Option Int->Hp->VK->Prop)(te:TE)(tl th:TO):TE:=λσ H Q=>te σ H λx H1=>tl σ H1 λl H2=>th σ H2 λu H3=>r x l u H3 Q
theorem wX{r:V->Option Int->Option Int->Hp->VK->Prop}(hr:UQ X r)(he:PE X e te)(hl:PO X lo tl)(hu:PO X hi th):PE X (.Subscript e (.Slice lo hi none p2) pos) (tSl r te tl th):=by
 intro pins s σ H Q I h;refine Subscript_ (gD (he pins s σ H _ I h) λv s1 ⟨x,H1,I1,r1,q1⟩=>?_)
 refine wpAny_Slice (gD (hl pins s1 σ H1 _ I1 q1) λvl s2 ⟨l,H2,I2,pl,q2⟩=>gD (hu pins s2 σ H2 _ I2 q2) λvu s3 ⟨u,H3,I3,pu,q3⟩=>?_)
 rw[evalPart_none];refine a8 ?_
 have I4:Inv X pins σ H3 { s3 with heap:=s3.heap.push { cls:=.type "slice",data:=.fields #[vl,vu,.none] } }:=I3.kept (t':=s3.toks) λb ob q=>aE _ q
 obtain⟨T,id,hT,ht,hg⟩:=hr pins { s3 with heap:=s3.heap.push { cls:=.type "slice",data:=.fields #[vl,vu,.none] } } σ H3 x v vl vu l u s3.heap.objs.size Q I4 r1 (cK.IsSliceOf.new ..) pl pu q3
 show wpAny (model X.prog X.w) X.A (subscriptTail e (.Slice lo hi none p2) v (.ref s3.heap.objs.size)) (EP X pins σ Q) X.xe { s3 with heap:=s3.heap.push { cls:=.type "slice",data:=.fields #[vl,vu,.none] } }
 exact tail_any (ops:=[.ref s3.heap.objs.size,v]) ht hT hg (by with_unfolding_all rfl)
def BQ(xs:List V)(lo hi:Option Int):List V:=(xs.drop (HT.kN xs.length 0 lo)).take (HT.kN xs.length xs.length hi-HT.kN xs.length 0 lo)
theorem vt(xs:List V)(lo hi:Option Int):(BQ xs lo hi).length<=xs.length:=by
 unfold BQ;rw[cj,cG];omega
def V3(K:ai):V->Option Int->Option Int->Hp->VK->Prop:=λx lo hi H Q=>∃a xs,x=.ref a/\og K H a xs/\
 ¬(HT.kN xs.length 0 lo=0/\HT.kN xs.length xs.length hi=xs.length)/\∀p,H p=none->Q (.ref p) (upd H p (.tup (BQ xs lo hi)))
theorem O1:UQ X (V3 X.K):=by
 intro pins s σ H x v vl vu lo hi sl Q I rx hs pl pu h;obtain⟨a,xs,rfl,hx,hw,q⟩:=h;cases rx;obtain⟨its,r,ht,hz⟩:=I.tuple hx;have hlen:its.toArray.size=xs.length:=by rw[bu];exact r.length.symm
 refine⟨"tuple",_,j9.lookup,ht.typeIs,?_⟩
 refine HT.tM ht hs pl pu (by rw[hlen];exact hw) ?_ (by rw[hlen];exact hz)
 rw[hlen];refine⟨.ref s.heap.objs.size,_,I.laid (t':=s.toks) (o:=.tup (BQ xs lo hi)) (λb ob q=>aE _ q) (aD _) ?_,rfl,q _ (I.hok.fresh (aD _))⟩
 exact⟨b_ (vt xs lo hi) hz,_,(r.drop (HT.kN xs.length 0 lo)).take (HT.kN xs.length xs.length hi-HT.kN xs.length 0 lo),oQ _ _⟩
def R8(K:ai):R2:=λx y H Q=>∃a b xs ys,x=.ref a/\y=.ref b/\og K H a xs/\og K H b ys/\xs≠[]/\xs.length+ys.length<=sizeLine/\
 (ys=[]->Q (.ref a) H)/\(ys≠[]->∀p,H p=none->Q (.ref p) (upd H p (.tup (xs++ys))))
theorem dS.wt{xs:List V}{us:List av}(r:dS xs us):us=[]↔xs=[]:=by
 cases r with
 |nil=>simp
 |cons _ _=>simp
theorem KS:qw X (binaryOp .Add) (R8 X.K):=by
 intro pins s σ H x y v u Q I rx ry h;obtain⟨a,b,xs,ys,rfl,rfl,ha,hb,hx,hz,q1,q2⟩:=h;cases rx;cases ry;obtain⟨its,r1,p1,_⟩:=I.tuple ha;obtain⟨F1,r2,p2,_⟩:=I.tuple hb;refine HT.KN p1 p2 (λz=>hx (r1.wt.mp z)) (λz=>⟨.ref a,H,I,rfl,q1 (r2.wt.mp z)⟩) (λz=>?_) (by rw[<-r1.length,<-r2.length];exact hz)
 refine⟨.ref s.heap.objs.size,_,I.laid (t':=s.toks) (o:=.tup (xs++ys)) (λb ob q=>aE _ q) (aD _) ?_,rfl,q2 (λw=>z (r2.wt.mpr w)) _ (I.hok.fresh (aD _))⟩
 exact⟨by rw[a7];exact hz,_,r1.append r2,oQ _ _⟩
end
def Kh(n:Nat)(i:Int):Option Nat:=if 0<=i then(if i<n then some i.toNat else none)else if -(n:Int)<=i then some (i+n).toNat else none
def oO{α:Type}(xs:List α)(i:Int):Option α:=(Kh xs.length i).bind λj=>xs[j]?
theorem KW{n:Nat}{i:Int}{j:Nat}(h:Kh n i=some j):seqIndex? i n=some j/\j<n/\-(n:Int)<=i/\i<n:=by
 unfold Kh at h;by_cases h0:0<=i
 ·rw[if_pos h0]at h
  by_cases h1:i<n
  ·rw[if_pos h1]at h
   have e:i.toNat=j:=cY h;exact⟨by rw[seqIndex_of h0 h1,e],by omega,by omega,h1⟩
  ·rw[if_neg h1]at h;cases h
 ·rw[if_neg h0]at h
  by_cases h1:-(n:Int)<=i
  ·rw[if_pos h1]at h
   have e:(i+n).toNat=j:=cY h;exact⟨by rw[seqIndex_neg (by omega) h1,e],by omega,h1,by omega⟩
  ·rw[if_neg h1]at h;cases h
theorem Ac{α:Type}{xs:List α}{i:Int}{v:α}(h:oO xs i=some v):∃j,seqIndex? i xs.length=some j/\xs[j]?=some v/\j<xs.length/\-(xs.length:Int)<=i/\i<xs.length:=by
 unfold oO at h;cases e:Kh xs.length i with
 |none=>rw[e]at h;cases h
 |some j=>
  rw[e]at h;obtain⟨h1,h2,h3,h4⟩:=KW e;exact⟨j,h1,h,h2,h3,h4⟩
theorem bH{α:Type}{xs:List α}{j:Nat}{v:α}(h:xs[j]?=some v):oO xs (j:Int)=some v:=by
 have hj:j<xs.length:=(aM.mp h).1;have e:Kh xs.length (j:Int)=some j:=by
  unfold Kh;rw[if_pos (by omega),if_pos (by omega)];simp
 unfold oO;rw[e];exact h
theorem HN{α:Type}(xs:List α)(v:α):oO (xs ++ [v]) (-1)=some v:=by
 have hl:(xs ++ [v]).length=xs.length+1:=by simp
 have e:Kh (xs ++ [v]).length (-1)=some xs.length:=by
  unfold Kh;rw[hl,if_neg (by decide),if_pos (by omega)]
  congr 1
  omega
 unfold oO;rw[e]
 show(xs ++ [v])[xs.length]?=some v
 simp
def q_(b:bR):Prop:=∀o i,subscripted b false o i=operate [o,i] (getItem o i)
def Ki(X:Cx)(r:R2):Prop:=
 ∀(value slice:bR)(pins:List (aK×Obj))(s:aF)(σ:St)(H:Hp)(x y:V)(v u:av)(Q:VK),Inv X pins σ H s->RelV x v->RelV y u->r x y H Q->
  subscripted slice false v u=operate [v,u] (getItem v u)->wpAny (model X.prog X.w) X.A (subscriptTail value slice v u) (EP X pins σ Q) X.xe s
def MtR(X:Cx)(id:String)(r:V->List V->Hp->VK->Prop):Prop:=
 ∀(pins:List (aK×Obj))(s:aF)(σ:St)(H:Hp)(x:V)(xs:List V)(v:av)(us:List av)(Q:VK),Inv X pins σ H s->RelV x v->dS xs us->r x xs H Q->
  wpAny (model X.prog X.w) X.A (call (.builtin id) (v::us)) (EP X pins σ Q) X.xe s
section
variable{X:Cx}{a b:bR}{ta tb:TE}{pos:Pos}
theorem Ki.or{r r':R2}(h:Ki X r)(h':Ki X r'):Ki X (λx y H Q=>r x y H Q\/r' x y H Q):=by
 intro value slice pins s σ H x y v u Q I rx ry q hs;rcases q with q|q
 ·exact h value slice pins s σ H x y v u Q I rx ry q hs
 ·exact h' value slice pins s σ H x y v u Q I rx ry q hs
theorem M6{r:R2}(hr:Ki X r)(ha:PE X a ta)(hb:PE X b tb)(hs:q_ b):PE X (.Subscript a b pos) (RN r ta tb):=by
 intro pins s σ H Q I h;exact Subscript_ (OI ha hb I h λv u s2 x y H2 I2 rx ry q=>hr a b pins s2 σ H2 x y v u Q I2 rx ry q (hs _ _))
def R9(K:ai):R2:=λx y H Q=>∃p xs i v,x=.ref p/\y=.int i/\kO K H p xs/\oO xs i=some v/\Q v H
def R_(K:ai):R2:=λx y H Q=>∃p xs i v,x=.ref p/\y=.int i/\og K H p xs/\oO xs i=some v/\Q v H
def Sb:R2:=λx y H Q=>∃z i c,x=.str z/\y=.int i/\z.length<=sizeLine/\oO z.cps.toList i=some c/\Q (.str ⟨#[c]⟩) H
theorem KY:Ki X (R9 X.K):=by
 intro value slice pins s σ H x y v u Q I rx ry h hs;obtain⟨p,xs,i,z,rfl,rfl,hq,he,q⟩:=h;cases rx;obtain⟨t,rfl⟩:=ry;obtain⟨its,r,pl,hz⟩:=I.list hq;obtain⟨j,h1,h2,h3,h4,h5⟩:=Ac he;obtain⟨w,ew,oU⟩:=r.get h2;have hl:=r.length;have hn:=sr;have fin:EP X pins σ Q w s:=⟨z,H,I,oU,q⟩;by_cases h0:0<=i
 ·have hj:i.toNat=j:=by
   rw[seqIndex_of h0 h5]at h1;exact cY h1
  exact item_listR pl.isList h0 (by omega) (by rw[hj];simpa using ew) fin hs
 ·have hj:(i+(its.toArray.size:Int)).toNat=j:=by
   rw[seqIndex_neg (by omega) h4]at h1
   rw[bu,<-hl];exact cY h1
  exact subscriptTail_builtinR (x:=w) pl.isList.typeIs slot_list_getitem.lookup
   (wpAny_getItem_list_neg (Q:=λr s'=>r=w/\EP X pins σ Q r s') pl.isList (by omega) (by rw[bu]<;>omega) (by omega) (by rw[hj];simpa using ew) ⟨rfl,fin⟩) hs
theorem O2:Ki X (R_ X.K):=by
 intro value slice pins s σ H x y v u Q I rx ry h hs;obtain⟨p,xs,i,z,rfl,rfl,hq,he,q⟩:=h;cases rx;obtain⟨t,rfl⟩:=ry;obtain⟨its,r,pl,hz⟩:=I.tuple hq;obtain⟨j,h1,h2,h3,h4,h5⟩:=Ac he;obtain⟨w,ew,oU⟩:=r.get h2;have hl:=r.length;have hn:=sr;have fin:EP X pins σ Q w s:=⟨z,H,I,oU,q⟩;exact subscriptTail_builtinR (x:=w) pl.typeIs slot_tuple_getitem.lookup
  (getItem_tuple (j:=j) (Q:=λr s'=>r=w/\EP X pins σ Q r s') pl (by omega) (by omega) (by rw[bu,<-hl];exact h1) (by simpa using ew) ⟨rfl,fin⟩) hs
theorem O4:Ki X Sb:=by
 intro value slice pins s σ H x y v u Q I rx ry h hs;obtain⟨z,i,c,rfl,rfl,hz,he,q⟩:=h;obtain⟨t,rfl⟩:=rx;obtain⟨t',rfl⟩:=ry;obtain⟨j,h1,h2,h3,h4,h5⟩:=Ac he;have hl:z.cps.toList.length=z.length:=by simp[Str.length]
 rw[hl]at h1 h4 h5;have hn:=sr;exact tail_any (sj s z t) slot_str_getitem.lookup (getItem_str (c:=c) (by
  have e1:decide (i < -(2^63:Int))=false:=decide_eq_false (by omega)
  have e2:decide (i>=2^63)=false:=decide_eq_false (by omega)
  rw[e1,e2,Bool.or_false]) (by rw[h1];simpa using h2) ⟨.str ⟨#[c]⟩,H,I.tok _,⟨_,rfl⟩,q⟩) hs
def UR(K:ai):R2:=λx y H Q=>R9 K x y H Q\/R_ K x y H Q\/Sb x y H Q
theorem Ad:Ki X (UR X.K):=KY.or (O2.or O4)
theorem Ae(lo hi:Option Int)(n:Nat):(sliceBounds lo hi none n).1=((HT.kN n 0 lo:Nat):Int)/\(sliceBounds lo hi none n).2.1=((HT.kN n n hi:Nat):Int)/\(sliceBounds lo hi none n).2.2=1:=by
 refine⟨?_,?_,rfl⟩
 ·cases lo with
  |none=>simp[sliceBounds,HT.kN]
  |some i=>
   simp only[sliceBounds,HT.kN,Option.getD_none,show(1:Int)>0 by decide,if_true]
   by_cases h:i<0
   ·simp only[h,if_true]<;>omega
   ·simp only[h,if_false]<;>omega
 ·cases hi with
  |none=>simp[sliceBounds,HT.kN]
  |some i=>
   simp only[sliceBounds,HT.kN,Option.getD_none,show(1:Int)>0 by decide,if_true]
   by_cases h:i<0
   ·simp only[h,if_true]<;>omega
   ·simp only[h,if_false]<;>omega
theorem yB(its:List av)(lo hi:Option Int):slicePick its.toArray lo hi none=((its.drop (HT.kN its.length 0 lo)).take (HT.kN its.length its.length hi-HT.kN its.length 0 lo)).toArray:=by
 obtain⟨h1,h2,h3⟩:=Ae lo hi its.toArray.size;unfold slicePick;rw[h1,h2,h3];simp only[sliceRange_one,pick_run,bu]<;>rfl
def V4(K:ai):V->Option Int->Option Int->Hp->VK->Prop:=λx lo hi H Q=>∃a xs,x=.ref a/\kO K H a xs/\∀p,H p=none->Q (.ref p) (upd H p (.lst (BQ xs lo hi)))
theorem KZ:UQ X (V4 X.K):=by
 intro pins s σ H x v vl vu lo hi sl Q I rx hs pl pu h;obtain⟨a,xs,rfl,hx,q⟩:=h;cases rx;obtain⟨its,r,ht,hz⟩:=I.list hx;have hlen:=r.length;refine⟨"list",_,slot_list_getitem.lookup,ht.isList.typeIs,?_⟩
 refine wpAny_getItem_list_slice ht.isList hs pl pu .none (by simp) ?_ (by rw[bu]<;>omega)
 rw[yB,<-hlen];refine⟨.ref s.heap.objs.size,_,I.laid (t':=s.toks) (o:=.lst (BQ xs lo hi)) (λb ob q=>aE _ q) (aD _) ?_,rfl,q _ (I.hok.fresh (aD _))⟩
 exact⟨b_ (vt xs lo hi) hz,_,0,(r.drop (HT.kN xs.length 0 lo)).take (HT.kN xs.length xs.length hi-HT.kN xs.length 0 lo),bp _ rfl⟩
theorem tN:jh X (.builtin "len") (λxs H Q=>∃p ys,xs=[.ref p]/\(kO X.K H p ys\/og X.K H p ys)/\Q (.int ys.length) H):=by
 intro pins s σ H xs us Q I r h;obtain⟨p,ys,rfl,hq,q⟩:=h;obtain⟨u,rfl,rx⟩:=vals1 r;cases rx;have hn:=sr;rcases hq with hq|hq
 ·obtain⟨its,r',pl,hz⟩:=I.list hq
  have hlen:=r'.length;exact Calls.call_len_list pl.isList (by simp only[bu]<;>omega) ⟨.int ys.length,H,I.tok _,⟨s.toks+1,by rw[bu,hlen]⟩,q⟩
 ·obtain⟨its,r',pl,hz⟩:=I.tuple hq
  have hlen:=r'.length;exact len_tuple pl (by simp only[bu]<;>omega) ⟨.int ys.length,H,I.tok _,⟨s.toks+1,by rw[bu,hlen]⟩,q⟩
theorem Af:jh X (.builtin "len") (λxs H Q=>∃z,xs=[.str z]/\z.length<=sizeLine/\Q (.int z.length) H):=by
 intro pins s σ H xs us Q I r h;obtain⟨z,rfl,hz,q⟩:=h;obtain⟨u,rfl,t,rfl⟩:=vals1 r;have hn:=sr;exact len_str (by omega) ⟨.int z.length,H,I.tok _,⟨_,rfl⟩,q⟩
theorem tP:jh X (.type "list") (λxs H Q=>∃p ys,xs=[.ref p]/\(kO X.K H p ys\/og X.K H p ys)/\∀l,H l=none->Q (.ref l) (upd H l (.lst ys))):=by
 intro pins s σ H xs us Q I r h;obtain⟨p,ys,rfl,hq,q⟩:=h;obtain⟨u,rfl,rx⟩:=vals1 r;cases rx;have fin:∀(its:List av),dS ys its->ys.length<=sizeLine->∀(h':cK)(c':Nat),(∀b o',s.heap.get? b=some o'->h'.get? b=some o')->
   h'.get? s.heap.objs.size=some { cls:=.type "list",dict:=none,data:=.seq its.toArray c',slots:=#[] }->EP X pins σ Q (.ref s.heap.objs.size) { s with heap:=h' }:=λits r' hz h' c' kp e=>
  ⟨.ref s.heap.objs.size,_,I.laid (t':=s.toks) kp (aD _) (show gw X.prog X.w _ h' _ (.lst ys) from⟨hz,its,c',r',e⟩),rfl,q _ (I.hok.fresh (aD _))⟩
 rcases hq with hq|hq
 ·obtain⟨its,r',pl,hz⟩:=I.list hq
  have hlen:=r'.length;obtain⟨o,ho,hc,n,hd⟩:=pl.isList;exact call_list_seq p (.inl rfl) ho hc hd (λh' c' kp e=>fin its r' hz h' c' kp e) (by simp only[bu]<;>omega)
 ·obtain⟨its,r',pl,hz⟩:=I.tuple hq
  have hlen:=r'.length;obtain⟨o,ho,hc,n,hd⟩:=pl;exact call_list_seq p (.inr rfl) ho hc hd (λh' c' kp e=>fin its r' hz h' c' kp e) (by simp only[bu]<;>omega)
theorem jP:jh X (.type "tuple") (λxs H Q=>∃p ys,xs=[.ref p]/\((kO X.K H p ys/\∀l,H l=none->Q (.ref l) (upd H l (.tup ys)))\/(og X.K H p ys/\Q (.ref p) H))):=by
 intro pins s σ H xs us Q I r h;obtain⟨p,ys,rfl,h⟩:=h;obtain⟨u,rfl,rx⟩:=vals1 r;cases rx;rcases h with⟨hq,q⟩|⟨hq,q⟩
 ·obtain⟨its,r',pl,hz⟩:=I.list hq
  have hlen:=r'.length;refine call_tuple_list pl.isList (λh' kp=>?_) (by simp only[bu]<;>omega)
  have I1:Inv X pins σ H { s with heap:=h' }:=I.kept (t':=s.toks) kp
  have I2:Inv X pins σ (upd H h'.objs.size (.tup ys)) { s with heap:=h'.push { cls:=.type "tuple",data:=.seq its.toArray } }:=
   I1.laid (t':=s.toks) (λb o e=>aE _ e) (aD _) (show gw X.prog X.w _ _ _ (.tup ys) from⟨hz,its,r',oQ _ _⟩)
  exact⟨.ref h'.objs.size,_,I2,rfl,q _ (I1.hok.fresh (aD _))⟩
 ·obtain⟨its,r',pl,hz⟩:=I.tuple hq
  exact call_tuple_same pl ⟨.ref p,H,I,rfl,q⟩
def Y7(K:ai)(T:String)(x:V)(H:Hp):Prop:=match x with
 | .str _=>T="str"
 | .int _=>T="int"
 | .ref p=>(T="list"/\∃xs,kO K H p xs)\/(T="tuple"/\∃o,K.lookup p=some o/\o.cls=.type "tuple"/\o.dict=none)\/
   (T="dict"/\((∃kvs,H p=some (.dK kvs))\/∃kvs,H p=some (.dT kvs)))\/(T="set"/\∃S n,H p=some (.set S n))
 |_=>False
theorem O5{pins:List (aK×Obj)}{σ:St}{H:Hp}{s:aF}{T:String}{x:V}{v:av}(I:Inv X pins σ H s)(r:RelV x v)(ty:Y7 X.K T x H):
  s.TypeIs v T/\∀a,v=.ref a->∃ob,s.heap.get? a=some ob/\ob.dict=none:=by
 cases x with
 |str z=>
  obtain⟨t,rfl⟩:=r
  cases(show T="str" from ty)
  exact⟨sj s z t,λ_ e=>nomatch e⟩
 |int i=>
  obtain⟨t,rfl⟩:=r
  cases(show T="int" from ty)
  exact⟨typeIs_int s i t,λ_ e=>nomatch e⟩
 |ref p=>
  cases r;rcases ty with⟨rfl,xs,hq⟩|⟨rfl,o,hk,hc,hd⟩|⟨rfl,hk⟩|⟨rfl,S,n,hk⟩
  ·obtain⟨its,_,pl,_⟩:=I.list hq
   refine⟨pl.isList.typeIs,λa e=>?_⟩
   cases e;obtain⟨o,n,e,c,hd,_⟩:=pl;exact⟨o,e,hd⟩
  ·refine⟨⟨o,I.zT p o hk,hc⟩,λa e=>?_⟩
   cases e;exact⟨o,I.zT _ o hk,hd⟩
  ·have z:∃o,s.heap.get? p=some o/\o.ExactDict:=by
    rcases hk with⟨kvs,hk⟩|⟨kvs,hk⟩
    ·obtain⟨_,_,_,_,o,_,_,e,ex,_⟩:=I.hok p _ hk
     exact⟨o,e,ex⟩
    ·obtain⟨_,_,_,_,o,_,_,e,ex,_⟩:=I.hok p _ hk
     exact⟨o,e,ex⟩
   obtain⟨o,e,ex⟩:=z;refine⟨⟨o,e,ex.1⟩,λa e2=>?_⟩
   cases e2;exact⟨o,e,ex.2.1⟩
  ·obtain⟨o,_,_,_,e,ex,_⟩:=I.hok p _ hk
   refine⟨⟨o,e,ex.1⟩,λa e2=>?_⟩
   cases e2;exact⟨o,e,ex.2.1⟩
 |_=>exact gT ty
def tBM(K:ai)(T:String)(r:V->List V->Hp->VK->Prop)(to:TE)(t:TA):TE:=λσ H Q=>to σ H λx H1=>Y7 K T x H1/\t σ H1 λxs H2=>r x xs H2 Q
variable{o e:bR}{es:List bR}{to:TE}{t:TA}{name:Str}{apos oX:Pos}{T id:String}{r:V->List V->Hp->VK->Prop}
theorem wY(pa:PlainAttrs T)(slot:Slot T name id)(hty:typeOf (.builtin id)=pure (.type "method_descriptor"))(hm:MtR X id r)(ho:PE X o to)(ha:PA X (e::es) t)
  (mM:attributeBase o name X.env (eval o X.env)=eval o X.env:=by rfl)
  (sv:((backTo oX (starEach (e::es) X.env)).all (λx=>!x.1)&&(backToKw oX (keywordEach [] X.env)).all (λx=>x.1.isSome)
   && decide ((e::es).length+([]:List iK).length+(if([]:List iK).isEmpty then 0 else 1)<30))=true:=by rfl)
  (hline:(apos.endLine==oX.line)=true:=by rfl) (hs:starEach (e::es) X.env=(false,eval e X.env)::starEach es X.env:=by rfl) (jZ:(backTo oX (starEach es X.env)).any (·.1)=false:=by rfl) :
  PE X (.Call (.Attribute o name apos) (e::es) [] oX) (tBM X.K T r to t):=by
 intro pins s σ H Q I h;refine wpAny_Call_method_late mM sv hline rfl (gD (ho pins s σ H _ I h) λv s1 ⟨x,H1,I1,r1,ty,q1⟩=>?_)
 obtain⟨h1,h2⟩:=O5 I1 r1 ty;refine⟨T,id,pa,slot,hty,h1,h2,?_⟩
 have hA:=ha oX pins s1 σ H1 _ I1 q1;rw[hs]at hA ⊢;refine pP (by show(false||(backTo oX (starEach es X.env)).any (·.1))=false;rw[jZ]<;>rfl) (rG ?_)
 exact gD hA λus s2 ⟨vs,H2,I2,r2,q2⟩=>hm pins s2 σ H2 x vs v us Q I2 r1 r2 q2
end
def Sd(X:Cx)(id:String)(r:V->List V->Hp->VK->Prop):Prop:=
 ∀(pins:List (aK×Obj))(s:aF)(σ:St)(H:Hp)(x:V)(xs:List V)(v:av)(us:List av)(Q:VK),Inv X pins σ H s->RelV x v->dS xs us->r x xs H Q->
  wpAny (model X.prog X.w) X.A (call (.builtin id) (v::us)) (EP X pins σ Q) X.xe s
theorem dS.one:∀{x:V}{us:List av},dS [x] us->∃u,us=[u]/\RelV x u
 |_,_,.cons r .nil=>⟨_,rfl,r⟩
theorem dS.two:∀{x y:V}{us:List av},dS [x,y] us->∃u v,us=[u,v]/\RelV x u/\RelV y v
 |_,_,_,.cons r (.cons q .nil)=>⟨_,_,rfl,r,q⟩
theorem dS.rep{xs:List V}{us:List av}(h:dS xs us):∀k:Nat,dS (a_ k xs).flatten (a_ k us).flatten
 |0=>.nil
 |k+1=>by
  rw[dO,dO,ft,ft];exact dS.append h (dS.rep h k)
theorem foldl_rep(its:List av):∀(k:Nat)(acc:List av),
  List.foldl (λx1 x2=>x1++x2) acc.toArray (a_ k its.toArray)=(acc++(a_ k its).flatten).toArray
 |0,acc=>by simp
 |k+1,acc=>by
  have e:acc.toArray++its.toArray=(acc++its).toArray:=by simp
  have e2:(acc++its)++(a_ k its).flatten=acc++(a_ (k+1) its).flatten:=by
   rw[dO,ft,cV]
  rw[<-e2,<-foldl_rep its k (acc++its),<-e,dO,my]
section
variable{X:Cx}{pins:List (aK×Obj)}{σ:St}{H:Hp}{s:aF}{l b:aK}{xs ys zs:List V}
theorem Inv.Se{its its':List av}{n:Nat}{f:Array av->Array av}{t':Nat}(I:Inv X pins σ H s)(hH:H l=some (.lst xs))
  (e:s.heap.get? l=some { cls:=.type "list",data:=.seq its.toArray n })(hf:f its.toArray=its'.toArray)(hv:dS ys its')(hz:ys.length<=sizeLine):
  Inv X pins σ (upd H l (.lst ys)) { s with heap:=s.heap.update l (Obj.mapSeq f),toks:=t' }:=by
 have q:=PySem.IsL.update e f;rw[hf]at q;refine I.write (x:=l) (e:=l) (by rw[hH];exact trivial) (.inl rfl) (λb' u hb hu=>(cK.get?_update_other s.heap (Obj.mapSeq f) (bY hb)).trans hu) ⟨_,q⟩ ?_
 exact⟨hz,its',_,hv,q⟩
theorem Inv.V5{its:List av}{t':Nat}(I:Inv X pins σ H s)(hv:dS ys its)(hz:ys.length<=sizeLine):
  Inv X pins σ (upd H s.heap.objs.size (.lst ys)) { s with heap:=s.heap.push { cls:=.type "list",data:=.seq its.toArray },toks:=t' }:=
 I.laid (λ_ _ q=>aE _ q) (aD _) ⟨hz,its,0,hv,bp _ rfl⟩
theorem Inv.fresh(I:Inv X pins σ H s):H s.heap.objs.size=none:=I.hok.fresh (aD _)
theorem Inv.Sf(I:Inv X pins σ H s)(hH:H l=some (.lst xs)):xs.length<=sizeLine/\∃(its:List av)(n:Nat),dS xs its/\xs.length=its.length/\s.heap.get? l=some { cls:=.type "list",data:=.seq its.toArray n }:=by
 obtain⟨z,its,n,r,e⟩:=I.hok l _ hH;exact⟨z,its,n,r,r.length,e⟩
end
section
variable{X:Cx}
def K0:V->List V->Hp->VK->Prop:=λx vs H Q=>∃l xs y,x=.ref l/\vs=[y]/\H l=some (.lst xs)/\xs.length<sizeLine/\Q .non (upd H l (.lst (xs ++ [y])))
theorem rh:Sd X "list.append" K0:=by
 intro pins s σ H x vs v us Q I rx rv h;obtain⟨l,xs,y,rfl,rfl,hH,hz,q⟩:=h;cases rx;obtain⟨u,rfl,ru⟩:=rv.one;obtain⟨z,its,n,r,hl,e⟩:=I.Sf hH;refine kU F.slot_list_append ⟨_,e,rfl⟩ F.entry_list_append (F.args_list_append_2 _ _) (PySem.list_append l its.toArray n u (by rw[bu];omega)) ⟨e,?_⟩
 refine⟨.non,_,I.Se (its':=its ++ [u]) hH e (by simp) (r.append (.cons ru .nil)) ?_,rfl,q⟩
 rw[a7,jt];omega
theorem len_rep{α:Type}(xs:List α)(k:Nat):(a_ k xs).flatten.length=k*xs.length:=by
 induction k with
 |zero=>simp
 |succ k ih=>rw[dO,ft,a7,ih,Dt,Nat.add_comm]
end
section
variable{prog:bo}{w:bX}{A:cU}{E:av->aF->Prop}{s:aF}
end
section
variable{X:Cx}
end
end L2
namespace Y8
open PySem PySem.W PySem.Calls PyProof.Rows
theorem vX{P:wH}{h:cK}:∀(ns:List Int)(vs:List av),WellAll P h vs (ns.map WData.int)->yy vs ns:=by
 intro ns
 induction ns with
 |nil=>
  intro vs w;rw[fV]at w;cases w;exact .nil
 |cons n ns ih=>
  intro vs w;rw[aH]at w;cases w with
  |cons a b=>
   cases a;exact .cons _ _ (ih _ b)
theorem F2{l:OpenLaw}{n:Nat}(hn:l.most=some n){P:wH}{h:cK}{args:List WData}{vals:List av}
  (K1:l.row.toRowW.claim.pre args=true)(O6:WellAll P h vals args):
  ∃a vs ns,vals=[c0 a]/\args=[WData.list (ns.map WData.int)]/\h.get? a=some { cls:=.type "list",data:=.seq vs.toArray }/\yy vs ns/\ns.length<=n:=by
 have hsh:WShape.hasAll [] args [.list .int]=true:=(pre_splitW K1).1;have hc:l.pre.holds [] { args:=args }=true:=(pre_splitW K1).2;obtain⟨d,r,rfl,h1,h2⟩:=hasAllW_cons hsh;obtain rfl:=hasAllW_nil h2;obtain⟨xs,rfl,h3⟩:=hasW_list h1;obtain⟨ns,rfl⟩:=items_int h3;have hlen:ns.length<=n:=by
  unfold OpenLaw.pre at hc;have h4:(WTm.not (.lt (.lit (.int (n:Int))) (.len (.arg 0)))).holds [] { args:=[.list (ns.map .int)] }=true:=by
   have h4:=(holds_andW hc).1;rw[hn]at h4;exact h4
  have h5:=condW_of h4 (w_not (w_lt w_lit (w_len_list (w_arg rfl))));rw[ao]at h5;refine fS λq=>?_
  have q':(n:Int)<((ns.length:Nat):Int):=by omega
  first
   |(rw[decide_eq_true q']at h5;exact absurd h5 (by decide))
   |(simp at h5;omega)
 cases O6 with
 |cons w1 w2=>
  cases w2;cases w1 with
  |list ho yC=>exact⟨_,_,ns,rfl,rfl,ho,vX ns _ yC,hlen⟩
theorem F3(l:OpenLaw)(args:List WData):l.row.toRowW.claim.post args (.bool true) args=true:=
 postW_of (r:=l.row.toRowW) (X:=(true==true))
  (show WShape.has [] (.bool true) .bool=true by first|rfl|decide|simp[WShape.has,WShape.arms,WShape.armsAll])
  (show(WTm.eq .res (.lit (.bool true))).value [] { args:=args,res:=some (.bool true),after:=args }=some (.bool (true==true))from w_eq_bool (w_res rfl) w_lit) rfl
theorem BR{l:OpenLaw}{n:Nat}{q:bo}{loose:List Str}{XP:(Str->Option av)->cK->Prop}{YP:bX->cK->Prop}{d:DefRec}
  (hn:l.most=some n)(Sg:d.params.defaults=[])
  (call:∀(w:bX)(s₀ s₁:aF)(mg mb:Str->Option av)(fa:aK)(o:Obj)(pm cd doc:av)(a:aK)(vs:List av)(ns:List Int),
   Ground q loose [] XP w s₀ mg mb s₁.heap->YP w s₁.heap->
   s₁.heap.get? fa=some o->o.data=.func (docDef d.name d.params d.body d.scope pm cd doc)->s₁.heap.CodeRec cd d.name->mg d.name=some (.ref fa)->
   s₁.heap.get? a=some { cls:=.type "list",data:=.seq vs.toArray }->yy vs ns->ns.length<=n->s₁.gens=#[]->
   codeAny (model l.prog w) callerA (.call (.ref fa) ⟨[.ref a],[]⟩) (λr s'=>r=.ok (.ret (.bool true))/\OldK s₁.heap s'.heap/\s'.os=s₁.os/\r6 s'.gens) s₁) :
  WalkO q loose XP YP l.row.toRowW d [] (λf vs=>PySem.call f vs):=by
 intro w s₀ s₁ mg mb G Y fa o pm cd doc dV kV ho hd rJ hD Kj hg args vals as K1 hlay hrd O6 M7;obtain rfl:dV=.none:=Dflts.none hD Sg;obtain rfl:kV=.none:=Dflts.noKw hD;obtain⟨a,vs,ns,rfl,rfl,O7,hints,hlen⟩:=F2 hn K1 O6;refine enter_call (nZ (call w s₀ s₁ mg mb fa o pm cd doc a vs ns G Y ho (fd_plain hd) rJ Kj O7 hints hlen hg) λr s' hq=>?_)
 obtain⟨rfl,h2,h3,h4⟩:=hq;exact⟨.inl ⟨.bool true,.bool true,[],rfl,λ_=>rfl,.bool true,F3 l _,λ_=>⟨List.Pairwise.nil,λ_ hm=>(nomatch hm)⟩⟩,h2,h3,h4⟩
section
variable{prog:bo}{w:bX}{A:cU}{E:av->aF->Prop}{s:aF}{K:Frag}
end
end Y8
namespace L2
open PySem PySem.Spec PyProof.Rows
theorem y9:∀{vs:List av}{ns:List Int},yy vs ns->dS (ns.map V.int) vs
 |_,_,.nil=>.nil
 |_,_,.cons n t h=>.cons ⟨t,rfl⟩ (y9 h)
def Only(H:Hp):Prop:=∀b,H b=none\/∃o xs,H b=some (.pZ o (.lst xs))
theorem HP{P:bo}{w:bX}{K:ai}{mg mb:Str->Option av}{CX:EX}{k:Nat}{fa a:aK}{fd:bS}{x:Str}{sp:Sp}{s₁:aF}{vs:List av}{ns:List Int}
  (KX:K.In s₁.heap)(F4:s₁.heap.Ns mainGlobals mg)(hb:s₁.heap.Ns builtinsNs mb)(hbb:∀x:Str,x≠"__name__"->mb x=bootBuiltins x)(V6:s₁.heap.NoLimit)(hg:s₁.gens=#[])
  (ha:s₁.heap.get? a=some { cls:=.type "list",data:=.seq vs.toArray })(hi:yy vs ns)(hl:ns.length<=sizeLine)(hr:fc k callerA)
  (F:∀base:cK,K.In base->base.Ns mainGlobals mg->eU P w K mg base CX k fa fd [x] sp)(Si:∀(s:aF)(u:av),BindsTo s fd ⟨[u],[]⟩ [(x,u)])
  (Ab:∀H:Hp,Only H->kO K H a (ns.map V.int)->sp [.ref a] H (λv _=>v=.bl true) λ_ _ _=>False)
  (V7:∀H e s',CX [] H s₁ (λ_ _ _=>False) e s'->False):
  codeAny (model P w) callerA (.call (.ref fa) ⟨[.ref a],[]⟩) (λr s'=>r=.ok (.ret (.bool true))/\OldK s₁.heap s'.heap/\s'.os=s₁.os/\r6 s'.gens) s₁:=by
 have rv:=y9 hi;have V8:=hi.length;have core:∀H:Hp,Only H->kO K H a (ns.map V.int)->tj P w H s₁.heap->(∀b,H b≠none->b=a)->(H a≠none->K.lookup a=none)->
   codeAny (model P w) callerA (.call (.ref fa) ⟨[.ref a],[]⟩) (λr s'=>r=.ok (.ret (.bool true))/\OldK s₁.heap s'.heap/\s'.os=s₁.os/\r6 s'.gens) s₁:=by
  intro H hO hS hok hA hK;have E1:∀{b:aK}{o:Obj},s₁.heap.get? b=some o->H b=none->(zS s₁.heap H).get? b=some o:=λe n=>Hs e n
  have R3:∀{b:aK}{o:Obj}{es:Array vn}{ep:Nat},s₁.heap.get? b=some o->o.data=.dict es ep->H b=none:=λ{b o es ep}e d=>by
   cases q:H b with
   |none=>rfl
   |some u=>
    have e':b=a:=hA b (by rw[q];simp)
    subst e';rw[ha]at e;cases e;have d':Data.seq vs.toArray _=Data.dict es ep:=d;cases d'
  have UT:∀{b:aK}{m:Str->Option av},s₁.heap.Ns b m->(zS s₁.heap H).Ns b m:=λ{b m}⟨o,es,ep,e,d,r⟩=>⟨o,es,ep,E1 e (R3 e d),d,r⟩
  have Y9:K.In (zS s₁.heap H):=λb o e=>E1 (KX b o e) (by
   cases q:H b with
   |none=>rfl
   |some u=>
    have e':b=a:=hA b (by rw[q];simp)
    subst e';rw[hK (by rw[q];simp)]at e;cases e)
  have hM:Mod K mg (zS s₁.heap H):=⟨Y9,UT F4,⟨mb,UT hb,hbb⟩,let⟨mc,h1,h2⟩:=V6;⟨mc,UT h1,h2⟩⟩;have e0:DJ P w K mg (zS s₁.heap H) callerA [] s₁ H:=⟨rfl,hM,λb o e=>Ks e,Nat.le_of_eq (FN _ _),trivial,λb hb=>absurd (show b∈([]:List aK)from hb) (by simp),hok,.of_eq hg⟩
  refine nZ ((F _ Y9 (UT F4)).run callerA [] s₁ H ⟨[.ref a],[]⟩ [.ref a] [.ref a] _ _ hr e0 (Si s₁ (.ref a)) (.cons rfl .nil) (Ab H hO hS)) λr s' h=>?_
  cases r with
  |error e=>exact(V7 H e s' h).elim
  |ok fl=>
   cases fl with
   |next=>exact gT h
   |brk=>exact gT h
   |cont=>exact gT h
   |ret u=>
    obtain⟨v,H',os,bare,un,V9,r',q⟩:=h;have q':v=.bl true:=q;subst q';obtain rfl:u=av.bool true:=r';refine⟨rfl,OldK.of_keep λb o e=>?_,os,bare⟩
    cases q:H b with
    |none=>exact un.keep b o e q (by intro z;exact absurd (show b∈([]:List aK)from z) (by simp)) (by simp)
    |some u=>
     rcases hO b with z|⟨ob,xs,z⟩
     ·rw[q]at z;cases z
     ·have z2:=un.uM b ob _ z
      obtain⟨e1,_⟩:=hok b _ z;obtain⟨e2,_⟩:=V9 b _ z2;rw[e]at e1;cases e1;exact e2
 cases hk:K.lookup a with
 |some o=>
  have e:=KX a o hk;rw[ha]at e;cases e;refine core (λ_=>none) (λ_=>.inl rfl) (.inr ⟨_,vs.toArray,_,hk,rfl,rfl,rfl,by rw[bu,V8];exact hl,by simpa using rv⟩) (λb u z=>by have z':(none:Option HO)=some u:=z;cases z') (λb z=>absurd rfl z) λz=>absurd rfl z
 |none=>
  refine core (λb=>if b=a then some (.pZ { cls:=.type "list",data:=.seq vs.toArray } (.lst (ns.map V.int)))else none) (λb=>?_) (.inl (.inr ⟨{ cls:=.type "list",data:=.seq vs.toArray },if_pos rfl⟩)) (λb u z=>?_) (λb z=>?_) λ_=>hk
  ·by_cases hb:b=a
   ·exact .inr ⟨_,_,if_pos hb⟩
   ·exact .inl (if_neg hb)
  ·by_cases hb:b=a
   ·have z':=(if_pos hb).symm.trans z
    cases z';subst hb;exact⟨ha,by rw[ao];exact hl,vs,_,rv,ha⟩
   ·have z':=(if_neg hb).symm.trans z
    cases z'
  ·by_cases hb:b=a
   ·exact hb
   ·exact absurd (if_neg hb) z
theorem K2{l:PySem.W.OpenLaw}{n k:Nat}{q:bo}{loose:List Str}{XP:(Str->Option av)->cK->Prop}{YP:bX->cK->Prop}{d:DefRec}{K:wH->ai}{CX:bX->EX}{sp:bX->Sp}{x:Str}
  (hn:l.most=some n)(QJ:n<=sizeLine)(Sg:d.params.defaults=[])(hr:fc k callerA)
  (hY:∀(w:bX)(h:cK),YP w h->(K w.params).In h)
  (F:∀(w:bX)(mg:Str->Option av)(fa:aK)(h:cK),(K w.params).In h->h.Ns mainGlobals mg->mg d.name=some (.ref fa)->
   ∃fd:bS,(∀(s:aF)(u:av),BindsTo s fd ⟨[u],[]⟩ [(x,u)])/\
    ∀base:cK,(K w.params).In base->base.Ns mainGlobals mg->eU l.prog w (K w.params) mg base (CX w) k fa fd [x] (sp w))
  (Ab:∀(w:bX)(H:Hp)(a:aK)(ns:List Int),ns.length<=n->Only H->kO (K w.params) H a (ns.map V.int)->sp w [.ref a] H (λv _=>v=.bl true) λ_ _ _=>False)
  (V7:∀(w:bX)(H:Hp)(s:aF)(e:av)(s':aF),CX w [] H s (λ_ _ _=>False) e s'->False) :
  PySem.W.WalkO q loose XP YP l.row.toRowW d [] (λf vs=>PySem.call f vs):=by
 refine Y8.BR hn Sg λw s₀ s₁ mg mb fa o pm cd doc a vs ns G Y ho hd rJ Kj O7 hints hlen hg=>?_
 have KX:=hY w _ Y;obtain⟨fd,hb,hF⟩:=F w mg fa _ KX G.T.g Kj;exact HP KX G.T.g G.T.b G.T.builtins G.T.nolimit hg O7 hints (b_ hlen QJ) hr hF hb (λH hO hS=>Ab w H a ns hlen hO hS) λH e s'=>V7 w H s₁ e s'
def inClass(s:gZ)(j:Nat):gZ:=match s with
 | .ClassDef _ _ _ body _ _ _ _ _ _ _=>body.getD j (.Pass ⟨0,0,0,0⟩)
 |_=>.Pass ⟨0,0,0,0⟩
def oY(s:gZ):Arguments:=match s with
 | .FunctionDef _ a _ _ _ _ _ _ _ _=>a
 |_=>{ posonlyargs:=[],args:=[],vararg:=none,kwonlyargs:=[],kw_defaults:=[],kwarg:=none,defaults:=[] }
def kx(s:gZ):List gZ:=match s with
 | .FunctionDef _ _ b _ _ _ _ _ _ _=>b
 |_=>[]
def bP(s:gZ):lb:=match s with
 | .FunctionDef _ _ _ _ _ _ sc _ _ _=>sc
 |_=>{ kind:=.function,names:=[],isGenerator:=false,isCoroutine:=false }
abbrev ky:EX:=λ_ _ _ _ _ _=>False
abbrev E0:XK:=λ_ _ _=>False
theorem E2{X:Cx}:wU ky X E0:=λ_ _ _ _ _ _ _ h=>h.elim
structure lg(K:ai)(x qual:Str)(st:gZ)(f:aK)(fd:bS):Prop where
 ex:∃(oc:av)(od:Option aK)(kV doc pm:av)(an:Option aK)(ix ct:av)(Hn:Array (Option av)),
  fd=iP x qual (oY st) (kx st) (bP st) .none kV doc pm an ix ct/\K.lookup f=some ⟨oc,od,.func fd,Hn⟩/\mH K ix qual=true
 kp:iC K (.ref f)=true
section
variable{P:bo}{w:bX}{K:ai}{mg:Str->Option av}{base:cK}
theorem lg.ok{x qual:Str}{st:gZ}{f:aK}{fd:bS}{N ps:List Str}{k:Nat}{sp:Sp}(F:lg K x qual st f fd)(S:cH N ps (bP st))(len:∀vs H Q E,sp vs H Q E->vs.length=ps.length)
  (HL:∀(ix:av)(A:cU)(outer:List Env)(s:aF)(H:Hp)(vs:List V)(Q:VK)(E:XK),fc k (A.deeper (envOfC qual (bP st) s.heap.objs.size f ix))->sp vs H Q E->
   ∃t,EK (Aa ky P w K mg base N qual (bP st) f ix A outer s H E).Oy (kx st) t/\t { nx:=λ_ H'=>Q .non H',rt:=Q } (start N vs) H):eU P w K mg base ky (k+1) f fd ps sp:=by
 obtain⟨oc,od,kV,doc,pm,an,ix,ct,Hn,rfl,lk,rJ⟩:=F.ex;refine R4 lk rJ S len λA outer s H vs Q E hr Ab=>?_
 obtain⟨t,h,q⟩:=HL ix A outer s H vs Q E hr Ab;exact⟨t,h.Oy,q⟩
theorem lg.binds{x qual:Str}{st:gZ}{f:aK}{fd:bS}{ps:List Str}(F:lg K x qual st f fd)
  (h:∀(kV doc pm:av)(an:Option aK)(ix ct:av)(us:List av),us.length=ps.length->bindArgs (iP x qual (oY st) (kx st) (bP st) .none kV doc pm an ix ct) ⟨us,[]⟩=pure (ps.zip us)):Binds K fd ps []:=by
 obtain⟨oc,od,kV,doc,pm,an,ix,ct,Hn,rfl,lk,rJ⟩:=F.ex;exact .all (h kV doc pm an ix ct)
theorem HQ{x qual:Str}{st:gZ}{f:aK}{oc:av}{od an:Option aK}{Hn:Array (Option av)}{kV doc pm ix ct:av}(l:K.lookup f=some ⟨oc,od,.func (iP x qual (oY st) (kx st) (bP st) .none kV doc pm an ix ct),Hn⟩)
  (c:mH K ix qual=true)(k:iC K (.ref f)=true):lg K x qual st f (iP x qual (oY st) (kx st) (bP st) .none kV doc pm an ix ct):=⟨⟨oc,od,kV,doc,pm,an,ix,ct,Hn,rfl,l,c⟩,k⟩
end
section
variable{X:Cx}
theorem pv(i:Nat){x:Str}{pos:Pos}(hN:X.N[i]?=some x:=by rfl)(hv:EH X.env.scope x:=by first|exact bj rfl|exact cP (bj rfl)|exact cP (cP rfl))(hd:(x==("__debug__":Str))=false:=by decide)
  (rJ:(x==("__classdict__":Str))=false:=by decide):PE X (.Name x pos) (Ry i):=lU hN hv hd rJ
end
theorem Sj{A B:Prop}(h:B):if false=true then A else B:=by
 rw[if_neg cu];exact h
theorem Sl{A B:Prop}(h:A):if true=true then A else B:=by
 rw[if_pos rfl];exact h
def dJ(H H':Hp):Prop:=∀b o,H b=some o->H' b=some o
theorem dJ.refl(H:Hp):dJ H H:=λ_ _ h=>h
theorem dJ.trans{H H1 H2:Hp}(a:dJ H H1)(b:dJ H1 H2):dJ H H2:=λc o h=>b c o (a c o h)
theorem dJ.free{H H':Hp}(e:dJ H H'){l:aK}(h:H' l=Option.none):H l=Option.none:=by
 cases q:H l with
 |none=>rfl
 |some o=>
  rw[e l o q]at h;cases h
theorem dJ.seq{K:ai}{H H':Hp}{a:aK}{xs:List V}(e:dJ H H')(h:kO K H a xs):kO K H' a xs:=by
 rcases h with(h|⟨o,h⟩)|h
 ·exact .inl (.inl (e _ _ h))
 ·exact .inl (.inr ⟨o,e _ _ h⟩)
 ·exact .inr h
section
variable{κ:Type}[DecidableEq κ]
def jd(kvs:List (κ×V))(k:κ):Option V:=(kvs.find? λkv=>decide (kv.1=k)).map (·.2)
def putK(kvs:List (κ×V))(k:κ)(v:V):List (κ×V):=
 if(kvs.any λkv=>decide (kv.1=k))=true then kvs.map (λkv=>if kv.1=k then(kv.1,v)else kv)else kvs ++ [(k,v)]
theorem oi{p:κ×V}{r:List (κ×V)}{k:κ}(e:p.1=k):jd (p::r) k=some p.2:=by simp[jd,eJ,e]
theorem lB{p:κ×V}{r:List (κ×V)}{k:κ}(e:¬p.1=k):jd (p::r) k=jd r k:=by simp[jd,eJ,e]
theorem wZ(k:κ):∀kvs:List (κ×V),(kvs.any λkv=>decide (kv.1=k))=(jd kvs k).isSome
 | []=>rfl
 |p::r=>by
  rw[lQ];by_cases e:p.1=k
  ·simp only[oi e,decide_eq_true e,Bool.true_or,Option.isSome_some]
  ·rw[lB e,decide_eq_false e,Bo];exact wZ k r
theorem lC(kvs:List (κ×V))(k:κ)(v:V):(putK kvs k v).length<=kvs.length+1:=by
 unfold putK
 split
 ·rw[ao];omega
 ·rw[a7,bD,cB];omega
theorem tQ{kvs:List (κ×V)}{k:κ}(v:V)(h:jd kvs k=none):putK kvs k v=kvs ++ [(k,v)]:=by
 unfold putK;rw[wZ,h];exact if_neg (by decide)
theorem sk.oj{o:Option V}{u:Option av}(r:sk o u):o.isSome=u.isSome:=by
 cases o with
 |none=>cases u with
  |none=>rfl
  |some _=>exact(show False from r).elim
 |some _=>cases u with
  |none=>exact(show False from r).elim
  |some _=>rfl
theorem sk.getD{o:Option V}{u:Option av}{d:V}{d':av}(r:sk o u)(rd:RelV d d'):RelV (o.getD d) (u.getD d'):=by
 cases o with
 |none=>cases u with
  |none=>exact rd
  |some _=>exact(show False from r).elim
 |some _=>cases u with
  |none=>exact(show False from r).elim
  |some _=>exact r
theorem KV.val{kvs:List (κ×V)}{vs:List (κ×av)}(r:KV kvs vs)(k:κ):sk (jd kvs k) (valueAt vs k):=by
 unfold KV at r
 induction r with
 |nil=>exact fN
 | @cons p q ps qs h t ih=>
  obtain⟨h1,h2⟩:=h;by_cases e:p.1=k
  ·have e':q.1=k:=h1.symm.trans e
   have b:valueAt (q::qs) k=some q.2:=by simp[valueAt,eJ,e']
   rw[oi e,b];exact h2
  ·have e':¬q.1=k:=λz=>e (h1.trans z)
   have b:valueAt (q::qs) k=valueAt qs k:=by simp[valueAt,eJ,e']
   rw[lB e,b];exact ih
theorem KV.any{kvs:List (κ×V)}{vs:List (κ×av)}(r:KV kvs vs)(k:κ):(kvs.any λkv=>decide (kv.1=k))=vs.any λkv=>decide (kv.1=k):=by
 unfold KV at r
 induction r with
 |nil=>rfl
 |cons h t ih=>rw[lQ,lQ,ih,h.1]
theorem KV.repl{kvs:List (κ×V)}{vs:List (κ×av)}(r:KV kvs vs)(k:κ){y:V}{u:av}(ry:RelV y u):
  KV (kvs.map λkv=>if kv.1=k then(kv.1,y)else kv) (vs.map λkv=>if kv.1=k then(kv.1,u)else kv):=by
 unfold KV at r ⊢
 induction r with
 |nil=>exact .nil
 | @cons p q ps qs h t ih=>
  rw[aH,aH];refine .cons ?_ ih
  obtain⟨h1,h2⟩:=h;by_cases e:p.1=k
  ·rw[if_pos e,if_pos (h1.symm.trans e)];exact⟨h1,ry⟩
  ·rw[if_neg e,if_neg (λz=>e (h1.trans z))];exact⟨h1,h2⟩
theorem KV.put{kvs:List (κ×V)}{vs:List (κ×av)}(r:KV kvs vs)(k:κ){y:V}{u:av}(ry:RelV y u):KV (putK kvs k y) (stored vs k u):=by
 unfold putK stored;rw[r.any k];by_cases e:(vs.any λkv=>decide (kv.1=k))=true
 ·rw[if_pos e,if_pos e];exact r.repl k ry
 ·rw[if_neg e,if_neg e];exact Ds.snoc r ⟨rfl,ry⟩
theorem KV.keys{kvs:List (κ×V)}{vs:List (κ×av)}(r:KV kvs vs):kvs.map (·.1)=vs.map (·.1):=by
 unfold KV at r
 induction r with
 |nil=>rfl
 |cons h t ih=>rw[aH,aH,ih,h.1]
theorem KV.length{kvs:List (κ×V)}{vs:List (κ×av)}(r:KV kvs vs):kvs.length=vs.length:=rZ r
end
theorem qz{P:bo}{w:bX}{k:Key}{u:av}(r:RelV (kV k) u):(eK P w).is k u=true:=by
 cases k with
 |inl i=>obtain⟨t,e⟩:=(show ∃t,u=Bk i t from r);subst e;exact BG P w i t
 |inr x=>obtain⟨t,e⟩:=(show ∃t,u=Bl x t from r);subst e;exact qt P w x t
theorem y_{P:bo}{w:bX}:∀{ks:List Key}{us:List av},dS (ks.map kV) us->ItemsAre (eK P w) ks us
 | [],_,r=>by rw[fV]at r;cases r;exact .nil
 |k::ks,_,r=>by
  rw[aH]at r;cases r with
  |cons h t=>exact .cons (qz h) (y_ t)
abbrev KT(H:Hp):List (List Key×V)->List (List Key×aK×av)->Prop:=Ds λp q=>p.1=q.1/\H q.2.1=some (.tup (p.1.map kV))/\RelV p.2 q.2.2
theorem KT.val{H:Hp}{kvs:List (List Key×V)}{xs:List (List Key×aK×av)}(r:KT H kvs xs)(k:List Key):sk (jd kvs k) ((atKey xs k).map (·.2)):=by
 induction r with
 |nil=>exact fN
 | @cons p q ps qs h t ih=>
  obtain⟨h1,_,h2⟩:=h;by_cases e:p.1=k
  ·have e':q.1=k:=h1.symm.trans e
   have b:atKey (q::qs) k=some q.2:=by simp[atKey,eJ,e']
   rw[oi e,b];exact h2
  ·have e':¬q.1=k:=λz=>e (h1.trans z)
   have b:atKey (q::qs) k=atKey qs k:=by simp[atKey,eJ,e']
   rw[lB e,b];exact ih
theorem KT.repl{H:Hp}{kvs:List (List Key×V)}{xs:List (List Key×aK×av)}(r:KT H kvs xs)(k:List Key){y:V}{u:av}(ry:RelV y u):
  KT H (kvs.map λkv=>if kv.1=k then(kv.1,y)else kv) (xs.map (putAt k u)):=by
 induction r with
 |nil=>exact .nil
 | @cons p q ps qs h t ih=>
  rw[aH,aH];refine .cons ?_ ih
  obtain⟨h1,h2,h3⟩:=h;unfold putAt;by_cases e:p.1=k
  ·rw[if_pos e,if_pos (h1.symm.trans e)];exact⟨h1,h2,ry⟩
  ·rw[if_neg e,if_neg (λz=>e (h1.trans z))];exact⟨h1,h2,h3⟩
theorem KT.put{H:Hp}{kvs:List (List Key×V)}{xs:List (List Key×aK×av)}(r:KT H kvs xs)(k:List Key){b:aK}{y:V}{u:av}(hb:H b=some (.tup (k.map kV)))(ry:RelV y u):
  KT H (putK kvs k y) (storedH xs k b u):=by
 have e:(kvs.any λkv=>decide (kv.1=k))=(atKey xs k).isSome:=by
  rw[wZ,(r.val k).oj,uE]
 unfold putK storedH;rw[e];by_cases q:(atKey xs k).isSome=true
 ·rw[if_pos q,if_pos q];exact r.repl k ry
 ·rw[if_neg q,if_neg q];exact Ds.snoc r ⟨rfl,hb,ry⟩
theorem KT.keeps{H H':Hp}{kvs:List (List Key×V)}{xs:List (List Key×aK×av)}(r:KT H kvs xs)(ht:∀b ys,H b=some (.tup ys)->H' b=some (.tup ys)):KT H' kvs xs:=
 Ds.Oi r λ_ _ z=>⟨z.1,ht _ _ z.2.1,z.2.2⟩
section
variable{P:bo}{w:bX}{H:Hp}{h:cK}{a:aK}
theorem M8{u:HO}(ok:tj P w H h)(e:Rd H a u):gw P w H h a u:=e.ok ok
theorem vv{kvs:List (Key×V)}(ok:tj P w H h)(e:Rd H a (.dK kvs)):kvs.length<=sizeLine/\(a==sysModules)=false/\∃vs,KV kvs vs/\h.DictOf (eK P w) a vs:=
 show gw P w H h a (.dK kvs)from M8 ok e
theorem za{kvs:List (Key×V)}(ok:tj P w H h)(e:H a=some (.dK kvs)):kvs.length<=sizeLine/\(a==sysModules)=false/\∃vs,KV kvs vs/\h.DictOf (eK P w) a vs:=vv ok (.inl e)
theorem uQ{ks:List Key}(ok:tj P w H h)(e:H a=some (.tup (ks.map kV))):(tupleKind (eK P w)).is h ks a:=by
 obtain⟨_,its,r,o,h1,h2,n,h3⟩:=(show gw P w H h a (.tup (ks.map kV))from ok a _ e)
 exact⟨o,its.toArray,n,h1,h2,h3,by simpa using y_ r⟩
theorem w8{kvs:List (List Key×V)}(ok:tj P w H h)(e:Rd H a (.dT kvs)):kvs.length<=sizeLine/\(a==sysModules)=false/\
  ∃xs,KT H kvs xs/\h.DictOfH (tupleKind (eK P w)) a xs:=by
 obtain⟨z,y,xs,r,o,es,ep,h1,h2,h3,h4,h5⟩:=(show gw P w H h a (.dT kvs)from M8 ok e)
 refine⟨z,y,xs,r,o,es,ep,h1,h2,h3,h4,λx hx=>?_,h5⟩
 have all:∀{l:List (List Key×V)}{m:List (List Key×aK×av)},KT H l m->∀x∈m,(tupleKind (eK P w)).is h x.1 x.2.1:=by
  intro l m q
  induction q with
  |nil=>intro x hx;exact nomatch hx
  | @cons p q ps qs hq t ih=>
   intro x hx;rcases aI.mp hx with e|hx
   ·subst e
    exact uQ ok (by rw[<-hq.1];exact hq.2.1)
   ·exact ih x hx
 exact all r x hx
theorem Sn{kvs:List (List Key×V)}(ok:tj P w H h)(e:H a=some (.dT kvs)):kvs.length<=sizeLine/\(a==sysModules)=false/\
  ∃xs,KT H kvs xs/\h.DictOfH (tupleKind (eK P w)) a xs:=w8 ok (.inl e)
end
def qA(H:Hp)(a:aK)(y:V)(r:Option V):Prop:=
 (∃kvs k,Rd H a (.dK kvs)/\y=kV k/\r=jd kvs k)\/∃kvs k b,Rd H a (.dT kvs)/\y=.ref b/\H b=some (.tup (k.map kV))/\r=jd kvs k
def Ag(H:Hp)(a:aK)(y v:V)(H':Hp):Prop:=
 (∃kvs k,H a=some (.dK kvs)/\y=kV k/\kvs.length<sizeLine/\H'=upd H a (.dK (putK kvs k v)))\/
 ∃kvs k b,H a=some (.dT kvs)/\y=.ref b/\H b=some (.tup (k.map kV))/\kvs.length<sizeLine/\H'=upd H a (.dT (putK kvs k v))
theorem qA.k{H:Hp}{a:aK}{kvs:List (Key×V)}{k:Key}(e:H a=some (.dK kvs)):qA H a (kV k) (jd kvs k):=.inl ⟨kvs,k,.inl e,rfl,rfl⟩
theorem qA.t{H:Hp}{a b:aK}{kvs:List (List Key×V)}{k:List Key}(e:H a=some (.dT kvs))(eb:H b=some (.tup (k.map kV))):qA H a (.ref b) (jd kvs k):=.inr ⟨kvs,k,b,.inl e,rfl,eb,rfl⟩
theorem Ag.k{H:Hp}{a:aK}{kvs:List (Key×V)}{k:Key}{v:V}(e:H a=some (.dK kvs))(hl:kvs.length<sizeLine):Ag H a (kV k) v (upd H a (.dK (putK kvs k v))):=.inl ⟨kvs,k,e,rfl,hl,rfl⟩
theorem Ag.t{H:Hp}{a b:aK}{kvs:List (List Key×V)}{k:List Key}{v:V}(e:H a=some (.dT kvs))(eb:H b=some (.tup (k.map kV)))(hl:kvs.length<sizeLine):
  Ag H a (.ref b) v (upd H a (.dT (putK kvs k v))):=.inr ⟨kvs,k,b,e,rfl,eb,hl,rfl⟩
section
variable{X:Cx}{pins:List (aK×Obj)}{σ:St}{H:Hp}{s:aF}{a:aK}{y v:V}{u r:av}{o:Option V}{A:cU}{E:av->aF->Prop}
theorem Inv.big(I:Inv X pins σ H s):sysModules<s.heap.objs.size:=by
 have h:mainGlobals<s.heap.objs.size:=(I.mod.glob.keeps I.bk).lt;exact vQ (by decide) h
theorem F5{Q:av->aF->Prop}(hu:A.units+1<cLine)(I:Inv X pins σ H s)(g:qA H a y (some v))(ry:RelV y u)(h:∀w' s',Inv X pins σ H s'->RelV v w'->Q w' s'):
  wpAny (model X.prog X.w) A (getItem (.ref a) u) Q E s:=by
 rcases g with⟨kvs,k,e,ey,l⟩|⟨kvs,k,b,e,ey,eb,l⟩
 ·subst ey
  obtain⟨z,hd,vs,rel,dd⟩:=vv I.hok e;obtain⟨w',hw,oU⟩:=sk.some_of (v:=v) (o:=valueAt vs k) (by rw[l];exact rel.val k)
  exact wpAny_getItem_of (qz ry) dd.mapOf hw (h w' _ (I.tok _) oU)
 ·subst ey
  cases(show u=c0 b from ry)
  obtain⟨z,hd,xs,rel,dd⟩:=w8 I.hok e;obtain⟨w',hw,oU⟩:=sk.some_of (v:=v) (o:=(atKey xs k).map (·.2)) (by rw[l];exact rel.val k)
  obtain⟨p,hp,UU⟩:=Option.map_eq_some_iff.mp hw;refine wpAny_getItem_heap (kW hu) (uQ I.hok eb) dd hp ?_
  rw[UU];exact h w' _ (I.tok _) oU
theorem V_{Q:av->aF->Prop}(hu:A.units+1<cLine)(I:Inv X pins σ H s)(g:qA H a y o)(ry:RelV y u)(h:∀s',Inv X pins σ H s'->Q (.bool o.isSome) s'):
  wpAny (model X.prog X.w) A (compareOp .In u (.ref a)) Q E s:=by
 rcases g with⟨kvs,k,e,ey,l⟩|⟨kvs,k,b,e,ey,eb,l⟩
 ·subst ey
  obtain⟨z,hd,vs,rel,dd⟩:=vv I.hok e;refine wpAny_in_of (qz ry) hd dd.mapOf ?_
  rw[<-(rel.val k).oj,<-l];exact h _ (I.tok _)
 ·subst ey
  cases(show u=c0 b from ry)
  obtain⟨z,hd,xs,rel,dd⟩:=w8 I.hok e;refine wpAny_in_heap (kW hu) (uQ I.hok eb) hd dd ?_
  have q:=(rel.val k).oj;rw[uE]at q;rw[<-q,<-l];exact h _ (I.tok _)
theorem K3{Q:av->aF->Prop}(hu:A.units+1<cLine)(I:Inv X pins σ H s)(g:qA H a y o)(ry:RelV y u)(h:∀s',Inv X pins σ H s'->Q (.bool (!o.isSome)) s'):
  wpAny (model X.prog X.w) A (compareOp .NotIn u (.ref a)) Q E s:=by
 rcases g with⟨kvs,k,e,ey,l⟩|⟨kvs,k,b,e,ey,eb,l⟩
 ·subst ey
  obtain⟨z,hd,vs,rel,dd⟩:=vv I.hok e;refine wpAny_notIn_of (qz ry) hd dd.mapOf ?_
  rw[<-(rel.val k).oj,<-l];exact h _ (I.tok _)
 ·subst ey
  cases(show u=c0 b from ry)
  obtain⟨z,hd,xs,rel,dd⟩:=w8 I.hok e;refine wpAny_notIn_heap (kW hu) (uQ I.hok eb) hd dd ?_
  have q:=(rel.val k).oj;rw[uE]at q;rw[<-q,<-l];exact h _ (I.tok _)
theorem wu{h':cK}{t':Nat}{ob:HO}(I:Inv X pins σ H s)(mu:Ro (H a))(hs:ie a s.heap h')(he:∃q,h'.get? a=some q)(new:gw X.prog X.w (upd H a ob) h' a ob):
  Inv X pins σ (upd H a ob) { s with heap:=h',toks:=t' }:=
 I.write (x:=a) (e:=a) mu (.inl rfl) (λb q hb z=>(hs.2 b hb).trans z) he new
theorem w_{P:bo}{w:bX}{H':Hp}{h':cK}{kvs:List (Key×V)}{vs:List (Key×av)}(z:kvs.length<=sizeLine)(hd:(a==sysModules)=false)(rel:KV kvs vs)(dd:h'.DictOf (eK P w) a vs):
  gw P w H' h' a (.dK kvs):=⟨z,hd,vs,rel,dd⟩
theorem F6{H':Hp}{Q:Unit->aF->Prop}(hu:A.units+1<cLine)(I:Inv X pins σ H s)(g:Ag H a y v H')(ry:RelV y u)(rv:RelV v r)(h:∀s',Inv X pins σ H' s'->Q () s'):
  wpAny (model X.prog X.w) A (setItem (.ref a) u r) Q E s:=by
 rcases g with⟨kvs,k,e,ey,l,eH⟩|⟨kvs,k,b,e,ey,eb,l,eH⟩
 ·subst ey eH
  obtain⟨z,hd,vs,rel,dd⟩:=za I.hok e;have hz:vs.length<=sizeLine:=by rw[<-rel.length];exact z
  have hl:(putK kvs k v).length<=sizeLine:=by have:=lC kvs k v;omega
  refine wpAny_setItem_pairs (hsz:=hz) (qz ry) dd λh' BU hs=>h _ ?_
  have he:∃q,h'.get? a=some q:=let⟨q,_,_,hq,_⟩:=BU;⟨q,hq⟩;exact wu I (by rw[e];exact fN) hs he (w_ hl hd (rel.put k rv) BU)
 ·subst ey eH
  cases(show u=c0 b from ry)
  obtain⟨z,hd,xs,rel,dd⟩:=Sn I.hok e;have hz:xs.length<=sizeLine:=by rw[<-rZ rel];exact z
  have hl:(putK kvs k v).length<=sizeLine:=by have:=lC kvs k v;omega
  refine wpAny_setItem_heap (hsz:=hz) (kW hu) (uQ I.hok eb) dd λh' BU hs=>h _ ?_
  obtain⟨q,es,ep,hq,h2,h3,h4,_,h5⟩:=BU;refine wu I (by rw[e];exact fN) hs ⟨q,hq⟩ ⟨hl,hd,_,(rel.put k eb rv).keeps λc ys ec=>?_,q,es,ep,hq,h2,h3,h4,h5⟩
  rw[aR (Rn ec e (λz=>nomatch z))]
  exact ec
end
section
variable{X:Cx}{pins:List (aK×Obj)}{σ:St}{H:Hp}{s:aF}{a:aK}{kvs:List (Key×V)}{k:Key}{u:av}{A:cU}{E:av->aF->Prop}
end
def HR(i:bR):Prop:=∀ov iv,subscripted i false ov iv=operate [ov,iv] (getItem ov iv)
theorem E3{prog:bo}{w:bX}{A:cU}{E:av->aF->Prop}{s:aF}{env:Env}{value slice:bR}{pos:Pos}{T id:String}{Q:av->aF->Prop}
  (hl:typeLookup (.type T) "__getitem__"=pure (some (.builtin id)))(hs:HR slice)
  (h:wpAny (model prog w) A (eval value env) (λo s₁=>wpAny (model prog w) A (eval slice env) (λi s₂=>s₂.TypeIs o T/\wpAny (model prog w) A (getItem o i) Q E s₂) E s₁) E s):
  wpAny (model prog w) A (eval (.Subscript value slice pos) env) Q E s:=by
 refine Subscript_ (h8 h (λo s₁ h₁=>h8 h₁ (λi s₂ h₂=>?_) λ_ _ x=>x) λ_ _ x=>x)
 obtain⟨hT,h₂⟩:=h₂;unfold subscriptTail;refine ay ?_
 rw[getitemInPython_of_ne hT.not_modules];refine ay (wpAny_specialOf hT hl ?_)
 have fin:wpAny (model prog w) A (subscripted slice false o i) (λr s₃=>wpAny (model prog w) A (letTemporaryGo value o r >>= λ_=>pure r) Q E s₃) E s₂:=by
  rw[hs o i];exact wpAny_operating (h8 h₂ (λr s₃ h₃=>ay (wpAny_letTemporaryGo (a8 h₃))) λ_ _ x=>x)
 first
  |exact a8 (ay fin)
  |exact ay (a8 (ay fin))
  |exact ay fin
theorem BV{X:Cx}{pins:List (aK×Obj)}{σ:St}{H:Hp}{s:aF}{a:aK}{y:V}{o:Option V}(I:Inv X pins σ H s)(g:qA H a y o):s.TypeIs (.ref a) "dict":=by
 rcases g with⟨kvs,k,e,_,_⟩|⟨kvs,k,b,e,_,_,_⟩
 ·obtain⟨_,_,vs,_,dd⟩:=vv I.hok e
  exact dd.typeIs
 ·obtain⟨_,_,xs,_,dd⟩:=w8 I.hok e
  exact dd.typeIs
def Sq(td ty:TE):TE:=λσ H Q=>td σ H λx H1=>ty σ H1 λy H2=>∃a v,x=.ref a/\qA H2 a y (some v)/\Q v H2
def V'(ty td:TE):TE:=λσ H Q=>ty σ H λy H1=>td σ H1 λx H2=>∃a o,x=.ref a/\qA H2 a y o/\Q (.bl o.isSome) H2
def K4(ty td:TE):TE:=λσ H Q=>ty σ H λy H1=>td σ H1 λx H2=>∃a o,x=.ref a/\qA H2 a y o/\Q (.bl (!o.isSome)) H2
def Sr(td ty tv:TE):TS:=λD σ H=>tv σ H λv H1=>td σ H1 λx H2=>ty σ H2 λy H3=>∃a H4,x=.ref a/\Ag H3 a y v H4/\D.nx σ H4
section
variable{X:Cx}{o i e value:bR}{pos pos' VZ:Pos}{td ty tv:TE}
theorem E4(hu:X.A.units+1<cLine)(ho:PE X o td)(hi:PE X i ty)(hs:HR i):PE X (.Subscript o i pos) (Sq td ty):=by
 intro pins s σ H Q I h;refine E3 yn.lookup hs (gD (ho pins s σ H _ I h) λu s1 ⟨x,H1,I1,rx,q1⟩=>gD (hi pins s1 σ H1 _ I1 q1) λiv s2 ⟨y,H2,I2,ry,a,v,ex,g,q2⟩=>?_)
 subst ex;obtain rfl:u=c0 a:=rx;exact⟨BV I2 g,F5 hu I2 g ry λw' s3 I3 oU=>⟨v,H2,I3,oU,q2⟩⟩
theorem HS(hu:X.A.units+1<cLine)(hi:PE X i ty)(ho:PE X o td):PC X .In i o (V' ty td):=by
 intro pins s σ H Q I h;refine gD (hi pins s σ H _ I h) λiv s1 ⟨y,H1,I1,ry,q1⟩=>gD (ho pins s1 σ H1 _ I1 q1) λu s2 ⟨x,H2,I2,rx,a,ov,ex,g,q2⟩=>?_
 subst ex;obtain rfl:u=c0 a:=rx;exact V_ hu I2 g ry λs3 I3=>⟨.bl ov.isSome,H2,I3,rfl,q2⟩
theorem F7(hu:X.A.units+1<cLine)(hi:PE X i ty)(ho:PE X o td):PC X .NotIn i o (K4 ty td):=by
 intro pins s σ H Q I h;refine gD (hi pins s σ H _ I h) λiv s1 ⟨y,H1,I1,ry,q1⟩=>gD (ho pins s1 σ H1 _ I1 q1) λu s2 ⟨x,H2,I2,rx,a,ov,ex,g,q2⟩=>?_
 subst ex;obtain rfl:u=c0 a:=rx;exact K3 hu I2 g ry λs3 I3=>⟨.bl (!ov.isSome),H2,I3,rfl,q2⟩
theorem Ah(hu:X.A.units+1<cLine)(ho:PE X o td)(hi:PE X i ty)(hv:PE X value tv)(hs:swapsWith value (some (.Subscript o i pos')) pos.line X.env=pure false):
  PS X (.Assign [.Subscript o i pos'] value pos) (Sr td ty tv):=by
 intro pins s σ H D I h;refine wpAny_Assign_Subscript (gD (hv pins s σ H _ I h) λr s1 ⟨v,H1,I1,rv,q1⟩=>gD (ho pins s1 σ H1 _ I1 q1) λu s2 ⟨x,H2,I2,rx,q2⟩=>gD (hi pins s2 σ H2 _ I2 q2) λiv s3 ⟨y,H3,I3,ry,a,H4,ex,g,q3⟩=>?_) hs
 subst ex;obtain rfl:u=c0 a:=rx;exact F6 hu I3 g ry rv λs4 I4=>⟨σ,H4,I4,q3⟩
end
theorem BW{P:bo}{w:bX}{H:Hp}(h:cK)(hb:sysModules<h.objs.size):gw P w H (h.push { cls:=.type "dict",data:=.dict #[] }) h.objs.size (.dK []):=
 ⟨bx _,beq_eq_false_iff_ne.mpr (bY (aX hb)),[],.nil,cK.DictOf.new h⟩
theorem HV{P:bo}{w:bX}{H:Hp}(h:cK)(hb:sysModules<h.objs.size):gw P w H (h.push { cls:=.type "dict",data:=.dict #[] }) h.objs.size (.dT []):=
 ⟨bx _,beq_eq_false_iff_ne.mpr (bY (aX hb)),[],.nil,_,#[],0,bp _ rfl,⟨rfl,rfl,rfl⟩,rfl,rfl,kP⟩
def O8:TE:=λ_ H Q=>∀p,H p=none->Q (.ref p) (upd H p (.dK []))
def O9:TE:=λ_ H Q=>∀p,H p=none->Q (.ref p) (upd H p (.dT []))
section
variable{X:Cx}{pos:Pos}
theorem qB:PE X (.Dict [] [] pos) O8:=λpins s σ H Q I h=>
 wpAny_Dict_empty ⟨.ref s.heap.objs.size,_,I.laid (a:=s.heap.objs.size) (o:=.dK []) (t':=s.toks) (λ_ _ q=>aE _ q) (aD _) (BW s.heap I.big),rfl,h _ (I.hok.fresh (aD _))⟩
theorem HW:PE X (.Dict [] [] pos) O9:=λpins s σ H Q I h=>
 wpAny_Dict_empty ⟨.ref s.heap.objs.size,_,I.laid (a:=s.heap.objs.size) (o:=.dT []) (t':=s.toks) (λ_ _ q=>aE _ q) (aD _) (HV s.heap I.big),rfl,h _ (I.hok.fresh (aD _))⟩
end
def Ai:List (TE×TE)->St->Hp->(List (V×V)->Hp->Prop)->Prop
 | [],_,H,Q=>Q [] H
 |(tk,tv)::r,σ,H,Q=>tk σ H λx H1=>tv σ H1 λy H2=>Ai r σ H2 λps H3=>Q ((x,y)::ps) H3
abbrev VV:List (V×V)->List (av×av)->Prop:=Ds λp q=>RelV p.1 q.1/\RelV p.2 q.2
def Ss(X:Cx)(pos:Pos)(keys:List (Option bR))(values:List bR)(E5:List (TE×TE)):Prop:=
 ∀(pins:List (aK×Obj))(s:aF)(σ:St)(H:Hp)(Q:List (V×V)->Hp->Prop),Inv X pins σ H s->Ai E5 σ H Q->
  wpAny (model X.prog X.w) X.A (evalPairs (pairTrees keys values X.env pos)) (λvs s'=>∃ps H',Inv X pins σ H' s'/\VV ps vs/\Q ps H') X.xe s
theorem K5{X:Cx}{pos:Pos}:Ss X pos [] [] []:=λpins s σ H Q I h=>pairTrees_nil_walk ⟨[],H,I,.nil,h⟩
theorem HX{X:Cx}{pos:Pos}{k v:bR}{ks:List (Option bR)}{vs:List bR}{tk tv:TE}{E5:List (TE×TE)}(hk:PE X k tk)(hv:PE X v tv)(hr:Ss X pos ks vs E5):
  Ss X pos (some k::ks) (v::vs) ((tk,tv)::E5):=λpins s σ H Q I h=>
 pairTrees_cons_walk (gD (hk pins s σ H _ I h) λu s1 ⟨x,H1,I1,rx,q1⟩=>gD (hv pins s1 σ H1 _ I1 q1) λw2 s2 ⟨y,H2,I2,ry,q2⟩=>
  gD (hr pins s2 σ H2 _ I2 q2) λws s3 ⟨ps,H3,I3,rel,q3⟩=>⟨(x,y)::ps,H3,I3,.cons ⟨rx,ry⟩ rel,q3⟩)
def qC(kvs more:List (Key×V)):List (Key×V):=more.foldl (λacc kv=>putK acc kv.1 kv.2) kvs
theorem KV.merge:∀{more:List (Key×V)}{rs:List (Key×av)}{kvs:List (Key×V)}{vs:List (Key×av)},KV more rs->KV kvs vs->KV (qC kvs more) (merged vs rs):=by
 intro more rs kvs vs r;unfold KV at r
 induction r generalizing kvs vs with
 |nil=>intro q;exact q
 | @cons p q ps qs h t ih=>
  intro r0;have e:KV (putK kvs p.1 p.2) (stored vs q.1 q.2):=by
   have:=r0.put p.1 h.2;rw[<-h.1];exact this
  exact ih e
theorem rR:∀(more kvs:List (Key×V)),(qC kvs more).length<=kvs.length+more.length
 | [],kvs=>by show kvs.length<=kvs.length+0;omega
 |p::r,kvs=>by
  have h1:=rR r (putK kvs p.1 p.2);have h2:=lC kvs p.1 p.2
  show(qC (putK kvs p.1 p.2) r).length<=_
  rw[bD];omega
theorem xg{P:bo}{w:bX}:∀{kvs:List (Key×V)}{ws:List (av×av)},VV (kvs.map λkv=>(kV kv.1,kv.2)) ws->∃rs,Carries (eK P w) ws rs/\KV kvs rs
 | [],_,r=>by rw[fV]at r;cases r;exact⟨[],fN,.nil⟩
 |p::kvs,_,r=>by
  rw[aH]at r;cases r with
  | @cons a b as bs h t=>
   obtain⟨rs,c,q⟩:=xg (P:=P) (w:=w) t;obtain⟨b1,b2⟩:=b;exact⟨(p.1,b2)::rs,⟨qz h.1,rfl,c⟩,.cons ⟨rfl,h.2⟩ q⟩
def Sv(E5:List (TE×TE)):TE:=λσ H Q=>∀p,H p=none->Ai E5 σ (upd H p (.dK [])) λps H2=>H2 p=some (.dK [])/\∃kvs:List (Key×V),ps=kvs.map (λkv=>(kV kv.1,kv.2))/\kvs.length<=15/\Q (.ref p) (upd H2 p (.dK (qC [] kvs)))
theorem K6{X:Cx}{pos:Pos}{keys:List (Option bR)}{values:List bR}{E5:List (TE×TE)}(h:Ss X pos keys values E5)(yC:keys.all (·.isSome)=true)(hl:keys.length=values.length)(h0:keys≠[])
  (Y_:keys.length<=15):PE X (.Dict keys values pos) (Sv E5):=by
 intro pins s σ H Q I q;have hn:=I.hok.fresh (aD s.heap.objs.size);have I1:=I.laid (a:=s.heap.objs.size) (o:=.dK []) (h':=s.heap.push { cls:=.type "dict",data:=.dict #[] }) (t':=s.toks) (λ_ _ q=>aE _ q) (aD _) (BW s.heap I.big)
 refine wpAny_Dict_walk (knd:=eK X.prog X.w) yC hl h0 Y_ (gD (h pins _ σ _ _ I1 (q _ hn)) λws s2 ⟨ps,H2,I2,rel,e,kvs,ep,lk,q2⟩=>?_)
 subst ep;obtain⟨rs,c,rk⟩:=xg (P:=X.prog) (w:=X.w) rel;obtain⟨z,hd,vs0,r0,dd⟩:=za I2.hok e;cases r0;refine⟨rs,c,dd,λh' BU hs=>⟨.ref s.heap.objs.size,_,?_,rfl,q2⟩⟩
 have hz:(qC [] kvs).length<=sizeLine:=by
  have h1:=rR kvs [];rw[cB]at h1;rw[dI];omega
 have he:∃q,h'.get? s.heap.objs.size=some q:=let⟨q,_,_,hq,_⟩:=BU;⟨q,hq⟩;exact wu I2 (by rw[e];exact fN) hs he (w_ hz hd (rk.merge .nil) BU)
structure M2(X:Cx)(o:bR)(m:Str)(apos:Pos)(e f:bR)(oX:Pos):Prop where
 base:attributeBase o m X.env (eval o X.env)=eval o X.env
 few:((backTo oX (starEach [e,f] X.env)).all (λx=>!x.1)&&(backToKw oX (keywordEach [] X.env)).all (λx=>x.1.isSome)
  && decide (([e,f]:List bR).length+([]:List iK).length+(if([]:List iK).isEmpty then 0 else 1)<30))=true
 line:(apos.endLine==oX.line)=true
 trees:backTo oX (starEach [e,f] X.env)=[(false,eval e X.env),(false,eval f X.env)]
def Wb(H:Hp)(a:aK):Prop:=(∃kvs,Rd H a (.dK kvs))\/∃kvs,Rd H a (.dT kvs)
theorem HY{X:Cx}{pins:List (aK×Obj)}{σ:St}{H:Hp}{s:aF}{a:aK}(I:Inv X pins σ H s)(d:Wb H a):
  s.TypeIs (.ref a) "dict"/\(∀b,c0 a=.ref b->∃ob,s.heap.get? b=some ob/\ob.dict=none)/\(a==sysModules)=false:=by
 rcases d with⟨kvs,e⟩|⟨kvs,e⟩
 ·obtain⟨_,hd,vs,_,dd⟩:=vv I.hok e
  refine⟨dd.typeIs,λb q=>?_,hd⟩
  cases q;obtain⟨ob,_,_,h1,h2,_⟩:=dd;exact⟨ob,h1,h2.2.1⟩
 ·obtain⟨_,hd,xs,_,dd⟩:=w8 I.hok e
  refine⟨dd.typeIs,λb q=>?_,hd⟩
  cases q;obtain⟨ob,_,_,h1,h2,_⟩:=dd;exact⟨ob,h1,h2.2.1⟩
section
variable{X:Cx}{pins:List (aK×Obj)}{σ:St}{H:Hp}{s:aF}{a:aK}{y d:V}{u r:av}{o:Option V}{A:cU}{E:av->aF->Prop}
theorem O_{Q:av->aF->Prop}(hu:A.units+1<cLine)(I:Inv X pins σ H s)(g:qA H a y o)(ry:RelV y u)(rd:RelV d r)(h:∀w' s',Inv X pins σ H s'->RelV (o.getD d) w'->Q w' s'):
  wpAny (model X.prog X.w) A (call (.builtin "dict.get") [.ref a,u,r]) Q E s:=by
 rcases g with⟨kvs,k,e,ey,l⟩|⟨kvs,k,b,e,ey,eb,l⟩
 ·subst ey
  obtain⟨z,hd,vs,rel,dd⟩:=vv I.hok e;refine call_meetsIn pQ dd.typeIs zO (yR _ _ _) (meets_dict_get_default (eK X.prog X.w) a (qz ry) hd r) ⟨_,dd.mapOf,h _ _ (I.tok _) ?_⟩
  rw[l];exact(rel.val k).getD rd
 ·subst ey
  cases(show u=c0 b from ry)
  obtain⟨z,hd,xs,rel,dd⟩:=w8 I.hok e;refine call_meetsIn pQ dd.typeIs zO (yR _ _ _) (meetsH_dict_get_default (tupleKind (eK X.prog X.w)) a b hd r) ⟨kW hu,k,xs,uQ I.hok eb,dd,h _ _ (I.tok _) ?_⟩
  rw[l];exact(rel.val k).getD rd
end
def Pa(td ty tx:TE):TE:=λσ H Q=>td σ H λx H1=>∃a,x=.ref a/\Wb H1 a/\ty σ H1 λy H2=>tx σ H2 λz H3=>∃o,qA H3 a y o/\Q (o.getD z) H3
section
variable{X:Cx}{o e f:bR}{apos oX:Pos}{td ty tx:TE}
theorem HZ(hu:X.A.units+1<cLine)(ho:PE X o td)(he:PE X e ty)(hf:PE X f tx)(m:M2 X o "get" apos e f oX):PE X (.Call (.Attribute o "get" apos) [e,f] [] oX) (Pa td ty tx):=by
 intro pins s σ H Q I h;refine wpAny_Call_method m.base m.few m.line yS pQ PySem.F.type_dict_get (gD (ho pins s σ H _ I h) λu s1 ⟨x,H1,I1,rx,a,ex,d,q1⟩=>?_)
 subst ex;obtain rfl:u=c0 a:=rx;obtain⟨t1,t2,_⟩:=HY I1 d;refine⟨t1,t2,?_⟩
 rw[m.trees];refine pP rfl (rG (j' (gD (he pins s1 σ H1 _ I1 q1) λiv s2 ⟨y,H2,I2,ry,q2⟩=>
  j' (gD (hf pins s2 σ H2 _ I2 q2) λfv s3 ⟨z,H3,I3,rz,ov,g,q3⟩=>uI ?_))))
 exact O_ hu I3 g ry rz λw' s4 I4 oU=>⟨_,H3,I4,oU,q3⟩
end
section
variable{X:Cx}{pins:List (aK×Obj)}{σ:St}{H:Hp}{s:aF}{a:aK}{kvs:List (Key×V)}{A:cU}{E:av->aF->Prop}
theorem H_{Q:av->aF->Prop}(I:Inv X pins σ H s)(e:Rd H a (.dK kvs))(h:∀p s',H p=none->Inv X pins σ (upd H p (.dK kvs)) s'->Q (.ref p) s'):wpAny (model X.prog X.w) A (call (.type "dict") [.ref a]) Q E s:=by
 obtain⟨z,hd,vs,rel,dd⟩:=vv I.hok e;refine kt_call_dict hd dd (by rw[<-rel.length];exact z) λh' BU hs=>?_
 refine h _ _ (I.hok.fresh (aD _)) (I.laid (a:=s.heap.objs.size) (o:=.dK kvs) (t':=s.toks) (λb q hq=>?_) (aD _) (w_ z (beq_eq_false_iff_ne.mpr (bY (aX I.big))) rel BU))
 exact(hs.2 b (aX (aY hq))).trans (aE _ hq)
end
def zbs(o:Array (Option Nat)):Nat:=o.toList.countP Option.isSome
section
variable{prog:bo}{w:bX}{A:cU}{E:av->aF->Prop}{s:aF}
end
section
variable{prog:bo}{w:bX}{A:cU}{R:sf->aF->Prop}{I:aK}{fp wr:List aK}{G:Array oP->Array oP->Prop}{n:Nat}{P:Nat->av->Prop}{St:Nat->aF->Prop}
theorem Ia(W:WalksS prog w A.in1 I fp wr G n P St)(S:aK)(K7:S∉fp)(T:Nat->cK->Prop)(keep:∀i h h',T i h->(∀b o,b∉wr->h.get? b=some o->h'.get? b=some o)->T i h')
  (add:∀i v (s:aF) (Q:Bool->aF->Prop) (E:av->aF->Prop),i<n->P i v->T i s.heap->(∀h' tk b,s.toks<=tk->ie S s.heap h'->T (i+1) h'->Q b { s with heap:=h',toks:=tk })->wpAny (model prog w) A.in1 (setAdd S v) Q E s):
  ∀(k i:Nat)(s:aF),n-i=k->i<=n->St i s->T i s.heap->(∀s',Moved (S::wr) G s s'->T n s'.heap->R (.ok (.ret .none)) s')->
   codeAny (model prog w) A (.builtin "set.update.loop" ⟨[.ref S,.ref I],[]⟩) R s:=by
 have hSw:S∉wr:=λh=>K7 (W.sub _ h)
 have BX:∀b∈wr,b∈S::wr:=λb hb=>aT _ hb
 intro k
 induction k with
 |zero=>
  intro i s hk hi Hz hS hR;have Wc:i=n:=by omega
  subst Wc;refine iJ EC ?_
  rw[fW qe _];show wpAny _ A.in1 (pyNext (.ref I) >>= _) _ _ s;refine ay (W.done s _ _ Hz λs' hm=>?_)
  show wpAny _ A.in1 (ret iq) _ _ s';exact a8 (hR s' (hm.mono BX) (keep _ _ _ hS λb o hb e=>hm.heap b o hb e))
 |succ k ih=>
  intro i s hk hi Hz hS hR;have om:i<n:=by omega
  refine iJ EC ?_
  rw[fW qe _];show wpAny _ A.in1 (pyNext (.ref I) >>= _) _ _ s;refine ay (W.item i s _ _ om Hz λv s' hP Pb hm=>?_)
  have K8:T i s'.heap:=keep _ _ _ hS λb o hb e=>hm.heap b o hb e
  show wpAny _ A.in1 (holding [v] (setAdd S v) >>= _) _ _ s';refine ay (nh ?_)
  refine add i v s' _ _ om hP K8 λh' tk b QK Ib hT=>?_
  refine a8 ⟨qf qe _,ih (i+1) _ (by omega) om (W.frame _ s' _ _ Pb QK λb hb o e=>?_) hT λKL Pg Ph=>?_⟩
  ·rw[Ib.2 b (λh:b=S=>K7 (by rw[<-h];exact hb))];exact e
  ·refine hR KL (Moved.trans W.gtrans ((hm.mono BX).then_heap QK λb o hb e=>?_) Pg) Ph
   rw[Ib.2 b (λh:b=S=>hb (by rw[h];exact aN))];exact e
end
section
variable{prog:bo}{w:bX}{A:cU}{E:av->aF->Prop}{s:aF}
abbrev jw(led:Bool):Obj:={ cls:=.type "set",dict:=none,data:=.set #[] 0 (.fresh 0 0 led) }
end
end L2
namespace L2
open PySem
end L2
namespace L2
open PySem PySem.Spec PyProof.Rows
abbrev K9:av->aF->Prop:=λ_ _=>False
abbrev testsOf(ifs:List bR)(env:Env):Sem Bool:=
 forIn ifs true λc r=>if r=true then(do let ok <-isTrue c env (eval c env);pure (oK ok))else pure (oK r)
theorem F8{P:bo}{w:bX}{A:cU}{R:sf->aF->Prop}{elt tg iter:bR}{ifs:List bR}{sc:lb}{pos:Pos}{it acc:av}{env:Env}(J:Nat->aF->Prop)
  (turn:∀n s,J n s->wpAny (model P w) A (pyNext it) (λr s1=>match r with
   |none=>R (.ok .next) s1
   |some v=>wpAny (model P w) A (letOwnedTupleGo tg it v) (λ_ s2=>wpAny (model P w) A (assign tg env v) (λ_ s3=>
     wpAny (model P w) A (testsOf ifs env) (λok s4=>if ok=true then wpAny (model P w) A (eval elt env) (λx s5=>
       wpAny (model P w) A (call (.builtin "list.append") [acc,x]) (λ_ s6=>∃m,m<n/\J m s6) K9 s5) K9 s4
      else ∃m,m<n/\J m s4) K9 s3) K9 s2) K9 s1) K9 s)
  {n:Nat} {s:aF} (h:J n s):codeAny (model P w) A (.compLoop (.ListComp elt [⟨tg,iter,ifs,0⟩] sc pos) 0 it acc env) R s:=by
 refine codeAny_loop rfl J (λn s hJ=>?_) n h
 show wpAny _ A ((compTurn (.ListComp elt [⟨tg,iter,ifs,0⟩] sc pos) 0 it acc env).onRaise (λx=>do noteFrame x env;theTreesLotGoes x)) _ _ s
 refine wpAny_noted ?_
 rw[compTurn_list];refine ay (wc (ay (h8 (turn n s hJ) (λr s1 h1=>?_) λ_ _ f=>f.elim)))
 cases r with
 |none=>exact a8 h1
 |some v=>
  refine ay (h8 h1 (λ_ s2 h2=>?_) λ_ _ f=>f.elim)
  refine ay (h8 h2 (λ_ s3 h3=>?_) λ_ _ f=>f.elim)
  refine ay (h8 h3 (λok s4 h4=>?_) λ_ _ f=>f.elim)
  cases ok with
  |false=>exact a8 ⟨rfl,h4⟩
  |true=>
   refine ay (ay (h8 h4 (λx s5 h5=>?_) λ_ _ f=>f.elim))
   exact ay (h8 h5 (λ_ s6 h6=>a8 (a8 ⟨rfl,h6⟩)) λ_ _ f=>f.elim)
def oo(env:Env):List (Str×lO)->List (Str×aK)->Option (List (Str×aK))
  | [],acc=>some acc
  | (n,k)::r,acc=>if(k==dP)=true then(match env.cells.lookup n with
      | some c=>oo env r ((n,c)::acc)
      | none=>none)else oo env r acc
theorem Aj(env:Env):∀(names:List (Str×lO))(acc cl:List (Str×aK)),oo env names acc=some cl->
  (forIn names acc λ(x:Str×lO)(r:List (Str×aK))=>if(x.2==dP)=true then(do let c <-cellOf env x.1;pure (oK ((x.1,c)::r)))else pure (oK r):Sem (List (Str×aK)))=pure cl
 | [],acc,cl,h=>by
  simp only[oo,gU]at h;subst h;rfl
 |(n,k)::r,acc,cl,h=>by
  rw[yo];unfold oo at h;by_cases hk:(k==dP)=true
  ·rw[if_pos hk]at h
   rw[if_pos (show((n,k).2==dP)=true from hk)]
   cases e:env.cells.lookup n with
   |none=>rw[e]at h;cases h
   |some c=>
    rw[e]at h;have e2:cellOf env (n,k).1=pure c:=by unfold cellOf;rw[show ko (n,k).1 env.cells=some c from e]
    rw[e2,pure_bind,pure_bind];exact Aj env r _ cl h
  ·rw[if_neg hk]at h
   rw[if_neg (show ¬((n,k).2==dP)=true from hk),pure_bind]
   exact Aj env r acc cl h
theorem E6{sc:lb}{env:Env}{cl:List (Str×aK)}(h:oo env sc.names []=some cl):closureFor sc env=pure cl:=by
 unfold closureFor;have:=Aj env sc.names [] cl h;simp only[bind_pure];exact this
theorem tR{env:Env}:∀{names:List (Str×lO)}{acc cl:List (Str×aK)},oo env names acc=some cl->(∀x c,acc.lookup x=some c->env.cells.lookup x=some c)->∀x c,cl.lookup x=some c->env.cells.lookup x=some c
 | [],acc,cl,h,ha=>by
  simp only[oo,gU]at h;subst h;exact ha
 |(n,k)::r,acc,cl,h,ha=>by
  unfold oo at h;by_cases hk:(k==dP)=true
  ·rw[if_pos hk]at h
   cases e:env.cells.lookup n with
   |none=>rw[e]at h;cases h
   |some c=>
    rw[e]at h;refine tR (names:=r) h λx d hx=>?_
    rw[dZ]at hx;cases UW:x==n with
    |true=>
     rw[UW]at hx;have:x=n:=by simpa using UW
     subst this;rw[e];exact hx
    |false=>rw[UW]at hx;exact ha x d hx
  ·rw[if_neg hk]at h
   exact tR (names:=r) h ha
theorem tS{env:Env}:∀{names:List (Str×lO)}{acc cl:List (Str×aK)},oo env names acc=some cl->∀x,((x,dP)∈names\/∃c,acc.lookup x=some c)->∃c,cl.lookup x=some c
 | [],acc,cl,h,x,hx=>by
  simp only[oo,gU]at h;subst h;rcases hx with hx|hx
  ·exact absurd hx (by simp)
  ·exact hx
 |(n,k)::r,acc,cl,h,x,hx=>by
  unfold oo at h;by_cases hk:(k==dP)=true
  ·rw[if_pos hk]at h
   cases e:env.cells.lookup n with
   |none=>rw[e]at h;cases h
   |some c=>
    rw[e]at h;refine tS (names:=r) h x ?_
    rcases hx with hx|⟨d,hx⟩
    ·rcases aI.mp hx with hx|hx
     ·cases hx
      exact .inr ⟨c,by simp[dZ]⟩
     ·exact .inl hx
    ·refine .inr ?_
     rw[dZ];cases UW:x==n with
     |true=>exact⟨_,rfl⟩
     |false=>exact⟨d,hx⟩
  ·rw[if_neg hk]at h
   refine tS (names:=r) h x ?_
   rcases hx with hx|hx
   ·rcases aI.mp hx with hx|hx
    ·cases hx;exact absurd rfl hk
    ·exact .inl hx
   ·exact .inr hx
theorem tT{env:Env}:∀{names:List (Str×lO)}{x:Str},names.lookup x=some .free->
  (names.map λ(n,k)=>if(k==dP&&env.scope.kind == .function&&env.kindOf n==some .cell) then(n,jM) else(n,k)).lookup x=some .cell\/
   (names.map λ(n,k)=>if(k==dP&&env.scope.kind == .function&&env.kindOf n==some .cell) then(n,jM) else(n,k)).lookup x=some .free
 | [],x,h=>by simp at h
 |(n,k)::r,x,h=>by
  have ih:=@tT env r x;rw[aH]
  dsimp only
  by_cases hb:(k==dP&&env.scope.kind == .function&&env.kindOf n==some .cell)=true
  ·rw[if_pos hb]
   cases hx:x==n with
   |true=>simp[dZ,hx]
   |false=>
    simp only[dZ,hx]at h ⊢;exact ih h
  ·rw[if_neg hb]
   cases hx:x==n with
   |true=>
    simp only[dZ,hx]at h ⊢;exact .inr h
   |false=>
    simp only[dZ,hx]at h ⊢;exact ih h
theorem vw{env:Env}:∀{names:List (Str×lO)}{x:Str},(∀y∈names,y.2≠jM)->
  ((names.map λ(n,k)=>if(k==dP&&env.scope.kind == .function&&env.kindOf n==some .cell) then(n,jM) else(n,k)).lookup x=some .cell\/
   (names.map λ(n,k)=>if(k==dP&&env.scope.kind == .function&&env.kindOf n==some .cell) then(n,jM) else(n,k)).lookup x=some .free)->(x,dP)∈names
 | [],x,_,h=>by simp at h
 |(n,k)::r,x,hc,h=>by
  have ih:=@vw env r x λy hy=>hc y (aT _ hy)
  have Wf:k≠jM:=hc (n,k) aN;rw[aH]at h
  dsimp only at h
  by_cases hb:(k==dP&&env.scope.kind == .function&&env.kindOf n==some .cell)=true
  ·have hk:k=dP:=by
    simp only[pK]at hb;simpa using hb.1.1
   rw[if_pos hb]at h;cases hx:x==n with
   |true=>
    have:x=n:=by simpa using hx
    subst this;rw[hk];exact aN
   |false=>
    simp only[dZ,hx]at h;exact aT _ (ih h)
  ·rw[if_neg hb]at h
   cases hx:x==n with
   |true=>
    have:x=n:=by simpa using hx
    subst this;simp only[dZ,beq_self_eq_true,gU]at h;rcases h with h|h
    ·exact absurd h Wf
    ·rw[h];exact aN
   |false=>
    simp only[dZ,hx]at h;exact aT _ (ih h)
def gj(X:Cx)(sc:lb)(N:List Str)(cl:List (Str×aK))(fp:List aK)(s:aF)(H:Hp):Cx where
 prog:=X.prog
 w:=X.w
 K:=X.K
 mg:=X.mg
 base:=X.base
 A:=X.A
 N:=N
 s₀:=s
 H₀:=H
 env:=compEnvC sc cl s.heap.objs.size X.env
 outer:=X.stack
 stack:=X.stack
 ex:=fp
 fn:=λ_=>false
 calm:=X.calm
 pn:=[]
 xe:=K9
structure k6(X:Cx)(sc:lb)(own:List Str)(cap:List Nat)(N:List Str)(cl:List (Str×aK)):Prop where
 kind:sc.kind=.function
 Ie:∀y∈sc.names,y.2≠jM
 loc:∀y∈sc.names,y.2=.local->sc.names.lookup y.1=some .local
 clos:oo X.env sc.names []=some cl
 names:N=own++cap.map λi=>X.N.getD i fz
 Sw:∀i∈cap,i<X.N.length/\(X.env.kindOf (X.N.getD i fz)=some .cell\/X.env.kindOf (X.N.getD i fz)=some .free)/\sc.names.lookup (X.N.getD i fz)=some .free
def lW(own:List Str)(cap:List Nat)(σ:St):St:=a_ own.length none++cap.map λi=>σ.getD i none
section
variable{X:Cx}{pins:List (aK×Obj)}{σ:St}{H:Hp}{s:aF}{sc:lb}{own N:List Str}{cap:List Nat}{cl:List (Str×aK)}{fp:List aK}{tg:bR}{J:It}{it:aK}{tn:Nat->cK->Prop}
theorem Ig{h4:cK}{t4:Nat}(CS:k6 X sc own cap N cl)(I:Inv X pins σ H s)(T:Turn X.prog X.w X.K tg J fp it tn)(st:tn 0 s.heap)(hf:∀b∈fp,tL X pins H b)
  (D:aK)(hD:D=s.heap.objs.size)(s3:aF)(h3:s3={ s with heap:=s.heap.push { cls:=.type "list",dict:=none,data:=.seq ([]:List av).toArray } })
  (F4:h4.Ns s3.heap.objs.size (λ_=>none))(hk:∀b o,s3.heap.get? b=some o->h4.get? b=some o):
  Inv (gj X sc N cl fp s3 (upd H D (.lst []))) [] (lW own cap σ) (upd H D (.lst [])) { s3 with heap:=h4,toks:=t4 }:=by
 subst hD;have hDn:H s.heap.objs.size=none:=I.fresh;have k3:∀b o,s.heap.get? b=some o->s3.heap.get? b=some o:=λb o e=>by rw[h3];exact aE _ e
 have z3:s3.heap.objs.size=s.heap.objs.size+1:=by rw[h3];exact gX ..
 have I3:Inv X pins σ (upd H s.heap.objs.size (.lst [])) s3:=by
  rw[h3];exact I.laid (t':=s.toks) (λb o e=>aE _ e) (aD _) ⟨bx _,[],0,.nil,bp _ rfl⟩
 have K_:∀b∈fp,b<s.heap.objs.size:=λb hb=>by
  obtain⟨o,e,_⟩:=T.obj 0 _ st b hb;exact aY e
 have La:∀b,b<s.heap.objs.size->b≠s3.heap.objs.size:=λb hb=>by rw[z3];exact aX (kX hb)
 have oZ:∀x c,cl.lookup x=some c->X.env.cells.lookup x=some c:=tR CS.clos λx c h=>by simp at h
 have ok:(gj X sc N cl fp s3 (upd H s.heap.objs.size (.lst []))).Ok:=by
  refine⟨I.ok.mod,CS.kind,I.ok.glob,I.ok.blt,aD _,λx y c hx hy=>I.ok.inj x y c (oZ x c hx) (oZ y c hy),λx hx=>?_,λx c hx _=>absurd (show false=true from hx) cu,I.ok.hd,I.ok.frames,.inl rfl,λb hb=>⟨?_,λx c hx=>?_⟩,λb o e=>?_,?_,λb o e hb=>?_,λb hb hs=>?_,?_,?_⟩
  ·exact tS CS.clos x (.inl (vw CS.Ie hx))
  ·exact La b (K_ b hb)
  ·exact(hf b hb).2.2.2.2.1 x c (oZ x c hx)
  ·exact I3.bs b o e
  ·exact b_ I.ok.MT (b_ I.sz (by show s.heap.objs.size<=s3.heap.objs.size;rw[z3];exact oJ _))
  ·rcases(hf b hb).2.2.2.1 with z|z
   ·exact I.ok.Ht b o e z
   ·exact absurd (bV (aY (I.ok.bs b o e).1) z) (jq _)
  ·rcases aI.mp (I.zV b hs)with z|z
   ·exact(hf b hb).2.1 z
   ·exact(hf b hb).2.2.1 z
  ·exact I3.stack
  ·exact I3.EI
 have frC:∀b,s.heap.objs.size<b->(upd H s.heap.objs.size (.lst [])) b=none:=λb hb=>by
  rw[aR (fY hb)];exact I.hok.fresh (qc hb)
 refine⟨ok,?_,I3.bare,Un.kept hk,⟨_,F4,λi x v e1 e2 e3=>?_⟩,λx c hx=>?_,?_,λx c hx=>?_,λp hp=>absurd (show p∈([]:List (aK×Obj))from hp) (by simp),I3.hok.kept hk,?_⟩
 ·rfl
 ·have Pj:(lW own cap σ)[i]?=some (some v):=e2
  have Sx:N[i]?=some x:=e1;unfold lW at Pj;by_cases hi:i<own.length
  ·rw[cD (by simpa using hi),dQ]at Pj
   split at Pj<;>cases Pj
  ·rw[cA (by simpa using fS hi),dA,aJ]at Pj
   rw[CS.names,cA (fS hi),aJ]at Sx;cases ec:cap[i-own.length]? with
   |none=>rw[ec]at Sx;cases Sx
   |some j=>
    rw[ec]at Sx Pj;have ex:X.N.getD j fz=x:=by simpa using Sx
    have ev:σ.getD j none=some v:=by simpa using Pj
    obtain⟨hj,BO,xh⟩:=CS.Sw j (bA ec);rw[ex]at BO xh;obtain⟨m,hn,hl⟩:=I.loc;have hxj:X.N[j]?=some x:=by
     rw[au hj];rw[<-ex,ax,au hj];rfl
    have hvj:σ[j]?=some (some v):=by
     have:j < σ.length:=by rw[I.len];exact hj
     rw[ax,au this]at ev;rw[au this];exact congrArg some ev
    obtain⟨u,r,l⟩:=hl j x v hxj hvj (by
     rcases BO with z|z
     ·exact .inr (.inl z)
     ·exact .inr (.inr z))
    refine⟨u,r,?_⟩
    rcases l with⟨k,_⟩|⟨k,c,e,z⟩
    ·rcases BO with z|z<;>(rw[z]at k;cases k)
    ·obtain⟨c',Y'⟩:=tS CS.clos x (.inl (iI xh))
     have:c'=c:=by
      have:=oZ x c' Y';rw[e]at this;exact(cY this).symm
     subst this;refine .inr ⟨?_,c',Y',?_⟩
     ·exact tT xh
     ·obtain⟨o,ho,hd⟩:=z
      exact⟨o,hk _ _ (k3 _ _ ho),hd⟩
 ·obtain⟨v,o,ho,hd⟩:=I.cell x c (oZ x c hx)
  exact⟨v,o,hk _ _ (k3 _ _ ho),hd⟩
 ·exact frC _ (by show s.heap.objs.size<s3.heap.objs.size;rw[z3];exact jN _)
 ·obtain⟨v,o,ho,hd⟩:=I.cell x c (oZ x c hx)
  rw[aR (aX (aY ho))];exact I.n_ x c (oZ x c hx)
 ·show(lW own cap σ).length=N.length
  unfold lW;rw[CS.names];simp
theorem Inv.wx{h':cK}{t':Nat}{ch:List aK}(I:Inv X pins σ H s)(k:∀b o,b∉ch->s.heap.get? b=some o->h'.get? b=some o)(hf:∀b∈ch,tL X pins H b):Inv X pins σ H { s with heap:=h',toks:=t' }:=by
 have Rx:∀b u,H b=some u->b∉ch:=λb u e z=>by rw[(hf b z).1]at e;cases e
 refine I.step (g':=s.gens) (d':=s.drawn) (ch:=ch) (λb hb=>⟨(hf b hb).2.2.2.1,(hf b hb).2.1,(hf b hb).2.2.2.2.1,(hf b hb).2.2.2.2.2⟩) (λb o _ _ hc e _=>k b o hc e) (λb o _ _ hc e _=>⟨o.slots,k b o hc e⟩) (λ_ _ _ _ n=>n)
  (λb o hc e=>⟨o,k b o hc e⟩) (λ_ _ e=>e) (λ_ _ _ e=>e) (λb ps e=>⟨#[],by rw[e];simp⟩) (λm hm=>?_) (λb u e=>?_) I.bare
 ·obtain⟨o,es,ep,ho,r⟩:=hm
  exact⟨o,es,ep,k _ o (λz=>(hf _ z).2.1 rfl) ho,r⟩
 ·refine(I.hok b u e).stay (λc v hc q=>k c v ?_ q) (λ_ q=>q) λ_ _ q=>q
  rcases hc with z|z
  ·rw[z];exact Rx b u e
  ·exact Rx c _ z
theorem Inv.track{a:aK}{o:HO}(I:Inv X pins σ H s)(f:tL X pins H a)(new:gw X.prog X.w (upd H a o) s.heap a o):Inv X pins σ (upd H a o) s:=by
 obtain⟨f0,f1,f2,f3,f4,f5⟩:=f;have ne:∀b u,H b=some u->b≠a:=λb u e=>bT e f0
 refine⟨I.ok,I.os,I.bare,⟨I.base.keep,I.base.slot,λb ob e n hx=>?_,I.base.there,λb xs e=>?_,λb ob u e=>?_,λb ps e=>?_⟩,I.loc,I.cell,?_,λx c e=>?_,λp hp=>?_,λb u e=>?_,I.len⟩
 ·have nb:b≠a:=λz=>by
   subst z;rcases f3 with z|z
   ·exact hx z
   ·exact absurd (bV (aY e) z) (jq _)
  rw[aR nb];exact I.base.free b ob e n hx
 ·have q:=I.base.tups b xs e
  rw[aR (ne _ _ q)];exact q
 ·have q:=I.base.uM b ob u e
  rw[aR (ne _ _ q)];exact q
 ·obtain⟨more,q⟩:=I.base.wJ b ps e
  exact⟨more,by rw[aR (ne _ _ q)];exact q⟩
 ·rw[aR (bY f1)]
  exact I.free
 ·rw[aR (f4 x c e)]
  exact I.n_ x c e
 ·obtain⟨e,n,r⟩:=I.pin p hp
  exact⟨e,by rw[aR (f5 p hp)];exact n,r⟩
 ·by_cases hb:b=a
  ·subst hb
   rw[bB]at e;cases e;exact new
  ·rw[aR hb]at e
   exact(I.hok b u e).stay (λ_ _ _ q=>q) (λc q=>by rw[aR (ne _ _ q)];exact q) λc xs q=>by rw[aR (ne _ _ q)];exact q
end
def Sy(X:Cx)(ifs:List bR)(t:TT):Prop:=
 ∀(pins:List (aK×Obj))(s:aF)(σ:St)(H:Hp)(Q:Bool->Hp->Prop),Inv X pins σ H s->t σ H Q->wpAny (model X.prog X.w) X.A (testsOf ifs X.env) (TP X pins σ Q) X.xe s
def Wh:TT:=λ_ H Q=>Q true H
theorem Lb{X:Cx}:Sy X [] Wh:=λ_ _ _ H _ I h=>wpAny_tests_nil ⟨H,I,h⟩
theorem Lc{X:Cx}{c:bR}{t:TT}(h:PT X c t):Sy X [c] t:=λpins s σ H Q I q=>wpAny_tests_one (h pins s σ H Q I q)
def uR(J:It)(g:TG)(tc:TT)(te:TE)(σ:St)(H:Hp)(Q:VK):Prop:=
 ∀D,H D=none->∃W:Nat->Nat->List V->St->Hp->Prop,(∃m,W 0 m [] σ (upd H D (.lst [])))/\∀i m ys σ' H',W i m ys σ' H'->
  (J.stop i H'/\Q (.ref D) H')\/(J.go i H'/\∀x H2,J.RJ i H' x H2->g x σ' H2 λσ3 H3=>tc σ3 H3 λb H4=>if b=true then te σ3 H4 λy H5=>
   H5 D=some (.lst ys)/\ys.length<sizeLine/\∃m',m'<m/\W (i+1) m' (ys ++ [y]) σ3 (upd H5 D (.lst (ys ++ [y])))else ∃m',m'<m/\W (i+1) m' ys σ3 H4)
def M9(own:List Str)(cap:List Nat)(wi:TI)(g:TG)(tc:TT)(te:TE):TE:=λσ H Q=>wi σ H λJ H1=>uR J g tc te (lW own cap σ) H1 Q
section
variable{X:Cx}{pins:List (aK×Obj)}{σ:St}{H:Hp}{s:aF}{sc:lb}{own N:List Str}{cap:List Nat}{cl:List (Str×aK)}{fp:List aK}{tg elt iter:bR}{ifs:List bR}{J:It}{it:aK}{tn:Nat->cK->Prop}{g:TG}{tc:TT}{te:TE}{wi:TI}{pos:Pos}
theorem zc{RR:av->aK->sf->aF->Prop}{E:av->aF->Prop}{Q:VK}(hc:X.calm=true)(CS:k6 X sc own cap N cl)(I:Inv X pins σ H s)(T:Turn X.prog X.w X.K tg J fp it tn)(st:tn 0 s.heap)(hf:∀b∈fp,tL X pins H b)
  (hg:∀f s3 H3,PG (gj X sc N cl f s3 H3) tg g)(ht:∀f s3 H3,Sy (gj X sc N cl f s3 H3) ifs tc)(he:∀f s3 H3,PE (gj X sc N cl f s3 H3) elt te)
  (h:uR J g tc te (lW own cap σ) H Q)
  (fin:∀D C H' s',Inv X pins σ H' s'->(∃m,s'.heap.Ns C m)->tL X pins H' C->Q (.ref D) H'->RR (.ref D) C (.ok .next) s'):
  wpAny (model X.prog X.w) X.A (newList []) (λacc s₃=>wpAny (model X.prog X.w) X.A (newFunctionEnv sc X.env.globals cl [] X.env.qual none .none (some X.env)) (λSz s₄=>
   codeAny (model X.prog X.w) X.A (.compStart (.ListComp elt [⟨tg,iter,ifs,0⟩] sc pos) 0 (.ref it) acc { Sz with scope:=relabel sc X.env }) (RR acc Sz.locals) s₄) E s₃) E s:=by
 refine eB (wpAny_newFunctionEnv CS.Ie (λy hy=>absurd hy (by simp)) (λh4 F4 Ib=>?_) CS.kind)
 have hD:H s.heap.objs.size=none:=I.fresh;obtain⟨W,⟨m0,w0⟩,turn⟩:=h s.heap.objs.size hD
 generalize Wi:({ s with heap:=s.heap.push { cls:=.type "list",dict:=none,data:=.seq ([]:List av).toArray } }:aF)=s3 at *
 have h3:=Wi.symm;have e3:s.heap.push { cls:=.type "list",dict:=none,data:=.seq ([]:List av).toArray }=s3.heap:=by rw[h3]
 have z3:s3.heap.objs.size=s.heap.objs.size+1:=by rw[h3];exact gX ..
 have k3:∀b o,s.heap.get? b=some o->s3.heap.get? b=some o:=λb o e=>by rw[h3];exact aE _ e
 have k4:∀b o,s3.heap.get? b=some o->h4.get? b=some o:=λb o e=>Ib.extBut b o (aX (aY e)) (aE _ e)
 have K_:∀b∈fp,b<s.heap.objs.size:=λb hb=>by
  obtain⟨o,e,_⟩:=T.obj 0 _ st b hb;exact aY e
 have Ic:∀t4,Inv (gj X sc N cl fp s3 (upd H s.heap.objs.size (.lst []))) [] (lW own cap σ) (upd H s.heap.objs.size (.lst [])) { s3 with heap:=h4,toks:=t4 }:=λt4=>
  Ig (t4:=t4) CS I T st hf _ rfl s3 h3 (by simpa using F4) k4
 have Za:tn 0 h4:=T.keep _ _ _ st λb hb o e=>k4 b o (k3 b o e)
 have fr4:∀b∈fp,(upd H s.heap.objs.size (.lst [])) b=none:=λb hb=>by
  rw[aR (aX (K_ b hb))];exact(hf b hb).1
 have stat:∀{H':Hp},(∀b∈fp,H' b=none)->∀b∈fp,tL (gj X sc N cl fp s3 (upd H s.heap.objs.size (.lst []))) [] H' b:=λ{H'}hn b hb=>by
  refine⟨hn b hb,?_,λhs=>?_,.inl hb,λx c hx=>?_,λp hp=>absurd (show p∈([]:List (aK×Obj))from hp) (by simp)⟩
  ·show b≠s3.heap.objs.size
   rw[z3];exact aX (kX (K_ b hb))
  ·rcases aI.mp (I.zV b hs)with z|z
   ·exact(hf b hb).2.1 z
   ·exact(hf b hb).2.2.1 z
  ·exact(hf b hb).2.2.2.2.1 x c (tR CS.clos (λx c h=>by simp at h) x c hx)
 have loop:∀s5:aF,(∃t4,s5={ s3 with heap:=h4,toks:=t4 })->codeAny (model X.prog X.w) X.A (.compLoop (.ListComp elt [⟨tg,iter,ifs,0⟩] sc pos) 0 (.ref it) (.ref s.heap.objs.size) (compEnvC sc cl s3.heap.objs.size X.env))
   (RR (.ref s.heap.objs.size) s3.heap.objs.size) s5:=by
  rintro s5 ⟨t4,rfl⟩
  refine F8 (λn s'=>∃i ys σ' H',Inv (gj X sc N cl fp s3 (upd H s.heap.objs.size (.lst []))) [] σ' H' s'/\tn i s'.heap/\(∀b∈fp,H' b=none)/\W i n ys σ' H') ?_
   ⟨0,[],_,_,Ic t4,Za,fr4,w0⟩
  rintro n s' ⟨i,ys,σ',H',I',wq,fr',w'⟩
  rcases turn i n ys σ' H' w' with⟨stop,q⟩|⟨go,step⟩
  ·refine gD (T.done (gj X sc N cl fp s3 (upd H s.heap.objs.size (.lst []))) rfl rfl rfl hc i [] s' σ' H' K9 I' (stat fr') wq stop) λr s6 ⟨hr,I6⟩=>?_
   subst hr;have bs:=I6.base;have un:Un (Hi X.stack) fp H H' s.heap s6.heap:=by
    have Wj:∀b o,s.heap.get? b=some o->b≠s.heap.objs.size:=λb o e=>aX (aY e)
    refine⟨λb o e n hb hx=>bs.keep b o (k3 b o e) (by show upd H _ _ b=none;rw[aR (Wj b o e)];exact n) hb hx,λb o e n hb hx=>bs.slot b o (k3 b o e) (by show upd H _ _ b=none;rw[aR (Wj b o e)];exact n) hb hx,
     λb o e n hx=>bs.free b o (k3 b o e) (by show upd H _ _ b=none;rw[aR (Wj b o e)];exact n) hx,λb o e hx=>bs.there b o (k3 b o e) hx,
     λb xs e=>bs.tups b xs (by show upd H _ _ b=_;rw[aR (bT e hD)];exact e),λb o u e=>bs.uM b o u (by show upd H _ _ b=_;rw[aR (bT e hD)];exact e),λb ps e=>bs.wJ b ps (by show upd H _ _ b=_;rw[aR (bT e hD)];exact e)⟩
   have I7:Inv X pins σ H' s6:=I.call' (ch:=fp) (by rw[I6.os];show s3.os=s.os;rw[h3]) un I6.hok I6.bare λb hb=>⟨(hf b hb).2.2.2.1,(hf b hb).2.1,(hf b hb).2.2.2.2.1,(hf b hb).2.2.2.2.2⟩
   obtain⟨mC,nC,_⟩:=I6.loc;exact fin _ _ H' s6 I7 ⟨mC,nC⟩ (I.wM (by show s.heap.objs.size<=s3.heap.objs.size;rw[z3];exact oJ _) I6.free) q
  ·refine gD (T.item (gj X sc N cl fp s3 (upd H s.heap.objs.size (.lst []))) rfl rfl rfl hc i [] s' σ' H' K9 I' (stat fr') wq go) λr s6 ⟨u,hr,h6⟩=>?_
   subst hr;refine gD h6 λ_ s7 ⟨x,H7,I7,r7,y7,Wk,fr7⟩=>?_
   have I7':=I7.pinned (stat fr7) (T.obj _ _ Wk);have back:∀{σ8:St}{H8:Hp}{s8:aF},Inv (gj X sc N cl fp s3 (upd H s.heap.objs.size (.lst []))) ([]++wN fp s7.heap) σ8 H8 s8->tn (i+1) s8.heap/\∀b∈fp,H8 b=none:=λ{σ8 H8 s8}I8=>by
    refine⟨T.keep _ _ _ Wk λb hb o e=>(I8.pin (b,o) (b9 _ (b9 _ (oV hb e)))).1,λb hb=>?_⟩
    obtain⟨o,e,d⟩:=T.obj _ _ Wk b hb;exact(I8.pin (b,o) (b9 _ (b9 _ (oV hb e)))).2.1
   refine gD (hg _ _ _ _ s7 σ' H7 x u _ I7' r7 (step x H7 y7)) λ_ s8 ⟨σ8,H8,I8,q8⟩=>?_
   refine gD (ht _ _ _ _ s8 σ8 H8 _ I8 q8) λok s9 ⟨H9,I9,q9⟩=>?_
   cases ok with
   |false=>
    rw[if_neg cu]at q9 ⊢;obtain⟨m',hm,w9⟩:=q9;exact⟨m',hm,i+1,ys,σ8,H9,I9.qv,(back I9).1,(back I9).2,w9⟩
   |true=>
    rw[if_pos rfl]at q9 ⊢;refine gD (he _ _ _ _ s9 σ8 H9 _ I9 q9) λxv Wm ⟨y,Zb,I10,r10,Pk,hz,m',hm,w10⟩=>?_
    refine gD (rh _ Wm σ8 Zb (.ref s.heap.objs.size) [y] (.ref s.heap.objs.size) [xv] (λ_ xi=>xi=upd Zb s.heap.objs.size (.lst (ys ++ [y]))) I10 rfl (.cons r10 .nil) ⟨_,ys,y,rfl,rfl,Pk,hz,rfl⟩) λ_ s11 ⟨_,H11,Wn,_,e11⟩=>?_
    subst e11;exact⟨m',hm,i+1,ys ++ [y],σ8,_,Wn.qv,(back Wn).1,(back Wn).2,w10⟩
 exact codeAny_compStart_list (loop _ ⟨_,rfl⟩) (T.self _ 0 _ _ _ Za (loop _ ⟨_,rfl⟩))
theorem Le(hc:X.calm=true)(CS:k6 X sc own cap N cl)(hi:PI X tg iter wi)(hg:∀f s3 H3,PG (gj X sc N cl f s3 H3) tg g)(ht:∀f s3 H3,Sy (gj X sc N cl f s3 H3) ifs tc)(he:∀f s3 H3,PE (gj X sc N cl f s3 H3) elt te)
  (hs:∀x,foldedSetIterable iter X.env x=pure x:=by intro _;rfl):PE X (.ListComp elt [⟨tg,iter,ifs,0⟩] sc pos) (M9 own cap wi g tc te):=by
 intro pins s σ H Q I h;rw[eval_ListComp];refine wpAny_comprehension_free (use:=none) rfl hs (E6 CS.clos) CS.kind CS.loc (gD (hi pins s σ H _ I h) λv s1 h1=>gD h1 λUL s2 h2=>?_)
 obtain⟨it,fp,tn,J,H2,e,I2,T,RM,f2,q2⟩:=h2;subst e;refine zc (RR:=λacc C=>compPost (model X.prog X.w) X.A X.xe none (EP X pins σ Q) acc C) (Q:=Q) hc CS I2 T RM f2 hg ht he q2 ?_
 intro D C H' s' I' ⟨m,hn⟩ fC q;exact⟨m,hn,λh' sb=>⟨.ref D,H',I'.turned (t':=s'.toks) (λb o hb e=>(sb.2 b hb).trans e) fC.1 fC.2.1 fC.2.2.2.1 fC.2.2.2.2.1 fC.2.2.2.2.2,rfl,q⟩⟩
theorem xj{i:Nat}{x:Str}{px xk:Pos}(hN:X.N.Nodup)(SD:X.N[i]?=some x)(hx:Loc X.env.scope x)(hc:X.calm=true)(CS:k6 X sc own cap N cl)(hi:PI X tg iter wi)(hg:∀f s3 H3,PG (gj X sc N cl f s3 H3) tg g)
  (ht:∀f s3 H3,Sy (gj X sc N cl f s3 H3) ifs tc)(he:∀f s3 H3,PE (gj X sc N cl f s3 H3) elt te)(BZ:swapsWith (.ListComp elt [⟨tg,iter,ifs,0⟩] sc pos) (some (.Name x px)) xk.line X.env=pure true:=by rfl)
  (hs:∀x,foldedSetIterable iter X.env x=pure x:=by intro _;rfl)(hf:X.fn x=true\/X.env.scope.names.lookup x=some .local:=by first|exact .inl rfl|exact .inr rfl|assumption):
  PS X (.Assign [.Name x px] (.ListComp elt [⟨tg,iter,ifs,0⟩] sc pos) xk) (OB (M9 own cap wi g tc te) (yX i)):=by
 intro pins s σ H D I h;rw[exec_Assign_Name_used _ _ _ _ BZ];refine ay (wc (ay (?_:wpAny _ _ _ _ _ _)))
 show wpAny _ X.A (do let _ <-comprehension (.ListComp elt [⟨tg,iter,ifs,0⟩] sc pos) sc X.env _ (newList []) false (eval iter X.env) (some (assign (.Name x px) X.env))) _ _ s
 refine ay (h8 (wpAny_comprehension_free (use:=some (assign (.Name x px) X.env)) (Q:=λ_ s'=>SP X pins D .next s') rfl hs (E6 CS.clos) CS.kind CS.loc
  (gD (hi pins s σ H _ I h) λv s1 h1=>gD h1 λUL s2 h2=>?_)) (λ_ s' hq=>a8 (a8 hq)) λ_ _ e=>e)
 obtain⟨it,fp,tn,J,H2,e,I2,T,RM,f2,q2⟩:=h2;subst e;refine zc (RR:=λacc C=>compPost (model X.prog X.w) X.A X.xe (some (assign (.Name x px) X.env)) (λ_ s'=>SP X pins D .next s') acc C) (Q:=λv H'=>yX i v σ H' D.nx) hc CS I2 T RM f2 hg ht he q2 ?_
 intro D' C H' s' I' ⟨m,hn⟩ fC q;show wpAny _ _ (assign (.Name x px) X.env (.ref D')) _ _ s';refine wpAny_assign_Name (yV I' hN SD hx (v:=.ref D') rfl (λKL I'' ⟨a,sb,ha⟩=>?_) hf)
 have QH:C≠a:=by
  rcases ha with z|z
  ·rw[z];exact fC.2.1
  ·exact λy=>fC.2.2.2.2.1 x a z y.symm
 exact⟨m,hn.sameBut sb QH,λh' sb'=>⟨_,H',I''.turned (t':=KL.toks) (λb o hb e=>(sb'.2 b hb).trans e) fC.1 fC.2.1 fC.2.2.2.1 fC.2.2.2.2.1 fC.2.2.2.2.2,q⟩⟩
end
def Zc(K:ai)(a:aK):It:=
 ⟨λi H=>∃xs x,kO K H a xs/\xs[i]?=some x,λi H v H'=>∃t x,v=.ref t/\H t=none/\H'=upd H t (.tup [.int i,x])/\∀xs,kO K H a xs->xs[i]?=some x,λi H=>∃xs,kO K H a xs/\xs.length<=i⟩
theorem F9{P:bo}{w:bX}{K:ai}{elts:List bR}{k}{tp:Pos}(a e it:aK)(QM:e≠it):Turn P w K (.Tuple elts k tp) (Zc K a) [e,it] e (λi h=>(∃old,IsEnum h e it (i:Nat) old)/\h.IsListIter it a i) where
 mem:=by simp
 obj:=λi h st b hb=>by
  obtain⟨⟨old,he⟩,⟨o,ho,c,d⟩⟩:=st;rcases aI.mp hb with z|z
  ·subst z
   exact⟨_,he,λv z=>by cases z⟩
  ·have z':b=it:=by simpa using z
   subst z';exact⟨o,ho,λv z=>by rw[d]at z;cases z⟩
 keep:=λi h h' st kp=>⟨let⟨old,he⟩:=st.1;⟨old,kp e (by simp) _ he⟩,st.2.at λo q=>kp it (by simp) o q⟩
 item:=by
  intro X hP hw hK hc i pins s σ H E I hf st hg;subst hP hw hK;obtain⟨⟨old,he⟩,hit⟩:=st;obtain⟨xs,x,hq,hx⟩:=hg;obtain⟨its,rv,p,hz⟩:=I.list hq;obtain⟨u,hu,ru⟩:=rv.get hx;refine wpAny_pyNext_enum_item he hit p.isList (x:=u) (by simpa using hu) QM λh1 MS Wo ht1 hz1 QN=>?_
  refine⟨.ref s.heap.objs.size,rfl,wpAny_letOwnedTupleGo_enum MS λh2 Wp pL=>?_⟩
  have elt:e<s.heap.objs.size:=aY he;have ilt:it<s.heap.objs.size:=by obtain⟨o,ho,_⟩:=id hit;exact aY ho
  have k2:∀b o,b∉[e,it]->s.heap.get? b=some o->h2.get? b=some o:=λb o hb q=>by
   have n1:b≠e:=λz=>hb (by simp[z])
   have n2:b≠it:=λz=>hb (by simp[z])
   exact(pL.2 b n1).trans (QN b o n1 n2 q)
  have I2:Inv X pins σ H { s with heap:=h2,toks:=s.toks+1 }:=I.wx k2 hf
  have Wq:h2.get? s.heap.objs.size=some { cls:=.type "tuple",data:=.seq #[.int i s.toks,u] }:=(pL.2 _ (fY elt)).trans ht1;have fT:tL X pins H s.heap.objs.size:=I.wM (aD _) I.fresh;have I3:Inv X pins σ (upd H s.heap.objs.size (.tup [.int i,x])) { s with heap:=h2,toks:=s.toks+1 }:=
   I2.track fT ⟨by show 2<=sizeLine;rw[dI];decide,[.int i s.toks,u],.cons ⟨_,rfl⟩ (.cons ru .nil),⟨_,Wq,rfl,_,rfl⟩⟩
  refine⟨.ref s.heap.objs.size,_,I3,rfl,⟨_,x,rfl,I.fresh,rfl,λys hy=>by rw[I.wK hy hq];exact hx⟩,⟨⟨_,by simpa using Wp⟩,Wo.at λo q=>(pL.2 it QM.symm).trans q⟩,λb hb=>?_⟩
  rcases aI.mp hb with z|z
  ·subst z
   rw[aR (aX elt)];exact(hf b hb).1
  ·have z':b=it:=by simpa using z
   subst z';rw[aR (aX ilt)];exact(hf b hb).1
 done:=by
  intro X hP hw hK hc i pins s σ H E I hf st hg;subst hP hw hK;obtain⟨⟨old,he⟩,hit⟩:=st;obtain⟨xs,hq,hx⟩:=hg;obtain⟨its,rv,p,hz⟩:=I.list hq;have hl:=rv.length;exact wpAny_pyNext_enum_end (I.ok.hd hc) he hit p.isList (by simp;omega) λh' eb=>⟨rfl,I.wx (ch:=[e,it]) (t':=s.toks) (λb o hb q=>eb b o (λz=>hb (by simp[z])) q) hf⟩
 self:=λ_ _ _ _ _ st h=>let⟨⟨_,he⟩,_⟩:=st;wpAny_pyIter_enum he h
def SF(K:ai)(ta:TA):TI:=λσ H R=>ta σ H λvs H1=>∃a,vs=[.ref a]/\(∃xs,kO K H1 a xs)/\R (Zc K a) H1
theorem Lf{X:Cx}{a:bR}{ta:TA}{p pos tp:Pos}{elts:List bR}{k}(hg:Gl X "enumerate")(hm:X.mg "enumerate"=none)(ha:PA X [a] ta)(hs:starEach [a] X.env=[(false,eval a X.env)]:=by rfl):
  PI X (.Tuple elts k tp) (.Call (.Name "enumerate" p) [a] [] pos) (SF X.K ta):=by
 intro pins s σ H R I h;refine Call_ (uN I hg hm boot_enumerate (iO (gD (ha pos pins s σ H _ I h) λus s1 ⟨vs,H1,I1,r1,q1⟩=>?_) hs rfl))
 obtain⟨l,e,⟨xs,hq⟩,q⟩:=q1;subst e;obtain⟨u,rfl,rx⟩:=vals1 r1;cases rx;obtain⟨its,rv,pl,hz⟩:=I1.list hq;refine call_enumerate_list pl.isList λh' he hit hsz hk=>wpAny_pyIter_enum he ?_
 have I2:Inv X pins σ H1 { s1 with heap:=h' }:=I1.kept (t':=s1.toks) hk
 refine⟨_,[s1.heap.objs.size+1,s1.heap.objs.size],_,_,H1,rfl,I2,F9 l _ _ (Nat.succ_ne_self _),⟨⟨_,he⟩,hit⟩,λb hb=>?_,q⟩
 rcases aI.mp hb with z|z
 ·subst z
  exact I1.wM (oJ _) (I1.hok.fresh (oJ _))
 ·have z':b=s1.heap.objs.size:=by simpa using z
  subst z';exact I1.wM (aD _) I1.fresh
def sx:Key->aj
 | .inl i=>.int i
 | .inr x=>.str x
mutual
inductive Rep(K:ai)(H:Hp):V->aj->Prop
 |non:Rep K H .non .none
 |bl (b:Bool):Rep K H (.bl b) (.bool b)
 |int (i:Int):Rep K H (.int i) (.int i)
 |str (x:Str):Rep K H (.str x) (.str x)
 |lst {a:aK} {xs:List V} {ds:List aj}:kO K H a xs->cO K H xs ds->Rep K H (.ref a) (.list ds)
 |tup {a:aK} {xs:List V} {ds:List aj}:og K H a xs->cO K H xs ds->Rep K H (.ref a) (.tuple ds)
 |dct {a:aK} {kvs:List (Key×V)} {ds:List (aj×aj)}:H a=some (.dK kvs)->ds.map (·.1)=kvs.map (λp=>sx p.1)->cO K H (kvs.map (·.2)) (ds.map (·.2))->Rep K H (.ref a) (.dict ds)
 |QO {a:aK} {kvs:List (List Key×V)} {ds:List (aj×aj)}:H a=some (.dT kvs)->ds.map (·.1)=kvs.map (λp=>fQ (p.1.map sx))->cO K H (kvs.map (·.2)) (ds.map (·.2))->Rep K H (.ref a) (.dict ((.none,.bool true)::ds))
 |obj {a C dx:aK} {fs:List (Str×V)} {ds:List (aj×aj)}:H a=some (.ins C dx fs)->BL K C->(∀f∈fs.map (·.1),jK K C f)->ds.map (·.1)=fs.map (λp=>aP p.1)->cO K H (fs.map (·.2)) (ds.map (·.2))->Rep K H (.ref a) (.dict ((.none,.none)::ds))
 |QP {a:aK} {o:Obj} {kvs:List (Key×V)} {ds:List (aj×aj)}:H a=some (.pZ o (.dK kvs))->ds.map (·.1)=kvs.map (λp=>sx p.1)->cO K H (kvs.map (·.2)) (ds.map (·.2))->Rep K H (.ref a) (.dict ((.none,.int 1)::ds))
inductive cO(K:ai)(H:Hp):List V->List aj->Prop
 |nil:cO K H [] []
 |cons {x:V} {d:aj} {xs:List V} {ds:List aj}:Rep K H x d->cO K H xs ds->cO K H (x::xs) (d::ds)
end
theorem dJ.oq{K:ai}{H H':Hp}{a:aK}{xs:List V}(e:dJ H H')(h:og K H a xs):og K H' a xs:=by
 rcases h with(h|⟨o,h⟩)|h
 ·exact .inl (.inl (e _ _ h))
 ·exact .inl (.inr ⟨o,e _ _ h⟩)
 ·exact .inr h
theorem Rep.mono{K:ai}{H H':Hp}(s:dJ H H'){d:aj}{v:V}(r:Rep K H v d):Rep K H' v d:=
 Rep.rec (motive_1:=λv d _=>Rep K H' v d) (motive_2:=λxs ds _=>cO K H' xs ds) .non (λb=>.bl b) (λi=>.int i) (λx=>.str x) (λh _ t=>.lst (s.seq h) t) (λh _ t=>.tup (s.oq h) t) (λh k _ t=>.dct (s _ _ h) k t) (λh k _ t=>.QO (s _ _ h) k t) (λh c n k _ t=>.obj (s _ _ h) c n k t) (λh k _ t=>.QP (s _ _ h) k t) .nil (λ_ _ a t=>.cons a t) r
theorem cO.mono{K:ai}{H H':Hp}(s:dJ H H'):∀{ds:List aj}{xs:List V},cO K H xs ds->cO K H' xs ds
 | [],_,r=>by cases r;exact .nil
 |d::ds,_,r=>by cases r with|cons a t=>exact .cons (a.mono s) (cO.mono s t)
section
variable{K:ai}{H:Hp}
theorem cO.length:∀{xs:List V}{ds:List aj},cO K H xs ds->xs.length=ds.length
 | [],_,r=>by cases r;rfl
 |x::xs,_,r=>by cases r with|cons a t=>simp[cO.length t]
theorem cO.get:∀{xs:List V}{ds:List aj}{i:Nat}{d:aj},cO K H xs ds->ds[i]?=some d->∃x,xs[i]?=some x/\Rep K H x d
 | [],_,_,_,r,e=>by cases r;simp at e
 |x::xs,_,i,d,r,e=>by
  cases r with
  |cons a t=>
   cases i with
   |zero=>simp at e;subst e;exact⟨x,rfl,a⟩
   |succ i=>simpa using cO.get (i:=i) t (by simpa using e)
theorem cO.at{xs:List V}{ds:List aj}{i:Nat}{d:aj}{x:V}(r:cO K H xs ds)(e:ds[i]?=some d)(h:xs[i]?=some x):Rep K H x d:=by
 obtain⟨y,h1,h2⟩:=r.get e;rw[h]at h1;cases h1;exact h2
theorem cO.append:∀{xs ys:List V}{ds es:List aj},cO K H xs ds->cO K H ys es->cO K H (xs++ys) (ds++es)
 | [],_,_,_,r,s=>by cases r;exact s
 |x::xs,_,_,_,r,s=>by cases r with|cons a t=>exact .cons a (cO.append t s)
theorem cO.take:∀{xs:List V}{ds:List aj}(n:Nat),cO K H xs ds->cO K H (xs.take n) (ds.take n)
 |_,_,0,_=>by simpa using cO.nil
 | [],_,_+1,r=>by cases r;exact .nil
 |x::xs,_,n+1,r=>by cases r with|cons a t=>exact .cons a (cO.take n t)
theorem cO.drop:∀{xs:List V}{ds:List aj}(n:Nat),cO K H xs ds->cO K H (xs.drop n) (ds.drop n)
 |_,_,0,r=>r
 | [],_,_+1,r=>by cases r;exact .nil
 |x::xs,_,n+1,r=>by cases r with|cons a t=>exact cO.drop n t
end
mutual
theorem iT{X:Cx}{pins:List (aK×Obj)}{σ:St}{H:Hp}{s:aF}(I:Inv X pins σ H s):∀(d:aj){v:V}{u:av},d.canLay0=true->Rep X.K H v d->RelV v u->∃as,Reads s.heap u d as
 | .none,_,_,_,r,q=>by cases r;cases q;exact⟨_,.none⟩
 | .bool b,_,_,_,r,q=>by cases r;cases q;exact⟨_,.bool b⟩
 | .int i,_,_,_,r,q=>by cases r;obtain⟨t,rfl⟩:=q;exact⟨_,.int i t⟩
 | .str x,_,_,_,r,q=>by cases r;obtain⟨t,rfl⟩:=q;exact⟨_,.str x t⟩
 | .list ds,_,_,hc,r,q=>by
  cases r with
  |lst h t=>
   cases q;obtain⟨its,rv,⟨o,n,e,c,_,dt⟩,_⟩:=I.list h;obtain⟨as,ra⟩:=ny I ds hc t rv;exact⟨_,.list e c dt (by simpa using ra)⟩
 | .tuple ds,_,_,hc,r,q=>by
  cases r with
  |tup h t=>
   cases q;obtain⟨its,rv,⟨o,e,c,n,dt⟩,_⟩:=I.tuple h;obtain⟨as,ra⟩:=ny I ds hc t rv;exact⟨_,.tuple e c dt (by simpa using ra)⟩
 | .dict _,_,_,hc,_,_=>by cases hc
theorem ny{X:Cx}{pins:List (aK×Obj)}{σ:St}{H:Hp}{s:aF}(I:Inv X pins σ H s):∀(ds:List aj){xs:List V}{us:List av},nH ds=true->cO X.K H xs ds->dS xs us->∃as,ReadsAll s.heap us ds as
 | [],_,_,_,r,q=>by cases r;cases q;exact⟨_,.nil⟩
 |d::ds,_,_,hc,r,q=>by
  have QI:(d.canLay0&&nH ds)=true:=hc;rw[pK]at QI;cases r with
  |cons a t=>
   cases q with
   |cons b w=>
    obtain⟨as,h1⟩:=iT I d QI.1 a b;obtain⟨bs,h2⟩:=ny I ds QI.2 t w;exact⟨_,.cons h1 h2⟩
end
def Lay(n:Nat)(d:aj):Prop:=d.canLay0=true/\d.depth<=n
inductive Slot where
 |un
 |val (d:aj)
 |own (ds:List aj)
 |ref (a:aK)
structure eA(H0 H ef H':Hp):Prop where
 big:dJ H H'
 gx:dJ H0 ef
 sub:dJ ef H'
 new:∀a,ef a≠none->H0 a≠none\/H a=none
theorem eA.refl{H0 H:Hp}(s:dJ H0 H):eA H0 H H0 H:=⟨dJ.refl _,dJ.refl _,s,λ_ h=>.inl h⟩
theorem dJ.ne{H H':Hp}(s:dJ H H'){a:aK}(h:H a≠none):H' a≠none:=by
 cases e:H a with
 |none=>exact absurd e h
 |some o=>rw[s a o e];simp
theorem eA.trans{A B C D E F:Hp}(x:eA A B C D)(y:eA C D E F):eA A B E F:=
 ⟨x.big.trans y.big,x.gx.trans y.gx,y.sub,λa h=>(y.new a h).elim (x.new a) λz=>.inr (x.big.free z)⟩
theorem eA.laid{H0 H:Hp}(s:dJ H0 H){p:aK}{o:HO}(h:H p=none):eA H0 H (upd H0 p o) (upd H p o):=by
 have h0:H0 p=none:=s.free h;refine⟨λb u e=>?_,λb u e=>?_,λb u e=>?_,λb e=>?_⟩
 ·rw[aR (bT e h)];exact e
 ·rw[aR (bT e h0)];exact e
 ·by_cases hb:b=p
  ·subst hb;rw[bB]at e ⊢;exact e
  ·rw[aR hb]at e ⊢;exact s b u e
 ·by_cases hb:b=p
  ·subst hb;exact .inr h
  ·rw[aR hb]at e;exact .inl e
theorem eA.loose{H0 H:Hp}(s:dJ H0 H){p:aK}{o:HO}(h:H p=none):eA H0 H H0 (upd H p o):=
 ⟨λb u e=>by rw[aR (bT e h)];exact e,dJ.refl _,λb u e=>by rw[aR (bT (s b u e) h)];exact s b u e,λ_ e=>.inl e⟩
def Ih(K:ai)(B H0 H:Hp):Slot->Option (Option V)->Prop
 | .un,_=>True
 | .val d,o=>∃v,o=some (some v)/\Rep K H0 v d
 | .own ds,o=>∃p xs,o=some (some (.ref p))/\H p=some (.lst xs)/\H0 p=none/\B p=none/\cO K H0 xs ds
 | .ref a,o=>o=some (some (.ref a))
structure hV(K:ai)(B0 B H0 H:Hp)(σ:St)(δ:List Slot):Prop where
 ent:eA B0 B H0 H
 len:σ.length=δ.length
 slot:∀(i:Nat)sl,δ[i]?=some sl->Ih K B H0 H sl σ[i]?
 apart:∀(i j:Nat)ds es p,i≠j->δ[i]?=some (.own ds)->δ[j]?=some (.own es)->σ[i]?=some (some (.ref p))->σ[j]?≠some (some (.ref p))
section
variable{K:ai}{B0 B H0 H ef H':Hp}{σ:St}{δ:List Slot}
theorem hV.sub(f:hV K B0 B H0 H σ δ):dJ H0 H:=f.ent.sub
theorem hV.grow(f:hV K B0 B H0 H σ δ)(g:eA H0 H ef H'):hV K B0 B ef H' σ δ:=by
 refine⟨f.ent.trans g,f.len,λi sl e=>?_,f.apart⟩
 have q:=f.slot i sl e;cases sl with
 |un=>trivial
 |ref a=>exact q
 |val d=>obtain⟨v,h1,h2⟩:=q;exact⟨v,h1,h2.mono g.gx⟩
 |own ds=>
  obtain⟨p,xs,h1,h2,h3,h4,h5⟩:=q;refine⟨p,xs,h1,g.big _ _ h2,?_,h4,h5.mono g.gx⟩
  cases e2:ef p with
  |none=>rfl
  |some o=>
   rcases g.new p (by rw[e2];simp)with z|z
   ·exact absurd h3 z
   ·rw[h2]at z;cases z
theorem hV.val(f:hV K B0 B H0 H σ δ){i:Nat}{d:aj}(h:δ[i]?=some (.val d)):∃v,σ[i]?=some (some v)/\Rep K H0 v d:=f.slot i _ h
theorem hV.set(f:hV K B0 B H0 H σ δ){i:Nat}{d:aj}{v:V}(r:Rep K H0 v d):hV K B0 B H0 H (σ.set i (some v)) (δ.set i (.val d)):=by
 refine⟨f.ent,by simp[f.len],λj sl e=>?_,λj k ds es p DN e1 e2 e3=>?_⟩
 ·by_cases hj:j=i
  ·subst hj
   have hl:j < δ.length:=by
    have:=(aM.mp e).1;simpa using this
   rw[bq hl]at e;cases e;rw[bq (by rw[f.len];exact hl)]
   exact⟨v,rfl,r⟩
  ·rw[a9 (bY hj)]at e
   rw[a9 (bY hj)];exact f.slot j sl e
 ·have nj:j≠i:=λz=>by
   subst z;have hl:j < δ.length:=by simpa using(aM.mp e1).1
   rw[bq hl]at e1;cases e1
  have nk:k≠i:=λz=>by
   subst z;have hl:k < δ.length:=by simpa using(aM.mp e2).1
   rw[bq hl]at e2;cases e2
  rw[a9 (bY nj)]at e1 e3;rw[a9 (bY nk)]at e2 ⊢;exact f.apart j k ds es p DN e1 e2 e3
theorem hV.Ak(f:hV K B0 B H0 H σ δ){i:Nat}{ds:List aj}{p:aK}{xs:List V}(h1:H p=some (.lst xs))(h2:H0 p=none)(h3:B p=none)(r:cO K H0 xs ds)(hn:∀(j:Nat)es,δ[j]?=some (.own es)->σ[j]?≠some (some (.ref p))):
  hV K B0 B H0 H (σ.set i (some (.ref p))) (δ.set i (.own ds)):=by
 refine⟨f.ent,by simp[f.len],λj sl e=>?_,λj k Gb es q DN e1 e2 e3=>?_⟩
 ·by_cases hj:j=i
  ·subst hj
   have hl:j < δ.length:=by simpa using(aM.mp e).1
   rw[bq hl]at e;cases e;rw[bq (by rw[f.len];exact hl)]
   exact⟨p,xs,rfl,h1,h2,h3,r⟩
  ·rw[a9 (bY hj)]at e
   rw[a9 (bY hj)];exact f.slot j sl e
 ·have hlj:j < δ.length:=by simpa using(aM.mp e1).1
  have Wr:k < δ.length:=by simpa using(aM.mp e2).1
  by_cases nj:j=i
  ·subst nj
   rw[bq (by rw[f.len];exact hlj)]at e3
   cases e3;rw[a9 DN]at e2 ⊢;exact hn k es e2
  ·rw[a9 (bY nj)]at e1 e3
   by_cases nk:k=i
   ·subst nk
    rw[bq (by rw[f.len];exact Wr)]
    intro z;cases z;exact hn j Gb e1 e3
   ·rw[a9 (bY nk)]at e2 ⊢
    exact f.apart j k Gb es q DN e1 e2 e3
theorem hV.push(f:hV K B0 B H0 H σ δ){i:Nat}{ds:List aj}{p:aK}{xs:List V}{y:V}{d:aj}(hi:δ[i]?=some (.own ds))(hp:σ[i]?=some (some (.ref p)))(h1:H p=some (.lst xs))(ry:Rep K H0 y d):
  hV K B0 B H0 (upd H p (.lst (xs ++ [y]))) σ (δ.set i (.own (ds ++ [d]))):=by
 obtain⟨p',xs',e1,e2,e3,e4,e5⟩:=f.slot i _ hi;rw[hp]at e1;cases e1;rw[h1]at e2;cases e2;have hl:i < δ.length:=(aM.mp hi).1;refine⟨⟨λb u e=>?_,f.ent.gx,λb u e=>?_,f.ent.new⟩,by simp[f.len],λj sl e=>?_,λj k Gb es q DN a1 a2 a3=>?_⟩
 ·have:b≠p:=bT e e4
  rw[aR this];exact f.ent.big b u e
 ·have:b≠p:=bT e e3
  rw[aR this];exact f.ent.sub b u e
 ·by_cases hj:j=i
  ·subst hj
   rw[bq hl]at e;cases e;exact⟨p,xs ++ [y],hp,bB,e3,e4,e5.append (.cons ry .nil)⟩
  ·rw[a9 (bY hj)]at e
   have q:=f.slot j sl e;cases sl with
   |un=>trivial
   |ref a=>exact q
   |val d=>exact q
   |own Gb=>
    obtain⟨p2,Ws,g1,g2,g3,g4,g5⟩:=q;have:p2≠p:=λz=>by subst z;exact f.apart i j ds Gb p2 (bY hj) hi e hp g1
    exact⟨p2,Ws,g1,by rw[aR this];exact g2,g3,g4,g5⟩
 ·have c1:∃QQ,δ[j]?=some (.own QQ):=by
   by_cases hj:j=i
   ·subst hj;exact⟨_,hi⟩
   ·rw[a9 (bY hj)]at a1;exact⟨_,a1⟩
  have c2:∃QQ,δ[k]?=some (.own QQ):=by
   by_cases hk:k=i
   ·subst hk;exact⟨_,hi⟩
   ·rw[a9 (bY hk)]at a2;exact⟨_,a2⟩
  obtain⟨d1,c1⟩:=c1;obtain⟨d2,c2⟩:=c2;exact f.apart j k d1 d2 q DN c1 c2 a3
theorem hV.freeze(f:hV K B0 B H0 H σ δ){i:Nat}{ds:List aj}{p:aK}{xs:List V}(hi:δ[i]?=some (.own ds))(hp:σ[i]?=some (some (.ref p)))(h1:H p=some (.lst xs)):
  hV K B0 B (upd H0 p (.lst xs)) H σ (δ.set i (.val (.list ds)))/\dJ H0 (upd H0 p (.lst xs)):=by
 obtain⟨p',xs',e1,e2,e3,e4,e5⟩:=f.slot i _ hi;rw[hp]at e1;cases e1;rw[h1]at e2;cases e2;have hl:i < δ.length:=(aM.mp hi).1;have sm:dJ H0 (upd H0 p (.lst xs)):=λb u e=>by rw[aR (bT e e3)];exact e
 refine⟨⟨⟨f.ent.big,f.ent.gx.trans sm,λb u e=>?_,λb e=>?_⟩,by simp[f.len],λj sl e=>?_,λj k Gb es q DN a1 a2 a3=>?_⟩,sm⟩
 ·by_cases hb:b=p
  ·subst hb;rw[bB]at e;rw[<-e];exact h1
  ·rw[aR hb]at e;exact f.ent.sub b u e
 ·by_cases hb:b=p
  ·subst hb;exact .inr e4
  ·rw[aR hb]at e;exact f.ent.new b e
 ·by_cases hj:j=i
  ·subst hj
   rw[bq hl]at e;cases e;exact⟨.ref p,hp,.lst (kO.of bB) (e5.mono sm)⟩
  ·rw[a9 (bY hj)]at e
   have q:=f.slot j sl e;cases sl with
   |un=>trivial
   |ref a=>exact q
   |val d=>obtain⟨v,g1,g2⟩:=q;exact⟨v,g1,g2.mono sm⟩
   |own Gb=>
    obtain⟨p2,Ws,g1,g2,g3,g4,g5⟩:=q;have:p2≠p:=λz=>by subst z;exact f.apart i j ds Gb p2 (bY hj) hi e hp g1
    exact⟨p2,Ws,g1,g2,by rw[aR this];exact g3,g4,g5.mono sm⟩
 ·have nj:j≠i:=λz=>by subst z;rw[bq hl]at a1;cases a1
  have nk:k≠i:=λz=>by subst z;rw[bq hl]at a2;cases a2
  rw[a9 (bY nj)]at a1;rw[a9 (bY nk)]at a2;exact f.apart j k Gb es q DN a1 a2 a3
end
def cE(X:Cx)(e:bR):TE:=λσ H Q=>∀pins s,Inv X pins σ H s->wpAny (model X.prog X.w) X.A (eval e X.env) (EP X pins σ Q) X.xe s
def cT(X:Cx)(e:bR):TT:=λσ H Q=>∀pins s,Inv X pins σ H s->wpAny (model X.prog X.w) X.A (isTrue e X.env (eval e X.env)) (TP X pins σ Q) X.xe s
def cS(X:Cx)(st:gZ):TS:=λD σ H=>∀pins s,Inv X pins σ H s->wpAny (model X.prog X.w) X.A (exec st X.env) (SP X pins D) X.xe s
def DP(X:Cx)(st:List gZ):TS:=λD σ H=>∀pins s,Inv X pins σ H s->wpAny (model X.prog X.w) X.A (execs st X.env) (SP X pins D) X.xe s
theorem dg{X:Cx}{e:bR}:PE X e (cE X e):=λpins s _ _ _ I h=>h pins s I
theorem o3{X:Cx}{e:bR}:PT X e (cT X e):=λpins s _ _ _ I h=>h pins s I
theorem Ii{X:Cx}{e:gZ}:PS X e (cS X e):=λpins s _ _ _ I h=>h pins s I
theorem ou{X:Cx}{e:List gZ}:EK X e (DP X e):=λpins s _ _ _ I h=>h pins s I
def VE(X:Cx)(e:bR)(δ:List Slot)(d:aj):Prop:=∀B0 B σ H0 H Q,hV X.K B0 B H0 H σ δ->(∀v ef H',eA H0 H ef H'->Rep X.K ef v d->Q v H')->cE X e σ H Q
def VO(X:Cx)(e:bR)(δ:List Slot)(ds:List aj):Prop:=∀B0 B σ H0 H Q,hV X.K B0 B H0 H σ δ->
 (∀p xs ef H',eA H0 H ef H'->H p=none->ef p=none->H' p=some (.lst xs)->cO X.K ef xs ds->Q (.ref p) H')->cE X e σ H Q
def VT(X:Cx)(e:bR)(δ:List Slot)(b:Bool):Prop:=∀B0 B σ H0 H Q,hV X.K B0 B H0 H σ δ->(∀ef H',eA H0 H ef H'->Q b H')->cT X e σ H Q
def VA(X:Cx)(es:List bR)(δ:List Slot)(ds:List aj):Prop:=∃t,PA X es t/\∀B0 B σ H0 H Q,hV X.K B0 B H0 H σ δ->(∀vs ef H',eA H0 H ef H'->cO X.K ef vs ds->Q vs H')->t σ H Q
theorem VE.of{X:Cx}{e:bR}{δ:List Slot}{d:aj}{t:TE}(h:PE X e t)(q:∀B0 B σ H0 H Q,hV X.K B0 B H0 H σ δ->(∀v ef H',eA H0 H ef H'->Rep X.K ef v d->Q v H')->t σ H Q):VE X e δ d:=
 λB0 B σ H0 H Q f k pins s I=>h pins s σ H Q I (q B0 B σ H0 H Q f k)
theorem VO.of{X:Cx}{e:bR}{δ:List Slot}{ds:List aj}{t:TE}(h:PE X e t)(q:∀B0 B σ H0 H Q,hV X.K B0 B H0 H σ δ->
  (∀p xs ef H',eA H0 H ef H'->H p=none->ef p=none->H' p=some (.lst xs)->cO X.K ef xs ds->Q (.ref p) H')->t σ H Q):VO X e δ ds:=
 λB0 B σ H0 H Q f k pins s I=>h pins s σ H Q I (q B0 B σ H0 H Q f k)
theorem VT.of{X:Cx}{e:bR}{δ:List Slot}{b:Bool}{t:TT}(h:PT X e t)(q:∀B0 B σ H0 H Q,hV X.K B0 B H0 H σ δ->(∀ef H',eA H0 H ef H'->Q b H')->t σ H Q):VT X e δ b:=
 λB0 B σ H0 H Q f k pins s I=>h pins s σ H Q I (q B0 B σ H0 H Q f k)
theorem VO.ve{X:Cx}{e:bR}{δ:List Slot}{ds:List aj}(h:VO X e δ ds):VE X e δ (.list ds):=λB0 B σ H0 H Q f k=>h B0 B σ H0 H Q f λp xs ef H' g h1 h2 h3 r=>by
 have sm:dJ ef (upd ef p (.lst xs)):=λb u e=>by rw[aR (bT e h2)];exact e
 refine k (.ref p) (upd ef p (.lst xs)) H' ⟨g.big,g.gx.trans sm,λb u e=>?_,λb e=>?_⟩ (.lst (kO.of bB) (r.mono sm))
 ·by_cases hb:b=p
  ·subst hb;rw[bB]at e;rw[<-e];exact h3
  ·rw[aR hb]at e;exact g.sub b u e
 ·by_cases hb:b=p
  ·subst hb;exact .inr h1
  ·rw[aR hb]at e;exact g.new b e
def yD(K:ai)(r:R2)(d1 d2 d:aj):Prop:=∀x y H0 H Q,dJ H0 H->Rep K H0 x d1->Rep K H0 y d2->(∀v ef H',eA H0 H ef H'->Rep K ef v d->Q v H')->r x y H Q
section
variable{X:Cx}{a b c e:bR}{δ:List Slot}{d d1 d2 d3:aj}{pos:Pos}
theorem ae(i:Nat){x:Str}(h:δ[i]?=some (.val d))(hN:X.N[i]?=some x:=by rfl)(hv:EH X.env.scope x:=by first|exact bj rfl|exact cP (bj rfl)|exact cP (cP rfl))(hd:(x==("__debug__":Str))=false:=by decide)
  (rJ:(x==("__classdict__":Str))=false:=by decide):VE X (.Name x pos) δ d:=
 .of (lU hN hv hd rJ) λB0 B σ H0 H Q f k=>let⟨v,h1,h2⟩:=f.val h;⟨v,h1,k v H0 H (.refl f.sub) h2⟩
theorem aA{i:Int}{j}:VE X (.Constant (.int i) j pos) δ (.int i):=.of Oo λ_ _ _ _ _ _ f k=>k _ _ _ (.refl f.sub) (.int i)
theorem B1{i:Bool}{j}:VE X (.Constant (.bool i) j pos) δ (.bool i):=.of Rz λ_ _ _ _ _ _ f k=>k _ _ _ (.refl f.sub) (.bl i)
theorem gk{j}:VE X (.Constant .none j pos) δ .none:=.of Oq λ_ _ _ _ _ _ f k=>k _ _ _ (.refl f.sub) .non
theorem aO{i:Str}{j}:VE X (.Constant (.str i) j pos) δ (.str i):=.of Ot λ_ _ _ _ _ _ f k=>k _ _ _ (.refl f.sub) (.str i)
theorem two_d{r:R2}(hd:yD X.K r d1 d2 d)(h1:VE X a δ d1)(h2:VE X b δ d2):∀B0 B σ H0 H Q,hV X.K B0 B H0 H σ δ->(∀v ef H',eA H0 H ef H'->Rep X.K ef v d->Q v H')->RN r (cE X a) (cE X b) σ H Q:=λB0 B σ H0 H Q f k=>
 h1 B0 B σ H0 H _ f λv H1 dU g1 r1=>h2 B0 B σ H1 dU _ (f.grow g1) λu H2 iS g2 r2=>hd v u H2 iS Q g2.sub (r1.mono g2.gx) r2 λw H3 wy g3 r3=>k w H3 wy ((g1.trans g2).trans g3) r3
theorem sy{op:Operator}{r:R2}(ho:qw X (binaryOp op) r)(hd:yD X.K r d1 d2 d)(h1:VE X a δ d1)(h2:VE X b δ d2):VE X (.BinOp a op b pos) δ d:=.of (ER ho dg dg) (two_d hd h1 h2)
theorem nM{op:Bm}{r:R2}(ho:qw X (compareOp op) r)(hd:yD X.K r d1 d2 d)(h1:VE X a δ d1)(h2:VE X b δ d2)(hm:behindInMarks op b=false):VE X (.Compare a [op] [b] pos) δ d:=.of (KC ho dg dg hm) (two_d hd h1 h2)
theorem iE{op:Bm}{r:R2}{k:Bool}(ho:qw X (compareOp op) r)(hd:yD X.K r d1 d2 (.bool k))(h1:VE X a δ d1)(h2:VE X b δ d2)(hm:behindInMarks op b=false):VT X (.Compare a [op] [b] pos) δ k:=
 .of (KD ho dg dg hm) λB0 B σ H0 H Q f q=>two_d hd h1 h2 B0 B σ H0 H _ f λv ef H' g r=>by cases r;exact⟨_,rfl,q ef H' g⟩
theorem DQ{r:R2}(ho:Ki X r)(hd:yD X.K r d1 d2 d)(h1:VE X a δ d1)(h2:VE X b δ d2)(hs:q_ b:=by intro _ _;rfl):VE X (.Subscript a b pos) δ d:=.of (M6 ho dg dg hs) (two_d hd h1 h2)
end
theorem SG{K:ai}{g:Int->Int->Int}(i j:Int):yD K (Kg λi j=>.int (g i j)) (.int i) (.int j) (.int (g i j)):=λx y H0 H Q s r1 r2 k=>by cases r1;cases r2;exact⟨_,_,rfl,rfl,k _ _ _ (.refl s) (.int _)⟩
theorem yE{K:ai}{g:Int->Int->Bool}(i j:Int):yD K (Kg λi j=>.bl (g i j)) (.int i) (.int j) (.bool (g i j)):=λx y H0 H Q s r1 r2 k=>by cases r1;cases r2;exact⟨_,_,rfl,rfl,k _ _ _ (.refl s) (.bl _)⟩
theorem Pm{K:ai}{C:Int->Int->Prop}{g:Int->Int->Int}(i j:Int)(h:C i j):yD K (rI C λi j=>.int (g i j)) (.int i) (.int j) (.int (g i j)):=λx y H0 H Q s r1 r2 k=>by cases r1;cases r2;exact⟨_,_,rfl,rfl,h,k _ _ _ (.refl s) (.int _)⟩
def Pn(K:ai)(n:Nat)(g:aj->aj->Bool):R2:=λx y H Q=>∃dx dy,Rep K H x dx/\Rep K H y dy/\Lay n dx/\Lay n dy/\Q (.bl (g dx dy)) H
theorem Ij{X:Cx}{n:Nat}(hu:X.A.units+n+2<cLine):qw X (compareOp .Eq) (Pn X.K n λx y=>du x y):=by
 intro pins s σ H x y v u Q I rx ry ⟨dx,dy,r1,r2,l1,l2,q⟩;obtain⟨as,ra⟩:=iT I dx l1.1 r1 rx;obtain⟨bs,rb⟩:=iT I dy l2.1 r2 ry;have h1:=l1.2;exact SeqAt.compareEq_reads ra rb l1.1 l2.1 (by omega) ⟨.bl _,H,I,rfl,q⟩
theorem Ik{X:Cx}{n:Nat}(hu:X.A.units+n+2<cLine):qw X (compareOp .NotEq) (Pn X.K n λx y=>!du x y):=by
 intro pins s σ H x y v u Q I rx ry ⟨dx,dy,r1,r2,l1,l2,q⟩;obtain⟨as,ra⟩:=iT I dx l1.1 r1 rx;obtain⟨bs,rb⟩:=iT I dy l2.1 r2 ry;have h1:=l1.2;exact SeqAt.neOverData X.prog X.w X.A X.xe s v u dx dy as bs _ ra rb l1.1 l2.1 (by omega) ⟨.bl _,H,I,rfl,q⟩
def tU(d:aj):aj->Bool
 | .list xs=>xs.any λy=>du y d
 | .tuple xs=>xs.any λy=>du y d
 |_=>false
def B2:aj->Bool
 | .list _=>true
 | .tuple _=>true
 |_=>false
def Pp(K:ai)(n:Nat)(neg:Bool):R2:=λx y H Q=>∃dx dy,Rep K H x dx/\Rep K H y dy/\B2 dy=true/\Lay n dx/\Lay n dy/\Q (.bl (if neg then !tU dx dy else tU dx dy)) H
theorem Il{X:Cx}{n:Nat}(hu:X.A.units+n+2<cLine):qw X (compareOp .In) (Pp X.K n false):=by
 intro pins s σ H x y v u Q I rx ry ⟨dx,dy,r1,r2,hs,l1,l2,q⟩;obtain⟨as,ra⟩:=iT I dx l1.1 r1 rx;obtain⟨bs,rb⟩:=iT I dy l2.1 r2 ry;have h1:=l1.2;cases dy with
 |list ys=>exact SeqAt.in_list_reads rb ra l2.1 l1.1 (by omega) ⟨.bl _,H,I,rfl,q⟩
 |tuple ys=>exact SeqAt.in_tuple_reads rb ra l2.1 l1.1 (by omega) ⟨.bl _,H,I,rfl,q⟩
 |_=>cases hs
theorem Gc{X:Cx}{n:Nat}(hu:X.A.units+n+2<cLine):qw X (compareOp .NotIn) (Pp X.K n true):=by
 intro pins s σ H x y v u Q I rx ry ⟨dx,dy,r1,r2,hs,l1,l2,q⟩;obtain⟨as,ra⟩:=iT I dx l1.1 r1 rx;obtain⟨bs,rb⟩:=iT I dy l2.1 r2 ry;have h1:=l1.2;cases dy with
 |list ys=>exact SeqAt.notIn_list_reads rb ra l2.1 l1.1 (by omega) ⟨.bl _,H,I,rfl,q⟩
 |tuple ys=>exact SeqAt.notIn_tuple_reads rb ra l2.1 l1.1 (by omega) ⟨.bl _,H,I,rfl,q⟩
 |_=>cases hs
theorem E7{K:ai}{n:Nat}{g:aj->aj->Bool}{d1 d2:aj}(l1:Lay n d1)(l2:Lay n d2):yD K (Pn K n g) d1 d2 (.bool (g d1 d2)):=λx y H0 H Q s r1 r2 k=>⟨d1,d2,r1.mono s,r2.mono s,l1,l2,k _ _ _ (.refl s) (.bl _)⟩
theorem Pq{K:ai}{n:Nat}{neg:Bool}{d1 d2:aj}(hs:B2 d2=true)(l1:Lay n d1)(l2:Lay n d2):yD K (Pp K n neg) d1 d2 (.bool (if neg then !tU d1 d2 else tU d1 d2)):=λx y H0 H Q s r1 r2 k=>
 ⟨d1,d2,r1.mono s,r2.mono s,hs,l1,l2,k _ _ _ (.refl s) (.bl _)⟩
theorem Wt{K:ai}{ds:List aj}{i:Int}{d:aj}(h:oO ds i=some d):yD K (UR K) (.list ds) (.int i) d:=λx y H0 H Q s r1 r2 k=>by
 cases r2;cases r1 with
 |lst hq r=>
  rename_i p xs
  have hl:=r.length;unfold oO at h;cases e:Kh ds.length i with
  |none=>rw[e]at h;cases h
  |some j=>
   rw[e]at h;obtain⟨v,hv,rv⟩:=r.get (i:=j) (d:=d) h;exact .inl ⟨p,xs,i,v,rfl,rfl,s.seq hq,by unfold oO;rw[hl,e];exact hv,k v _ _ (.refl s) rv⟩
theorem SJ{K:ai}{ds:List aj}{i:Int}{d:aj}(h:oO ds i=some d):yD K (UR K) (.tuple ds) (.int i) d:=λx y H0 H Q s r1 r2 k=>by
 cases r2;cases r1 with
 |tup hq r=>
  rename_i p xs
  have hl:=r.length;unfold oO at h;cases e:Kh ds.length i with
  |none=>rw[e]at h;cases h
  |some j=>
   rw[e]at h;obtain⟨v,hv,rv⟩:=r.get (i:=j) (d:=d) h;exact .inr (.inl ⟨p,xs,i,v,rfl,rfl,s.oq hq,by unfold oO;rw[hl,e];exact hv,k v _ _ (.refl s) rv⟩)
def SK(K:ai):R2:=λx y H Q=>∃l b xs zs,x=.ref l/\y=.ref b/\kO K H l xs/\kO K H b zs/\xs.length+zs.length<=sizeLine/\∀p,H p=none->Q (.ref p) (upd H p (.lst (xs++zs)))
theorem Lg{X:Cx}:qw X (binaryOp .Add) (SK X.K):=by
 intro pins s σ H x y v u Q I rx ry h;obtain⟨l,b,xs,zs,rfl,rfl,hl,hb,hz,q⟩:=h;cases rx;cases ry;obtain⟨its,r1,⟨⟨cls,dd,data,sl⟩,n,e1,c1,_,d1⟩,z1⟩:=I.list hl;obtain⟨F1,r2,⟨⟨V2,UM,data2,UN⟩,n2,e2,c2,_,d2⟩,z2⟩:=I.list hb;simp only at c1 d1 c2 d2;subst c1 d1 c2 d2;have l1:=r1.length;have l2:=r2.length;refine concat_meets ⟨_,e1,rfl⟩ ⟨_,e2,rfl⟩ noFill_list_add seq_list_add PySem.F.slot_list_add PySem.F.entry_list_add (PySem.F.args_list_add_2 _ _) (list_addW l b its.toArray F1.toArray n n2 dd UM sl UN (by rw[bu,bu];omega)) ⟨e1,e2,?_⟩
 rw[show its.toArray++F1.toArray=(its++F1).toArray by simp]
 exact⟨.ref _,_,I.V5 (t':=s.toks) (r1.append r2) (by rw[a7];omega),rfl,q _ I.fresh⟩
section
variable{X:Cx}{a b c e:bR}{es:List bR}{δ:List Slot}{d d1 d2 d3:aj}{ds:List aj}{pos:Pos}{i j:Int}{k:Nat}
theorem cI(h1:VE X a δ (.int i))(h2:VE X b δ (.int j)):VE X (.BinOp a .Add b pos) δ (.int (i+j)):=sy OJ (SG i j) h1 h2
theorem Im(h1:VE X a δ (.int i))(h2:VE X b δ (.int j)):VE X (.BinOp a .Sub b pos) δ (.int (i-j)):=sy OL (SG i j) h1 h2
theorem nO(h1:VE X a δ (.int i))(h2:VE X b δ (.int j))(h:Ky i j):VE X (.BinOp a .Mult b pos) δ (.int (i*j)):=sy OO (Pm i j h) h1 h2
theorem cv(h1:VE X a δ (.int i))(h2:VE X b δ (.int j))(h:0<j):VE X (.BinOp a .Mod b pos) δ (.int (i%j)):=sy OQ (Pm i j h) h1 h2
theorem eP(h1:VE X a δ (.int i))(h2:VE X b δ (.int j))(h:RQ i j):VE X (.BinOp a .FloorDiv b pos) δ (.int (i/j)):=sy Kz (Pm i j h) h1 h2
theorem SM(h1:VE X a δ (.int i))(h2:VE X b δ (.int j)):VE X (.Compare a [.LtE] [b] pos) δ (.bool (decide (i<=j))):=nM BJ (yE i j) h1 h2 (fU _)
theorem M_(h1:VE X a δ (.int i))(h2:VE X b δ (.int j)):VE X (.Compare a [.Gt] [b] pos) δ (.bool (decide (j<i))):=nM M4 (yE i j) h1 h2 (fU _)
theorem SN(h1:VE X a δ (.int i))(h2:VE X b δ (.int j)):VE X (.Compare a [.GtE] [b] pos) δ (.bool (decide (j<=i))):=nM M5 (yE i j) h1 h2 (fU _)
theorem B3(h1:VE X a δ (.int i))(h2:VE X b δ (.int j)):VT X (.Compare a [.Lt] [b] pos) δ (decide (i<j)):=iE RT (yE i j) h1 h2 (fU _)
theorem xl(h1:VE X a δ (.int i))(h2:VE X b δ (.int j)):VT X (.Compare a [.Gt] [b] pos) δ (decide (j<i)):=iE M4 (yE i j) h1 h2 (fU _)
theorem Nb(h1:VE X a δ (.int i))(h2:VE X b δ (.int j)):VT X (.Compare a [.GtE] [b] pos) δ (decide (j<=i)):=iE M5 (yE i j) h1 h2 (fU _)
theorem Al(hr:fc k X.A):X.A.units+20+2<cLine:=by have:=hr.un;omega
theorem bQ(hr:fc k X.A)(l1:Lay 20 d1)(l2:Lay 20 d2)(h1:VE X a δ d1)(h2:VE X b δ d2):VT X (.Compare a [.Eq] [b] pos) δ (du d1 d2):=iE (Ij (Al hr)) (E7 l1 l2) h1 h2 (fU _)
theorem qD(hr:fc k X.A)(l1:Lay 20 d1)(l2:Lay 20 d2)(h1:VE X a δ d1)(h2:VE X b δ d2):VT X (.Compare a [.NotEq] [b] pos) δ (!du d1 d2):=iE (Ik (Al hr)) (E7 l1 l2) h1 h2 (fU _)
theorem ow(hr:fc k X.A)(l1:Lay 20 d1)(l2:Lay 20 d2)(h1:VE X a δ d1)(h2:VE X b δ d2):VE X (.Compare a [.Eq] [b] pos) δ (.bool (du d1 d2)):=nM (Ij (Al hr)) (E7 l1 l2) h1 h2 (fU _)
theorem SQ(hr:fc k X.A)(hs:B2 d2=true)(l1:Lay 20 d1)(l2:Lay 20 d2)(h1:VE X a δ d1)(h2:VE X b δ d2)(hm:behindInMarks .In b=false:=by with_unfolding_all rfl):VT X (.Compare a [.In] [b] pos) δ (tU d1 d2):=iE (Il (Al hr)) (Pq (neg:=false) hs l1 l2) h1 h2 hm
theorem Io(hr:fc k X.A)(hs:B2 d2=true)(l1:Lay 20 d1)(l2:Lay 20 d2)(h1:VE X a δ d1)(h2:VE X b δ d2)(hm:behindInMarks .NotIn b=false:=by with_unfolding_all rfl):VT X (.Compare a [.NotIn] [b] pos) δ (!tU d1 d2):=iE (Gc (Al hr)) (Pq (neg:=true) hs l1 l2) h1 h2 hm
theorem gY(h1:VE X a δ (.list ds))(h2:VE X b δ (.int i))(h:oO ds i=some d)(hs:q_ b:=by intro _ _;rfl):VE X (.Subscript a b pos) δ d:=DQ Ad (Wt h) h1 h2 hs
theorem bW(h1:VE X a δ (.tuple ds))(h2:VE X b δ (.int i))(h:oO ds i=some d)(hs:q_ b:=by intro _ _;rfl):VE X (.Subscript a b pos) δ d:=DQ Ad (SJ h) h1 h2 hs
theorem qE:PT X e (λ_ _ _=>False):=λ_ _ _ _ _ _ h=>h.elim
theorem qF{k:Bool}(h:VT X a δ k):VT X (.UnaryOp .Not a pos) δ (!k):=.of (Ov o3) λB0 B σ H0 H Q f q=>h B0 B σ H0 H _ f q
theorem sA{k1 k2:Bool}(h1:VT X a δ k1)(h2:k1=true->VT X b δ k2):VT X (.BoolOp .And [a,b] pos) δ (k1&&k2):=by
 cases k1 with
 |true=>
  exact .of (pw_and o3 (pw_and1 o3)).pt λB0 B σ H0 H Q f q=>h1 B0 B σ H0 H _ f λH1 dU g=>by
   rw[if_pos rfl];exact h2 rfl B0 B σ H1 dU _ (f.grow g) λH2 iS g2=>q H2 iS (g.trans g2)
 |false=>
  exact .of (pw_and o3 (pw_and1 qE)).pt λB0 B σ H0 H Q f q=>h1 B0 B σ H0 H _ f λH1 dU g=>by
   rw[if_neg cu];exact q H1 dU g
theorem jx{k1 k2:Bool}(h1:VT X a δ k1)(h2:k1=false->VT X b δ k2):VT X (.BoolOp .Or [a,b] pos) δ (k1||k2):=by
 cases k1 with
 |false=>
  exact .of (pw_or o3 (pw_or1 o3)).pt λB0 B σ H0 H Q f q=>h1 B0 B σ H0 H _ f λH1 dU g=>by
   rw[if_neg cu];exact h2 rfl B0 B σ H1 dU _ (f.grow g) λH2 iS g2=>q H2 iS (g.trans g2)
 |true=>
  exact .of (pw_or o3 (pw_or1 qE)).pt λB0 B σ H0 H Q f q=>h1 B0 B σ H0 H _ f λH1 dU g=>by
   rw[if_pos rfl];exact q H1 dU g
theorem Am{k1 k2 k3:Bool}(h1:VT X a δ k1)(h2:k1=false->VT X b δ k2)(h3:k1=false->k2=false->VT X c δ k3):VT X (.BoolOp .Or [a,b,c] pos) δ (k1||(k2||k3)):=by
 cases k1 with
 |true=>
  exact .of (pw_or o3 (pw_or qE (pw_or1 qE))).pt λB0 B σ H0 H Q f q=>h1 B0 B σ H0 H _ f λH1 dU g=>by
   rw[if_pos rfl];exact q H1 dU g
 |false=>
  cases k2 with
  |true=>
   exact .of (pw_or o3 (pw_or o3 (pw_or1 qE))).pt λB0 B σ H0 H Q f q=>h1 B0 B σ H0 H _ f λH1 dU g=>by
    rw[if_neg cu];refine h2 rfl B0 B σ H1 dU _ (f.grow g) λH2 iS g2=>?_
    rw[if_pos rfl];exact q H2 iS (g.trans g2)
  |false=>
   exact .of (pw_or o3 (pw_or o3 (pw_or1 o3))).pt λB0 B σ H0 H Q f q=>h1 B0 B σ H0 H _ f λH1 dU g=>by
    rw[if_neg cu];refine h2 rfl B0 B σ H1 dU _ (f.grow g) λH2 iS g2=>?_
    rw[if_neg cu];exact h3 rfl rfl B0 B σ H2 iS _ ((f.grow g).grow g2) λH3 wy g3=>q H3 wy ((g.trans g2).trans g3)
def Wu:aj->Option Bool
 | .none=>some false
 | .bool b=>some b
 | .int i=>some (i != 0)
 | .list ds=>some (!ds.isEmpty)
 | .tuple ds=>some (!ds.isEmpty)
 |_=>none
theorem cO.empty{K:ai}{H:Hp}{xs:List V}{ds:List aj}(r:cO K H xs ds):xs.isEmpty=ds.isEmpty:=by cases r<;>rfl
theorem jy{t:Bool}(h:VE X a δ d)(ht:Wu d=some t)(he:∀whole,isTrue a X.env whole=(do let v <-whole;standAt a.pos;holding [v] (truthy v)):=by intro _;rfl):VT X a δ t:=
 .of (HD dg he) λB0 B σ H0 H Q f q=>h B0 B σ H0 H _ f λv H1 dU g r=>by
  refine⟨t,?_,q H1 dU g⟩
  cases r with
  |non=>cases ht;exact(rfl:false=false)
  |bl b=>cases ht;exact(rfl:t=t)
  |int i=>cases ht;exact(rfl:(i != 0)=(i != 0))
  |str x=>cases ht
  |lst hq r=>cases ht;exact .inl ⟨_,g.sub.seq hq,by rw[r.empty]⟩
  |tup hq r=>cases ht;exact .inr (.inl ⟨_,g.sub.oq hq,by rw[r.empty]⟩)
  |dct _ _ _=>cases ht
  |QO _ _ _=>cases ht
  |obj _ _ _ _ _=>cases ht
  |QP _ _ _=>cases ht
theorem An{k:Bool}(h:VT X c δ k)(h1:k=true->VE X a δ d)(h2:k=false->VE X b δ d):VE X (.IfExp c a b pos) δ d:=
 .of (Hw o3 dg dg) λB0 B σ H0 H Q f q=>h B0 B σ H0 H _ f λH1 dU g=>by
  cases k with
  |true=>
   rw[if_pos rfl];exact h1 rfl B0 B σ H1 dU _ (f.grow g) λv H2 iS g2 r=>q v H2 iS (g.trans g2) r
  |false=>
   rw[if_neg cu];exact h2 rfl B0 B σ H1 dU _ (f.grow g) λv H2 iS g2 r=>q v H2 iS (g.trans g2) r
theorem aQ:VA X [] δ []:=⟨_,gi,λ_ _ _ _ _ _ f q=>q _ _ _ (.refl f.sub) .nil⟩
theorem aq(h:VE X e δ d)(hr:VA X es δ ds)(hs:starEach (e::es) X.env=(false,eval e X.env)::starEach es X.env:=by rfl):VA X (e::es) δ (d::ds):=by
 obtain⟨t,p,ht⟩:=hr;exact⟨_,dR dg p hs,λB0 B σ H0 H Q f q=>h B0 B σ H0 H _ f λv H1 dU g r=>ht B0 B σ H1 dU _ (f.grow g) λvs H2 iS g2 rs=>q _ _ _ (g.trans g2) (.cons (r.mono g2.gx) rs)⟩
theorem eV{x1}(h:VA X es δ ds)(hz:ds.length<=sizeLine:=by(simp only[fD];rw[dI];decide)):VE X (.Tuple es x1 pos) δ (.tuple ds):=by
 obtain⟨t,p,ht⟩:=h;exact .of (DI p) λB0 B σ H0 H Q f q=>ht B0 B σ H0 H _ f λvs H1 dU g r=>⟨by rw[r.length];exact hz,λa ha=>q _ _ _ (g.trans (.laid g.sub ha)) (.tup (og.of bB) (r.mono (eA.laid g.sub ha).gx))⟩
theorem fG(h:VA X es δ ds)(hz:ds.length<=sizeLine:=by(simp only[fD];rw[dI];decide)):VO X (.List es pos) δ ds:=by
 obtain⟨t,p,ht⟩:=h;exact .of (z8 p) λB0 B σ H0 H Q f q=>ht B0 B σ H0 H _ f λvs H1 dU g r=>⟨by rw[r.length];exact hz,λa ha=>q a vs H1 _ (g.trans (.loose g.sub ha)) (g.big.free ha) (g.sub.free ha) bB r⟩
def cutD{α:Type}(xs:List α)(lo hi:Option Int):List α:=(xs.drop (HT.kN xs.length 0 lo)).take (HT.kN xs.length xs.length hi-HT.kN xs.length 0 lo)
theorem cO.cut{K:ai}{H:Hp}{xs:List V}(r:cO K H xs ds)(lo hi:Option Int):cO K H (BQ xs lo hi) (cutD ds lo hi):=by
 unfold BQ cutD;rw[r.length];exact(r.drop _).take _
inductive rS(X:Cx)(δ:List Slot):Option bR->Option Int->Prop
 |no:rS X δ none none
 |yes {e:bR} {i:Int}:VE X e δ (.int i)->rS X δ (some e) (some i)
theorem rS.ok{o:Option bR}{p:Option Int}(h:rS X δ o p):∃t,PO X o t/\∀B0 B σ H0 H Q,hV X.K B0 B H0 H σ δ->(∀ef H',eA H0 H ef H'->Q p H')->t σ H Q:=by
 cases h with
 |no=>exact⟨_,KQ,λ_ _ _ _ _ _ f q=>q _ _ (.refl f.sub)⟩
 |yes h=>exact⟨_,KR dg,λB0 B σ H0 H Q f q=>h B0 B σ H0 H _ f λv H1 dU g r=>by cases r;exact⟨_,rfl,q _ _ g⟩⟩
theorem gM{lo hi:Option bR}{l u:Option Int}{p2:Pos}(h:VE X a δ (.list ds))(hl:rS X δ lo l)(hh:rS X δ hi u):VO X (.Subscript a (.Slice lo hi none p2) pos) δ (cutD ds l u):=by
 obtain⟨tl,pl,ql⟩:=hl.ok;obtain⟨th,ph,qh⟩:=hh.ok;refine .of (wX KZ dg pl ph) λB0 B σ H0 H Q f q=>h B0 B σ H0 H _ f λv H1 dU g r=>ql B0 B σ H1 dU _ (f.grow g) λH2 iS g2=>qh B0 B σ H2 iS _ ((f.grow g).grow g2) λH3 wy g3=>?_
 cases r with
 |lst hq r=>
  refine⟨_,_,rfl,g3.sub.seq ((g2.gx.trans g3.gx).seq hq),λp hp=>?_⟩
  have gg:=(g.trans g2).trans g3;exact q p _ H3 _ (gg.trans (.loose g3.sub hp)) (gg.big.free hp) (g3.sub.free hp) bB ((r.mono (g2.gx.trans g3.gx)).cut l u)
theorem uS{lo hi:Option bR}{l u:Option Int}{p2:Pos}(h:VE X a δ (.tuple ds))(hl:rS X δ lo l)(hh:rS X δ hi u)(hw:¬(HT.kN ds.length 0 l=0/\HT.kN ds.length ds.length u=ds.length)):
  VE X (.Subscript a (.Slice lo hi none p2) pos) δ (.tuple (cutD ds l u)):=by
 obtain⟨tl,pl,ql⟩:=hl.ok;obtain⟨th,ph,qh⟩:=hh.ok;refine .of (wX O1 dg pl ph) λB0 B σ H0 H Q f q=>h B0 B σ H0 H _ f λv H1 dU g r=>ql B0 B σ H1 dU _ (f.grow g) λH2 iS g2=>qh B0 B σ H2 iS _ ((f.grow g).grow g2) λH3 wy g3=>?_
 cases r with
 |tup hq r=>
  refine⟨_,_,rfl,g3.sub.oq ((g2.gx.trans g3.gx).oq hq),by rw[r.length];exact hw,λp hp=>?_⟩
  have gg:=(g.trans g2).trans g3;exact q _ _ _ (gg.trans (.laid g3.sub hp)) (.tup (og.of bB) (((r.mono (g2.gx.trans g3.gx)).cut l u).mono (eA.laid g3.sub hp).gx))
def mN(K:ai)(r:List V->Hp->VK->Prop)(ds:List aj)(d:aj):Prop:=∀vs H0 H Q,dJ H0 H->cO K H0 vs ds->(∀v ef H',eA H0 H ef H'->Rep K ef v d->Q v H')->r vs H Q
def Ip(K:ai)(r:List V->Hp->VK->Prop)(ds es:List aj):Prop:=∀vs H0 H Q,dJ H0 H->cO K H0 vs ds->
 (∀p xs ef H',eA H0 H ef H'->H p=none->ef p=none->H' p=some (.lst xs)->cO K ef xs es->Q (.ref p) H')->r vs H Q
theorem iU{x:Str}{id:String}{r:List V->Hp->VK->Prop}{p:Pos}(hc:jh X (.builtin id) r)(hd:mN X.K r ds d)(ha:VA X (e::es) δ ds)(hm:X.mg x=none)(hv:bootBuiltins x=some (.builtin id))(hg:Gl X x:=by rfl)(hn:x≠"__name__":=by decide)(qx:(x==("__debug__":Str))=false:=by decide)
  (he:starEach (e::es) X.env=(false,eval e X.env)::starEach es X.env:=by rfl)(qy:(backTo pos (starEach es X.env)).any (·.1)=false:=by rfl):VE X (.Call (.Name x p) (e::es) [] pos) δ d:=by
 obtain⟨t,pa,ht⟩:=ha;exact .of (wV hc hg hm hv pa hn qx he qy) λB0 B σ H0 H Q f q=>ht B0 B σ H0 H _ f λvs H1 dU g r=>hd vs H1 dU Q g.sub r λv H2 iS g2 r2=>q v H2 iS (g.trans g2) r2
theorem ja{x:Str}{id:String}{r:List V->Hp->VK->Prop}{p:Pos}(hc:jh X (.type id) r)(hd:mN X.K r ds d)(ha:VA X (e::es) δ ds)(hm:X.mg x=none)(hv:bootBuiltins x=some (.type id))(hg:Gl X x:=by rfl)(hn:x≠"__name__":=by decide)(qx:(x==("__debug__":Str))=false:=by decide)
  (he:starEach (e::es) X.env=(false,eval e X.env)::starEach es X.env:=by rfl)(qy:(backTo pos (starEach es X.env)).any (·.1)=false:=by rfl):VE X (.Call (.Name x p) (e::es) [] pos) δ d:=by
 obtain⟨t,pa,ht⟩:=ha;exact .of (kZ hc hg hm hv pa hn qx he qy) λB0 B σ H0 H Q f q=>ht B0 B σ H0 H _ f λvs H1 dU g r=>hd vs H1 dU Q g.sub r λv H2 iS g2 r2=>q v H2 iS (g.trans g2) r2
theorem zh{x:Str}{id:String}{r:List V->Hp->VK->Prop}{p:Pos}{zs:List aj}(hc:jh X (.type id) r)(hd:Ip X.K r ds zs)(ha:VA X (e::es) δ ds)(hm:X.mg x=none)(hv:bootBuiltins x=some (.type id))(hg:Gl X x:=by rfl)(hn:x≠"__name__":=by decide)(qx:(x==("__debug__":Str))=false:=by decide)
  (he:starEach (e::es) X.env=(false,eval e X.env)::starEach es X.env:=by rfl)(qy:(backTo pos (starEach es X.env)).any (·.1)=false:=by rfl):VO X (.Call (.Name x p) (e::es) [] pos) δ zs:=by
 obtain⟨t,pa,ht⟩:=ha;exact .of (kZ hc hg hm hv pa hn qx he qy) λB0 B σ H0 H Q f q=>ht B0 B σ H0 H _ f λvs H1 dU g r=>hd vs H1 dU Q g.sub r λv xs H2 iS g2 a1 a2 a3 a4=>q v xs H2 iS (g.trans g2) (g.big.free a1) a2 a3 a4
theorem cO.one{K:ai}{H:Hp}{vs:List V}(r:cO K H vs [d]):∃v,vs=[v]/\Rep K H v d:=by
 cases r with|cons a t=>cases t;exact⟨_,rfl,a⟩
theorem cO.two{K:ai}{H:Hp}{vs:List V}(r:cO K H vs [d1,d2]):∃v w,vs=[v,w]/\Rep K H v d1/\Rep K H w d2:=by
 cases r with|cons a t=>cases t with|cons b t=>cases t;exact⟨_,_,rfl,a,b⟩
theorem SR{K:ai}:mN K (λxs H Q=>∃p ys,xs=[.ref p]/\(kO K H p ys\/og K H p ys)/\Q (.int ys.length) H) [.list ds] (.int ds.length):=λvs H0 H Q s r k=>by
 obtain⟨v,rfl,r1⟩:=r.one;cases r1 with|lst hq r=>exact⟨_,_,rfl,.inl (s.seq hq),k _ _ _ (.refl s) (by rw[r.length];exact .int _)⟩
theorem Pr{K:ai}:mN K (λxs H Q=>∃p ys,xs=[.ref p]/\(kO K H p ys\/og K H p ys)/\Q (.int ys.length) H) [.tuple ds] (.int ds.length):=λvs H0 H Q s r k=>by
 obtain⟨v,rfl,r1⟩:=r.one;cases r1 with|tup hq r=>exact⟨_,_,rfl,.inr (s.oq hq),k _ _ _ (.refl s) (by rw[r.length];exact .int _)⟩
theorem Pt{K:ai}:Ip K (λxs H Q=>∃p ys,xs=[.ref p]/\(kO K H p ys\/og K H p ys)/\∀l,H l=none->Q (.ref l) (upd H l (.lst ys))) [.list ds] ds:=λvs H0 H Q s r k=>by
 obtain⟨v,rfl,r1⟩:=r.one;cases r1 with|lst hq r=>exact⟨_,_,rfl,.inl (s.seq hq),λl hl=>k l _ H0 _ (.loose s hl) hl (s.free hl) bB r⟩
theorem tV{K:ai}:mN K (λxs H Q=>∃p ys,xs=[.ref p]/\((kO K H p ys/\∀l,H l=none->Q (.ref l) (upd H l (.tup ys)))\/(og K H p ys/\Q (.ref p) H))) [.list ds] (.tuple ds):=λvs H0 H Q s r k=>by
 obtain⟨v,rfl,r1⟩:=r.one;cases r1 with|lst hq r=>exact⟨_,_,rfl,.inl ⟨s.seq hq,λl hl=>k _ _ _ (.laid s hl) (.tup (og.of bB) (r.mono (eA.laid s hl).gx))⟩⟩
theorem jz{p:Pos}(h:VE X a δ (.list ds))(hm:X.mg "len"=none)(hg:Gl X "len":=by rfl)(hs:starEach [a] X.env=(false,eval a X.env)::starEach [] X.env:=by rfl):VE X (.Call (.Name "len" p) [a] [] pos) δ (.int ds.length):=iU tN SR (aq h aQ hs) hm rH hg (he:=hs)
theorem jU{p:Pos}(h:VE X a δ (.tuple ds))(hm:X.mg "len"=none)(hg:Gl X "len":=by rfl)(hs:starEach [a] X.env=(false,eval a X.env)::starEach [] X.env:=by rfl):VE X (.Call (.Name "len" p) [a] [] pos) δ (.int ds.length):=iU tN Pr (aq h aQ hs) hm rH hg (he:=hs)
theorem nP{d1 d2:List aj}(h1:VE X a δ (.list d1))(h2:VE X b δ (.list d2))(hz:d1.length+d2.length<=sizeLine):VO X (.BinOp a .Add b pos) δ (d1++d2):=by
 refine .of (ER Lg dg dg) λB0 B σ H0 H Q f q=>h1 B0 B σ H0 H _ f λv H1 dU g1 r1=>h2 B0 B σ H1 dU _ (f.grow g1) λu H2 iS g2 r2=>?_
 cases r1 with
 |lst hq r1=>
  cases r2 with
  |lst DS r2=>
   have gg:=g1.trans g2;refine⟨_,_,_,_,rfl,rfl,g2.sub.seq (g2.gx.seq hq),g2.sub.seq DS,by rw[r1.length,r2.length];exact hz,λp hp=>?_⟩
   exact q p _ H2 _ (gg.trans (.loose g2.sub hp)) (gg.big.free hp) (g2.sub.free hp) bB ((r1.mono g2.gx).append r2)
end
inductive DT where
 |one (i:Nat)
 |tup (is:List Nat)
def DU:List Nat->M0
 | []=>RG
 |i::r=>M3 (yX i) (DU r)
def Kk(K:ai):DT->TG
 | .one i=>yX i
 | .tup is=>RH K is.length (DU is)
def o4:List Nat->List aj->List Slot->List Slot
 |i::r,d::ds,δ=>o4 r ds (δ.set i (.val d))
 |_,_,δ=>δ
def yF:DT->aj->List Slot->Option (List Slot)
 | .one i,d,δ=>some (δ.set i (.val d))
 | .tup is,.tuple ds,δ=>if ds.length=is.length then some (o4 is ds δ)else none
 |_,_,_=>none
section
variable{K:ai}{B0 B H0 H:Hp}
theorem B4:∀{is:List Nat}{xs:List V}{ds:List aj}{σ:St}{δ:List Slot}{Q:St->Hp->Prop},hV K B0 B H0 H σ δ->cO K H0 xs ds->ds.length=is.length->(∀σ',hV K B0 B H0 H σ' (o4 is ds δ)->Q σ' H)->DU is xs σ H Q
 | [],xs,ds,σ,δ,Q,f,r,hl,q=>by
  have:ds=[]:=lY hl;subst this;cases r;exact⟨rfl,q σ f⟩
 |i::is,xs,ds,σ,δ,Q,f,r,hl,q=>by
  cases r with
  |nil=>cases hl
  |cons a t=>exact⟨_,_,rfl,B4 (is:=is) (f.set a) t (by simpa using hl) q⟩
theorem qG{tgt:DT}{d:aj}{v:V}{σ:St}{δ δ':List Slot}{Q:St->Hp->Prop}(f:hV K B0 B H0 H σ δ)(r:Rep K H0 v d)(h:yF tgt d δ=some δ')(q:∀σ',hV K B0 B H0 H σ' δ'->Q σ' H):Kk K tgt v σ H Q:=by
 cases tgt with
 |one i=>cases h;exact q _ (f.set r)
 |tup is=>
  cases r with
  |tup hq r=>
   rename_i ds
   have h':(if ds.length=is.length then some (o4 is ds δ)else none)=some δ':=h
   by_cases hl:ds.length=is.length
   ·rw[if_pos hl]at h'
    cases h';exact⟨_,_,rfl,f.sub.oq hq,by rw[r.length,hl],B4 f r hl q⟩
   ·rw[if_neg hl]at h';cases h'
  |_=>cases h
end
def Zd(K:ai)(J:It)(H0:Hp)(ds:List aj):Prop:=∀ef H',dJ H0 ef->dJ ef H'->∀i,(i<ds.length->J.go i H')/\(ds.length<=i->J.stop i H')/\
 ∀x xi d,ds[i]?=some d->J.RJ i H' x xi->∃SV,eA ef H' SV xi/\Rep K SV x d
def VI(X:Cx)(tg iter:bR)(δ:List Slot)(ds:List aj):Prop:=∃wi,PI X tg iter wi/\∀B0 B σ H0 H R,hV X.K B0 B H0 H σ δ->(∀J ef H',eA H0 H ef H'->Zd X.K J ef ds->R J H')->wi σ H R
def mO(ds:List aj):List aj:=ds.zipIdx.map λp=>.tuple [.int p.2,p.1]
theorem ck(ds:List aj):(mO ds).length=ds.length:=by simp[mO]
theorem fH{ds:List aj}{i:Nat}{d:aj}(h:(mO ds)[i]?=some d):∃x,ds[i]?=some x/\d=.tuple [.int i,x]:=by
 unfold mO at h;rw[aJ,ik]at h;cases e:ds[i]? with
 |none=>rw[e]at h;simp at h
 |some x=>rw[e]at h;simp at h;exact⟨x,rfl,h.symm⟩
def jL(n:Nat):List aj:=(aW n).map λ(i:Nat)=>.int (i:Int)
section
variable{X:Cx}{tg a b:bR}{δ:List Slot}{ds:List aj}{pos:Pos}
theorem iQ(h:VE X a δ (.list ds)):VI X tg a δ ds:=⟨_,Kw dg,λB0 B σ H0 H R f q=>h B0 B σ H0 H _ f λv H1 dU g r=>by
 cases r with
 |lst hq r=>
  refine⟨_,rfl,⟨_,g.sub.seq hq⟩,q _ H1 dU g λHa Hb s1 s2 i=>?_⟩
  have hl:=r.length;have hS:=(s1.trans s2).seq hq;refine⟨λhi=>?_,λhi=>⟨_,hS,by omega⟩,λx xi d hd ⟨e,y⟩=>?_⟩
  ·obtain⟨x,hx,_⟩:=r.get (i:=i) (d:=ds[i]) (by simp[hi])
   exact⟨_,x,hS,hx⟩
  ·subst e
   exact⟨Ha,.refl s2,(r.mono s1).at hd (y _ hS)⟩⟩
theorem xm(h:VE X a δ (.tuple ds)):VI X tg a δ ds:=⟨_,OG dg,λB0 B σ H0 H R f q=>h B0 B σ H0 H _ f λv H1 dU g r=>by
 cases r with
 |tup hq r=>
  refine⟨_,rfl,⟨_,g.sub.oq hq⟩,q _ H1 dU g λHa Hb s1 s2 i=>?_⟩
  have hl:=r.length;have hS:=(s1.trans s2).oq hq;refine⟨λhi=>?_,λhi=>⟨_,hS,by omega⟩,λx xi d hd ⟨e,y⟩=>?_⟩
  ·obtain⟨x,hx,_⟩:=r.get (i:=i) (d:=ds[i]) (by simp[hi])
   exact⟨_,x,hS,hx⟩
  ·subst e
   exact⟨Ha,.refl s2,(r.mono s1).at hd (y _ hS)⟩⟩
theorem tW{p:Pos}{n:Int}(h:VE X a δ (.int n))(hm:X.mg "range"=none)(h1:-(2^62)<=n)(h2:n<2^62)(hg:Gl X "range":=by rfl)(hs:starEach [a] X.env=[(false,eval a X.env)]:=by rfl):VI X tg (.Call (.Name "range" p) [a] [] pos) δ (jL n.toNat):=
 ⟨_,FQ hg hm (dR dg gi hs) hs,λB0 B σ H0 H R f q=>h B0 B σ H0 H _ f λv H1 dU g r=>by
  cases r;refine⟨n,rfl,h1,h2,q _ H1 dU g λHa Hb s1 s2 i=>⟨λhi=>(show i<n.toNat from by simpa[jL]using hi),λhi=>(show n.toNat<=i from by simpa[jL]using hi),λx xi d hd ⟨e,y⟩=>?_⟩⟩
  subst e;subst y;unfold jL at hd;rw[aJ]at hd;have hi:i<n.toNat:=by
   rcases Nat.lt_or_ge i n.toNat with z|z
   ·exact z
   ·rw[eu (by simpa using z)]at hd;cases hd
  rw[gJ hi]at hd;cases hd;exact⟨Ha,.refl s2,by rw[Int.zero_add];exact .int _⟩⟩
theorem jD{p tp:Pos}{elts:List bR}{k}(h:VE X a δ (.list ds))(hm:X.mg "enumerate"=none)(hg:Gl X "enumerate":=by rfl)(hs:starEach [a] X.env=[(false,eval a X.env)]:=by rfl):VI X (.Tuple elts k tp) (.Call (.Name "enumerate" p) [a] [] pos) δ (mO ds):=
 ⟨_,Lf hg hm (dR dg gi hs) hs,λB0 B σ H0 H R f q=>h B0 B σ H0 H _ f λv H1 dU g r=>by
  cases r with
  |lst hq r=>
   refine⟨_,rfl,⟨_,g.sub.seq hq⟩,q _ H1 dU g λHa Hb s1 s2 i=>?_⟩
   have hl:=r.length;have hS:=(s1.trans s2).seq hq;refine⟨λhi=>?_,λhi=>⟨_,hS,by rw[ck]at hi;omega⟩,λx xi d hd ⟨t,y,e1,e2,e3,e4⟩=>?_⟩
   ·rw[ck]at hi
    obtain⟨x,hx,_⟩:=r.get (i:=i) (d:=ds[i]) (by simp[hi])
    exact⟨_,x,hS,hx⟩
   ·obtain⟨z,hz,rfl⟩:=fH hd
    subst e1;subst e3;refine⟨upd Ha t (.tup [.int i,y]),.laid s2 e2,.tup (og.of bB) (.cons (.int _) (.cons ?_ .nil))⟩
    exact((r.mono s1).at hz (e4 _ hS)).mono (eA.laid s2 e2).gx⟩
end
def Ze(X:Cx)(ifs:List bR):TT:=λσ H Q=>∀pins s,Inv X pins σ H s->wpAny (model X.prog X.w) X.A (testsOf ifs X.env) (TP X pins σ Q) X.xe s
def Pu(X:Cx)(ifs:List bR)(δ:List Slot)(b:Bool):Prop:=∀B0 B σ H0 H Q,hV X.K B0 B H0 H σ δ->(∀ef H',eA H0 H ef H'->Q b H')->Ze X ifs σ H Q
theorem fA{X:Cx}{δ:List Slot}:Pu X [] δ true:=λ_ _ _ _ _ _ f q pins s I=>Lb pins s _ _ _ I (q _ _ (.refl f.sub))
theorem tX{X:Cx}{c:bR}{δ:List Slot}{b:Bool}(h:VT X c δ b):Pu X [c] δ b:=λB0 B σ H0 H Q f q pins s I=>Lc (t:=cT X c) o3 pins s σ H Q I (h B0 B σ H0 H Q f q)
def SW:Slot->Slot
 | .val d=>.val d
 |_=>.un
def lD(own:List Str)(cap:List Nat)(δ:List Slot):List Slot:=a_ own.length .un++cap.map λi=>SW (δ.getD i .un)
section
variable{K:ai}{B0 B H0 H:Hp}{σ:St}{δ:List Slot}
theorem hV.comp(f:hV K B0 B H0 H σ δ)(own:List Str)(cap:List Nat):hV K B0 B H0 H (lW own cap σ) (lD own cap δ):=by
 have noOwn:∀(i:Nat)ds,(lD own cap δ)[i]?≠some (.own ds):=λi ds e=>by
  unfold lD at e;by_cases hi:i<own.length
  ·rw[cD (by simpa using hi),dQ]at e
   split at e<;>cases e
  ·rw[cA (by simpa using fS hi),aJ]at e
   cases q:cap[i-(a_ own.length Slot.un).length]? with
   |none=>rw[q]at e;cases e
   |some j=>
    rw[q]at e;simp only[iY,gU]at e
    revert e
    cases δ.getD j .un<;>(intro e;cases e)
 refine⟨f.ent,by simp[lW,lD],λi sl e=>?_,λi j ds es p _ a1=>absurd a1 (noOwn i ds)⟩
 unfold lD at e;unfold lW;by_cases hi:i<own.length
 ·rw[cD (by simpa using hi),dQ]at e
  split at e<;>cases e<;>trivial
 ·rw[cA (by simpa using fS hi),aJ,dA]at e
  rw[cA (by simpa using fS hi),aJ,dA]
  cases q:cap[i-own.length]? with
  |none=>rw[q]at e;cases e
  |some j=>
   rw[q]at e;simp only[iY,gU]at e ⊢;cases w:δ[j]? with
   |none=>rw[ax,w]at e;subst e;trivial
   |some Ru=>
    rw[ax,w]at e;cases Ru with
    |un=>subst e;trivial
    |ref a=>subst e;trivial
    |own ds=>subst e;trivial
    |val d=>
     subst e;obtain⟨v,h1,h2⟩:=f.slot j _ w;exact⟨v,by rw[ax,h1];rfl,h2⟩
theorem hV.forget{δ':List Slot}(f:hV K B0 B H0 H σ δ)(hl:δ'.length=δ.length)(h:∀(i:Nat)sl,δ'[i]?=some sl->sl=.un\/δ[i]?=some sl):hV K B0 B H0 H σ δ':=by
 refine⟨f.ent,by rw[hl];exact f.len,λi sl e=>?_,λi j ds es p yZ a1 a2 a3=>?_⟩
 ·rcases h i sl e with rfl|z
  ·trivial
  ·exact f.slot i sl z
 ·rcases h i _ a1 with z|z
  ·cases z
  ·rcases h j _ a2 with y|y
   ·cases y
   ·exact f.apart i j ds es p yZ z y a3
theorem hV.touch{D:aK}{o:HO}(f:hV K B0 B H0 H σ δ)(h0:H0 D=none)(hB:B D=none)(hn:∀(i:Nat)ds,δ[i]?≠some (.own ds)):hV K B0 B H0 (upd H D o) σ δ:=by
 refine⟨⟨λb u e=>by rw[aR (bT e hB)];exact f.ent.big b u e,f.ent.gx,λb u e=>by rw[aR (bT e h0)];exact f.ent.sub b u e,f.ent.new⟩,f.len,λi sl e=>?_,f.apart⟩
 have q:=f.slot i sl e;cases sl with
 |un=>trivial
 |ref a=>exact q
 |val d=>exact q
 |own ds=>exact absurd e (hn i ds)
end
theorem rT:∀(is:List Nat)(ds:List aj)(δ:List Slot),(o4 is ds δ).length=δ.length
 | [],_,_=>rfl
 |_::_,[],_=>rfl
 |i::is,d::ds,δ=>by
  show(o4 is ds (δ.set i (.val d))).length=_
  rw[rT];simp
theorem xn:∀(is:List Nat)(ds:List aj)(δ:List Slot)(j:Nat),j∉is->(o4 is ds δ)[j]?=δ[j]?
 | [],_,_,_,_=>rfl
 |_::_,[],_,_,_=>rfl
 |i::is,d::ds,δ,j,h=>by
  show(o4 is ds (δ.set i (.val d)))[j]?=_
  rw[xn is ds _ j λz=>h (aT _ z),a9 (λ(z:i=j)=>h (by rw[z];exact aN))]
def zj(n:Nat):DT->Bool
 | .one i=>decide (i<n)
 | .tup is=>is.all λi=>decide (i<n)
theorem comp_back{own:List Str}{cap:List Nat}{δ δ':List Slot}{tgt:DT}{d:aj}(ht:zj own.length tgt=true)(h:yF tgt d (lD own cap δ)=some δ'):
  δ'.length=(lD own cap δ).length/\∀(i:Nat)sl,(lD own cap δ)[i]?=some sl->sl=.un\/δ'[i]?=some sl:=by
 have low:∀(i:Nat)sl,i<own.length->(lD own cap δ)[i]?=some sl->sl=.un:=λi sl hi e=>by
  unfold lD at e;rw[cD (by simpa using hi),dQ]at e
  split at e<;>cases e<;>rfl
 cases tgt with
 |one i=>
  cases h;refine⟨by simp,λj sl e=>?_⟩
  have hi:i<own.length:=by simpa[zj]using ht
  by_cases hj:j<own.length
  ·exact .inl (low j sl hj e)
  ·exact .inr (by rw[a9 (by omega)];exact e)
 |tup is=>
  cases d with
  |tuple ds=>
   have h':(if ds.length=is.length then some (o4 is ds (lD own cap δ))else none)=some δ':=h
   by_cases hl:ds.length=is.length
   ·rw[if_pos hl]at h'
    cases h';refine⟨rT _ _ _,λj sl e=>?_⟩
    by_cases hj:j<own.length
    ·exact .inl (low j sl hj e)
    ·refine .inr ?_
     rw[xn _ _ _ _ λz=>hj ?_]
     ·exact e
     ·have:=d_.mp ht j z
      simpa using this
   ·rw[if_neg hl]at h';cases h'
  |_=>cases h
theorem nz{own:List Str}{cap:List Nat}{δ:List Slot}(i:Nat)(ds:List aj):(lD own cap δ)[i]?≠some (.own ds):=λe=>by
 unfold lD at e;by_cases hi:i<own.length
 ·rw[cD (by simpa using hi),dQ]at e
  split at e<;>cases e
 ·rw[cA (by simpa using fS hi),aJ]at e
  cases q:cap[i-(a_ own.length Slot.un).length]? with
  |none=>rw[q]at e;cases e
  |some j=>
   rw[q]at e;simp only[iY,gU]at e
   revert e
   cases δ.getD j .un<;>(intro e;cases e)
section
variable{X:Cx}{sc:lb}{own N:List Str}{cap:List Nat}{cl:List (Str×aK)}{tg elt iter:bR}{ifs:List bR}{δ:List Slot}{ds:List aj}{pos:Pos}{tgt:DT}
def DV(X:Cx)(sc:lb)(own:List Str)(cap:List Nat)(N:List Str)(cl:List (Str×aK))(tgt:DT)(elt:bR)(ifs:List bR)(δ:List Slot)(F:aj->Option aj)(d:aj):Prop:=
 ∃δ',yF tgt d (lD own cap δ)=some δ'/\(∀f s3 H3,Pu (gj X sc N cl f s3 H3) ifs δ' (F d).isSome)/\∀r,F d=some r->∀f s3 H3,VE (gj X sc N cl f s3 H3) elt δ' r
def teC(X:Cx)(sc:lb)(N:List Str)(cl:List (Str×aK))(elt:bR):TE:=λσ H Q=>∀f s3 H3,cE (gj X sc N cl f s3 H3) elt σ H Q
def UX(X:Cx)(sc:lb)(N:List Str)(cl:List (Str×aK))(ifs:List bR):TT:=λσ H Q=>∀f s3 H3,Ze (gj X sc N cl f s3 H3) ifs σ H Q
theorem vy{F:aj->Option aj}(ht:zj own.length tgt=true)(hz:ds.length<=sizeLine)(step:∀d∈ds,DV X sc own cap N cl tgt elt ifs δ F d){J:It}{B0 B H0 H:Hp}{σ:St}{Q:VK}(f:hV X.K B0 B H0 H σ δ)(it:Zd X.K J H0 ds)
  (q:∀p xs ef H',eA H0 H ef H'->H p=none->ef p=none->H' p=some (.lst xs)->cO X.K ef xs (ds.filterMap F)->Q (.ref p) H'):
  uR J (Kk X.K tgt) (UX X sc N cl ifs) (teC X sc N cl elt) (lW own cap σ) H Q:=by
 intro D hD;have Zf:B D=none:=f.ent.big.free hD;refine⟨λi m ys σ' H'=>i<=ds.length/\m=ds.length-i/\ys.length<=i/\∃Ha,eA H0 H Ha H'/\hV X.K B0 B Ha H' σ' (lD own cap δ)/\Ha D=none/\H' D=some (.lst ys)/\cO X.K Ha ys ((ds.take i).filterMap F),
  ⟨ds.length,bx _,rfl,aD _,H0,.loose f.sub hD,(f.comp own cap).touch (f.sub.free hD) Zf nz,f.sub.free hD,bB,by simpa using cO.nil⟩,?_⟩
 rintro i m ys σ' H' ⟨hi,rfl,hy,Ha,g,fa,Zg,Pk,rs⟩
 obtain⟨i1,i2,i3⟩:=it Ha H' g.gx g.sub i;by_cases om:i<ds.length
 ·refine .inr ⟨i1 om,λx H2 y=>?_⟩
  have hd:ds[i]?=some ds[i]:=by simp[om]
  obtain⟨Hb,g2,rx⟩:=i3 x H2 ds[i] hd y;obtain⟨δ',e1,e2,e3⟩:=step ds[i] (dG om);obtain⟨k1,k2⟩:=comp_back ht e1;have SX:∀{Hx Hy:Hp},eA Ha H' Hx Hy->Hx D=none:=λ{Hx Hy}gg=>by
   cases e:Hx D with
   |none=>rfl
   |some o=>
    rcases gg.new D (by rw[e];simp)with z|z
    ·exact absurd Zg z
    ·rw[Pk]at z;cases z
  have tk:(ds.take (i+1)).filterMap F=(ds.take i).filterMap F++(F ds[i]).toList:=by
   rw[dm,hd,qX];cases eF:F ds[i]<;>simp[mG,eF]
  refine qG (fa.grow g2) rx e1 λσ3 f3=>?_
  intro fp s3 H3;refine e2 fp s3 H3 B0 B σ3 Hb H2 _ f3 λHc H4 g4=>?_
  have SY:=g2.trans g4;cases eF:F ds[i] with
  |none=>
   rw[show(none:Option aj).isSome=false from rfl,if_neg cu]
   refine⟨ds.length-(i+1),by omega,om,rfl,by omega,Hc,g.trans SY,(f3.grow g4).forget k1.symm k2,SX SY,SY.big _ _ Pk,?_⟩
   rw[tk,eF];simpa using rs.mono SY.gx
  |some r=>
   rw[show(some r:Option aj).isSome=true from rfl,if_pos rfl]
   intro Wv s3' wy;refine e3 r eF Wv s3' wy B0 B σ3 Hc H4 _ (f3.grow g4) λw Hd H5 g5 r5=>?_
   have Kl:=SY.trans g5;have Ww:Hd D=none:=SX Kl;refine⟨Kl.big _ _ Pk,by omega,ds.length-(i+1),by omega,om,rfl,by simp;omega,Hd,?_,((f3.grow g4).grow g5 |>.forget k1.symm k2).touch Ww Zf nz,Ww,bB,?_⟩
   ·have gg:=g.trans Kl
    exact⟨λb u e=>by rw[aR (bT e hD)];exact gg.big b u e,gg.gx,λb u e=>by rw[aR (bT e Ww)];exact gg.sub b u e,gg.new⟩
   ·rw[tk,eF]
    exact(rs.mono Kl.gx).append (.cons r5 .nil)
 ·have e:i=ds.length:=by omega
  subst e;refine .inl ⟨i2 (aD _),q D ys Ha H' g hD Zg Pk ?_⟩
  simpa using rs
theorem fe{F:aj->Option aj}(hc:X.calm=true)(CS:k6 X sc own cap N cl)(hi:VI X tg iter δ ds)(hg:∀f s3 H3,PG (gj X sc N cl f s3 H3) tg (Kk X.K tgt))(ht:zj own.length tgt=true)(hz:ds.length<=sizeLine)
  (step:∀d∈ds,DV X sc own cap N cl tgt elt ifs δ F d)(hs:∀x,foldedSetIterable iter X.env x=pure x:=by intro _;rfl):VO X (.ListComp elt [⟨tg,iter,ifs,0⟩] sc pos) δ (ds.filterMap F):=by
 obtain⟨wi,pi,qi⟩:=hi;refine .of (Le (tc:=UX X sc N cl ifs) (te:=teC X sc N cl elt) hc CS pi hg (λf s3 H3 pins s σ H Q I h=>h f s3 H3 pins s I) (λf s3 H3 pins s σ H Q I h=>h f s3 H3 pins s I) hs) λB0 B σ H0 H Q f q=>?_
 refine qi B0 B σ H0 H _ f λJ H1 dU g it=>?_
 exact vy ht hz step (f.grow g) it λp xs Ha Hb g2 a1 a2 a3 a4=>q p xs Ha Hb (g.trans g2) (g.big.free a1) a2 a3 a4
end
inductive Out where
 |nx (δ:List Slot)|bk (δ:List Slot)|ct (δ:List Slot)
 |rt (d:aj)|ro (ds:List aj)|r2 (ds:List aj) (d:aj)|ru (U:Hp->V->Hp->Hp->Prop)
def qH(K:ai)(B0 B H0:Hp)(D:Ends):Out->Prop
 | .nx δ=>∀σ' ef H',dJ H0 ef->hV K B0 B ef H' σ' δ->D.nx σ' H'
 | .bk δ=>∀σ' ef H',dJ H0 ef->hV K B0 B ef H' σ' δ->D.bk σ' H'
 | .ct δ=>∀σ' ef H',dJ H0 ef->hV K B0 B ef H' σ' δ->D.ct σ' H'
 | .rt d=>∀v ef H',eA B0 B ef H'->Rep K ef v d->D.rt v H'
 | .ro ds=>∀p xs ef H',eA B0 B ef H'->B p=none->ef p=none->H' p=some (.lst xs)->cO K ef xs ds->D.rt (.ref p) H'
 | .r2 ds d=>∀t p xs v ef H',eA B0 B ef H'->B p=none->ef p=none->H' p=some (.lst xs)->cO K ef xs ds->B t=none->ef t=none->H' t=some (.tup [.ref p,v])->Rep K ef v d->D.rt (.ref t) H'
 | .ru U=>∀v ef H',eA B0 B ef H'->U B v ef H'->D.rt v H'
def E8:Out->Bool
 | .rt _=>true | .ro _=>true | .r2 _ _=>true | .ru _=>true|_=>false
theorem qH.mono{K:ai}{B0 B H0 ef:Hp}{D:Ends}(s:dJ H0 ef):∀{o:Out},qH K B0 B H0 D o->qH K B0 B ef D o
 | .nx _,h=>λσ a b s' f=>h σ a b (s.trans s') f
 | .bk _,h=>λσ a b s' f=>h σ a b (s.trans s') f
 | .ct _,h=>λσ a b s' f=>h σ a b (s.trans s') f
 | .rt _,h=>h
 | .ro _,h=>h
 | .r2 _ _,h=>h
 | .ru _,h=>h
theorem qH.ret{K:ai}{B0 B H0 ef:Hp}{D D':Ends}(e:D.rt=D'.rt):∀{o:Out},E8 o=true->qH K B0 B H0 D o->qH K B0 B ef D' o
 | .rt _,_,h=>by unfold qH at *;rw[<-e];exact h
 | .ro _,_,h=>by unfold qH at *;rw[<-e];exact h
 | .r2 _ _,_,h=>by unfold qH at *;rw[<-e];exact h
 | .ru _,_,h=>by unfold qH at *;rw[<-e];exact h
 | .nx _,z,_=>by cases z
 | .bk _,z,_=>by cases z
 | .ct _,z,_=>by cases z
def VS(X:Cx)(st:gZ)(δ:List Slot)(o:Out):Prop:=∀B0 B σ H0 H D,hV X.K B0 B H0 H σ δ->qH X.K B0 B H0 D o->cS X st D σ H
def uT(X:Cx)(st:List gZ)(δ:List Slot)(o:Out):Prop:=∀B0 B σ H0 H D,hV X.K B0 B H0 H σ δ->qH X.K B0 B H0 D o->DP X st D σ H
section
variable{X:Cx}{st:gZ}{rest body orelse:List gZ}{δ δ':List Slot}{o:Out}{a b c e:bR}{d:aj}{ds:List aj}{pos px:Pos}{x:Str}
theorem bL:uT X [] δ (.nx δ):=λ_ _ σ H0 H _ f ok pins s I=>Kv pins s σ H _ I (ok σ H0 H (dJ.refl _) f)
theorem aL(h1:VS X st δ (.nx δ'))(h2:uT X rest δ' o):uT X (st::rest) δ o:=λB0 B σ H0 H D f ok pins s I=>
 ku Ii ou pins s σ H D I (h1 B0 B σ H0 H _ f λσ' Ha Hb sm f'=>h2 B0 B σ' Ha Hb D f' (ok.mono sm))
theorem dH(h1:VS X st δ o)(hr:E8 o=true):uT X (st::rest) δ o:=λB0 B σ H0 H D f ok pins s I=>
 ku Ii oh pins s σ H D I (h1 B0 B σ H0 H _ f (qH.ret (D:=D) (by rfl) hr ok))
theorem bf(h1:VS X st δ o):uT X [st] δ o:=λB0 B σ H0 H D f ok pins s I=>zX Ii pins s σ H D I (h1 B0 B σ H0 H D f ok)
theorem cC(i:Nat)(h:VE X e δ d)(hN:X.N.Nodup)(hi:X.N[i]?=some x:=by rfl)(hx:Loc X.env.scope x:=by first|exact bj rfl|exact cP rfl)(hs:swapsWith e (some (.Name x px)) pos.line X.env=pure false:=by rfl)(hf:X.fn x=true\/X.env.scope.names.lookup x=some .local:=by first|exact .inl rfl|exact .inr rfl):
  VS X (.Assign [.Name x px] e pos) δ (.nx (δ.set i (.val d))):=λB0 B σ H0 H D f ok pins s I=>
 wL (i:=i) hN hi hx dg hs hf pins s σ H D I (h B0 B σ H0 H _ f λv H1 dU g r=>ok _ H1 dU g.gx ((f.grow g).set r))
theorem kz(i:Nat)(h:VO X e δ ds)(hN:X.N.Nodup)(hi:X.N[i]?=some x:=by rfl)(hx:Loc X.env.scope x:=by first|exact bj rfl|exact cP rfl)(hs:swapsWith e (some (.Name x px)) pos.line X.env=pure false:=by rfl)(hf:X.fn x=true\/X.env.scope.names.lookup x=some .local:=by first|exact .inl rfl|exact .inr rfl):
  VS X (.Assign [.Name x px] e pos) δ (.nx (δ.set i (.own ds))):=λB0 B σ H0 H D f ok pins s I=>
 wL (i:=i) hN hi hx dg hs hf pins s σ H D I (h B0 B σ H0 H _ f λp xs H1 dU g h1 h2 h3 r=>ok _ H1 dU g.gx ((f.grow g).Ak h3 h2 (f.ent.big.free h1) r λj es e2 e3=>by
  obtain⟨p',xs',g1,g2,_⟩:=f.slot j _ e2;rw[e3]at g1;cases g1;rw[h1]at g2;cases g2))
theorem dN(h:VT X c δ true)(h1:uT X body δ o):VS X (.If c body orelse pos) δ o:=λB0 B σ H0 H D f ok pins s I=>
 EL o3 ou oh pins s σ H D I (h B0 B σ H0 H _ f λH1 dU g=>Sl (h1 B0 B σ H1 dU D (f.grow g) (ok.mono g.gx)))
theorem b0(h:VT X c δ false)(h1:uT X orelse δ o):VS X (.If c body orelse pos) δ o:=λB0 B σ H0 H D f ok pins s I=>
 EL o3 oh ou pins s σ H D I (h B0 B σ H0 H _ f λH1 dU g=>Sj (h1 B0 B σ H1 dU D (f.grow g) (ok.mono g.gx)))
theorem Nc{k:Bool}(h:VT X c δ k)(h1:k=true->uT X body δ o)(h2:k=false->uT X orelse δ o):VS X (.If c body orelse pos) δ o:=by
 cases k with
 |true=>exact dN h (h1 rfl)
 |false=>exact b0 h (h2 rfl)
theorem cg(h:VE X e δ d):VS X (.Return (some e) pos) δ (.rt d):=λB0 B σ H0 H D f ok pins s I=>zY dg pins s σ H D I (h B0 B σ H0 H _ f λv H1 dU g r=>ok v H1 dU (f.ent.trans g) r)
theorem ri(h:VO X e δ ds):VS X (.Return (some e) pos) δ (.ro ds):=λB0 B σ H0 H D f ok pins s I=>zY dg pins s σ H D I (h B0 B σ H0 H _ f λp xs H1 dU g a1 a2 a3 a4=>ok p xs H1 dU (f.ent.trans g) (f.ent.big.free a1) a2 a3 a4)
theorem E9(i:Nat)(h:δ[i]?=some (.own ds))(hN:X.N[i]?=some x:=by rfl)(hv:EH X.env.scope x:=by first|exact bj rfl|exact cP (bj rfl)|exact cP (cP rfl))(hd:(x==("__debug__":Str))=false:=by decide)(rJ:(x==("__classdict__":Str))=false:=by decide):
  VS X (.Return (some (.Name x px)) pos) δ (.ro ds):=λB0 B σ H0 H D f ok pins s I=>zY (lU hN hv hd rJ) pins s σ H D I (by
 obtain⟨p,xs,h1,h2,h3,h4,h5⟩:=f.slot i _ h;exact⟨_,h1,ok p xs H0 H f.ent h4 h3 h2 h5⟩)
theorem iF(i:Nat){ap:Pos}{p0:Pos}(hi:δ[i]?=some (.own ds))(h:VE X e δ d)(hz:ds.length<sizeLine)(hN:X.N[i]?=some x:=by rfl)(hv:EH X.env.scope x:=by first|exact bj rfl|exact cP (bj rfl)|exact cP (cP rfl))(hd:(x==("__debug__":Str))=false:=by decide)(rJ:(x==("__classdict__":Str))=false:=by decide)
  (hs:starEach [e] X.env=(false,eval e X.env)::starEach [] X.env:=by rfl)(mM:attributeBase (.Name x p0) "append" X.env (eval (.Name x p0) X.env)=eval (.Name x p0) X.env:=by rfl)
  (sv:((backTo px (starEach [e] X.env)).all (λx=>!x.1)&&(backToKw px (keywordEach [] X.env)).all (λx=>x.1.isSome)&&decide (([e]:List bR).length+([]:List iK).length+(if([]:List iK).isEmpty then 0 else 1)<30))=true:=by rfl)
  (hline:(ap.endLine==px.line)=true:=by rfl)(jZ:(backTo px (starEach [] X.env)).any (·.1)=false:=by rfl)(BZ:swapsWith (.Call (.Attribute (.Name x p0) "append" ap) [e] [] px) none pos.line X.env=pure false:=by rfl):
  VS X (.Expr (.Call (.Attribute (.Name x p0) "append" ap) [e] [] px) pos) δ (.nx (δ.set i (.own (ds ++ [d])))):=λB0 B σ H0 H D f ok pins s I=>by
 refine tK (wY iD nI nJ rh (lU hN hv hd rJ) (dR dg gi hs) mM sv hline hs jZ) BZ pins s σ H D I ?_
 obtain⟨p,xs,h1,h2,h3,h4,h5⟩:=f.slot i _ hi;refine⟨_,h1,.inl ⟨rfl,_,kO.of h2⟩,?_⟩
 refine h B0 B σ H0 H _ f λv H1 dU g r=>?_
 refine⟨p,xs,v,rfl,rfl,g.big _ _ h2,by rw[h5.length];exact hz,ok σ H1 _ g.gx ((f.grow g).push hi h1 (g.big _ _ h2) r)⟩
theorem fJ(i:Nat)(hi:δ[i]?=some (.own ds))(h:uT X rest (δ.set i (.val (.list ds))) o):uT X rest δ o:=λB0 B σ H0 H D f ok=>by
 obtain⟨p,xs,h1,h2,h3,h4,h5⟩:=f.slot i _ hi;obtain⟨f',sm⟩:=f.freeze hi h1 h2;exact h B0 B σ _ H D f' (ok.mono sm)
def Km:List Slot->List Slot->Prop
 | [],[]=>True
 |a::l,b::m=>(b=.un\/a=b)/\Km l m
 |_,_=>False
theorem Km.len:∀{l m:List Slot},Km l m->m.length=l.length
 | [],[],_=>rfl
 |_::_,_::_,h=>by simp[Km.len h.2]
 | [],_::_,h=>h.elim
 |_::_,[],h=>h.elim
theorem Km.at:∀{l m:List Slot},Km l m->∀(i:Nat)sl,m[i]?=some sl->sl=.un\/l[i]?=some sl
 | [],[],_,_,_,e=>by simp at e
 |a::l,b::m,h,0,sl,e=>by
  simp at e;subst e;rcases h.1 with z|z
  ·exact .inl z
  ·exact .inr (by simp[z])
 |a::l,b::m,h,i+1,sl,e=>by simpa using Km.at h.2 i sl (by simpa using e)
 | [],_::_,h,_,_,_=>h.elim
 |_::_,[],h,_,_,_=>h.elim
theorem jE{δ2:List Slot}(h:uT X rest δ (.nx δ'))(hf:Km δ' δ2):uT X rest δ (.nx δ2):=λB0 B σ H0 H D f ok=>h B0 B σ H0 H D f λσ' Ha Hb sm f'=>ok σ' Ha Hb sm (f'.forget hf.len hf.at)
theorem mP{tg iter:bR}{tgt:DT}(hp:zK (model X.prog X.w) X.A X.env X.xe)(hc:X.calm=true)(hi:VI X tg iter δ ds)(hg:PG X tg (Kk X.K tgt))(δs:Nat->List Slot)(m:Nat)(h0:δs 0=δ)(hm:m<=ds.length)
  (step:∀k d,k<m->ds[k]?=some d->∃δ',yF tgt d (δs k)=some δ'/\uT X body δ' (.nx (δs (k+1))))
  (fin:(m=ds.length/\o=.nx (δs m))\/∃d δ',ds[m]?=some d/\yF tgt d (δs m)=some δ'/\E8 o=true/\uT X body δ' o)
  (hs:∀x,foldedSetIterable iter X.env x=pure x:=by intro _;rfl):VS X (.For tg iter body [] pos) δ o:=λB0 B σ H0 H D f ok pins s I=>by
 obtain⟨wi,pi,qi⟩:=hi;refine zZ hp hc pi hg ou hs pins s σ H D I ?_
 refine qi B0 B σ H0 H _ f λJ H1 dU g it=>?_
 refine⟨λi mm σ' H'=>i<=m/\mm=m+1-i/\∃Ha,dJ H1 Ha/\hV X.K B0 B Ha H' σ' (δs i),⟨m+1,bx _,rfl,H1,dJ.refl _,by rw[h0];exact f.grow g⟩,?_⟩
 rintro i mm σ' H' ⟨hi,rfl,Ha,sm,fa⟩
 obtain⟨i1,i2,i3⟩:=it Ha H' sm fa.sub i;by_cases om:i<m
 ·refine .inr ⟨i1 (by omega),λσ'' xi=>∃Hb,dJ H1 Hb/\hV X.K B0 B Hb xi σ'' (δs (i+1)),λσ'' xi ⟨Hb,z1,z2⟩=>⟨m+1-(i+1),by omega,om,rfl,Hb,z1,z2⟩,λv H2 y=>?_⟩
  have hd:ds[i]?=some (ds[i]'(by omega)):=by simp
  obtain⟨Hb,g2,rx⟩:=i3 v H2 _ hd y;obtain⟨δ',e1,e2⟩:=step i _ om hd;refine qG (fa.grow g2) rx e1 λσ3 f3=>?_
  exact e2 B0 B σ3 Hb H2 _ f3 λσ4 Hc H4 s4 f4=>⟨Hc,(sm.trans g2.gx).trans s4,f4⟩
 ·have e:i=m:=by omega
  subst e;rcases fin with⟨e1,e2⟩|⟨d,δ',hd,e1,hr,e2⟩
  ·subst e2
   exact .inl ⟨i2 (by omega),ok σ' Ha H' (g.gx.trans sm) fa⟩
  ·have Wx:i<ds.length:=(aM.mp hd).1
   refine .inr ⟨i1 Wx,λ_ _=>False,λ_ _ z=>z.elim,λv H2 y=>?_⟩
   obtain⟨Hb,g2,rx⟩:=i3 v H2 _ hd y;refine qG (fa.grow g2) rx e1 λσ3 f3=>?_
   exact e2 B0 B σ3 Hb H2 _ f3 (qH.ret (D:=D) (by rfl) hr ok)
end
def gW(K:ai)(R:List aj->aj->Prop):Sp:=λvs H Q _=>∃H0 ds d,dJ H0 H/\cO K H0 vs ds/\R ds d/\∀v ef H',eA H0 H ef H'->Rep K ef v d->Q v H'
def Bv(K:ai)(R:List aj->List aj->Prop):Sp:=λvs H Q _=>∃H0 ds es,dJ H0 H/\cO K H0 vs ds/\R ds es/\
 ∀p xs ef H',eA H0 H ef H'->H p=none->ef p=none->H' p=some (.lst xs)->cO K ef xs es->Q (.ref p) H'
def bE(P:bo)(w:bX)(K:ai)(mg:Str->Option av)(base:cK)(k:Nat)(x:Str)(ps:List Str)(sp:Sp):Prop:=
 ∃f fd,eU P w K mg base ky k f fd ps sp/\mg x=some (.ref f)/\iC K (.ref f)=true/\Binds K fd ps []
section
variable{X:Cx}{x:Str}{e:bR}{es:List bR}{δ:List Slot}{ds zs:List aj}{d:aj}{p pos:Pos}{k:Nat}{ps:List Str}
theorem bC{R:List aj->aj->Prop}(C:bE X.prog X.w X.K X.mg X.base k x ps (gW X.K R))(hr:fc k X.A)(ha:VA X (e::es) δ ds)(hp:R ds d)(hg:Gl X x:=by rfl)(qx:(x==("__debug__":Str))=false:=by decide)
  (he:starEach (e::es) X.env=(false,eval e X.env)::starEach es X.env:=by rfl)(qy:(backTo pos (starEach es X.env)).any (·.1)=false:=by rfl):VE X (.Call (.Name x p) (e::es) [] pos) δ d:=by
 obtain⟨f,fd,F,hm,hk,hb⟩:=C;obtain⟨t,pa,qa⟩:=ha;exact .of (z_ F hr hg hm hk hb .nil E2 pa qx he qy) λB0 B σ H0 H Q fr q=>qa B0 B σ H0 H _ fr λvs H1 dU g1 rs=>by
  rw[eI];exact⟨H1,ds,d,g1.sub,rs,hp,λv H2 iS g2 r=>q v H2 iS (g1.trans g2) r⟩
theorem jV{R:List aj->List aj->Prop}(C:bE X.prog X.w X.K X.mg X.base k x ps (Bv X.K R))(hr:fc k X.A)(ha:VA X (e::es) δ ds)(hp:R ds zs)(hg:Gl X x:=by rfl)(qx:(x==("__debug__":Str))=false:=by decide)
  (he:starEach (e::es) X.env=(false,eval e X.env)::starEach es X.env:=by rfl)(qy:(backTo pos (starEach es X.env)).any (·.1)=false:=by rfl):VO X (.Call (.Name x p) (e::es) [] pos) δ zs:=by
 obtain⟨f,fd,F,hm,hk,hb⟩:=C;obtain⟨t,pa,qa⟩:=ha;exact .of (z_ F hr hg hm hk hb .nil E2 pa qx he qy) λB0 B σ H0 H Q fr q=>qa B0 B σ H0 H _ fr λvs H1 dU g1 rs=>by
  rw[eI];exact⟨H1,ds,zs,g1.sub,rs,hp,λv xs H2 iS g2 a1 a2 a3 a4=>q v xs H2 iS (g1.trans g2) (g1.big.free a1) a2 a3 a4⟩
end
def xo(N:List Str)(ds:List aj):List Slot:=ds.map .val++a_ (N.length-ds.length) .un
theorem hV.start{K:ai}{H0 H:Hp}{N:List Str}{vs:List V}{ds:List aj}(s:dJ H0 H)(r:cO K H0 vs ds):hV K H0 H H0 H (start N vs) (xo N ds):=by
 have hl:=r.length;refine⟨.refl s,by simp[L2.start,xo,hl],λi sl e=>?_,λi j a b p _ e=>?_⟩
 ·unfold xo at e
  unfold L2.start;by_cases hi:i<ds.length
  ·rw[cD (by simpa using hi),aJ]at e
   have hd:ds[i]?=some ds[i]:=by simp[hi]
   rw[hd]at e;cases e;obtain⟨v,h1,h2⟩:=r.get hd;exact⟨v,by rw[cD (by simp;omega),aJ,h1];rfl,h2⟩
  ·rw[cA (by simpa using fS hi),dQ]at e
   split at e<;>cases e
   trivial
 ·unfold xo at e
  by_cases hi:i<ds.length
  ·rw[cD (by simpa using hi),aJ]at e
   have hd:ds[i]?=some ds[i]:=by simp[hi]
   rw[hd]at e;cases e
  ·rw[cA (by simpa using fS hi),dQ]at e
   split at e<;>cases e
section
variable{P:bo}{w:bX}{K:ai}{mg:Str->Option av}{base:cK}{x qual:Str}{st:gZ}{f:aK}{fd:bS}{N ps:List Str}{k:Nat}
abbrev zl(P:bo)(w:bX)(K:ai)(mg:Str->Option av)(base:cK)(N:List Str)(qual:Str)(st:gZ)(f:aK)(k:Nat)(ds:List aj)(o:Out):Prop:=
 ∀ix A outer s H E,fc k (A.deeper (envOfC qual (bP st) s.heap.objs.size f ix))->uT (Aa ky P w K mg base N qual (bP st) f ix A outer s H E).Oy (kx st) (xo N ds) o
theorem jA{R:List aj->aj->Prop}(F:lg K x qual st f fd)(S:cH N ps (bP st))(hl:∀ds d,R ds d->ds.length=ps.length)(hb:∀ds d,R ds d->zl P w K mg base N qual st f k ds (.rt d)):eU P w K mg base ky (k+1) f fd ps (gW K R):=by
 refine F.ok S (λvs H Q E h=>?_) (λix A outer s H vs Q E hr h=>?_)
 ·obtain⟨H0,ds,d,_,r,hp,_⟩:=h
  rw[r.length,hl ds d hp]
 ·obtain⟨H0,ds,d,sm,r,hp,q⟩:=h
  exact⟨_,ou,hb ds d hp ix A outer s H E hr H0 H _ H0 H _ (.start sm r) q⟩
theorem DW{R:List aj->List aj->Prop}(F:lg K x qual st f fd)(S:cH N ps (bP st))(hl:∀ds d,R ds d->ds.length=ps.length)(hb:∀ds d,R ds d->zl P w K mg base N qual st f k ds (.ro d)):eU P w K mg base ky (k+1) f fd ps (Bv K R):=by
 refine F.ok S (λvs H Q E h=>?_) (λix A outer s H vs Q E hr h=>?_)
 ·obtain⟨H0,ds,d,_,r,hp,_⟩:=h
  rw[r.length,hl ds d hp]
 ·obtain⟨H0,ds,d,sm,r,hp,q⟩:=h
  exact⟨_,ou,hb ds d hp ix A outer s H E hr H0 H _ H0 H _ (.start sm r) q⟩
end
end L2
namespace L2.Srt
open PySem PySem.W PyProof.Rows
section
variable{N:Nat}{lt:Nat->Nat->Bool}
end
end L2.Srt
namespace L2
open PySem PySem.Spec PyProof.Rows PySem.W
section
variable{P:bo}{w:bX}{A:cU}{E:av->aF->Prop}{s:aF}
end
theorem cO.ints{K:ai}{H:Hp}:∀{ns:List Int}{xs:List V},cO K H xs (ns.map .int)->xs=ns.map V.int
 | [],_,r=>by cases r;rfl
 |n::ns,_,r=>by cases r with|cons a t=>cases a;rw[aH,cO.ints t]
theorem dS.getD:∀{xs:List V}{us:List av}(i:Nat),dS xs us->RelV (xs.getD i .non) (us.getD i iq)
 |_,_,_,.nil=>by simp;rfl
 |_,_,0,.cons r _=>by simpa using r
 |_,_,i+1,.cons _ t=>by simpa using dS.getD i t
end L2
namespace L2
open PySem PySem.Spec PyProof.Rows
section
variable{X:Cx}{a b c e:bR}{es:List bR}{δ:List Slot}{d d1 d2 d3:aj}{ds:List aj}{pos:Pos}{k:Nat}
def Iq:aj->Bool
 | .none=>true
 | .bool _=>true
 | .int _=>true
 | .str _=>true
 |_=>false
theorem Rep.S0{K:ai}{H H':Hp}{v:V}(r:Rep K H v d)(h:Iq d=true):Rep K H' v d:=by
 cases r with
 |non=>exact .non
 |bl b=>exact .bl b
 |int i=>exact .int i
 |str x=>exact .str x
 |_=>cases h
theorem Lh(i:Nat)(hi:δ[i]?=some (.own ds))(h:VE X e (δ.set i (.val (.list ds))) d)(hs:Iq d=true):VE X e δ d:=λB0 B σ H0 H Q f q=>by
 obtain⟨p,xs,h1,h2,h3,h4,h5⟩:=f.slot i _ hi;obtain⟨f',sm⟩:=f.freeze hi h1 h2;exact h B0 B σ _ H Q f' λv Ha H' g r=>q v H0 H' ⟨g.big,dJ.refl _,f.sub.trans g.big,λ_ z=>.inl z⟩ (r.S0 hs)
def Zh:aj->Option String
 | .none=>some "NoneType"
 | .bool _=>some "bool"
 | .int _=>some "int"
 | .str _=>some "str"
 | .list _=>some "list"
 | .tuple _=>some "tuple"
 |_=>none
theorem S1{t tn:String}{kb:Bool}(ht:Zh d=some t)(hk:dY X.K (.type t) (.type tn)=some kb):jh X (.builtin "isinstance") (λxs H Q=>∃x,xs=[x,.ty tn]/\Rep X.K H x d/\Q (.bl kb) H):=by
 intro pins s σ H xs us Q I r h;obtain⟨x,rfl,rx,q⟩:=h;obtain⟨u,w',rfl,r1,r2⟩:=vals2 r;cases r2;have fin:∀tk,EP X pins σ Q (.bool kb) { s with toks:=tk }:=λtk=>⟨.bl kb,H,I.tok tk,rfl,q⟩
 cases rx with
 |non=>cases ht;cases r1;exact jT PySem.W.kitx_none I.zT fN hk (λz=>nomatch z) fin
 |bl b=>cases ht;cases r1;exact jT PySem.W.kitx_bool I.zT fN hk (λz=>nomatch z) fin
 |int i=>cases ht;obtain⟨t,rfl⟩:=r1;exact jT PySem.W.kitx_int I.zT fN hk (λz=>nomatch z) fin
 |str y=>cases ht;obtain⟨t,rfl⟩:=r1;exact jT PySem.W.kitx_str I.zT fN hk (λz=>nomatch z) fin
 |lst hq rs=>
  cases ht;cases r1;obtain⟨its,_,⟨o,n,e,c,_⟩,_⟩:=I.list hq;exact jT PySem.W.kitx_list I.zT ⟨o,e,c⟩ hk (λz=>nomatch z) fin
 |tup hq rs=>
  cases ht;cases r1;obtain⟨its,_,⟨o,e,c,_⟩,_⟩:=I.tuple hq;exact jT PySem.W.kitx_tuple I.zT ⟨o,e,c⟩ hk (λz=>nomatch z) fin
 |dct _ _ _=>cases ht
 |QO _ _ _=>cases ht
 |obj _ _ _ _ _=>cases ht
 |QP _ _ _=>cases ht
theorem Ir{x:Str}{t tn:String}{kb:Bool}{p p2:Pos}(h:VE X a δ d)(ht:Zh d=some t)(hk:dY X.K (.type t) (.type tn)=some kb)(hb:bootBuiltins x=some (.type tn))(m1:X.mg "isinstance"=none)(m2:X.mg x=none)(hv:bootBuiltins "isinstance"=some (.builtin "isinstance"))
  (hg:Gl X "isinstance":=by rfl)(Pw:Gl X x:=by rfl)(hn:x≠"__name__":=by decide)(qx:(x==("__debug__":Str))=false:=by decide)(hs:starEach [a,.Name x p2] X.env=(false,eval a X.env)::starEach [.Name x p2] X.env:=by rfl)(pL:starEach [.Name x p2] X.env=(false,eval (.Name x p2) X.env)::starEach [] X.env:=by rfl)
  (qy:(backTo pos (starEach [.Name x p2] X.env)).any (·.1)=false:=by rfl):VE X (.Call (.Name "isinstance" p) [a,.Name x p2] [] pos) δ (.bool kb):=
 .of (wV (S1 ht hk) hg m1 hv (dR dg (dR (Ku Pw m2 hb (v:=.ty tn) rfl hn qx) gi pL) hs) (by decide) (by decide) hs qy) λB0 B σ H0 H Q f q=>h B0 B σ H0 H _ f λv H1 dU g r=>⟨v,rfl,r.mono g.sub,q _ H1 dU g (.bl _)⟩
theorem Wy{P:bo}{w:bX}{A:cU}{E:av->aF->Prop}{s:aF}{l:aK}{vs:List av}{ns:List Int}{Q:av->aF->Prop}(hh:A.handled=none)(hl:s.heap.IsList l vs.toArray)(hi:yy vs ns)(Ao:ns≠[])
  (h:∀h' M (t:Tok) tk,(∀b o,s.heap.get? b=some o->h'.get? b=some o)->M∈ns->(∀z,z∈ns->z<=M)->Q (.int M t) { s with heap:=h',toks:=tk }):wpAny (model P w) A (call (.builtin "max") [.ref l]) Q E s:=by
 obtain⟨xs,ex⟩:=hi.allInts.items;have F4:ns=xs.toList.map (·.1):=by rw[<-hi.numsOf,<-nums_intItems,<-ex]
 have hz:0<xs.size:=by
  rcases uJ xs.size with z|z
  ·exfalso
   apply Ao;rw[F4,Array.eq_empty_of_size_eq_zero z];rfl
  ·exact z
 rw[ex]at hl;refine max_intList hh hl hz λv h' tk hv hk=>?_
 obtain⟨t,rfl⟩:=intItems_at hv;obtain⟨g1,g2⟩:=argBest_gt (numAt xs) (xs.size-1);refine h h' _ t tk hk ?_ λz Zi=>?_
 ·rw[F4,numAt_eq]
  exact getD_mem (by rw[ao,cN];omega)
 ·rw[F4]at Zi
  obtain⟨j,hj,rfl⟩:=mem_getD Zi;rw[ao,cN]at hj;rw[<-numAt_eq];exact g2 j (by omega)
theorem Gd(hc:X.calm=true):jh X (.builtin "max") (λxs H Q=>∃p ns,xs=[.ref p]/\kO X.K H p (ns.map V.int)/\ns≠[]/\∀M,M∈ns->(∀z,z∈ns->z<=M)->Q (.int M) H):=by
 intro pins s σ H xs us Q I r h;obtain⟨p,ns,rfl,hq,Ao,q⟩:=h;obtain⟨u,rfl,rx⟩:=vals1 r;cases rx;obtain⟨its,rv,pl,hz⟩:=I.list hq;exact Wy (I.ok.hd hc) pl.isList (intsAre_of rv) Ao λh' M t tk hk h1 h2=>⟨.int M,H,I.kept hk,⟨_,rfl⟩,q M h1 h2⟩
theorem S2{K:ai}{ns:List Int}{M:Int}(h1:M∈ns)(h2:∀z,z∈ns->z<=M):mN K (λxs H Q=>∃p ns,xs=[.ref p]/\kO K H p (ns.map V.int)/\ns≠[]/\∀M,M∈ns->(∀z,z∈ns->z<=M)->Q (.int M) H) [.list (ns.map .int)] (.int M):=λvs H0 H Q s r q=>by
 obtain⟨v,rfl,r1⟩:=r.one;cases r1 with
 |lst hq rs=>
  have e:=rs.ints;subst e;refine⟨_,ns,rfl,s.seq hq,(λz=>by rw[z]at h1;cases h1),λM' g1 g2=>q _ _ _ (.refl s) ?_⟩
  have:M'=M:=Int.le_antisymm (h2 M' g1) (g2 M h1);rw[this];exact .int _
end
section
variable{X:Cx}{sc:lb}{own N:List Str}{cap:List Nat}{cl:List (Str×aK)}{tg elt iter:bR}{ifs:List bR}{δ:List Slot}{ds:List aj}{pos px xk:Pos}{tgt:DT}{x:Str}
theorem Ap(i:Nat){F:aj->Option aj}(hc:X.calm=true)(CS:k6 X sc own cap N cl)(hi:VI X tg iter δ ds)(hg:∀f s3 H3,PG (gj X sc N cl f s3 H3) tg (Kk X.K tgt))(ht:zj own.length tgt=true)(hz:ds.length<=sizeLine)
  (step:∀d∈ds,DV X sc own cap N cl tgt elt ifs δ F d)(hN:X.N.Nodup)(SD:X.N[i]?=some x:=by rfl)(hx:Loc X.env.scope x:=by first|exact bj rfl|exact cP rfl)
  (BZ:swapsWith (.ListComp elt [⟨tg,iter,ifs,0⟩] sc pos) (some (.Name x px)) xk.line X.env=pure true:=by rfl)(hs:∀x,foldedSetIterable iter X.env x=pure x:=by intro _;rfl)(hf:X.fn x=true\/X.env.scope.names.lookup x=some .local:=by first|exact .inl rfl|exact .inr rfl):
  VS X (.Assign [.Name x px] (.ListComp elt [⟨tg,iter,ifs,0⟩] sc pos) xk) δ (.nx (δ.set i (.own (ds.filterMap F)))):=λB0 B σ H0 H D f ok pins s I=>by
 obtain⟨wi,pi,qi⟩:=hi;refine xj (i:=i) (tc:=UX X sc N cl ifs) (te:=teC X sc N cl elt) hN SD hx hc CS pi hg (λf s3 H3 pins s σ H Q I h=>h f s3 H3 pins s I) (λf s3 H3 pins s σ H Q I h=>h f s3 H3 pins s I) BZ hs hf pins s σ H D I ?_
 refine qi B0 B σ H0 H _ f λJ H1 dU g it=>?_
 refine vy ht hz step (f.grow g) it λp xs Ha Hb g2 a1 a2 a3 a4=>?_
 have gg:=g.trans g2;have hp:H p=none:=g.big.free a1;refine ok _ Ha Hb gg.gx ((f.grow gg).Ak a3 a2 (f.ent.big.free hp) a4 λj es e2 e3=>?_)
 obtain⟨p',xs',g1,Zj,_⟩:=f.slot j _ e2;rw[e3]at g1;cases g1;rw[hp]at Zj;cases Zj
end
theorem VT.to{X:Cx}{c:bR}{δ:List Slot}{k k':Bool}(h:VT X c δ k')(e:k'=k):VT X c δ k:=e▸h
theorem VE.to{X:Cx}{c:bR}{δ:List Slot}{k k':aj}(h:VE X c δ k')(e:k'=k):VE X c δ k:=e▸h
theorem VO.to{X:Cx}{c:bR}{δ:List Slot}{k k':List aj}(h:VO X c δ k')(e:k'=k):VO X c δ k:=e▸h
def suite(b:List gZ)(i:Nat):List gZ:=match b.getD i (.Pass ⟨0,0,0,0⟩) with
 | .For _ _ b _ _=>b
 | .While _ b _ _=>b
 | .If _ b _ _=>b
 |_=>[]
theorem cx(n:Nat)(i:Int):Lay n (.int i):=⟨rfl,bx _⟩
theorem Li(n:Nat):Lay n .none:=⟨rfl,bx _⟩
theorem bJ{n:Nat}{x:Str}(h:cJ (.str x)=true):Lay n (.str x):=⟨h,bx _⟩
theorem DX{n:Nat}:∀{ds:List aj},(∀d∈ds,Lay n d)->nH ds=true/\aj.depthAll ds<=n
 | [],_=>⟨rfl,bx _⟩
 |d::ds,h=>by
  obtain⟨h1,h2⟩:=DX λe he=>h e (aT _ he)
  obtain⟨h3,h4⟩:=h d aN;refine⟨by simp[nH,h1,h3],?_⟩
  show max d.depth (aj.depthAll ds)<=n;omega
theorem Aq{n:Nat}{ds:List aj}(h:∀d∈ds,Lay n d):Lay (n+1) (.list ds):=by
 obtain⟨h1,h2⟩:=DX h;exact⟨h1,pR h2⟩
theorem Ar{n:Nat}{ds:List aj}(h:∀d∈ds,Lay n d):Lay (n+1) (.tuple ds):=by
 obtain⟨h1,h2⟩:=DX h;exact⟨h1,pR h2⟩
theorem filterMap_some{α β:Type}{F:α->Option β}{g:α->β}:∀{l:List α},(∀a∈l,F a=some (g a))->l.filterMap F=l.map g
 | [],_=>rfl
 |a::l,h=>by
  rw[c9 (h a aN),aH,filterMap_some λb hb=>h b (aT _ hb)]
def Nf:Slot->Bool
 | .own _=>true
 |_=>false
def noOwn(δ:List Slot):Bool:=δ.all λs=>!Nf s
theorem lE{δ:List Slot}(h:noOwn δ=true)(i:Nat)(ds:List aj):δ[i]?≠some (.own ds):=λe=>by
 have:=d_.mp h _ (bA e);cases this
section
variable{K:ai}{B0 B H0 H ef H' C0 C Ha Hb:Hp}{σ σ':St}{δ δ':List Slot}
theorem hV.sC(f:hV K B0 B H0 H σ δ){i:Nat}{v:V}{sl:Slot}(hs:Ih K B H0 H sl (some (some v)))(hn:Nf sl=false):hV K B0 B H0 H (σ.set i (some v)) (δ.set i sl):=by
 refine⟨f.ent,by simp[f.len],λj Ru e=>?_,λj k ds es p DN e1 e2 e3=>?_⟩
 ·by_cases hj:j=i
  ·subst hj
   have hl:j < δ.length:=by simpa using(aM.mp e).1
   rw[bq hl]at e;cases e;rw[bq (by rw[f.len];exact hl)]
   exact hs
  ·rw[a9 (bY hj)]at e
   rw[a9 (bY hj)];exact f.slot j Ru e
 ·have nj:j≠i:=λz=>by
   subst z;have hl:j < δ.length:=by simpa using(aM.mp e1).1
   rw[bq hl]at e1;cases e1;cases hn
  have nk:k≠i:=λz=>by
   subst z;have hl:k < δ.length:=by simpa using(aM.mp e2).1
   rw[bq hl]at e2;cases e2;cases hn
  rw[a9 (bY nj)]at e1 e3;rw[a9 (bY nk)]at e2 ⊢;exact f.apart j k ds es p DN e1 e2 e3
theorem hV.re(f:hV K B0 B H0 H σ δ)(hn:noOwn δ=true)(g:eA C0 C H0 H):hV K C0 C H0 H σ δ:=by
 refine⟨g,f.len,λi sl e=>?_,f.apart⟩
 have q:=f.slot i sl e;cases sl with
 |own ds=>exact absurd e (lE hn i ds)
 |_=>exact q
theorem eA.still(g:eA H0 H Ha Hb){p:aK}{o:HO}(h0:H0 p=none)(h:H p=some o):Ha p=none:=by
 cases e:Ha p with
 |none=>rfl
 |some u=>
  rcases g.new p (by rw[e];simp)with z|z
  ·exact absurd h0 z
  ·rw[h]at z;cases z
theorem eA.far(s:dJ H0 H)(b:dJ H Hb):eA H0 H H0 Hb:=⟨b,dJ.refl _,s.trans b,λ_ z=>.inl z⟩
end
section
variable{X:Cx}{st:gZ}{rest body orelse:List gZ}{δ δ':List Slot}{o:Out}{a b c e arg:bR}{d d1 d2 da:aj}{ds zs:List aj}{pos px py:Pos}{x y:Str}
theorem nQ(n:Nat):(jL n).length=n:=by simp[jL]
theorem Px(tgt:DT){tg:bR}(h:VE X e δ d)(hg:PG X tg (Kk X.K tgt))(ha:yF tgt d δ=some δ')(hs:swapsWithSole [tg] e pos.line X.env=pure false:=by rfl)(hw:swappedStores [tg] e X.env=pure none:=by rfl)
  (h1:(assignEach [tg] X.env).map (·.2)=[assign tg X.env]:=by rfl):VS X (.Assign [tg] e pos) δ (.nx δ'):=λB0 B σ H0 H D f ok pins s I=>
 OD dg hg hs hw h1 pins s σ H D I (h B0 B σ H0 H _ f λv H1 dU g r=>qG (f.grow g) r ha λσ' f'=>ok σ' H1 dU g.gx f')
theorem Iu(i j:Nat){pt Dw:Pos}{kt k2}(h1:VE X a δ d1)(h2:VE X b δ d2)(hc:X.calm=true)(hN:X.N.Nodup)(yZ:i≠j)(hi:X.N[i]?=some x:=by rfl)(hj:X.N[j]?=some y:=by rfl)(hx:X.env.scope.names.lookup x=some .local:=by rfl)(hy:X.env.scope.names.lookup y=some .local:=by rfl)
  (hw:swappedStores [.Tuple [.Name x px,.Name y py] kt pt] (.Tuple [a,b] k2 Dw) X.env=pure (some [x,y]):=by rfl)(hs:swapsWithSole [.Tuple [.Name x px,.Name y py] kt pt] (.Tuple [a,b] k2 Dw) pos.line X.env=pure false:=by rfl)
  (Nh:starEach [a,b] X.env=(false,eval a X.env)::starEach [b] X.env:=by rfl)(pL:starEach [b] X.env=(false,eval b X.env)::starEach [] X.env:=by rfl):
  VS X (.Assign [.Tuple [.Name x px,.Name y py] kt pt] (.Tuple [a,b] k2 Dw) pos) δ (.nx ((δ.set i (.val d1)).set j (.val d2))):=λB0 B σ H0 H D f ok pins s I=>by
 obtain⟨t,pa,qa⟩:=aq h1 (aq h2 aQ pL) Nh;refine HB hc hN hi hj yZ hx hy pa hw hs pins s σ H D I (qa B0 B σ H0 H _ f λvs H1 dU g rs=>?_)
 obtain⟨v,w,rfl,r1,r2⟩:=rs.two;exact⟨v,w,rfl,ok _ H1 dU g.gx (((f.grow g).set r1).set r2)⟩
end
structure uG(K:ai)(B0 B:Hp)(a:aK)(ps:List aK)(gs:List (List aj))(H0 H:Hp)(σ:St)(δ:List Slot):Prop where
 fr:hV K B0 B H0 H σ δ
 no:noOwn δ=true
 arr:H a=some (.lst (ps.map V.ref))
 a0:H0 a=none
 aB:B a=none
 na:a∉ps
 nd:ps.Nodup
 len:ps.length=gs.length
 cell:∀(i:Nat)p ds,ps[i]?=some p->gs[i]?=some ds->H0 p=none/\B p=none/\∃xs,H p=some (.lst xs)/\cO K H0 xs ds
section
variable{K:ai}{B0 B H0 H ef H' C0 C Ha Hb:Hp}{σ σ':St}{δ δ':List Slot}{a:aK}{ps:List aK}{gs:List (List aj)}
theorem uG.go(G:uG K B0 B a ps gs H0 H σ δ)(f':hV K H0 H Ha Hb σ' δ')(hn:noOwn δ'=true):uG K B0 B a ps gs Ha Hb σ' δ' where
 fr:=f'.re hn (G.fr.ent.trans f'.ent)
 no:=hn
 arr:=f'.ent.big _ _ G.arr
 a0:=f'.ent.still G.a0 G.arr
 aB:=G.aB
 na:=G.na
 nd:=G.nd
 len:=G.len
 cell:=λi p ds e1 e2=>by
  obtain⟨h1,h2,xs,h3,h4⟩:=G.cell i p ds e1 e2;exact⟨f'.ent.still h1 h3,h2,xs,f'.ent.big _ _ h3,h4.mono f'.ent.gx⟩
theorem uG.from(G:uG K B0 B a ps gs H0 H σ δ)(g:eA C0 B H0 H):uG K C0 B a ps gs H0 H σ δ where
 fr:=G.fr.re G.no g
 no:=G.no
 arr:=G.arr
 a0:=G.a0
 aB:=G.aB
 na:=G.na
 nd:=G.nd
 len:=G.len
 cell:=G.cell
theorem uG.own(G:uG K B0 B a ps gs H0 H σ δ):hV K H0 H H0 H σ δ:=G.fr.re G.no (.refl G.fr.sub)
theorem uG.forget(G:uG K B0 B a ps gs H0 H σ δ)(hf:Km δ δ')(hn:noOwn δ'=true):uG K B0 B a ps gs H0 H σ δ':=G.go (G.own.forget hf.len hf.at) hn
end
section
variable{X:Cx}{B0 B H0 H ef H' Ha Hb:Hp}{σ σ':St}{D:Ends}{st:gZ}{rest body orelse:List gZ}{δ δ':List Slot}{a:aK}{ps:List aK}{gs:List (List aj)}{e c tg iter:bR}{d:aj}{ds:List aj}{pos px xk:Pos}{x y:Str}
def Ends.tail(D:Ends)(u:St->Hp->Prop):Ends:={ D with nx:=u }
theorem dE(h:cS X st (D.tail λσ H=>DP X rest D σ H) σ H):DP X (st::rest) D σ H:=λpins s I=>ku Ii ou pins s σ H D I h
theorem dF(h:cS X st D σ H):DP X [st] D σ H:=λpins s I=>zX Ii pins s σ H D I h
theorem Iv(G:uG X.K B0 B a ps gs H0 H σ δ)(h:VS X st δ (.nx δ'))(hn:noOwn δ'=true)(q:∀σ' ef H',uG X.K B0 B a ps gs ef H' σ' δ'->D.nx σ' H'):cS X st D σ H:=
 h H0 H σ H0 H D G.own λσ' Ha Hb sm f'=>q σ' Ha Hb (G.go f' hn)
theorem S3{tgt:DT}(G:uG X.K B0 B a ps gs H0 H σ δ)(hp:zK (model X.prog X.w) X.A X.env X.xe)(hc:X.calm=true)(hi:VI X tg iter δ ds)(hg:PG X tg (Kk X.K tgt))(QR:Nat->List (List aj))(h0:QR 0=gs)
  (step:∀k d,ds[k]?=some d->∃δ',yF tgt d δ=some δ'/\noOwn δ'=true/\∀(D:Ends)C0 σ' ef H',uG X.K C0 B a ps (QR k) ef H' σ' δ'->(∀σ2 Ha Hb,uG X.K C0 B a ps (QR (k+1)) Ha Hb σ2 δ->D.nx σ2 Hb)->DP X body D σ' H')
  (q:∀σ2 Ha Hb,uG X.K B0 B a ps (QR ds.length) Ha Hb σ2 δ->D.nx σ2 Hb)
  (hs:∀x,foldedSetIterable iter X.env x=pure x:=by intro _;rfl):cS X (.For tg iter body [] pos) D σ H:=λpins s I=>by
 obtain⟨wi,pi,qi⟩:=hi;refine zZ hp hc pi hg ou hs pins s σ H D I ?_
 refine qi H0 H σ H0 H _ G.own λJ H1 dU g it=>?_
 have G1:=G.go (G.own.grow g) G.no;refine⟨λi mm σ' H'=>i<=ds.length/\mm=ds.length-i/\∃Ha,uG X.K H1 B a ps (QR i) Ha H' σ' δ,⟨ds.length,bx _,rfl,H1,by rw[h0];exact G1.from ⟨G1.fr.ent.big,dJ.refl _,G1.fr.sub,λ_ z=>.inl z⟩⟩,?_⟩
 rintro i mm σ' H' ⟨hi,rfl,Ha,Ga⟩
 obtain⟨i1,i2,i3⟩:=it Ha H' Ga.fr.ent.gx Ga.fr.sub i;by_cases om:i<ds.length
 ·have hd:ds[i]?=some ds[i]:=by simp[om]
  obtain⟨δ',e1,e2,e3⟩:=step i _ hd;refine .inr ⟨i1 om,λσ'' xi=>∃Hb,uG X.K H1 B a ps (QR (i+1)) Hb xi σ'' δ,λσ'' xi ⟨Hb,z⟩=>⟨ds.length-(i+1),by omega,om,rfl,Hb,z⟩,λv H2 y=>?_⟩
  obtain⟨Hb,g2,rx⟩:=i3 v H2 _ hd y;refine qG (Ga.own.grow g2) rx e1 λσ3 f3=>?_
  exact e3 _ H1 σ3 Hb H2 (Ga.go f3 e2) λσ2 Hc Hd z=>⟨Hc,z⟩
 ·have e:i=ds.length:=by omega
  subst e;refine .inl ⟨i2 (aD _),q σ' Ha H' (Ga.from ⟨Ga.fr.ent.big,G1.fr.ent.gx.trans Ga.fr.ent.gx,Ga.fr.sub,λb z=>?_⟩)⟩
  rcases Ga.fr.ent.new b z with z|z
  ·exact G1.fr.ent.new b z
  ·exact .inr z
end
section
variable{X:Cx}{sc:lb}{own N:List Str}{cap:List Nat}{cl:List (Str×aK)}{tg iter:bR}{δ:List Slot}{ds:List aj}{pos px xk lp:Pos}{tgt:DT}{x:Str}{B0 B H0 H:Hp}{σ:St}{D:Ends}
theorem Lj(i:Nat)(f:hV X.K B0 B H0 H σ δ)(Ho:noOwn δ=true)(hc:X.calm=true)(CS:k6 X sc own cap N cl)(hi:VI X tg iter δ ds)(hg:∀f s3 H3,PG (gj X sc N cl f s3 H3) tg (Kk X.K tgt))(ht:zj own.length tgt=true)(hz:ds.length<=sizeLine)
  (step:∀d∈ds,∃δ',yF tgt d (lD own cap δ)=some δ')(hN:X.N.Nodup)(q:∀σ' a ps ef H',uG X.K B0 B a ps (a_ ds.length []) ef H' σ' (δ.set i (.ref a))->D.nx σ' H')(hn:∀a,noOwn (δ.set i (.ref a))=true)(SD:X.N[i]?=some x:=by rfl)(hx:Loc X.env.scope x:=by first|exact bj rfl|exact cP rfl)
  (BZ:swapsWith (.ListComp (.List [] lp) [⟨tg,iter,[],0⟩] sc pos) (some (.Name x px)) xk.line X.env=pure true:=by rfl)(hs:∀x,foldedSetIterable iter X.env x=pure x:=by intro _;rfl)(hf:X.fn x=true\/X.env.scope.names.lookup x=some .local:=by first|exact .inl rfl|exact .inr rfl):
  cS X (.Assign [.Name x px] (.ListComp (.List [] lp) [⟨tg,iter,[],0⟩] sc pos) xk) D σ H:=λpins s I=>by
 obtain⟨wi,pi,qi⟩:=hi;refine xj (i:=i) (tc:=UX X sc N cl []) (te:=teC X sc N cl (.List [] lp)) hN SD hx hc CS pi hg (λf s3 H3 pins s σ H Q I h=>h f s3 H3 pins s I) (λf s3 H3 pins s σ H Q I h=>h f s3 H3 pins s I) BZ hs hf pins s σ H D I ?_
 refine qi B0 B σ H0 H _ f λJ H1 dU g it=>?_
 have f1:=f.grow g;intro L hL;have Wz:B L=none:=f1.ent.big.free hL;refine⟨λi m ys σ' H'=>i<=ds.length/\m=ds.length-i/\∃Ha ps,eA H1 dU Ha H'/\hV X.K B0 B Ha H' σ' (lD own cap δ)/\Ha L=none/\ys=ps.map V.ref/\H' L=some (.lst ys)/\L∉ps/\ps.Nodup/\ps.length=i/\∀p∈ps,B p=none/\Ha p=none/\H' p=some (.lst []),
  ⟨ds.length,bx _,rfl,H1,[],.loose f1.sub hL,(f1.comp own cap).touch (f1.sub.free hL) Wz nz,f1.sub.free hL,rfl,bB,by simp,by simp,rfl,λp hp=>by cases hp⟩,?_⟩
 rintro n m ys σ' H' ⟨Zk,rfl,Ha,ps,g1,fa,Zm,rfl,UY,WB,Iw,qy,Ni⟩
 obtain⟨i1,i2,i3⟩:=it Ha H' g1.gx g1.sub n;by_cases om:n<ds.length
 ·refine .inr ⟨i1 om,λv H2 y=>?_⟩
  have hd:ds[n]?=some ds[n]:=by simp[om]
  obtain⟨Hb,g2,rx⟩:=i3 v H2 ds[n] hd y;obtain⟨δ',e1⟩:=step ds[n] (dG om);obtain⟨k1,k2⟩:=comp_back ht e1;refine qG (fa.grow g2) rx e1 λσ3 f3=>?_
  intro fp s3 H3;refine fA B0 B σ3 Hb H2 _ f3 λHc H4 g4=>?_
  rw[if_pos rfl];intro Wv s3' wy;have vo:VO (gj X sc N cl Wv s3' wy) (.List [] lp) δ' []:=fG (ds:=[]) aQ;refine vo B0 B σ3 Hc H4 _ (f3.grow g4) λp xs Hd H5 g5 a1 a2 a3 a4=>?_
  cases a4;have Kl:=(g2.trans g4).trans g5;have WC:Hd L=none:=Kl.still Zm UY;have Zn:L≠p:=λz=>by
   have:=(g2.trans g4).big _ _ UY;rw[z,a1]at this;cases this
  have pB:B p=none:=(f3.grow g4).ent.big.free a1;refine⟨Kl.big _ _ UY,by rw[ao,qy];omega,ds.length-(n+1),by omega,om,rfl,Hd,ps ++ [p],?_,((f3.grow g4).grow g5 |>.forget k1.symm k2).touch WC Wz nz,WC,by simp,bB,by simp[WB,Zn],?_,by simp[qy],λp' hp'=>?_⟩
  ·have gg:=g1.trans Kl
   exact⟨λb u e=>by rw[aR (bT e hL)];exact gg.big b u e,gg.gx,λb u e=>by rw[aR (bT e WC)];exact gg.sub b u e,gg.new⟩
  ·rw[cZ]
   refine⟨Iw,by simp,λb hb c hc=>?_⟩
   simp only[bh]at hc;subst hc;intro z;subst z;have:=(g2.trans g4).big _ _ (Ni b hb).2.2;rw[a1]at this;cases this
  ·rcases bZ.mp hp' with h|h
   ·obtain⟨h1,h2,h3⟩:=Ni p' h
    have np:p'≠L:=λz=>WB (by rw[<-z];exact h)
    exact⟨h1,Kl.still h2 h3,by rw[aR np];exact Kl.big _ _ h3⟩
   ·simp only[bh]at h
    subst h;exact⟨pB,a2,by rw[aR (bY Zn)];exact a3⟩
 ·have e:n=ds.length:=by omega
  subst e;refine .inl ⟨i2 (aD _),q _ L ps Ha H' ?_⟩
  have gg:=g.trans g1;refine⟨(f.grow gg).sC (v:=.ref L) (sl:=.ref L) rfl rfl,hn L,UY,Zm,Wz,WB,Iw,by simp[qy],λj p es e1 e2=>?_⟩
  obtain⟨h1,h2,h3⟩:=Ni p (bA e1);rw[dQ]at e2
  split at e2<;>cases e2
  exact⟨h2,h1,[],h3,.nil⟩
end
section
variable{X:Cx}{B0 B H0 H:Hp}{σ:St}{D:Ends}{δ:List Slot}{a:aK}{ps:List aK}{gs:List (List aj)}{pos px:Pos}{x:Str}
end
theorem Iy{ds:List aj}{i:Nat}{x:aj}(h:ds[i]?=some x):(mO ds)[i]?=some (.tuple [.int i,x]):=by
 unfold mO;rw[aJ,ik,h];simp
theorem tY{α:Type}(l:List α)(n:Nat):cutD l none (some (n:Int))=l.take n:=by
 unfold cutD;rw[HT.BP,HT.oW,kQ,Nat.sub_zero];by_cases h:n<=l.length
 ·rw[mI h]
 ·rw[Nat.min_eq_right (by omega),cM (aD _),cM (by omega)]
theorem E_:Lay 20 (.list []):=Aq (n:=19) λd hd=>by cases hd
structure Nm(mg:Str->Option av):Prop where
 len:mg "len"=none
 Fb:mg "enumerate"=none
 srt:mg "sorted"=none
 max:mg "max"=none
 min:mg "min"=none
 rng:mg "range"=none
 sum:mg "sum"=none
 Zo:mg "isinstance"=none
 tup:mg "tuple"=none
 lst:mg "list"=none
 int:mg "int"=none
 bool:mg "bool"=none
section
variable{P:bo}{w:bX}{A:cU}{R:sf->aF->Prop}{it S:aK}{fp wr:List aK}{n:Nat}{V:Nat->av->Prop}{St:Nat->cK->Prop}{Kp:cK->Prop}{bt:Nat->Nat->Bool}
end
section
variable{P:bo}{w:bX}{A:cU}{E:av->aF->Prop}{s:aF}
end
section
variable{X:Cx}
end
def Ge(l:aK)(n:Nat):cK->Prop:=λh=>∃o es ep t,h.get? l=some o/\o.ExactSet/\o.data=.set es ep t/\t.fits es.size=true/\es.size=n
theorem Ge.ok{P:bo}{w:bX}{H:Hp}{h:cK}{l:aK}{n:Nat}(x:Ge l n h):gw P w H h l (.ext (Ge l n)):=by
 refine⟨x,?_,λh1 h2 y k=>?_⟩
 ·obtain⟨o,_,_,_,e,_⟩:=x
  exact⟨o,e⟩
 ·obtain⟨o,es,ep,t,e,r⟩:=y
  exact⟨o,es,ep,t,k o e,r⟩
section
variable{X:Cx}
def dd:List Str->List Str->List Str
 |acc,[]=>acc
 |acc,x::l=>dd (if decide (x∈acc)=true then acc else acc ++ [x]) l
theorem zm:∀(l:List Str)(acc m:List Str),dd acc (l++m)=dd (dd acc l) m
 | [],_,_=>rfl
 |x::l,acc,m=>zm l _ m
theorem uU:∀(l acc:List Str),(dd acc l).length<=acc.length+l.length
 | [],_=>aD _
 |x::l,acc=>by
  have:=uU l (if decide (x∈acc)=true then acc else acc ++ [x])
  unfold dd
  split at this
  ·rename_i h;rw[if_pos h];simp;omega
  ·rename_i h;rw[if_neg h];simp at this ⊢;omega
theorem B5:∀{l acc:List Str},(acc++l).Nodup->dd acc l=acc++l
 | [],acc,_=>by rw[eI];rfl
 |x::l,acc,h=>by
  unfold dd;have hx:x∉acc:=λz=>by
   rw[cZ]at h;exact h.2.2 x z x aN rfl
  rw[if_neg (by simpa using hx),B5 (by simpa using h)]
  simp
theorem zo:∀{ss:List Str}{its:List av},dS (ss.map V.str) its->∀(i:Nat)v,its[i]?=some v->∃x t,ss[i]?=some x/\v=.str x t
 | [],_,r,i,v,e=>by cases r;simp at e
 |x::ss,_,r,i,v,e=>by
  cases r with
  |cons a t=>
   cases i with
   |zero=>obtain⟨t,rfl⟩:=a;simp at e;exact⟨x,t,rfl,e.symm⟩
   |succ i=>simpa using zo t i v (by simpa using e)
theorem SetOf.WD{P:bo}{w:bX}{h:cK}{l:aK}{S:Str->Bool}{n:Nat}(x:h.SetOf (strKind P w) l S n):Ge l n h:=by
 obtain⟨o,es,ep,t,ho,hex,hd,_,_,_,hf,hn⟩:=x;exact⟨o,es,ep,t,ho,hex,hd,hf,hn⟩
theorem yG:jh X (.builtin "len") (λxs H Q=>∃p n,xs=[.ref p]/\H p=some (.ext (Ge p n))/\n<10000/\Q (.int n) H):=by
 intro pins s σ H xs us Q I r h;obtain⟨p,n,rfl,hp,hn,q⟩:=h;obtain⟨u,rfl,rx⟩:=vals1 r;cases rx;obtain⟨⟨o,es,ep,t,ho,hex,hd,hf,hz⟩,_⟩:=I.hok p _ hp;exact call_len_set ho hex hd hf (by omega) ⟨.int n,H,I.tok _,⟨_,by rw[hz]⟩,q⟩
end
section
variable{X:Cx}{a b c e:bR}{δ:List Slot}{d d1 d2 d3:aj}{ds:List aj}{pos p p2 rK:Pos}{k:Nat}
theorem cO.strs{K:ai}{H:Hp}:∀{ss:List Str}{xs:List V},cO K H xs (ss.map .str)->xs=ss.map V.str
 | [],_,r=>by cases r;rfl
 |x::ss,_,r=>by cases r with|cons a t=>cases a;rw[cO.strs t];rfl
theorem xq:PE X e (λ_ _ _=>False):=λ_ _ _ _ _ _ h=>h.elim
theorem je{op}(h:VE X a δ d):VE X (.BoolOp op [a] pos) δ d:=.of (Ow dg) λB0 B σ H0 H Q f q=>h B0 B σ H0 H Q f q
theorem kA{k1 k2:Bool}{rest:List bR}(h1:VE X a δ (.bool k1))(h2:k1=true->VE X (.BoolOp .And (b::rest) pos) δ (.bool k2)):VE X (.BoolOp .And (a::b::rest) pos) δ (.bool (k1&&k2)):=by
 cases k1 with
 |true=>
  refine .of (Hv dg dg) λB0 B σ H0 H Q f q=>h1 B0 B σ H0 H _ f λv H1 dU g r=>?_
  cases r;refine⟨true,rfl,?_⟩
  rw[if_pos rfl];exact h2 rfl B0 B σ H1 dU _ (f.grow g) λu H2 iS g2 r2=>q u H2 iS (g.trans g2) r2
 |false=>
  refine .of (Hv dg xq) λB0 B σ H0 H Q f q=>h1 B0 B σ H0 H _ f λv H1 dU g r=>?_
  cases r;refine⟨false,rfl,?_⟩
  rw[if_neg cu];exact q _ H1 dU g (.bl false)
theorem qI{k1 k2:Bool}{rest:List bR}(h1:VE X a δ (.bool k1))(h2:k1=false->VE X (.BoolOp .Or (b::rest) pos) δ (.bool k2)):VE X (.BoolOp .Or (a::b::rest) pos) δ (.bool (k1||k2)):=by
 cases k1 with
 |false=>
  refine .of (MZ dg dg) λB0 B σ H0 H Q f q=>h1 B0 B σ H0 H _ f λv H1 dU g r=>?_
  cases r;refine⟨false,rfl,?_⟩
  rw[if_neg cu];exact h2 rfl B0 B σ H1 dU _ (f.grow g) λu H2 iS g2 r2=>q u H2 iS (g.trans g2) r2
 |true=>
  refine .of (MZ dg xq) λB0 B σ H0 H Q f q=>h1 B0 B σ H0 H _ f λv H1 dU g r=>?_
  cases r;refine⟨true,rfl,?_⟩
  rw[if_pos rfl];exact q _ H1 dU g (.bl true)
def pM:List Bool->Bool:=λl=>l.all id
theorem oy(hc:X.calm=true):jh X (.builtin "all") (λxs H Q=>∃p bs,xs=[.ref p]/\kO X.K H p (bs.map V.bl)/\Q (.bl (pM bs)) H):=by
 intro pins s σ H xs us Q I r h;obtain⟨p,bs,rfl,hq,q⟩:=h;obtain⟨u,rfl,rx⟩:=vals1 r;cases rx;obtain⟨its,rv,pl,hz⟩:=I.list hq;have hl:=rv.length;simp only[ao]at hl;refine call_all_walkS (lN pl.isList ?_)
 have Ao:p≠s.heap.objs.size:=aX (aY pl.isList.choose_spec.1);have WG:∀(i:Nat)v,its.toArray[i]?=some v->v=.bool (bs.getD i false):=λi v hv=>by
  have HF:its[i]?=some v:=by simpa using hv
  have e:=rv.getD i;have e2:its.getD i iq=v:=by rw[ax,HF];rfl
  have hi:i<bs.length:=by have:=(aM.mp HF).1;omega
  have e3:(bs.map V.bl).getD i .non=.bl (bs.getD i false):=by
   rw[ax,aJ,ax,au hi];rfl
  rw[e2,e3]at e;exact e
 refine⟨_,_,_,_,_,_,_,λi=>bs.getD i false,rfl,(Walks.list (by simp[I.ok.hd hc]) _ p Ao its.toArray).toS,⟨⟨_,bp _ rfl,rfl,rfl⟩,pl.isList.push _⟩,?_,λs' hm=>?_⟩
 ·intro i v Q' E' s' hv q'
  rw[WG i v hv];exact eW q'
 ·have ea:(aW its.toArray.size).all (λi=>bs.getD i false)=pM bs:=by
   rw[bu,<-hl];unfold pM;rw[gC,d_,d_]
   constructor
   ·intro h x hx
    obtain⟨i,hi⟩:=qY.mp hx;have:=h i (cF.mpr (aM.mp hi).1);rw[ax,hi]at this;exact this
   ·intro h i hi
    have hi:=cF.mp hi;rw[ax,au hi];exact h _ (dG hi)
  rw[ea];obtain⟨h',g',d',yt,KJ⟩:=s';have eg:g'=s.gens:=hm.gens;have ed:d'=s.drawn:=hm.drawn;have eo:KJ=s.os:=hm.os;subst eg;subst ed;subst eo;refine⟨.bl _,H,I.kept (t':=yt) λb o e=>hm.heap b o ?_ (aE _ e),rfl,q⟩
  have:=aY e;simp only[bh];exact aX this
theorem cO.WH{K:ai}{H:Hp}:∀{bs:List Bool}{xs:List V},cO K H xs (bs.map .bool)->xs=bs.map V.bl
 | [],_,r=>by cases r;rfl
 |x::ss,_,r=>by cases r with|cons a t=>cases a;rw[cO.WH t];rfl
theorem zp{K:ai}{bs:List Bool}:mN K (λxs H Q=>∃p bs,xs=[.ref p]/\kO K H p (bs.map V.bl)/\Q (.bl (pM bs)) H) [.list (bs.map .bool)] (.bool (pM bs)):=λvs H0 H Q s r q=>by
 obtain⟨v,rfl,r1⟩:=r.one;cases r1 with
 |lst hq rs=>
  have e:=rs.WH;subst e;exact⟨_,bs,rfl,s.seq hq,q _ _ _ (.refl s) (.bl _)⟩
theorem Nj(hr:fc k X.A)(hs:B2 d2=true)(l1:Lay 20 d1)(l2:Lay 20 d2)(h1:VE X a δ d1)(h2:VE X b δ d2)(hm:behindInMarks .In b=false:=by with_unfolding_all rfl):VE X (.Compare a [.In] [b] pos) δ (.bool (tU d1 d2)):=nM (Il (Al hr)) (Pq (neg:=false) hs l1 l2) h1 h2 hm
theorem Iz(hr:fc k X.A)(l1:Lay 20 d1)(l2:Lay 20 d2)(h1:VE X a δ d1)(h2:VE X b δ d2):VE X (.Compare a [.NotEq] [b] pos) δ (.bool (!du d1 d2)):=nM (Ik (Al hr)) (E7 l1 l2) h1 h2 (fU _)
end
end L2
namespace L2
open PySem PySem.Spec PyProof.Rows PySem.Builtin PySem.Builtin.Str
section
variable{X:Cx}
def Py:V->List V->Hp->VK->Prop:=λx vs H Q=>∃z y,x=.str z/\vs=[.str y]/\(y.length==0)=false/\z.length+2<=sizeLine/\∀l,H l=none->Q (.ref l) (upd H l (.lst ((cz z y).map V.str)))
theorem tZ:∀(l:List (Str×Tok)),dS ((l.map (·.1)).map V.str) (strValues l)
 | []=>.nil
 |(x,t)::l=>.cons ⟨t,rfl⟩ (tZ l)
theorem split_len{z y:Str}(hz:z.length+2<=sizeLine):(cz z y).length<=sizeLine/\(partsBetween z (occurrences z y 0 z.length (z.length+1)) y.length).length<=sizeLine:=by
 have e1:=Bp z y 0 z.length (z.length+1);have e2:(partsBetween z (occurrences z y 0 z.length (z.length+1)) y.length).length<=sizeLine:=by rw[vR];omega
 refine⟨?_,e2⟩
 unfold cz
 split
 ·show 1<=sizeLine;omega
 ·split
  ·show 1<=sizeLine;omega
  ·exact e2
theorem IA:Sd X "str.split" Py:=by
 intro pins s σ H x vs v us Q I rx rv h;obtain⟨z,y,rfl,rfl,hy,hz,q⟩:=h;obtain⟨t,rfl⟩:=rx;obtain⟨u,rfl,ru⟩:=rv.one;obtain⟨tu,rfl⟩:=ru;obtain⟨sl,sp⟩:=split_len (y:=y) hz;have fin:∀(l:List (Str×Tok))(k:Nat),l.map (·.1)=cz z y->EP X pins σ Q (.ref s.heap.objs.size) { s with heap:=s.heap.push { cls:=.type "list",data:=.seq (strValues l).toArray },toks:=k }:=λl k e=>by
  refine⟨.ref s.heap.objs.size,_,I.laid (λb o e=>aE _ e) (aD _) (show gw X.prog X.w _ _ _ (.lst ((cz z y).map V.str)) from⟨by rw[ao];exact sl,strValues l,0,by rw[<-e];exact tZ l,bp _ rfl⟩),rfl,q _ (I.hok.fresh (aD _))⟩
 cases h1:(decide (z.length<y.length)||decide (strKind z<strKind y)) with
 |true=>exact kU yz (sj _ _ _) wI (vS _ _) (meets_str_split_cannot_occur z y t tu h1) (fin [(z,t)] s.toks (by unfold cz;rw[if_pos h1];rfl))
 |false=>
  cases hf:(occurrences z y 0 z.length (z.length+1)).isEmpty with
  |true=>exact kU yz (sj _ _ _) wI (vS _ _) (meets_str_split_not_found z y t tu h1 hy hf) (fin [(z,t)] s.toks (by unfold cz;rw[if_neg (by rw[h1];decide),if_pos hf];rfl))
  |false=>
   refine kU yz (sj _ _ _) wI (vS _ _) (meets_str_split_sep z y t tu h1 hy hf (by omega) sp) ?_
   rw[strsFrom_eq];exact fin (numbered s.toks _) _ ((numbered_texts _ _).trans (by unfold cz;rw[if_neg (by rw[h1];decide),if_neg (by rw[hf];decide)]))
def rJoin(K:ai):V->List V->Hp->VK->Prop:=λx vs H Q=>∃y p zs,x=.str y/\vs=[.ref p]/\(kO K H p (zs.map V.str)\/og K H p (zs.map V.str))/\(zs.map (·.length)).sum+zs.length*y.length<=16777216/\Q (.str (cW y zs)) H
theorem xr:∀{zs:List Str}{us:List av},dS (zs.map V.str) us->StrsAre us zs
 | [],_,r=>by cases r;exact .nil
 |z::zs,_,r=>by cases r with|cons a t=>obtain⟨tk,rfl⟩:=a;exact .cons z tk (xr t)
theorem Lk:Sd X "str.join" (rJoin X.K):=by
 intro pins s σ H x vs v us Q I rx rv h;obtain⟨y,p,zs,rfl,rfl,hq,hz,q⟩:=h;obtain⟨t,rfl⟩:=rx;obtain⟨u,rfl,ru⟩:=rv.one;cases ru;have e:Txt.join y zs=cW y zs:=StrLaws.glued_eq_join y zs;rcases hq with hq|hq
 ·obtain⟨its,r,pl,_⟩:=I.list hq
  exact join_list pl.isList (by simpa using xr r) hz λt' k=>⟨.str _,H,I.tok k,⟨t',by rw[e]⟩,q⟩
 ·obtain⟨its,r,pl,_⟩:=I.tuple hq
  exact join_tuple pl (by simpa using xr r) hz λt' k=>⟨.str _,H,I.tok k,⟨t',by rw[e]⟩,q⟩
theorem yH:jh X (.type "int") (λxs H Q=>∃x n,xs=[.str x]/\intText? x=some n/\x.length<=640/\Q (.int n) H):=by
 intro pins s σ H xs us Q I r h;obtain⟨x,n,rfl,hn,hl,q⟩:=h;obtain⟨u,rfl,t,rfl⟩:=vals1 r;exact PySem.W.KIN.call_text hn hl ⟨.int n,H,I.tok _,⟨_,rfl⟩,q⟩
def jm(x:Str):Nat->Str
 |0=>fz
 |n+1=>x++jm x n
theorem Fc(x:Str):∀(n:Nat)(acc:Array Nat),(a_ n x.cps).foldl (· ++ ·) acc=acc++(jm x n).cps
 |0,acc=>by show acc=acc ++ #[];simp
 |n+1,acc=>by
  rw[dO,my,Fc x n];show acc++x.cps++(jm x n).cps=acc++(x.cps++(jm x n).cps);rw[Array.append_assoc]
theorem Fd(x:Str):∀n,(jm x n).length=n*x.length
 |0=>by show(fz).length=_;simp[fz,Str.length]
 |n+1=>by
  show(x++jm x n).length=_
  rw[cw,Fd x n,Dt,Nat.add_comm]
theorem Ln:qw X (binaryOp .Mult) (λx y H Q=>∃z n,x=.str z/\y=.int n/\0<=n/\n<=1000/\z.length<=1000/\Q (.str (jm z n.toNat)) H):=by
 intro pins s σ H x y v u Q I rx ry h;obtain⟨z,n,rfl,rfl,h0,h1,hz,q⟩:=h;obtain⟨t,rfl⟩:=rx;obtain⟨t',rfl⟩:=ry;have h63:(1000:Int)<2^63:=by decide
 have e63:(2:Int)^63=9223372036854775808:=by decide
 refine PySem.P.mul_str (by rw[decide_eq_false (by omega),decide_eq_false (by omega)];rfl) (λha _=>?_) (λ_ _=>?_) ?_
 ·have:((2:Int)^63-1)/n>=1000:=by
   rw[ge_iff_le,Int.le_ediv_iff_mul_le (by omega)]
   omega
  omega
 ·unfold tooLong
  rw[decide_eq_false];rw[dI];have:z.length*n.toNat<=1000*1000:=g7 hz (by omega)
  omega
 ·by_cases hn:n<1
  ·rw[if_pos hn]
   have:n.toNat=0:=by omega
   rw[this]at q;exact⟨by decide,.str _,H,I.tok _,⟨_,rfl⟩,q⟩
  ·rw[if_neg hn]
   by_cases hc:(n==1||z.length==0)=true
   ·rw[if_pos hc]
    have e:jm z n.toNat=z:=by
     rw[yp]at hc;rcases hc with hc|hc
     ·have:n=1:=by simpa using hc
      subst this;show z++fz=z;cases z with|mk c=>show(⟨c ++ #[]⟩:Str)=⟨c⟩;simp
     ·have Zq:z.length=0:=by simpa using hc
      have:z=fz:=by cases z with|mk c=>simp[Str.length]at Zq;simp[fz,Zq]
      subst this;have:∀m,jm fz m=fz:=by
       intro m
       induction m with
       |zero=>rfl
       |succ m ih=>show fz++jm fz m=_;rw[ih];rfl
      exact this _
    rw[e]at q;exact⟨.str _,H,I.tok _,⟨_,rfl⟩,q⟩
   ·rw[if_neg hc]
    have e:(⟨(a_ n.toNat z.cps).foldl (· ++ ·) #[]⟩:Str)=jm z n.toNat:=by rw[Fc];simp
    rw[e];refine⟨?_,.str _,H,I.tok _,⟨_,rfl⟩,q⟩
    rw[Fd,dI];have:n.toNat*z.length<=1000*1000:=g7 (by omega) hz
    omega
def Its(x:Str):It:=⟨λi _=>i<x.cps.size,λi H v H'=>H'=H/\∃c,x.cps[i]?=some c/\v=.str ⟨#[c]⟩,λi _=>x.cps.size<=i⟩
theorem IB{P:bo}{w:bX}{K:ai}{tg:bR}(it:aK)(x:Str)(t:Tok){ty:String}(hty:ty="str_ascii_iterator"\/ty="str_iterator"):Turn P w K tg (Its x) [it] it (λi h=>h.IsStrIter it ty x t i) where
 mem:=by simp
 obj:=λi h st b hb=>by
  have e:b=it:=by simpa using hb
  subst e;obtain⟨o,e,c,d⟩:=st;exact⟨o,e,λv z=>by rw[d]at z;cases z⟩
 keep:=λi h h' st k=>let⟨o,e,r⟩:=st;⟨o,k it (by simp) o e,r⟩
 item:=by
  intro X hP hw hK hc i pins s σ H E I hf st hg;subst hP hw hK;obtain⟨f0,f1,f2,f3,f4,f5⟩:=hf it (by simp)
  have hn:["enumerate","zip","dict_itemiterator","dict_reverseitemiterator","odict_iterator","itertools.zip_longest","itertools.pairwise"].contains ty=false:=by rcases hty with rfl|rfl<;>decide
  have fin:∀v h' tk,SignAt x i v->h'.IsStrIter it ty x t (i+1)->(∀b o,b∉[it]->s.heap.get? b=some o->h'.get? b=some o)->∃u,some v=some u/\wpAny (model X.prog X.w) X.A (letOwnedTupleGo tg (.ref it) u) (λ_ s2=>∃y H',Inv X pins σ H' s2/\RelV y u/\(Its x).RJ i H y H'/\s2.heap.IsStrIter it ty x t (i+1)/\∀b∈[it],H' b=none) E { s with heap:=h',toks:=tk }:=by
   intro v h' tk hv wq kk;obtain⟨c,u,hcu,rfl⟩:=hv;have I1:Inv X pins σ H { s with heap:=h',toks:=tk }:=I.turned (λb o hb e=>kk b o (by simpa using hb) e) f0 f1 f3 f4 f5
   obtain⟨o,e,cc,d⟩:=id wq;exact⟨_,rfl,BI (s:={ s with heap:=h',toks:=tk }) e cc d hn ⟨.str ⟨#[c]⟩,H,I1,⟨u,rfl⟩,⟨rfl,c,hcu,rfl⟩,wq,λb hb=>(hf b hb).1⟩⟩
  rcases hty with rfl|rfl
  ·exact(Walks.strAscii (prog:=X.prog) (w:=X.w) (I.ok.hd hc) it x t).item i s _ _ hg st λv h' tk hv wq kk=>fin v h' tk hv wq kk
  ·exact(Walks.strWide (prog:=X.prog) (w:=X.w) (I.ok.hd hc) it x t).item i s _ _ hg st λv h' tk hv wq kk=>fin v h' tk hv wq kk
 done:=by
  intro X hP hw hK hc i pins s σ H E I hf st hg;subst hP hw hK;obtain⟨f0,f1,f2,f3,f4,f5⟩:=hf it (by simp)
  have Zr:x.cps.size<=i:=hg;rcases hty with rfl|rfl
  ·exact wpAny_pyNext_ascii_end (I.ok.hd hc) st (by simp;exact Zr) λh' eb=>⟨rfl,I.turned (t':=s.toks) (λb o hb e=>eb b o hb e) f0 f1 f3 f4 f5⟩
  ·exact wpAny_pyNext_wide_end (I.ok.hd hc) st (by simp;exact Zr) λh' eb=>⟨rfl,I.turned (t':=s.toks) (λb o hb e=>eb b o hb e) f0 f1 f3 f4 f5⟩
 self:=λ_ _ _ _ _ st h=>by
  rcases hty with rfl|rfl
  ·exact wpAny_pyIter_striter_ascii st h
  ·exact wpAny_pyIter_striter_wide st h
def WK(tl:TE):TI:=λσ H R=>tl σ H λv H1=>∃x,v=.str x/\R (Its x) H1
theorem Pz{tg l:bR}{tl:TE}(hl:PE X l tl):PI X tg l (WK tl):=by
 intro pins s σ H R I h;refine gD (hl pins s σ H _ I h) λv s1 ⟨y,H1,I1,r1,q1⟩=>?_
 obtain⟨x,e,q⟩:=q1;subst e;obtain⟨t,rfl⟩:=r1;have go:∀ty,(ty="str_ascii_iterator"\/ty="str_iterator")->∀o:Obj,o.cls=.type ty->o.data=.fields #[.str x t,.int (0:Nat) 0]->o.isFreed=false->VJ X pins σ tg R (.ref s1.heap.objs.size) { s1 with heap:=s1.heap.push o }:=λty hty o c d fr=>
  ⟨s1.heap.objs.size,[s1.heap.objs.size],_,_,H1,rfl,I1.kept (t':=s1.toks) λb o e=>aE _ e,IB _ x t hty,⟨o,bp _ fr,c,d⟩,λb hb=>by
   have e:b=s1.heap.objs.size:=by simpa using hb
   subst e;exact I1.wM (aD _) (I1.hok.fresh (aD _)),q⟩
 cases ha:x.cps.all (·<128)
 ·exact wpAny_pyIter_wide ha (go "str_iterator" (.inr rfl) _ rfl rfl rfl)
 ·exact wpAny_pyIter_ascii ha (go "str_ascii_iterator" (.inl rfl) _ rfl rfl rfl)
end
section
variable{X:Cx}{tg a b c e:bR}{es:List bR}{δ:List Slot}{d d1 d2 d3:aj}{ds:List aj}{pos p p2 rK:Pos}{k:Nat}{x y z:Str}
def o5(x:Str):List aj:=x.cps.toList.map λc=>.str ⟨#[c]⟩
theorem PB(h:VE X a δ (.str x)):VI X tg a δ (o5 x):=⟨_,Pz dg,λB0 B σ H0 H R f q=>h B0 B σ H0 H _ f λv H1 dU g r=>by
 cases r;have hl:(o5 x).length=x.cps.size:=by unfold o5;rw[ao,cN]
 refine⟨x,rfl,q _ H1 dU g λHa Hb s1 s2 i=>⟨λhi=>(show i<x.cps.size by omega),λhi=>(show x.cps.size<=i by omega),λv xi d hd ⟨e,c,hc,ev⟩=>?_⟩⟩
 subst e;subst ev;unfold o5 at hd;rw[aJ,qg,hc]at hd;cases hd;exact⟨Ha,.refl s2,.str _⟩⟩
theorem odS{K:ai}(h:x.length+y.length<=sizeLine):yD K (λx y H Q=>∃i j,x=.str i/\y=.str j/\i.length+j.length<=sizeLine/\Q (.str (i++j)) H) (.str x) (.str y) (.str (x++y)):=λv u H0 H Q s r1 r2 k=>by cases r1;cases r2;exact⟨_,_,rfl,rfl,h,k _ _ _ (.refl s) (.str _)⟩
theorem iy(h1:VE X a δ (.str x))(h2:VE X b δ (.str y))(h:x.length+y.length<=sizeLine):VE X (.BinOp a .Add b pos) δ (.str (x++y)):=sy DC (odS h) h1 h2
theorem PD{K:ai}{n:Int}(h0:0<=n)(h1:n<=1000)(hz:x.length<=1000):yD K (λx y H Q=>∃z n,x=.str z/\y=.int n/\0<=n/\n<=1000/\z.length<=1000/\Q (.str (jm z n.toNat)) H) (.str x) (.int n) (.str (jm x n.toNat)):=λv u H0 H Q s r1 r2 k=>by cases r1;cases r2;exact⟨_,_,rfl,rfl,h0,h1,hz,k _ _ _ (.refl s) (.str _)⟩
theorem Fe{n:Int}(h1:VE X a δ (.str x))(h2:VE X b δ (.int n))(h0:0<=n)(hn:n<=1000)(hz:x.length<=1000):VE X (.BinOp a .Mult b pos) δ (.str (jm x n.toNat)):=sy Ln (PD h0 hn hz) h1 h2
theorem S4{K:ai}{i:Int}{c:Nat}(hz:x.length<=sizeLine)(h:oO x.cps.toList i=some c):yD K (UR K) (.str x) (.int i) (.str ⟨#[c]⟩):=λv u H0 H Q s r1 r2 k=>by
 cases r1;cases r2;exact .inr (.inr ⟨x,i,c,rfl,rfl,hz,h,k _ _ _ (.refl s) (.str _)⟩)
theorem As{i:Int}{c:Nat}(h1:VE X a δ (.str x))(h2:VE X b δ (.int i))(hz:x.length<=sizeLine)(h:oO x.cps.toList i=some c)(hs:q_ b:=by intro _ _;rfl):VE X (.Subscript a b pos) δ (.str ⟨#[c]⟩):=DQ Ad (S4 hz h) h1 h2 hs
def Au(x y:Str):Bool:=!(occurrences y x 0 y.length 1).isEmpty
theorem S5{K:ai}:yD K (λx y H Q=>∃i j,x=.str i/\y=.str j/\Q (.bl (!(occurrences j i 0 j.length 1).isEmpty)) H) (.str x) (.str y) (.bool (Au x y)):=λv u H0 H Q s r1 r2 k=>by cases r1;cases r2;exact⟨_,_,rfl,rfl,k _ _ _ (.refl s) (.bl _)⟩
theorem PF(h1:VE X a δ (.str x))(h2:VE X b δ (.str y))(hm:behindInMarks .In b=false:=by with_unfolding_all rfl):VE X (.Compare a [.In] [b] pos) δ (.bool (Au x y)):=nM FU S5 h1 h2 hm
theorem PH{K:ai}(hz:x.length<=sizeLine):mN K (λxs H Q=>∃z,xs=[.str z]/\z.length<=sizeLine/\Q (.int z.length) H) [.str x] (.int x.length):=λvs H0 H Q s r k=>by
 obtain⟨v,rfl,r1⟩:=r.one;cases r1;exact⟨x,rfl,hz,k _ _ _ (.refl s) (.int _)⟩
theorem Ff(h:VE X a δ (.str x))(hz:x.length<=sizeLine)(hm:X.mg "len"=none)(hg:Gl X "len":=by rfl)(hs:starEach [a] X.env=(false,eval a X.env)::starEach [] X.env:=by rfl):VE X (.Call (.Name "len" p) [a] [] pos) δ (.int x.length):=iU Af (PH hz) (aq h aQ hs) hm rH hg (he:=hs)
theorem PJ{K:ai}{i:Int}(h:i.natAbs.log2<1920):mN K (λxs H Q=>∃i,xs=[.int i]/\i.natAbs.log2<1920/\Q (.str (toString i)) H) [.int i] (.str (toString i)):=λvs H0 H Q s r k=>by
 obtain⟨v,rfl,r1⟩:=r.one;cases r1;exact⟨i,rfl,h,k _ _ _ (.refl s) (.str _)⟩
theorem PK{K:ai}{n:Int}(h:intText? x=some n)(hl:x.length<=640):mN K (λxs H Q=>∃x n,xs=[.str x]/\intText? x=some n/\x.length<=640/\Q (.int n) H) [.str x] (.int n):=λvs H0 H Q s r k=>by
 obtain⟨v,rfl,r1⟩:=r.one;cases r1;exact⟨x,n,rfl,h,hl,k _ _ _ (.refl s) (.int _)⟩
theorem rj{i:Int}(h:VE X a δ (.int i))(hl:i.natAbs.log2<1920)(hm:X.mg "str"=none)(hg:Gl X "str":=by rfl)(hs:starEach [a] X.env=(false,eval a X.env)::starEach [] X.env:=by rfl):VE X (.Call (.Name "str" p) [a] [] pos) δ (.str (toString i)):=ja z0 (PJ hl) (aq h aQ hs) hm rfl hg (he:=hs)
theorem Lp{n:Int}(h:VE X a δ (.str x))(hn:intText? x=some n)(hl:x.length<=640)(hm:X.mg "int"=none)(hg:Gl X "int":=by rfl)(hs:starEach [a] X.env=(false,eval a X.env)::starEach [] X.env:=by rfl):VE X (.Call (.Name "int" p) [a] [] pos) δ (.int n):=ja yH (PK hn hl) (aq h aQ hs) hm rfl hg (he:=hs)
theorem qJ{ap:Pos}(h1:VE X a δ (.str x))(h2:VE X b δ (.str y))(hy:(y.length==0)=false)(hz:x.length+2<=sizeLine)
  (hs:starEach [b] X.env=(false,eval b X.env)::starEach [] X.env:=by rfl)(mM:attributeBase a "split" X.env (eval a X.env)=eval a X.env:=by rfl)
  (sv:((backTo pos (starEach [b] X.env)).all (λx=>!x.1)&&(backToKw pos (keywordEach [] X.env)).all (λx=>x.1.isSome)&&decide (([b]:List bR).length+([]:List iK).length+(if([]:List iK).isEmpty then 0 else 1)<30))=true:=by rfl)
  (hline:(ap.endLine==pos.line)=true:=by rfl)(jZ:(backTo pos (starEach [] X.env)).any (·.1)=false:=by rfl):VO X (.Call (.Attribute a "split" ap) [b] [] pos) δ ((cz x y).map .str):=
 .of (wY zP PySem.F.slot_str_split PySem.F.type_str_split IA dg (dR dg gi hs) mM sv hline hs jZ) λB0 B σ H0 H Q f q=>h1 B0 B σ H0 H _ f λv H1 dU g r1=>by
  cases r1;refine⟨rfl,h2 B0 B σ H1 dU _ (f.grow g) λu H2 iS g2 r2=>?_⟩
  cases r2;refine⟨x,y,rfl,rfl,hy,hz,λl hl=>?_⟩
  have gg:=g.trans g2;refine q l _ H2 _ (gg.trans (.loose g2.sub hl)) (gg.big.free hl) (g2.sub.free hl) bB ?_
  have go:∀l:List Str,cO X.K H2 (l.map V.str) (l.map aP):=by
   intro l
   induction l with
   |nil=>exact .nil
   |cons z l ih=>exact .cons (.str z) ih
  exact go _
theorem rm{ap:Pos}{zs:List Str}(h1:VE X a δ (.str y))(h2:VE X b δ (.list (zs.map .str)))(hz:(zs.map (·.length)).sum+zs.length*y.length<=16777216)
  (hs:starEach [b] X.env=(false,eval b X.env)::starEach [] X.env:=by rfl)(mM:attributeBase a "join" X.env (eval a X.env)=eval a X.env:=by rfl)
  (sv:((backTo pos (starEach [b] X.env)).all (λx=>!x.1)&&(backToKw pos (keywordEach [] X.env)).all (λx=>x.1.isSome)&&decide (([b]:List bR).length+([]:List iK).length+(if([]:List iK).isEmpty then 0 else 1)<30))=true:=by rfl)
  (hline:(ap.endLine==pos.line)=true:=by rfl)(jZ:(backTo pos (starEach [] X.env)).any (·.1)=false:=by rfl):VE X (.Call (.Attribute a "join" ap) [b] [] pos) δ (.str (cW y zs)):=
 .of (wY zP PySem.F.slot_str_join PySem.F.type_str_join Lk dg (dR dg gi hs) mM sv hline hs jZ) λB0 B σ H0 H Q f q=>h1 B0 B σ H0 H _ f λv H1 dU g r1=>by
  cases r1;refine⟨rfl,h2 B0 B σ H1 dU _ (f.grow g) λu H2 iS g2 r2=>?_⟩
  cases r2 with
  |lst hq rs=>
   have e:=rs.strs;subst e;exact⟨y,_,zs,rfl,rfl,.inl (g2.sub.seq hq),hz,q _ H2 iS (g.trans g2) (.str _)⟩
end
end L2
namespace L2
open PySem PySem.Spec PyProof.Rows
def eQ(kvs:List (Str×aj)):aj:=.dict (kvs.map λp=>(.str p.1,p.2))
def IC(kvs:List ((Str×Str)×aj)):aj:=.dict ((.none,.bool true)::kvs.map λp=>(.tuple [.str p.1.1,.str p.1.2],p.2))
def Lq(fs:List (Str×aj)):aj:=.dict ((.none,.none)::fs.map λp=>(.str p.1,p.2))
def gE{κ:Type}[DecidableEq κ](kvs:List (κ×aj))(k:κ):Option aj:=(kvs.find? λp=>decide (p.1=k)).map (·.2)
theorem fE{κ:Type}[DecidableEq κ]{p:κ×aj}{r:List (κ×aj)}{k:κ}(e:p.1=k):gE (p::r) k=some p.2:=by simp[gE,eJ,e]
theorem cR{κ:Type}[DecidableEq κ]{p:κ×aj}{r:List (κ×aj)}{k:κ}(e:¬p.1=k):gE (p::r) k=gE r k:=by simp[gE,eJ,e]
def B6(K:ai)(H:Hp):Option V->Option aj->Prop
 |none,none=>True
 |some v,some d=>Rep K H v d
 |_,_=>False
theorem B6.some_of{K:ai}{H:Hp}{o:Option V}{d:aj}(h:B6 K H o (some d)):∃v,o=some v/\Rep K H v d:=by
 cases o with
 |none=>exact h.elim
 |some v=>exact⟨v,rfl,h⟩
theorem B6.isSome{K:ai}{H:Hp}{o:Option V}{d:Option aj}(h:B6 K H o d):o.isSome=d.isSome:=by
 cases o<;>cases d<;>first|rfl|exact h.elim
theorem B6.getD{K:ai}{H:Hp}{o:Option V}{d:Option aj}{v:V}{e:aj}(h:B6 K H o d)(r:Rep K H v e):Rep K H (o.getD v) (d.getD e):=by
 cases o<;>cases d<;>first|exact r|exact h|exact h.elim
section
variable{K:ai}{H:Hp}{v:V}
theorem Rep.lF{kvs:List (Str×aj)}(r:Rep K H v (eQ kvs)):∃a ws,v=.ref a/\H a=some (.dK ws)/\ws.map (·.1)=kvs.map (λp=>(bF p.1:Key))/\cO K H (ws.map (·.2)) (kvs.map (·.2)):=by
 unfold eQ at r
 generalize e:kvs.map (λp=>(aP p.1,p.2))=ds at r
 cases r with
 |dct h k t=>
  rename_i a ws
  refine⟨a,ws,rfl,h,?_,?_⟩
  ·have k2:ws.map (λp=>sx p.1)=kvs.map λp=>aP p.1:=by rw[<-k,<-e,aS];rfl
   clear k t h e
   induction ws generalizing kvs with
   |nil=>cases kvs with|nil=>rfl|cons p l=>simp at k2
   |cons q ws ih=>
    cases kvs with
    |nil=>simp at k2
    |cons p l=>
     rw[aH,aH]at k2 ⊢
     injection k2 with h1 h2
     rw[ih h2]
     congr 1
     cases eq:q.1 with
     |inl i=>rw[eq]at h1;cases h1
     |inr x=>rw[eq]at h1;injection h1 with h1;rw[h1]
  ·rw[<-e,aS]at t
   exact t
 |QO _ _ _=>cases kvs with|nil=>simp at e|cons p l=>simp at e
 |obj _ _ _ _ _=>cases kvs with|nil=>simp at e|cons p l=>simp at e
 |QP _ _ _=>cases kvs with|nil=>simp at e|cons p l=>simp at e
theorem sD:∀{kvs:List (Str×aj)}{ws:List (Key×V)},ws.map (·.1)=kvs.map (λp=>(bF p.1:Key))->cO K H (ws.map (·.2)) (kvs.map (·.2))->∀k,B6 K H (jd ws (bF k)) (gE kvs k)
 | [],ws,e,_,k=>by
  have:ws=[]:=by simpa using e
  subst this;exact fN
 |p::kvs,ws,e,r,k=>by
  cases ws with
  |nil=>simp at e
  |cons q ws=>
   rw[aH,aH]at e r
   injection e with e1 e2
   cases r with
   |cons r1 r2=>
    by_cases h:p.1=k
    ·rw[fE h,oi (by rw[e1,h])];exact r1
    ·rw[cR h,lB (λz=>h (by rw[e1]at z;injection z))];exact sD e2 r2 k
def uV(p:Str×Str):List Key:=[.inr p.1,.inr p.2]
theorem B7{p q:Str×Str}(e:uV p=uV q):p=q:=by
 unfold uV at e
 injection e with e1 e2
 injection e2 with e2 _
 injection e1 with e1
 injection e2 with e2
 exact Prod.ext e1 e2
theorem Rep.IE{kvs:List ((Str×Str)×aj)}(r:Rep K H v (IC kvs)):∃a ws,v=.ref a/\H a=some (.dT ws)/\ws.map (·.1)=kvs.map (λp=>uV p.1)/\cO K H (ws.map (·.2)) (kvs.map (·.2)):=by
 unfold IC at r
 generalize e:kvs.map (λp=>(fQ [.str p.1.1,.str p.1.2],p.2))=ds at r
 cases r with
 |dct h k t=>
  rename_i a ws
  exfalso
  cases ws with
  |nil=>simp at k
  |cons q ws=>
   rw[aH,aH]at k
   injection k with k1 _
   cases eq:q.1 with
   |inl i=>rw[eq]at k1;cases k1
   |inr x=>rw[eq]at k1;cases k1
 |QO h k t=>
  rename_i a ws
  refine⟨a,ws,rfl,h,?_,?_⟩
  ·have k2:ws.map (λp=>fQ (p.1.map sx))=kvs.map λp=>fQ [.str p.1.1,.str p.1.2]:=by rw[<-k,<-e,aS];rfl
   clear k t h e
   induction ws generalizing kvs with
   |nil=>cases kvs with|nil=>rfl|cons p l=>simp at k2
   |cons q ws ih=>
    cases kvs with
    |nil=>simp at k2
    |cons p l=>
     rw[aH,aH]at k2 ⊢
     injection k2 with h1 h2
     rw[ih h2]
     congr 1
     injection h1 with h1
     have one:∀(k:Key)(x:Str),sx k=.str x->k=.inr x:=λk x h=>by
      cases k with
      |inl i=>cases h
      |inr y=>injection h with h;rw[h]
     cases e0:q.1 with
     |nil=>rw[e0]at h1;cases h1
     |cons k1 l1=>
      rw[e0]at h1;rw[aH]at h1
      injection h1 with g1 g2
      cases l1 with
      |nil=>cases g2
      |cons k2 l2=>
       rw[aH]at g2
       injection g2 with g2 g3
       have:l2=[]:=by simpa using g3
       subst this;rw[one k1 _ g1,one k2 _ g2];rfl
  ·rw[<-e,aS]at t
   exact t
theorem IG:∀{kvs:List ((Str×Str)×aj)}{ws:List (List Key×V)},ws.map (·.1)=kvs.map (λp=>uV p.1)->cO K H (ws.map (·.2)) (kvs.map (·.2))->∀k,B6 K H (jd ws (uV k)) (gE kvs k)
 | [],ws,e,_,k=>by
  have:ws=[]:=by simpa using e
  subst this;exact fN
 |p::kvs,ws,e,r,k=>by
  cases ws with
  |nil=>simp at e
  |cons q ws=>
   rw[aH,aH]at e r
   injection e with e1 e2
   cases r with
   |cons r1 r2=>
    by_cases h:p.1=k
    ·rw[fE h,oi (by rw[e1,h])];exact r1
    ·rw[cR h,lB (λz=>h (B7 (by rw[<-e1];exact z)))];exact IG e2 r2 k
theorem Rep.II{fs:List (Str×aj)}(r:Rep K H v (Lq fs)):∃a C dx ws,v=.ref a/\H a=some (.ins C dx ws)/\BL K C/\(∀f∈ws.map (·.1),jK K C f)/\ws.map (·.1)=fs.map (·.1)/\cO K H (ws.map (·.2)) (fs.map (·.2)):=by
 unfold Lq at r
 generalize e:fs.map (λp=>(aP p.1,p.2))=ds at r
 cases r with
 |dct h k t=>
  rename_i a ws
  exfalso
  cases ws with
  |nil=>simp at k
  |cons q ws=>
   rw[aH,aH]at k
   injection k with k1 _
   cases eq:q.1 with
   |inl i=>rw[eq]at k1;cases k1
   |inr x=>rw[eq]at k1;cases k1
 |obj h c nn k t=>
  rename_i a C dx ws
  refine⟨a,C,dx,ws,rfl,h,c,nn,?_,?_⟩
  ·have k2:ws.map (λp=>aP p.1)=fs.map λp=>aP p.1:=by rw[<-k,<-e,aS];rfl
   clear k t h e nn
   induction ws generalizing fs with
   |nil=>cases fs with|nil=>rfl|cons p l=>simp at k2
   |cons q ws ih=>
    cases fs with
    |nil=>simp at k2
    |cons p l=>
     rw[aH,aH]at k2 ⊢
     injection k2 with h1 h2
     injection h1 with h1
     rw[ih h2,h1]
  ·rw[<-e,aS]at t
   exact t
theorem IJ:∀{fs:List (Str×aj)}{ws:List (Str×V)},ws.map (·.1)=fs.map (·.1)->cO K H (ws.map (·.2)) (fs.map (·.2))->∀k d,gE fs k=some d->∃u,ws.lookup k=some u/\k∈ws.map (·.1)/\Rep K H u d
 | [],ws,e,_,k,d,h=>by cases h
 |p::fs,ws,e,r,k,d,h=>by
  cases ws with
  |nil=>simp at e
  |cons q ws=>
   obtain⟨q1,q2⟩:=q;rw[aH,aH]at e r
   injection e with e1 e2
   have e1:q1=p.1:=e1;cases r with
   |cons r1 r2=>
    by_cases hk:p.1=k
    ·rw[fE hk]at h
     cases h;refine⟨q2,?_,?_,r1⟩
     ·rw[dZ,e1,hk];simp
     ·rw[aH,e1,hk];exact aN
    ·rw[cR hk]at h
     obtain⟨u,h1,h2,h3⟩:=IJ e2 r2 k d h;refine⟨u,?_,aT _ h2,h3⟩
     rw[dZ];have:(k==q1)=false:=by rw[beq_eq_false_iff_ne,e1];exact λz=>hk z.symm
     rw[this];exact h1
end
section
variable{X:Cx}{a b c e:bR}{δ:List Slot}{d d1 d2 d3:aj}{ds:List aj}{pos ap:Pos}{k:Nat}{kvs fs:List (Str×aj)}{Zt:List ((Str×Str)×aj)}{x y z:Str}
theorem Lr(hr:fc k X.A):X.A.units+1<cLine:=by have:=hr.un;omega
theorem mQ{f:Str}(h:VE X a δ (Lq fs))(hf:gE fs f=some d)(hb:attributeBase a f X.env (eval a X.env)=eval a X.env:=by rfl):VE X (.Attribute a f pos) δ d:=
 .of (wQ dg hb) λB0 B σ H0 H Q fr q=>h B0 B σ H0 H _ fr λv H1 dU g r=>by
  obtain⟨p,C,dx,ws,rfl,hp,cl,nn,ke,rs⟩:=r.II;obtain⟨u,h1,h2,h3⟩:=IJ ke rs f d hf;exact⟨p,C,dx,ws,u,rfl,g.sub _ _ hp,cl,nn f h2,h1,q u H1 dU g h3⟩
theorem gF(hr:fc k X.A)(h1:VE X a δ (eQ kvs))(h2:VE X b δ (.str x))(hx:gE kvs x=some d)(hs:HR b:=by intro _ _;rfl):VE X (.Subscript a b pos) δ d:=
 .of (E4 (Lr hr) dg dg hs) λB0 B σ H0 H Q fr q=>h1 B0 B σ H0 H _ fr λv H1 dU g r=>h2 B0 B σ H1 dU _ (fr.grow g) λu H2 iS g2 r2=>by
  obtain⟨p,ws,rfl,hp,ke,rs⟩:=r.lF;cases r2;have o:=sD ke rs x;rw[hx]at o;obtain⟨w,hw,oU⟩:=o.some_of;refine⟨p,w,rfl,?_,q w H2 iS (g.trans g2) (oU.mono g2.gx)⟩
  rw[<-hw];exact qA.k (k:=.inr x) (g2.sub _ _ (g2.gx _ _ hp))
theorem DY(hr:fc k X.A)(h2:VE X b δ (.str x))(h1:VE X a δ (eQ kvs))(hm:behindInMarks .In a=false:=by with_unfolding_all rfl):VE X (.Compare b [.In] [a] pos) δ (.bool (gE kvs x).isSome):=
 .of (Dv (HS (Lr hr) dg dg) hm) λB0 B σ H0 H Q fr q=>h2 B0 B σ H0 H _ fr λu H1 dU g r2=>h1 B0 B σ H1 dU _ (fr.grow g) λv H2 iS g2 r=>by
  obtain⟨p,ws,rfl,hp,ke,rs⟩:=r.lF;cases r2;refine⟨p,jd ws (.inr x),rfl,qA.k (k:=.inr x) (g2.sub _ _ hp),q _ H2 iS (g.trans g2) ?_⟩
  rw[(sD ke rs x).isSome];exact .bl _
theorem Gf(hr:fc k X.A)(h2:VE X b δ (.str x))(h1:VE X a δ (eQ kvs))(hm:behindInMarks .NotIn a=false:=by with_unfolding_all rfl):VE X (.Compare b [.NotIn] [a] pos) δ (.bool (!(gE kvs x).isSome)):=
 .of (Dv (F7 (Lr hr) dg dg) hm) λB0 B σ H0 H Q fr q=>h2 B0 B σ H0 H _ fr λu H1 dU g r2=>h1 B0 B σ H1 dU _ (fr.grow g) λv H2 iS g2 r=>by
  obtain⟨p,ws,rfl,hp,ke,rs⟩:=r.lF;cases r2;refine⟨p,jd ws (.inr x),rfl,qA.k (k:=.inr x) (g2.sub _ _ hp),q _ H2 iS (g.trans g2) ?_⟩
  rw[(sD ke rs x).isSome];exact .bl _
theorem Ls{x1}{tp:Pos}(hr:fc k X.A)(h1:VE X a δ (.str x))(h2:VE X b δ (.str y))(h3:VE X c δ (IC Zt))(hm:behindInMarks .In c=false:=by with_unfolding_all rfl)
  (hs:starEach [a,b] X.env=(false,eval a X.env)::starEach [b] X.env:=by rfl)(pL:starEach [b] X.env=(false,eval b X.env)::starEach [] X.env:=by rfl):VE X (.Compare (.Tuple [a,b] x1 tp) [.In] [c] pos) δ (.bool (gE Zt (x,y)).isSome):=
 .of (Dv (HS (Lr hr) (DI (dR dg (dR dg gi pL) hs)) dg) hm) λB0 B σ H0 H Q fr q=>h1 B0 B σ H0 H _ fr λv H1 dU g r1=>h2 B0 B σ H1 dU _ (fr.grow g) λu H2 iS g2 r2=>by
  cases r1;cases r2;refine⟨by show 2<=sizeLine;rw[dI];decide,λt ht=>?_⟩
  have g3:=(g.trans g2).trans (eA.loose (o:=HO.tup [.str x,.str y]) g2.sub ht);refine h3 B0 B σ H2 _ _ (fr.grow g3) λv H4 WL g4 r=>?_
  obtain⟨p,ws,rfl,hp,ke,rs⟩:=r.IE;refine⟨p,jd ws (uV (x,y)),rfl,qA.t (k:=uV (x,y)) (g4.sub _ _ hp) (g4.big _ _ bB),q _ H4 WL (g3.trans g4) ?_⟩
  rw[(IG ke rs (x,y)).isSome];exact .bl _
end
section
variable{prog:bo}{w:bX}{A:cU}{E:av->aF->Prop}{s:aF}
theorem S6{l:aK}:(c0 l==iq)=false:=rfl
theorem DZ{it l:aK}{i:Nat}{items:Array av}{x:av}{Q:av->aF->Prop}(hit:s.heap.IsTupleIter it l i)(hl:s.heap.IsTuple l items)(hx:items[i]?=some x)
  (hQ:∀h',h'.IsTupleIter it l (i+1)->ie it s.heap h'->Q x { s with heap:=h' }):wpAny (model prog w) A (cX (.ref it)) Q E s:=by
 obtain⟨o,ho,hc,hd⟩:=id hit;obtain⟨ol,IK,IL,nl,Hq⟩:=hl;unfold cX;refine ay (jb (name:=ni "__next__") hit.typeIs jO (kf jO hit.typeIs Bq ?_ (zQ _)))
 show wpAny _ _ (field (.ref it) 0 >>= _) _ _ s;refine ay (fq ho hd (x:=.ref l) rfl ?_)
 show wpAny _ _ (if(c0 l==iq)=true then _ else _) _ _ s
 rw[if_neg (by rw[S6];decide)]
 show wpAny _ _ (field (.ref it) 1 >>= _) _ _ s;refine ay (fq ho hd (x:=.int i 0) rfl ?_)
 show wpAny _ _ (seqItems? (.ref l) >>= _) _ _ s;refine ay (h_ IK Hq ?_)
 simp only[fw,hx];refine ay (wpAny_setField ho hd (by simp) (a8 ⟨x,rfl,a8 (hQ _ ?_ (yA ..))⟩))
 refine⟨_,cK.get?_update_self _ ho (Obj.isFreed_of_fields (Obj.data_mapFields hd _)),(Obj.cls_mapFields ..).trans hc,?_⟩
 rw[Obj.data_mapFields hd];simp[rawInt]
theorem Gg{it l:aK}{i:Nat}{items:Array av}{Q:av->aF->Prop}(hh:A.handled=none)(hit:s.heap.IsTupleIter it l i)(hl:s.heap.IsTuple l items)(hx:items[i]?=none)
  (hE:∀h' e,cK.ExtBut it s.heap h'->(∃o,h'.get? e=some o/\o.cls=.type "StopIteration")->E (.ref e) { s with heap:=h' }):wpAny (model prog w) A (cX (.ref it)) Q E s:=by
 obtain⟨o,ho,hc,hd⟩:=id hit;obtain⟨ol,IK,IL,nl,Hq⟩:=hl;unfold cX;refine ay (jb (name:=ni "__next__") hit.typeIs jO (kf jO hit.typeIs Bq ?_ (zQ _)))
 show wpAny _ _ (field (.ref it) 0 >>= _) _ _ s;refine ay (fq ho hd (x:=.ref l) rfl ?_)
 show wpAny _ _ (if(c0 l==iq)=true then _ else _) _ _ s
 rw[if_neg (by rw[S6];decide)]
 show wpAny _ _ (field (.ref it) 1 >>= _) _ _ s;refine ay (fq ho hd (x:=.int i 0) rfl ?_)
 show wpAny _ _ (seqItems? (.ref l) >>= _) _ _ s;refine ay (h_ IK Hq ?_)
 simp only[fw,hx];refine ay (r9 (ay (wpAny_setField ho hd (by simp) ?_)))
 show wpAny _ _ (newExc (.type "StopIteration") [] >>= _) _ _ _;refine ay ?_
 simp only[newExc,newTuple];refine ay (eB ?_ (by size_fits))
 refine ay (m:=firstArgMember _ _) (wpAny_of_eq (a:=iq) (by first|rfl|(simp only[firstArgMember];rfl)) ?_)
 refine eB ?_ (by size_fits)
 simp only[raiseNew];refine ay (wpAny_handled ?_)
 first|rw[show A.in1.handled=none from hh]|rw[hh]
 refine ay (a8 (wpAny_throw ?_))
 exact hE _ _ (((yA ..).extBut.push _).push _) ⟨_,bp _ rfl,rfl⟩
end
inductive sE where|lst|tup
def oA(k:sE)(h:cK)(l:aK)(xs:Array av):Prop:=match k with | .lst=>h.IsList l xs | .tup=>h.IsTuple l xs
def sF(k:sE)(h:cK)(i l:aK)(n:Nat):Prop:=match k with | .lst=>h.IsListIter i l n | .tup=>h.IsTupleIter i l n
theorem sF.at{k:sE}{h h':cK}{i l:aK}{n:Nat}(x:sF k h i l n)(e:∀o,h.get? i=some o->h'.get? i=some o):sF k h' i l n:=by
 cases k with
 |lst=>obtain⟨o,a,r⟩:=(show h.IsListIter i l n from x);exact(⟨o,e o a,r⟩:h'.IsListIter i l n)
 |tup=>obtain⟨o,a,r⟩:=(show h.IsTupleIter i l n from x);exact(⟨o,e o a,r⟩:h'.IsTupleIter i l n)
theorem oA.at{k:sE}{h h':cK}{l:aK}{xs:Array av}(x:oA k h l xs)(e:∀o,h.get? l=some o->h'.get? l=some o):oA k h' l xs:=by
 cases k with
 |lst=>obtain⟨o,a,r⟩:=(show h.IsList l xs from x);exact(⟨o,e o a,r⟩:h'.IsList l xs)
 |tup=>obtain⟨o,a,r⟩:=(show h.IsTuple l xs from x);exact(⟨o,e o a,r⟩:h'.IsTuple l xs)
theorem sF.get{k:sE}{h:cK}{i l:aK}{n:Nat}(x:sF k h i l n):∃o,h.get? i=some o/\∀v,o.data≠.cell v:=by
 cases k with
 |lst=>obtain⟨o,a,_,d⟩:=(show h.IsListIter i l n from x);exact⟨o,a,λv z=>by rw[d]at z;cases z⟩
 |tup=>obtain⟨o,a,_,d⟩:=(show h.IsTupleIter i l n from x);exact⟨o,a,λv z=>by rw[d]at z;cases z⟩
theorem oA.get{k:sE}{h:cK}{l:aK}{xs:Array av}(x:oA k h l xs):∃o,h.get? l=some o:=by
 cases k with
 |lst=>obtain⟨o,a,_⟩:=(show h.IsList l xs from x);exact⟨o,a⟩
 |tup=>obtain⟨o,a,_⟩:=(show h.IsTuple l xs from x);exact⟨o,a⟩
section
variable{prog:bo}{w:bX}{A:cU}{E:av->aF->Prop}{s:aF}
theorem next_item{k:sE}{it l:aK}{i:Nat}{items:Array av}{x:av}{Q:av->aF->Prop}(hit:sF k s.heap it l i)(hl:oA k s.heap l items)(hx:items[i]?=some x)
  (hQ:∀h',sF k h' it l (i+1)->ie it s.heap h'->Q x { s with heap:=h' }):wpAny (model prog w) A (cX (.ref it)) Q E s:=by
 cases k with
 |lst=>exact wpAny_nextOf_list_item hit hl hx hQ
 |tup=>exact DZ hit hl hx hQ
theorem next_end{k:sE}{it l:aK}{i:Nat}{items:Array av}{Q:av->aF->Prop}(hh:A.handled=none)(hit:sF k s.heap it l i)(hl:oA k s.heap l items)(hx:items[i]?=none)
  (hE:∀h' e,cK.ExtBut it s.heap h'->(∃o,h'.get? e=some o/\o.cls=.type "StopIteration")->E (.ref e) { s with heap:=h' }):wpAny (model prog w) A (cX (.ref it)) Q E s:=by
 cases k with
 |lst=>exact wpAny_nextOf_list_end hh hit hl hx hE
 |tup=>exact Gg hh hit hl hx hE
structure Zp(k1 k2:sE)(h:cK)(z TI TO i1 i2 l1 l2:aK)(f0:av)(a b:av)(n1 n2:Nat)(xs ys:Array av):Prop where
 hz:Br h z TI TO f0
 hTI:qj h TI (.ref i1) (.ref i2)
 hTO:qj h TO a b
 h1:sF k1 h i1 l1 n1
 h2:sF k2 h i2 l2 n2
 s1:oA k1 h l1 xs
 s2:oA k2 h l2 ys
theorem Gh{k1 k2:sE}{z TI TO i1 i2 l1 l2:aK}{n1 n2:Nat}{xs ys:Array av}{x y a b:av}{Q:Option av->aF->Prop}(D:ZipApart z TI TO i1 i2 l1 l2)(Z:Zp k1 k2 s.heap z TI TO i1 i2 l1 l2 .none a b n1 n2 xs ys)(hx:xs[n1]?=some x)(hy:ys[n2]?=some y)
  (hQ:∀h',Zp k1 k2 h' z TI TO i1 i2 l1 l2 (rawInt s.heap.objs.size) x y (n1+1) (n2+1) xs ys->qj h' s.heap.objs.size x y->(∀c o,c≠z->c≠TO->c≠i1->c≠i2->s.heap.get? c=some o->h'.get? c=some o)->Q (some (.ref s.heap.objs.size)) { s with heap:=h' }):
  wpAny (model prog w) A (pyNext (.ref z)) Q E s:=by
 obtain⟨hz,hTI,hTO,h1,h2,s1,s2⟩:=Z;have hT:s.TypeIs (.ref z) "zip":=⟨_,hz,rfl⟩;unfold pyNext;refine ay (wpAny_attempt (jb (name:=ni "__next__") hT rO (kf rO hT F.entry_zip_next ?_ (F.args_zip_next_1 _))))
 show wpAny _ _ (field (.ref z) 2 >>= _) _ _ _;refine ay (fq hz rfl (x:=.bool false) rfl ?_)
 show wpAny _ _ (field (.ref z) 3 >>= _) _ _ _;refine ay (fq hz rfl (x:=.ref TI) rfl (ay (h_ hTI rfl ?_)))
 show wpAny _ _ (fM (.ref z) >>= _) _ _ _;refine ay ?_
 unfold fM;refine ay (fq hz rfl (x:=.none) rfl (a8 ?_))
 simp only[if_true];refine ay (r9 (ay (fq hz rfl (x:=.ref TO) rfl (ay (jv hz (by simp) λha Nk sa=>?_)))))
 replace Nk:Br ha z TI TO .ellipsis:=Nk
 refine ay ?_
 simp only[wg,List.zipIdx_nil,yo,List.forIn_nil];refine ay (ay (wj ?_))
 show wpAny _ _ (cX (.ref i1) >>= _) _ _ _;refine ay (next_item (h1.at λo e=>sa.extBut _ o D.i1z e) (s1.at λo e=>sa.extBut _ o D.l1z e) hx λhb Zu sb=>a8 ?_)
 have tb:qj hb TO a b:=sb.extBut _ _ D.TOi1 (sa.extBut _ _ D.TOz hTO);refine ay (h_ tb rfl (ay (uK tb λhc tc sc=>?_)))
 replace tc:qj hc TO x b:=tc
 refine ay (wpAny_letGo (a8 (ay (ay (wj ?_)))))
 show wpAny _ _ (cX (.ref i2) >>= _) _ _ _;refine ay (next_item (h2.at λo e=>sc.extBut _ o D.TOi2.symm (sb.extBut _ o D.i12.symm (sa.extBut _ o D.i2z e))) (s2.at λo e=>sc.extBut _ o D.l2TO (sb.extBut _ o D.l2i1 (sa.extBut _ o D.l2z e))) hy λhd h2d sd=>a8 ?_)
 have td:qj hd TO x b:=sd.extBut _ _ D.TOi2 tc;refine ay (h_ td rfl (ay (uK td λhe te se=>?_)))
 replace te:qj he TO x y:=te
 refine ay (wpAny_letGo (a8 (a8 (ay (h_ te rfl (ay (wpAny_newTuple ?_)))))))
 have hsz:he.objs.size=s.heap.objs.size:=by rw[se.1,sd.1,sc.1,sb.1,sa.1]
 have kp:∀c o,c≠z->c≠TO->c≠i1->c≠i2->s.heap.get? c=some o->he.get? c=some o:=λc o c1 c2 c3 c4 e=>se.extBut _ _ c2 (sd.extBut _ _ c4 (sc.extBut _ _ c2 (sb.extBut _ _ c3 (sa.extBut _ _ c1 e))))
 have ze:Br he z TI TO .ellipsis:=se.extBut _ _ D.TOz.symm (sd.extBut _ _ D.i2z.symm (sc.extBut _ _ D.TOz.symm (sb.extBut _ _ D.i1z.symm Nk)));have h1e:sF k1 he i1 l1 (n1+1):=Zu.at λo e=>se.extBut _ o D.TOi1.symm (sd.extBut _ o D.i12 (sc.extBut _ o D.TOi1.symm e))
 have h2e:sF k2 he i2 l2 (n2+1):=h2d.at λo e=>se.extBut _ o D.TOi2.symm e
 show wpAny _ _ (nu (.ref z) (.ref he.objs.size) >>= _) _ _ _;refine ay ?_
 unfold nu;have zf:Br (he.push { cls:=.type "tuple",data:=.seq #[x,y] }) z TI TO .ellipsis:=aE _ ze;refine ay (jv zf (by simp) λhg zg sg=>?_)
 replace zg:Br hg z TI TO (rawInt he.objs.size):=zg
 refine jv zg (by simp) λhi zi si=>?_
 replace zi:Br hi z TI TO (rawInt he.objs.size):=zi
 have up:∀c o,c≠z->he.get? c=some o->hi.get? c=some o:=λc o c1 e=>si.extBut _ _ c1 (sg.extBut _ _ c1 (aE _ e))
 have ti:qj hi he.objs.size x y:=si.extBut _ _ (fY (aY ze)) (sg.extBut _ _ (fY (aY ze)) (bp _ rfl));rw[hsz]at zi ti;refine a8 ⟨_,rfl,?_⟩
 show wpAny _ _ (pure (some (c0 he.objs.size))) _ _ _;rw[hsz];refine a8 (hQ hi ⟨zi,up _ _ D.TIz (kp _ _ D.TIz D.TITO D.TIi1 D.TIi2 hTI),up _ _ D.TOz te,h1e.at λo e=>up _ o D.i1z e,h2e.at λo e=>up _ o D.i2z e,s1.at λo e=>up _ o D.l1z (kp _ o D.l1z D.l1TO D.l1i1 D.l1i2 e),s2.at λo e=>up _ o D.l2z (kp _ o D.l2z D.l2TO D.l2i1 D.l2i2 e)⟩ ti λc o c1 c2 c3 c4 e=>up c o c1 (kp c o c1 c2 c3 c4 e))
theorem IQ{k1 k2:sE}{z TI TO i1 i2 l1 l2:aK}{n1 n2:Nat}{xs ys:Array av}{a b:av}{Q:Option av->aF->Prop}(hh:A.handled=none)(D:ZipApart z TI TO i1 i2 l1 l2)(Z:Zp k1 k2 s.heap z TI TO i1 i2 l1 l2 .none a b n1 n2 xs ys)(Lv:xs[n1]?=none\/ys[n2]?=none)
  (hQ:∀h',(∀c o,c≠z->c≠TO->c≠i1->c≠i2->s.heap.get? c=some o->h'.get? c=some o)->Q none { s with heap:=h' }):wpAny (model prog w) A (pyNext (.ref z)) Q E s:=by
 obtain⟨hz,hTI,hTO,h1,h2,s1,s2⟩:=Z;have hT:s.TypeIs (.ref z) "zip":=⟨_,hz,rfl⟩;have fin:∀h' e,(∀c o,c≠z->c≠TO->c≠i1->c≠i2->s.heap.get? c=some o->h'.get? c=some o)->(∃o,h'.get? e=some o/\o.cls=.type "StopIteration")->wpAny (model prog w) A (do if <-isInstance (.ref e) (.type "StopIteration")then pure none else throw (.ref e)) Q E { s with heap:=h' }:=by
  intro h' e hk ⟨o,ho,hc⟩;exact ay (wpAny_isInstance (T:="StopIteration") (b:=true) (s:={ s with heap:=h' }) ⟨o,ho,hc⟩ isSubtype_stop (a8 (hQ _ hk)))
 unfold pyNext;refine ay (wpAny_attempt (jb (name:=ni "__next__") hT rO (kf rO hT F.entry_zip_next ?_ (F.args_zip_next_1 _))))
 show wpAny _ _ (field (.ref z) 2 >>= _) _ _ _;refine ay (fq hz rfl (x:=.bool false) rfl ?_)
 show wpAny _ _ (field (.ref z) 3 >>= _) _ _ _;refine ay (fq hz rfl (x:=.ref TI) rfl (ay (h_ hTI rfl ?_)))
 show wpAny _ _ (fM (.ref z) >>= _) _ _ _;refine ay ?_
 unfold fM;refine ay (fq hz rfl (x:=.none) rfl (a8 ?_))
 simp only[if_true];refine ay (r9 (ay (fq hz rfl (x:=.ref TO) rfl (ay (jv hz (by simp) λha Nk sa=>?_)))))
 replace Nk:Br ha z TI TO .ellipsis:=Nk
 refine ay ?_
 simp only[wg,List.zipIdx_nil,yo,List.forIn_nil];refine ay (ay (wj ?_))
 show wpAny _ _ (cX (.ref i1) >>= _) _ _ _;cases hx:xs[n1]? with
 |none=>
  refine ay (next_end hh (h1.at λo e=>sa.extBut _ o D.i1z e) (s1.at λo e=>sa.extBut _ o D.l1z e) hx λhb e sb he=>?_)
  obtain⟨oe,PL,S7⟩:=he;have zb:Br hb z TI TO .ellipsis:=sb _ _ D.i1z.symm Nk;have ne:e≠z:=λx=>by subst x;rw[zb]at PL;cases PL;simp at S7
  exact jv zb (by simp) λhc _ sc=>fin hc e (λc o c1 _ c3 _ x=>sc.extBut _ _ c1 (sb _ _ c3 (sa.extBut _ _ c1 x))) ⟨oe,sc.extBut _ _ ne PL,S7⟩
 |some x=>
  have hy:ys[n2]?=none:=by
   rcases Lv with h|h
   ·rw[hx]at h;cases h
   ·exact h
  refine ay (next_item (h1.at λo e=>sa.extBut _ o D.i1z e) (s1.at λo e=>sa.extBut _ o D.l1z e) hx λhb Zu sb=>a8 ?_)
  have tb:qj hb TO a b:=sb.extBut _ _ D.TOi1 (sa.extBut _ _ D.TOz hTO);refine ay (h_ tb rfl (ay (uK tb λhc tc sc=>?_)))
  refine ay (wpAny_letGo (a8 (ay (ay (wj ?_)))))
  show wpAny _ _ (cX (.ref i2) >>= _) _ _ _;refine ay (next_end hh (h2.at λo e=>sc.extBut _ o D.TOi2.symm (sb.extBut _ o D.i12.symm (sa.extBut _ o D.i2z e))) (s2.at λo e=>sc.extBut _ o D.l2TO (sb.extBut _ o D.l2i1 (sa.extBut _ o D.l2z e))) hy λhd e sd he=>?_)
  obtain⟨oe,PL,S7⟩:=he;have zd:Br hd z TI TO .ellipsis:=sd _ _ D.i2z.symm (sc.extBut _ _ D.TOz.symm (sb.extBut _ _ D.i1z.symm Nk));have ne:e≠z:=λx=>by subst x;rw[zd]at PL;cases PL;simp at S7
  exact jv zd (by simp) λhg _ sg=>fin hg e (λc o c1 c2 c3 c4 x=>sg.extBut _ _ c1 (sd _ _ c4 (sc.extBut _ _ c2 (sb.extBut _ _ c3 (sa.extBut _ _ c1 x))))) ⟨oe,sg.extBut _ _ ne PL,S7⟩
def pN(k:sE)(l:aK):Obj:=match k with | .lst=>{ cls:=.type "list_iterator",data:=.fields #[.ref l,.int 0 0] } | .tup=>{ cls:=.type "tuple_iterator",data:=.fields #[.ref l,.int 0 0] }
theorem Fg{k:sE}{l:aK}{xs:Array av}{Q:av->aF->Prop}(hl:oA k s.heap l xs)(h:Q (.ref s.heap.objs.size) { s with heap:=s.heap.push (pN k l) }):wpAny (model prog w) A (pyIter (.ref l)) Q E s:=by
 cases k with
 |lst=>exact lN hl h
 |tup=>exact wF hl h
def Dm(k1 k2:sE)(h:cK)(l1 l2:aK):cK:=(h.push (pN k1 l1)).push (pN k2 l2)
def WM(k1 k2:sE)(h:cK)(l1 l2:aK):cK:=(((Dm k1 k2 h l1 l2).push { cls:=.type "tuple",data:=.seq #[.ref h.objs.size,.ref (h.push (pN k1 l1)).objs.size] }).push { cls:=.type "tuple",data:=.seq #[.none,.none] }).push
 { cls:=.type "zip",data:=.fields #[.none,.bool false,.bool false,.ref (Dm k1 k2 h l1 l2).objs.size,.ref ((Dm k1 k2 h l1 l2).push { cls:=.type "tuple",data:=.seq #[.ref h.objs.size,.ref (h.push (pN k1 l1)).objs.size] }).objs.size] }
theorem oA.push{k:sE}{h:cK}{l:aK}{xs:Array av}(x:oA k h l xs)(o:Obj):oA k (h.push o) l xs:=x.at λ_ e=>aE _ e
theorem D0(k1 k2:sE)(l1 l2:aK)(xs ys:Array av):Meets (pX.«zip.__new__» ⟨[.type "zip",.ref l1,.ref l2],[]⟩) (λ_ R s=>oA k1 s.heap l1 xs/\oA k2 s.heap l2 ys/\
  R (.ok (.ret (.ref (((Dm k1 k2 s.heap l1 l2).push { cls:=.type "tuple",data:=.seq #[.ref s.heap.objs.size,.ref (s.heap.push (pN k1 l1)).objs.size] }).push { cls:=.type "tuple",data:=.seq #[.none,.none] }).objs.size))) { s with heap:=WM k1 k2 s.heap l1 l2 }):=
 .of_wp λprog w A R s h=>by
  obtain⟨hp,g,d,tk,os⟩:=s;obtain⟨Kn,PN,h⟩:=h;have BX:=sub_zip;have a1:oA k1 (aF.heap ⟨hp,g,d,tk,os⟩) l1 xs:=Kn;have a2:oA k2 (aF.heap ⟨hp.push (pN k1 l1),g,d,tk,os⟩) l2 ys:=PN.push _
  wp_walk using Fg a1,Fg a2
  exact⟨_,rfl,h⟩
theorem B8{k:sE}{h:cK}{i l:aK}(e:h.get? i=some (pN k l)):sF k h i l 0:=by
 cases k with
 |lst=>exact(⟨_,e,rfl,rfl⟩:h.IsListIter i l 0)
 |tup=>exact(⟨_,e,rfl,rfl⟩:h.IsTupleIter i l 0)
theorem xt(k:sE)(l:aK):(pN k l).isFreed=false:=by cases k<;>rfl
theorem Gi{k1 k2:sE}{l1 l2:aK}{xs ys:Array av}{Q:av->aF->Prop}(Kn:oA k1 s.heap l1 xs)(PN:oA k2 s.heap l2 ys)
  (h:∀h',Zp k1 k2 h' (s.heap.objs.size+4) (s.heap.objs.size+2) (s.heap.objs.size+3) s.heap.objs.size (s.heap.objs.size+1) l1 l2 .none .none .none 0 0 xs ys->(∀c o,s.heap.get? c=some o->h'.get? c=some o)->Q (.ref (s.heap.objs.size+4)) { s with heap:=h' }):
  wpAny (model prog w) A (call (.type "zip") [.ref l1,.ref l2]) Q E s:=by
 refine callType_new F.called_zip (by decide) (F.typeCall_zip_2 _ _) (F.newCall_zip_2 _ _) (λobj=>F.args_object_init_3 obj _ _) F.entry_zip_new (D0 k1 k2 l1 l2 xs ys) ⟨Kn,PN,?_⟩
 have z1:(s.heap.push (pN k1 l1)).objs.size=s.heap.objs.size+1:=gX ..;have z2:(Dm k1 k2 s.heap l1 l2).objs.size=s.heap.objs.size+2:=by unfold Dm;rw[gX,z1]
 generalize hT:({ cls:=.type "tuple",data:=.seq #[.ref s.heap.objs.size,.ref (s.heap.push (pN k1 l1)).objs.size] }:Obj)=tI
 generalize WN:({ cls:=.type "tuple",data:=.seq #[.none,.none] }:Obj)=tO
 have z3:((Dm k1 k2 s.heap l1 l2).push tI).objs.size=s.heap.objs.size+3:=by rw[gX,z2]
 have z4:(((Dm k1 k2 s.heap l1 l2).push tI).push tO).objs.size=s.heap.objs.size+4:=by rw[gX,z3]
 have fI:tI.isFreed=false:=by rw[<-hT];rfl
 have fO:tO.isFreed=false:=by rw[<-WN];rfl
 have eq:WM k1 k2 s.heap l1 l2=(((Dm k1 k2 s.heap l1 l2).push tI).push tO).push { cls:=.type "zip",data:=.fields #[.none,.bool false,.bool false,.ref (s.heap.objs.size+2),.ref (s.heap.objs.size+3)] }:=by
  unfold WM;rw[hT,WN,z2,z3]
 rw[eq,z4];have g5:((((Dm k1 k2 s.heap l1 l2).push tI).push tO).push { cls:=.type "zip",data:=.fields #[.none,.bool false,.bool false,.ref (s.heap.objs.size+2),.ref (s.heap.objs.size+3)] }).get? (s.heap.objs.size+4)=some { cls:=.type "zip",data:=.fields #[.none,.bool false,.bool false,.ref (s.heap.objs.size+2),.ref (s.heap.objs.size+3)] }:=by
  rw[<-z4];exact bp _ rfl
 have Zv:∀c o,((Dm k1 k2 s.heap l1 l2).push tI).get? c=some o->((((Dm k1 k2 s.heap l1 l2).push tI).push tO).push { cls:=.type "zip",data:=.fields #[.none,.bool false,.bool false,.ref (s.heap.objs.size+2),.ref (s.heap.objs.size+3)] }).get? c=some o:=λc o e=>aE _ (aE _ e)
 have S8:∀c o,(Dm k1 k2 s.heap l1 l2).get? c=some o->_:=λc o e=>Zv c o (aE _ e)
 have WO:∀c o,s.heap.get? c=some o->(Dm k1 k2 s.heap l1 l2).get? c=some o:=λc o e=>aE _ (aE _ e)
 refine⟨⟨_,g5,rfl⟩,h _ ⟨g5,?_,?_,?_,?_,?_,?_⟩ λc o e=>S8 c o (WO c o e)⟩
 ·refine Zv _ _ ?_
  rw[<-z2];have:=bp (Dm k1 k2 s.heap l1 l2) fI;rw[this,<-hT,z1]
 ·refine aE _ ?_
  rw[<-z3];have:=bp ((Dm k1 k2 s.heap l1 l2).push tI) fO;rw[this,<-WN]
 ·exact B8 (S8 _ _ (aE _ (bp _ (xt k1 l1))))
 ·refine B8 (S8 _ _ ?_)
  have:=bp (s.heap.push (pN k1 l1)) (xt k2 l2);rw[z1]at this;exact this
 ·exact Kn.at λo e=>S8 _ o (WO _ o e)
 ·exact PN.at λo e=>S8 _ o (WO _ o e)
end
def Fh(k:sE)(K:ai)(H:Hp)(a:aK)(xs:List V):Prop:=match k with | .lst=>kO K H a xs | .tup=>og K H a xs
theorem Inv.sq{X:Cx}{pins:List (aK×Obj)}{σ:St}{H:Hp}{s:aF}{k:sE}{a:aK}{xs:List V}(I:Inv X pins σ H s)(h:Fh k X.K H a xs):∃its,dS xs its/\oA k s.heap a its.toArray/\xs.length<=sizeLine:=by
 cases k with
 |lst=>obtain⟨its,r,p,z⟩:=I.list h;exact⟨its,r,p.isList,z⟩
 |tup=>obtain⟨its,r,p,z⟩:=I.tuple h;exact⟨its,r,(show s.heap.IsTuple a its.toArray from p),z⟩
theorem Inv.IU{X:Cx}{pins:List (aK×Obj)}{σ:St}{H:Hp}{s:aF}{k:sE}{a:aK}{xs ys:List V}(I:Inv X pins σ H s)(h:Fh k X.K H a xs)(h':Fh k X.K H a ys):xs=ys:=by
 cases k with
 |lst=>exact I.wK h h'
 |tup=>exact I.yW h h'
theorem dJ.Nn{K:ai}{k:sE}{H H':Hp}{a:aK}{xs:List V}(e:dJ H H')(h:Fh k K H a xs):Fh k K H' a xs:=by
 cases k with
 |lst=>exact e.seq h
 |tup=>exact e.oq h
def Zw(k1 k2:sE)(K:ai)(a b:aK):It:=
 ⟨λi H=>∃xs x ys y,Fh k1 K H a xs/\xs[i]?=some x/\Fh k2 K H b ys/\ys[i]?=some y,
  λi H v H'=>∃t x y,v=.ref t/\H t=none/\H'=upd H t (.tup [x,y])/\(∀xs,Fh k1 K H a xs->xs[i]?=some x)/\∀ys,Fh k2 K H b ys->ys[i]?=some y,
  λi H=>∃xs ys,Fh k1 K H a xs/\Fh k2 K H b ys/\(xs.length<=i\/ys.length<=i)⟩
theorem IV{P:bo}{w:bX}{K:ai}{elts:List bR}{kk}{tp:Pos}{k1 k2:sE}{z TI TO i1 i2 l1 l2:aK}(D:ZipApart z TI TO i1 i2 l1 l2):
  Turn P w K (.Tuple elts kk tp) (Zw k1 k2 K l1 l2) [z,TI,TO,i1,i2] z (λi h=>Br h z TI TO .none/\qj h TI (.ref i1) (.ref i2)/\(∃a b,qj h TO a b)/\sF k1 h i1 l1 i/\sF k2 h i2 l2 i) where
 mem:=by simp
 obj:=λi h st b hb=>by
  obtain⟨hz,hTI,⟨a,c,hTO⟩,h1,h2⟩:=st;simp only[aI,bG,or_false]at hb;rcases hb with rfl|rfl|rfl|rfl|rfl
  ·exact⟨_,hz,λv z=>by cases z⟩
  ·exact⟨_,hTI,λv z=>by cases z⟩
  ·exact⟨_,hTO,λv z=>by cases z⟩
  ·exact h1.get
  ·exact h2.get
 keep:=λi h h' st kp=>by
  obtain⟨hz,hTI,⟨a,c,hTO⟩,h1,h2⟩:=st;exact⟨kp z (by simp) _ hz,kp TI (by simp) _ hTI,⟨a,c,kp TO (by simp) _ hTO⟩,h1.at λo e=>kp i1 (by simp) o e,h2.at λo e=>kp i2 (by simp) o e⟩
 item:=by
  intro X hP hw hK hc i pins s σ H E I hf st hg;subst hP hw hK;obtain⟨hz,hTI,⟨a,c,hTO⟩,h1,h2⟩:=st;obtain⟨xs,x,ys,y,IW,hx,DS,hy⟩:=hg;obtain⟨its,rv,p1,_⟩:=I.sq IW;obtain⟨Zx,Nq,p2,_⟩:=I.sq DS;obtain⟨u,hu,ru⟩:=rv.get hx;obtain⟨u2,hu2,S9⟩:=Nq.get hy;refine Gh D ⟨hz,hTI,hTO,h1,h2,p1,p2⟩ (x:=u) (y:=u2) (by simpa using hu) (by simpa using hu2) λha Z ht hk=>?_
  obtain⟨az,aTI,aTO,a1,a2,_,_⟩:=Z;refine⟨.ref s.heap.objs.size,rfl,wpAny_letOwnedTupleGo_zip az λhb bz sb=>?_⟩
  have Zy:z<s.heap.objs.size:=aY hz;have k2:∀b o,b∉[z,TI,TO,i1,i2]->s.heap.get? b=some o->hb.get? b=some o:=λb o nb q=>by
   have n1:b≠z:=λe=>nb (by simp[e])
   have n2:b≠TO:=λe=>nb (by simp[e])
   have n3:b≠i1:=λe=>nb (by simp[e])
   have n4:b≠i2:=λe=>nb (by simp[e])
   exact(sb.2 b n1).trans (hk b o n1 n2 n3 n4 q)
  have I2:Inv X pins σ H { s with heap:=hb,toks:=s.toks }:=I.wx k2 hf
  have Wq:qj hb s.heap.objs.size u u2:=(sb.2 _ (fY Zy)).trans ht;have fT:tL X pins H s.heap.objs.size:=I.wM (aD _) I.fresh;have I3:Inv X pins σ (upd H s.heap.objs.size (.tup [x,y])) { s with heap:=hb,toks:=s.toks }:=
   I2.track fT ⟨by show 2<=sizeLine;rw[dI];decide,[u,u2],.cons ru (.cons S9 .nil),⟨_,Wq,rfl,_,rfl⟩⟩
  have up:∀b o,b≠z->ha.get? b=some o->hb.get? b=some o:=λb o nb q=>(sb.2 b nb).trans q
  refine⟨.ref s.heap.objs.size,_,I3,rfl,⟨_,x,y,rfl,I.fresh,rfl,λzs WQ=>by rw[I.IU WQ IW];exact hx,λzs WQ=>by rw[I.IU WQ DS];exact hy⟩,⟨bz,up _ _ D.TIz aTI,⟨_,_,up _ _ D.TOz aTO⟩,a1.at λo q=>up _ o D.i1z q,a2.at λo q=>up _ o D.i2z q⟩,λb S_=>?_⟩
  have om:b<s.heap.objs.size:=by
   simp only[aI,bG,or_false]at S_;rcases S_ with rfl|rfl|rfl|rfl|rfl
   ·exact Zy
   ·exact aY hTI
   ·exact aY hTO
   ·obtain⟨o,q,_⟩:=h1.get;exact aY q
   ·obtain⟨o,q,_⟩:=h2.get;exact aY q
  rw[aR (aX om)];exact(hf b S_).1
 done:=by
  intro X hP hw hK hc i pins s σ H E I hf st hg;subst hP hw hK;obtain⟨hz,hTI,⟨a,c,hTO⟩,h1,h2⟩:=st;obtain⟨xs,ys,IW,DS,hx⟩:=hg;obtain⟨its,rv,p1,_⟩:=I.sq IW;obtain⟨Zx,Nq,p2,_⟩:=I.sq DS;have e1:=rv.length;have e2:=Nq.length;refine IQ (I.ok.hd hc) D ⟨hz,hTI,hTO,h1,h2,p1,p2⟩ ?_ λh' hk=>⟨rfl,I.wx (ch:=[z,TI,TO,i1,i2]) (t':=s.toks) (λb o hb q=>hk b o (λe=>hb (by simp[e])) (λe=>hb (by simp[e])) (λe=>hb (by simp[e])) (λe=>hb (by simp[e])) q) hf⟩
  rcases hx with hx|hx
  ·left;simp;omega
  ·right;simp;omega
 self:=λ_ _ _ _ _ st h=>wpAny_pyIter_zip st.1 h
def WR(k1 k2:sE)(K:ai)(ta:TA):TI:=λσ H R=>ta σ H λvs H1=>∃a b,vs=[.ref a,.ref b]/\(∃xs,Fh k1 K H1 a xs)/\(∃ys,Fh k2 K H1 b ys)/\R (Zw k1 k2 K a b) H1
theorem boot_zip:bootBuiltins "zip"=some (.type "zip"):=rfl
theorem PQ{X:Cx}{a b:bR}{ta:TA}{p pos tp:Pos}{elts:List bR}{kk}(k1 k2:sE)(hg:Gl X "zip")(hm:X.mg "zip"=none)(ha:PA X [a,b] ta)(hs:starEach [a,b] X.env=[(false,eval a X.env),(false,eval b X.env)]:=by rfl)(pL:starEach [b] X.env=[(false,eval b X.env)]:=by rfl):
  PI X (.Tuple elts kk tp) (.Call (.Name "zip" p) [a,b] [] pos) (WR k1 k2 X.K ta):=by
 intro pins s σ H R I h;refine Call_ (uN I hg hm boot_zip (iO (gD (ha pos pins s σ H _ I h) λus s1 ⟨vs,H1,I1,r1,q1⟩=>?_) (by rw[hs,pL]) (by rw[pL];rfl)))
 obtain⟨l1,l2,e,⟨xs,IW⟩,⟨ys,DS⟩,q⟩:=q1;subst e;obtain⟨u,u2,rfl,rx,rx2⟩:=vals2 r1;cases rx;cases rx2;obtain⟨its,rv,p1,_⟩:=I1.sq IW;obtain⟨Zx,Nq,p2,_⟩:=I1.sq DS;obtain⟨o1,e1⟩:=p1.get;obtain⟨o2,e2⟩:=p2.get;have UZ:=aY e1;have U0:=aY e2;refine Gi p1 p2 λh' Z hk=>wpAny_pyIter_zip Z.hz ?_
 have I2:Inv X pins σ H1 { s1 with heap:=h' }:=I1.kept (t':=s1.toks) hk
 have D:ZipApart (s1.heap.objs.size+4) (s1.heap.objs.size+2) (s1.heap.objs.size+3) s1.heap.objs.size (s1.heap.objs.size+1) l1 l2:=by
  constructor
  ·exact aX (iL (by decide) _)
  ·exact aX (iL (by decide) _)
  ·exact aX (pS (by decide))
  ·exact aX (iL (by decide) _)
  ·exact aX (iL (by decide) _)
  ·exact fY (pS (by decide))
  ·exact fY (iL (by decide) _)
  ·exact fY (pS (by decide))
  ·exact fY (iL (by decide) _)
  ·exact aX (jN _)
  ·exact aX (bV UZ (eO _ _))
  ·exact aX (bV UZ (eO _ _))
  ·exact aX UZ
  ·exact aX (bV UZ (eO _ _))
  ·exact aX (bV U0 (eO _ _))
  ·exact aX (bV U0 (eO _ _))
  ·exact aX U0
  ·exact aX (bV U0 (eO _ _))
 refine⟨_,[s1.heap.objs.size+4,s1.heap.objs.size+2,s1.heap.objs.size+3,s1.heap.objs.size,s1.heap.objs.size+1],_,_,H1,rfl,I2,IV D,⟨Z.hz,Z.hTI,⟨_,_,Z.hTO⟩,Z.h1,Z.h2⟩,λb hb=>?_,q⟩
 have hle:s1.heap.objs.size<=b:=by
  simp only[aI,bG,or_false]at hb;rcases hb with rfl|rfl|rfl|rfl|rfl
  ·exact eO _ _
  ·exact eO _ _
  ·exact eO _ _
  ·exact aD _
  ·exact eO _ _
 exact I1.wM hle (I1.hok.fresh hle)
def vY(ds es:List aj):List aj:=(ds.zip es).map λp=>.tuple [p.1,p.2]
theorem qK(ds es:List aj):(vY ds es).length=min ds.length es.length:=by simp[vY]
theorem B9{ds es:List aj}{i:Nat}{d:aj}(h:(vY ds es)[i]?=some d):∃x y,ds[i]?=some x/\es[i]?=some y/\d=.tuple [x,y]:=by
 unfold vY at h;rw[aJ]at h;cases e:(ds.zip es)[i]? with
 |none=>rw[e]at h;cases h
 |some p=>
  rw[e]at h;cases h;rw[List.getElem?_zip_eq_some]at e
  exact⟨_,_,e.1,e.2,rfl⟩
def PV(k:sE)(ds:List aj):aj:=match k with | .lst=>.list ds | .tup=>.tuple ds
theorem Rep.Nn{k:sE}{K:ai}{H:Hp}{v:V}{ds:List aj}(r:Rep K H v (PV k ds)):∃a xs,v=.ref a/\Fh k K H a xs/\cO K H xs ds:=by
 cases k with
 |lst=>cases(show Rep K H v (.list ds)from r)with|lst h t=>exact⟨_,_,rfl,h,t⟩
 |tup=>cases(show Rep K H v (.tuple ds)from r)with|tup h t=>exact⟨_,_,rfl,h,t⟩
theorem Av{X:Cx}{a b:bR}{δ:List Slot}{ds es:List aj}{p pos tp:Pos}{elts:List bR}{kk}(k1 k2:sE)(h1:VE X a δ (PV k1 ds))(h2:VE X b δ (PV k2 es))(hm:X.mg "zip"=none)(hg:Gl X "zip":=by rfl)(hs:starEach [a,b] X.env=(false,eval a X.env)::starEach [b] X.env:=by rfl)(pL:starEach [b] X.env=(false,eval b X.env)::starEach [] X.env:=by rfl)(hn:starEach [] X.env=[]:=by rfl):
  VI X (.Tuple elts kk tp) (.Call (.Name "zip" p) [a,b] [] pos) δ (vY ds es):=
 ⟨_,PQ k1 k2 hg hm (dR dg (dR dg gi pL) hs) (by rw[hs,pL,hn]) (by rw[pL,hn]),λB0 B σ H0 H R f q=>h1 B0 B σ H0 H _ f λv H1 dU g r1=>h2 B0 B σ H1 dU _ (f.grow g) λu H2 iS g2 r2=>by
  obtain⟨a1,xs,rfl,IW,PX⟩:=r1.Nn;obtain⟨a2,ys,rfl,DS,Nr⟩:=r2.Nn;have PX:=PX.mono g2.gx;have IW:=g2.gx.Nn IW;refine⟨a1,a2,rfl,⟨_,g2.sub.Nn IW⟩,⟨_,g2.sub.Nn DS⟩,q _ H2 iS (g.trans g2) λHa Hb s1 s2 i=>?_⟩
  have l1:=PX.length;have l2:=Nr.length;have QS:=(s1.trans s2).Nn IW;have WT:=(s1.trans s2).Nn DS;refine⟨λhi=>?_,λhi=>⟨_,_,QS,WT,by rw[qK]at hi;omega⟩,λx xi d hd ⟨t,x1,y1,e1,e2,e3,e4,e5⟩=>?_⟩
  ·rw[qK]at hi
   obtain⟨x,hx,_⟩:=PX.get (i:=i) (d:=ds[i]'(by omega)) (by simp)
   obtain⟨y,hy,_⟩:=Nr.get (i:=i) (d:=es[i]'(by omega)) (by simp)
   exact⟨_,x,_,y,QS,hx,WT,hy⟩
  ·obtain⟨dx,dy,hx,hy,rfl⟩:=B9 hd
   subst e1;subst e3;refine⟨upd Ha t (.tup [x1,y1]),.laid s2 e2,.tup (og.of bB) (.cons ?_ (.cons ?_ .nil))⟩
   ·exact((PX.mono s1).at hx (e4 _ QS)).mono (eA.laid s2 e2).gx
   ·exact((Nr.mono s1).at hy (e5 _ WT)).mono (eA.laid s2 e2).gx⟩
end L2
namespace L2
open PySem PySem.Spec PyProof.Rows
open AutoSeq1 (wpAny_loadPart')
theorem Gj(l:aK)(items:Array av)(n:Nat)(dd:Option aK)(sl:Array (Option av))(x:av)(e:av->Bool)(i j:Nat)(t:Tok)(yZ:i<=j)(hj:j<items.size)(o6:(j:Int)<2^63-1)
  (hit:e items[j]=true)(Ho:∀m (hm:m<items.size),i<=m->m<j->e items[m]=false):
  Meets (pX.«list.index» ⟨[.ref l,x,.int i t],[]⟩)
   (λA R s=>s.heap.get? l=some { cls:=.type "list",dict:=dd,data:=.seq items n,slots:=sl }/\(∀y,y∈items->SeqAt.EqAt A.in1 s y x (e y))/\R (.ok (.ret (.int j s.toks))) { s with toks:=s.toks+1 }):=by
 intro prog w A R s h;obtain⟨hp,g,d,tk,os⟩:=s;obtain⟨hl,he,h⟩:=h
 wp_walk using fP hl
 have a1:((λi:Int=>if i<0 then max 0 (i+(items.size:Int))else i) ((some (i:Int)).getD 0))=((i:Nat):Int):=by
  show(if(i:Int)<0 then max 0 ((i:Int)+(items.size:Int)) else(i:Int))=_
  rw[if_neg (by omega)]
 have a2:((λi:Int=>if i<0 then max 0 (i+(items.size:Int))else i) ((none:Option Int).getD (2^63-1)))=2^63-1:=by simp
 rw[a1,a2];exact⟨qf qk _,iJ PySem.MeetsSeq.entry_index_loop (by
  rw[fW qk _];exact SeqAt.index_loopAt l items n dd sl x e (2^63-1) j hj o6 hit _ i rfl yZ Ho prog w A R _ ⟨hl,he,h⟩)⟩
section
variable{X:Cx}{a b c e:bR}{es:List bR}{δ:List Slot}{d d1 d2 d3:aj}{ds:List aj}{pos:Pos}{k:Nat}
def Lw(K:ai)(n:Nat):V->List V->Hp->VK->Prop:=λx vs H Q=>∃p ds y d i j,x=.ref p/\vs=[y,.int ((i:Nat):Int)]/\Rep K H (.ref p) (.list ds)/\Rep K H y d/\Lay n (.list ds)/\Lay n d/\i<=j/\(∃h:j<ds.length,du ds[j] d=true)/\
 (∀m (h:m<ds.length),i<=m->m<j->du ds[m] d=false)/\Q (.int j) H
theorem Gk{n:Nat}(hu:X.A.units+n+2<cLine):Sd X "list.index" (Lw X.K n):=by
 intro pins s σ H x vs v us Q I rx rv h;obtain⟨p,ds,y,d,i,j,rfl,rfl,r1,r2,l1,l2,yZ,⟨hj,hit⟩,Ho,q⟩:=h;cases rx;obtain⟨u,u2,rfl,ru,S9⟩:=vals2 rv;obtain⟨t2,rfl⟩:=S9;obtain⟨bs,rb⟩:=iT I d l2.1 r2 ru;cases r1 with
 |lst hq rs=>
  obtain⟨its,Zz,⟨⟨cls,dd,data,sl⟩,m,eo,ec,_,ed⟩,hz⟩:=I.list hq;simp only at ec ed;subst ec ed;obtain⟨as,ra⟩:=ny I ds l1.1 rs Zz;have hl:=Zz.length;have PN:=rs.length;have hm:=SeqAt.readsAll_map ds its as l1.1 ra;have rd:∀i (h1:i<its.length) (h2:i<ds.length),uL s.heap its[i]=ds[i]:=λi h1 h2=>by
   have e1:(its.map (uL s.heap))[i]?=some (uL s.heap its[i]):=by simp[h1]
   rw[hm]at e1;rw[au h2]at e1;exact(cY e1).symm
  have h1:=l2.2;have hn:=sr;have zbU:sizeLine=16777216:=dI;refine kU F.slot_list_index ⟨_,eo,rfl⟩ F.entry_list_index (F.args_list_index_3 _ _ _) (Gj p its.toArray m dd sl u (λy=>du (uL s.heap y) d) i j t2 yZ (by simp;omega) (by omega) ?_ ?_) ⟨eo,?_,?_⟩
  ·have:=rd j (by omega) hj
   simp only[ED];rw[this];exact hit
  ·intro i' hi WU WV
   simp only[bu]at hi;have:=rd i' hi (by omega)
   simp only[ED];rw[this];exact Ho i' (by omega) WU WV
  ·exact SeqAt.items_eqAt (by simpa using ra) rb l1.1 l2.1 (by omega)
  ·exact⟨.int j,H,I.tok _,⟨_,rfl⟩,q⟩
theorem Gm{i j:Nat}{ap:Pos}(hr:fc k X.A)(h1:VE X a δ (.list ds))(h2:VE X b δ d)(h3:VE X c δ (.int (i:Nat)))(l1:Lay 20 (.list ds))(l2:Lay 20 d)(yZ:i<=j)(hj:∃h:j<ds.length,du ds[j] d=true)(Ho:∀m (h:m<ds.length),i<=m->m<j->du ds[m] d=false)
  (hs:starEach [b,c] X.env=(false,eval b X.env)::starEach [c] X.env:=by rfl)(pL:starEach [c] X.env=(false,eval c X.env)::starEach [] X.env:=by rfl)(mM:attributeBase a "index" X.env (eval a X.env)=eval a X.env:=by rfl)
  (sv:((backTo pos (starEach [b,c] X.env)).all (λx=>!x.1)&&(backToKw pos (keywordEach [] X.env)).all (λx=>x.1.isSome)&&decide (([b,c]:List bR).length+([]:List iK).length+(if([]:List iK).isEmpty then 0 else 1)<30))=true:=by rfl)
  (hline:(ap.endLine==pos.line)=true:=by rfl)(jZ:(backTo pos (starEach [c] X.env)).any (·.1)=false:=by rfl):VE X (.Call (.Attribute a "index" ap) [b,c] [] pos) δ (.int j):=
 .of (wY iD PySem.F.slot_list_index PySem.F.type_list_index (Gk (Al hr)) dg (dR dg (dR dg gi pL) hs) mM sv hline hs jZ) λB0 B σ H0 H Q f q=>h1 B0 B σ H0 H _ f λv H1 dU g r1=>by
  cases r1 with
  |lst hq rs=>
   refine⟨.inl ⟨rfl,_,g.sub.seq hq⟩,h2 B0 B σ H1 dU _ (f.grow g) λu H2 iS g2 r2=>h3 B0 B σ H2 iS _ ((f.grow g).grow g2) λu3 H3 wy g3 r3=>?_⟩
   cases r3;have gg:=g2.trans g3;exact⟨_,ds,u,d,i,j,rfl,rfl,.lst (gg.sub.seq (gg.gx.seq hq)) (rs.mono (gg.gx.trans gg.sub)),(r2.mono g3.gx).mono g3.sub,l1,l2,yZ,hj,Ho,q _ H3 wy (g.trans gg) (.int _)⟩
theorem wz{d1 d2:List aj}(h1:VE X a δ (.tuple d1))(h2:VE X b δ (.tuple d2))(hn:d1≠[])(hz:d1.length+d2.length<=sizeLine):VE X (.BinOp a .Add b pos) δ (.tuple (d1++d2)):=by
 refine .of (ER KS dg dg) λB0 B σ H0 H Q f q=>h1 B0 B σ H0 H _ f λv H1 dU g1 r1=>h2 B0 B σ H1 dU _ (f.grow g1) λu H2 iS g2 r2=>?_
 cases r1 with
 |tup hq r1=>
  cases r2 with
  |tup DS r2=>
   have gg:=g1.trans g2;have e1:=r1.length;have hx:∀xs:List V,xs.length=d1.length->xs≠[]:=λxs h z=>by rw[z]at h;exact hn (lY h.symm)
   refine⟨_,_,_,_,rfl,rfl,g2.sub.oq (g2.gx.oq hq),g2.sub.oq DS,hx _ e1,by rw[e1,r2.length];exact hz,λhy=>?_,λ_ p hp=>q _ _ _ (gg.trans (.laid g2.sub hp)) (.tup (og.of bB) (((r1.mono g2.gx).append r2).mono (eA.laid g2.sub hp).gx))⟩
   subst hy;cases r2;rw[eI]at q;exact q _ H2 iS gg (.tup (g2.gx.oq hq) (r1.mono g2.gx))
end
end L2
namespace L2
open PySem PySem.Spec PyProof.Rows
def IX(K:ai)(b:aK)(ws:List Str):Prop:=∃(o:Obj)(its:Array av)(n:Nat),K.lookup b=some o/\o.cls=.type "tuple"/\o.data=.seq its n/\its.size<=sizeLine/\dS (ws.map V.str) its.toList
inductive GE(pr:wH)(K:ai):List vn->List (Str×List Str)->Prop
 |nil:GE pr K [] []
 |cons {h:Int} {k:Str} {t:Tok} {b:aK} {ws:List Str} {es:List vn} {kvs:List (Str×List Str)}:h=aj.keyHash pr k->IX K b ws->GE pr K es kvs->GE pr K (⟨h,.str k t,.ref b⟩::es) ((k,ws)::kvs)
structure GD(pr:wH)(K:ai)(a:aK)(kvs:List (Str×List Str)):Prop where
 nm:(a==sysModules)=false
 nd:(kvs.map (·.1)).Nodup
 ob:∃o es ep,K.lookup a=some o/\o.ExactDict/\o.data=.dict es ep/\GE pr K es.toList kvs
def jI(kvs:List (Str×List Str))(k:Str):Option (List Str):=(kvs.find? λp=>decide (p.1=k)).map (·.2)
theorem GE.pairs{P:bo}{w:bX}{K:ai}:∀{es:List vn}{kvs:List (Str×List Str)},GE w.params K es kvs->∃vs:List (Key×av),Pairs (eK P w) es vs/\vs.map (·.1)=kvs.map (λp=>(bF p.1:Key))/\
  (∀e∈es,∃k,(eK P w).is k e.key=true/\e.hash=(eK P w).hash k)/\∀k,match jI kvs k with|none=>valueAt vs (bF k)=none|some ws=>∃b,valueAt vs (bF k)=some (.ref b)/\IX K b ws
 |_,_,.nil=>⟨[],.nil,rfl,λe h=>by(cases h),λk=>rfl⟩
 |_,_,@GE.cons _ _ hh k t b ws es kvs e kt r=>by
  obtain⟨vs,h1,h2,h3,h4⟩:=GE.pairs (P:=P) r;refine⟨(.inr k,.ref b)::vs,.cons (qt P w k t) rfl h1,by rw[aH,aH,h2],λx hx=>?_,λj=>?_⟩
  ·rcases aI.mp hx with rfl|hx
   ·exact⟨.inr k,qt P w k t,by rw[e];rfl⟩
   ·exact h3 x hx
  ·by_cases hj:k=j
   ·subst hj
    have:jI ((k,ws)::kvs) k=some ws:=by simp[jI,eJ]
    rw[this];exact⟨b,by simp[valueAt,eJ],kt⟩
   ·have:jI ((k,ws)::kvs) j=jI kvs j:=by simp[jI,eJ,hj]
    rw[this];have e2:valueAt ((bF k,c0 b)::vs) (bF j:Key)=valueAt vs (bF j):=by
     have:¬(bF k:Key)=bF j:=λz=>hj (by injection z)
     simp[valueAt,eJ,this]
    rw[e2];exact h4 j
theorem GD.dict{P:bo}{w:bX}{K:ai}{h:cK}{a:aK}{kvs:List (Str×List Str)}(g:GD w.params K a kvs)(Rq:K.In h):∃vs:List (Key×av),h.DictOf (eK P w) a vs/\∀k,match jI kvs k with|none=>valueAt vs (bF k)=none|some ws=>∃b,valueAt vs (bF k)=some (.ref b)/\IX K b ws:=by
 obtain⟨o,es,ep,h1,h2,h3,h4⟩:=g.ob;obtain⟨vs,p1,p2,p3,p4⟩:=h4.pairs (P:=P);refine⟨vs,⟨o,es,ep,Rq a o h1,h2,h3,λe he=>p3 e (by simpa using he),p1,?_⟩,p4⟩
 rw[p2];have nd:=g.nd
 clear p2 p4 h4
 induction kvs with
 |nil=>exact kP
 |cons p l ih=>
  rw[aH,fB]at nd ⊢;refine⟨λz=>nd.1 ?_,?_⟩
  ·obtain⟨q,hq,e⟩:=aG.mp z
   injection e with e
   exact aG.mpr ⟨q,hq,e⟩
  ·have go:∀l:List (Str×List Str),(l.map (·.1)).Nodup->(l.map λp=>(bF p.1:Key)).Nodup:=by
    intro l
    induction l with
    |nil=>intro _;exact kP
    |cons p l ih=>
     intro nd;rw[aH,fB]at nd ⊢;refine⟨λz=>nd.1 ?_,ih nd.2⟩
     obtain⟨q,hq,e⟩:=aG.mp z
     injection e with e
     exact aG.mpr ⟨q,hq,e⟩
   exact go l nd.2
section
variable{X:Cx}{a b c e:bR}{δ:List Slot}{pos p:Pos}{k:Nat}{x y:Str}{kvs:List (Str×List Str)}{ws:List Str}{g:aK}
theorem uW{K:ai}{H:Hp}:∀l:List Str,cO K H (l.map V.str) (l.map aP)
 | []=>.nil
 |z::l=>.cons (.str z) (uW l)
theorem Fi(hm:X.mg x=some (.ref g))(G:GD X.w.params X.K g kvs)(h:VE X b δ (.str y))(hk:jI kvs y=some ws)(hg:Gl X x:=by rfl)(hs:HR b:=by intro _ _;rfl)(hd:(x==("__debug__":Str))=false:=by decide):VE X (.Subscript (.Name x p) b pos) δ (.tuple (ws.map .str)):=by
 have pe:PE X (.Subscript (.Name x p) b pos) (λσ H Q=>cE X b σ H λv H1=>v=.str y/\∀q,IX X.K q ws->Q (.ref q) H1):=by
  intro pins s σ H Q I hw;refine E3 yn.lookup hs (gD (wo (pos:=p) hg hm (v:=.ref g) rfl hd pins s σ H (λv H'=>v=.ref g/\H'=H) I ⟨rfl,rfl⟩) λu s1 ⟨vx,H1,I1,rx,ex,eH⟩=>?_)
  subst ex eH;obtain rfl:u=c0 g:=rx;refine gD (hw pins s1 I1) λiv s2 ⟨v,H2,I2,rv,ev,q⟩=>?_
  subst ev;obtain⟨vs,dd,hv⟩:=G.dict (P:=X.prog) I2.zT;have hv:=hv y;rw[hk]at hv;obtain⟨bb,hb,kt⟩:=hv;refine⟨dd.typeIs,wpAny_getItem_of (qz (k:=.inr y) rv) dd.mapOf hb ?_⟩
  exact⟨.ref bb,H2,I2.tok _,rfl,q bb kt⟩
 exact .of pe λB0 B σ H0 H Q f q=>h B0 B σ H0 H _ f λv H1 dU g1 r=>by
  cases r;exact⟨rfl,λb' hb=>q _ H1 dU g1 (.tup (.inr hb) (uW ws))⟩
theorem zq(hm:X.mg x=some (.ref g))(G:GD X.w.params X.K g kvs)(h:VE X b δ (.str y))(hg:Gl X x:=by rfl)(hd:(x==("__debug__":Str))=false:=by decide)(hmk:behindInMarks .NotIn (.Name x p)=false:=by with_unfolding_all rfl):VT X (.Compare b [.NotIn] [.Name x p] pos) δ (!(jI kvs y).isSome):=by
 have pc:PC X .NotIn b (.Name x p) (λσ H Q=>cE X b σ H λv H1=>v=.str y/\Q (.bl (!(jI kvs y).isSome)) H1):=by
  intro pins s σ H Q I hw;refine gD (hw pins s I) λiv s1 ⟨v,H1,I1,rv,ev,q⟩=>?_
  subst ev;refine gD (wo (pos:=p) hg hm (v:=.ref g) rfl hd pins s1 σ H1 (λv H'=>v=.ref g/\H'=H1) I1 ⟨rfl,rfl⟩) λu s2 ⟨vx,H2,I2,rx,ex,eH⟩=>?_
  subst ex eH;obtain rfl:u=c0 g:=rx;obtain⟨vs,dd,hv⟩:=G.dict (P:=X.prog) I2.zT;have hv:=hv y;refine wpAny_notIn_of (qz (k:=.inr y) rv) G.nm dd.mapOf ?_
  have e:(valueAt vs (bF y)).isSome=(jI kvs y).isSome:=by
   cases el:jI kvs y with
   |none=>rw[el]at hv;rw[hv];rfl
   |some ws=>rw[el]at hv;obtain⟨bb,hb,_⟩:=hv;rw[hb];rfl
  rw[e];exact⟨.bl _,H2,I2.tok _,rfl,q⟩
 exact .of (Ou pc hmk) λB0 B σ H0 H Q f q=>h B0 B σ H0 H _ f λv H1 dU g1 r=>by
  cases r;exact⟨rfl,_,rfl,q H1 dU g1⟩
end
section
variable{X:Cx}{a b c e:bR}{δ:List Slot}{d d1 d2:aj}{ds:List aj}{pos px py p:Pos}{x y:Str}{k:Nat}{kvs:List (Str×aj)}
theorem PY:UQ X (λx lo hi H Q=>∃z,x=.str z/\z.length<=sizeLine/\Q (.str (lR z lo hi)) H):=by
 intro pins s σ H x v vl vu lo hi sl Q I rx hs pl pu h;obtain⟨z,rfl,hz,q⟩:=h;obtain⟨t,rfl⟩:=rx;refine⟨"str",_,PySem.F.slot_str_getitem.lookup,sj _ _ _,?_⟩
 have fin:∀(l u:Option (Int×Tok)),l.map (·.1)=lo->u.map (·.1)=hi->s.heap.IsSlice sl l u none->wpAny (model X.prog X.w) X.A (getItem (.str z t) (.ref sl)) (EP X pins σ Q) X.xe s:=by
  intro l u e1 e2 hl;subst e1 e2;refine wpAny_getItem_str_slice (l:=l) (u:=u) (st:=none) hl rfl (post_val_or_str ⟨b_ (Du z _ _) hz,λt' k=>?_⟩)
  exact⟨.str (lR z _ _),H,I.tok _,⟨t',rfl⟩,q⟩
 obtain⟨os,h1,h2,h3⟩:=hs;cases pl with
 |none=>cases pu with
  |none=>exact fin none none rfl rfl ⟨os,h1,h2,h3⟩
  |int j t2=>exact fin none (some (j,t2)) rfl rfl ⟨os,h1,h2,h3⟩
 |int i t1=>cases pu with
  |none=>exact fin (some (i,t1)) none rfl rfl ⟨os,h1,h2,h3⟩
  |int j t2=>exact fin (some (i,t1)) (some (j,t2)) rfl rfl ⟨os,h1,h2,h3⟩
theorem zr{lo hi:Option bR}{l u:Option Int}{p2:Pos}(h:VE X a δ (.str x))(hz:x.length<=sizeLine)(hl:rS X δ lo l)(hh:rS X δ hi u):VE X (.Subscript a (.Slice lo hi none p2) pos) δ (.str (lR x l u)):=by
 obtain⟨tl,pl,ql⟩:=hl.ok;obtain⟨th,ph,qh⟩:=hh.ok;refine .of (wX PY dg pl ph) λB0 B σ H0 H Q f q=>h B0 B σ H0 H _ f λv H1 dU g r=>ql B0 B σ H1 dU _ (f.grow g) λH2 iS g2=>qh B0 B σ H2 iS _ ((f.grow g).grow g2) λH3 wy g3=>?_
 cases r;exact⟨x,rfl,hz,q _ _ _ ((g.trans g2).trans g3) (.str _)⟩
inductive VP(X:Cx)(δ:List Slot):List (Option bR)->List bR->List (Str×aj)->Prop
 |nil:VP X δ [] [] []
 |cons {k v:bR} {ks vs} {x:Str} {d:aj} {r}:VE X k δ (.str x)->VE X v δ d->VP X δ ks vs r->VP X δ (some k::ks) (v::vs) ((x,d)::r)
theorem VP.ok{keys vals}(h:VP X δ keys vals kvs):keys.all (·.isSome)=true/\keys.length=vals.length/\keys.length=kvs.length/\∃E5,Ss X pos keys vals E5/\∀B0 B σ H0 H Q,hV X.K B0 B H0 H σ δ->
  (∀ef H' (ws:List (Key×V)),eA H0 H ef H'->ws.map (·.1)=kvs.map (λp=>(bF p.1:Key))->cO X.K ef (ws.map (·.2)) (kvs.map (·.2))->Q (ws.map λkv=>(kV kv.1,kv.2)) H')->Ai E5 σ H Q:=by
 induction h with
 |nil=>exact⟨rfl,rfl,rfl,[],K5,λB0 B σ H0 H Q f q=>q _ _ [] (.refl f.sub) rfl .nil⟩
 | @cons k v ks vs x d r hk hv _ ih=>
  obtain⟨a1,a2,a3,E5,pp,ht⟩:=ih;refine⟨by simpa using a1,by simp[a2],by simp[a3],_,HX dg dg pp,λB0 B σ H0 H Q f q=>?_⟩
  refine hk B0 B σ H0 H _ f λu H1 dU g1 r1=>hv B0 B σ H1 dU _ (f.grow g1) λw H2 iS g2 r2=>?_
  cases r1;refine ht B0 B σ H2 iS _ ((f.grow g1).grow g2) λH3 wy ws g3 e1 rs=>?_
  exact q H3 wy ((bF x,w)::ws) ((g1.trans g2).trans g3) (by simp[e1]) (.cons (r2.mono g3.gx) rs)
theorem Lx:∀{kvs:List (Key×V)}{k:Key}{v:V},k∉kvs.map (·.1)->putK kvs k v=kvs ++ [(k,v)]:=by
 intro kvs k v h;unfold putK
 first
  |(rw[if_neg];simpa using h)
  |(simp at h;simp[h])
theorem zt:∀{more kvs:List (Key×V)},((kvs++more).map (·.1)).Nodup->qC kvs more=kvs++more
 | [],kvs,_=>by simp[qC]
 |p::more,kvs,h=>by
  show qC (putK kvs p.1 p.2) more=_;have hp:p.1∉kvs.map (·.1):=λz=>by
   rw[aU,aH]at h;exact(cZ.mp h).2.2 _ z _ (aN) rfl
  rw[Lx hp,zt (by simpa using h)]
  simp
theorem Aw{keys vals}(h:VP X δ keys vals kvs)(hn:(kvs.map (·.1)).Nodup)(h0:kvs≠[])(Y_:kvs.length<=15):VE X (.Dict keys vals pos) δ (eQ kvs):=by
 obtain⟨a1,a2,a3,E5,pp,ht⟩:=h.ok (pos:=pos);refine .of (K6 pp a1 a2 (λz=>h0 (List.length_eq_zero_iff.mp (by rw[<-a3,z];rfl))) (by omega)) λB0 B σ H0 H Q f q=>λp hp=>?_
 refine ht B0 B σ H0 _ _ (f.grow (.loose f.sub hp)) λH1 dU ws g e1 rs=>?_
 have gp:=g.big _ _ (bB (H:=H) (a:=p) (o:=HO.dK []));have hp0:H1 p=none:=g.still (f.sub.free hp) bB;have wl:ws.length=kvs.length:=by have:=congrArg fD e1;simpa using this
 refine⟨gp,ws,rfl,by omega,?_⟩
 rw[zt (by
  rw[mB,e1];have:(kvs.map λp=>(bF p.1:Key))=(kvs.map (·.1)).map (bF:Str->Key):=by rw[aS];rfl
  rw[this];exact yT _ (λa b QT z=>QT (p_ z)) hn),mB]
 refine q (.ref p) (upd H1 p (.dK ws)) _ ⟨λb u eb=>?_,λb u eb=>?_,λb u eb=>?_,λb eb=>?_⟩ ?_
 ·have hb:b≠p:=bT eb hp
  rw[aR hb];exact g.big _ _ (by rw[aR hb];exact eb)
 ·have hb:b≠p:=bT eb (f.sub.free hp)
  rw[aR hb];exact g.gx _ _ eb
 ·by_cases hb:b=p
  ·subst hb;rw[bB]at eb ⊢;exact eb
  ·rw[aR hb]at eb ⊢;exact g.sub _ _ eb
 ·by_cases hb:b=p
  ·subst hb;exact .inr hp
  ·rw[aR hb]at eb
   rcases g.new b eb with z|z
   ·exact .inl z
   ·rw[aR hb]at z;exact .inr z
 ·refine .dct (kvs:=ws) bB ?_ ?_
  ·rw[aS]
   have:ws.map (λp=>sx p.1)=(ws.map (·.1)).map sx:=by rw[aS];rfl
   rw[this,e1,aS];rfl
  ·rw[aS]
   refine(rs.mono λb u eb=>?_)
   rw[aR (bT eb hp0)];exact eb
theorem IY{ap:Pos}(hr:fc k X.A)(h3:VE X c δ (eQ kvs))(h1:VE X a δ (.str x))(h4:VE X e δ d)(m:M2 X c "get" ap a e pos:=by exact⟨rfl,rfl,rfl,rfl⟩):VE X (.Call (.Attribute c "get" ap) [a,e] [] pos) δ ((gE kvs x).getD d):=
 .of (HZ (Lr hr) dg dg dg m) λB0 B σ H0 H Q fr q=>h3 B0 B σ H0 H _ fr λv H1 dU g r=>by
  obtain⟨p,ws,rfl,hp,ke,rs⟩:=r.lF;refine⟨p,rfl,.inl ⟨ws,.inl (g.sub _ _ hp)⟩,?_⟩
  refine h1 B0 B σ H1 dU _ (fr.grow g) λv H2 iS g2 r1=>h4 B0 B σ H2 iS _ ((fr.grow g).grow g2) λu H3 wy g3 r2=>?_
  cases r1;have gg:=g2.trans g3;refine⟨jd ws (bF x),.inl ⟨ws,bF x,.inl (gg.big _ _ (g.sub _ _ hp)),rfl,rfl⟩,q _ H3 wy (g.trans gg) ?_⟩
  exact(sD ke (rs.mono gg.gx) x).getD r2
theorem PZ{K:ai}(i j:Int):mN K (λxs H Q=>∃i j,xs=[.int i,.int j]/\Q (.int (if j<i then j else i)) H) [.int i,.int j] (.int (if j<i then j else i)):=λvs H0 H Q s r q=>by
 obtain⟨v,u,rfl,r1,r2⟩:=r.two;cases r1;cases r2;exact⟨i,j,rfl,q _ _ _ (.refl s) (.int _)⟩
end
section
variable{X:Cx}{a b c e e1 e2:bR}{δ:List Slot}{d d1 d2:aj}{ds QQ ZC:List aj}{pos px py p:Pos}{x y:Str}{k:Nat}
theorem Ly(i j:Nat){pt Dw:Pos}{kt k2}(h1:VO X a δ QQ)(h2:VO X b δ ZC)(hc:X.calm=true)(hN:X.N.Nodup)(yZ:i≠j)(hi:X.N[i]?=some x:=by rfl)(hj:X.N[j]?=some y:=by rfl)(hx:X.env.scope.names.lookup x=some .local:=by rfl)(hy:X.env.scope.names.lookup y=some .local:=by rfl)
  (hw:swappedStores [.Tuple [.Name x px,.Name y py] kt pt] (.Tuple [a,b] k2 Dw) X.env=pure (some [x,y]):=by rfl)(hs:swapsWithSole [.Tuple [.Name x px,.Name y py] kt pt] (.Tuple [a,b] k2 Dw) pos.line X.env=pure false:=by rfl)
  (Nh:starEach [a,b] X.env=(false,eval a X.env)::starEach [b] X.env:=by rfl)(pL:starEach [b] X.env=(false,eval b X.env)::starEach [] X.env:=by rfl):
  VS X (.Assign [.Tuple [.Name x px,.Name y py] kt pt] (.Tuple [a,b] k2 Dw) pos) δ (.nx ((δ.set i (.own QQ)).set j (.own ZC))):=λB0 B σ H0 H D f ok pins s I=>by
 refine HB hc hN hi hj yZ hx hy (dR dg (dR dg gi pL) Nh) hw hs pins s σ H D I ?_
 refine h1 B0 B σ H0 H _ f λp xs H1 dU g a1 a2 a3 a4=>h2 B0 B σ H1 dU _ (f.grow g) λq ys H2 iS g2 b1 b2 b3 b4=>?_
 have gg:=g.trans g2;have fs:=f.grow gg;have npq:p≠q:=λz=>by rw[z,b1]at a3;cases a3
 have f1:=fs.Ak (i:=i) (g2.big _ _ a3) (g2.still a2 a3) (f.ent.big.free a1) (a4.mono g2.gx) λj es e2 e3=>by
  obtain⟨p',xs',g1,g2,_⟩:=f.slot j _ e2;rw[e3]at g1;cases g1;rw[a1]at g2;cases g2
 refine⟨_,_,rfl,ok _ H2 iS gg.gx (f1.Ak b3 b2 ((f.grow g).ent.big.free b1) b4 λj es e2 e3=>?_)⟩
 by_cases ZD:j=i
 ·subst ZD
  have hl:j < σ.length:=by
   have:=(aM.mp e3).1;simpa using this
  rw[bq hl]at e3;cases e3;exact npq rfl
 ·rw[a9 (bY ZD)]at e2 e3
  obtain⟨p',xs',z1,z2,_⟩:=(f.grow g).slot j _ e2;rw[e3]at z1;cases z1;rw[b1]at z2;cases z2
end
section
variable{X:Cx}{K:ai}{B0 B H0 H ef H' C0 C Ha Hb:Hp}{σ σ':St}{δ δ':List Slot}{a:aK}{ps:List aK}{gs:List (List aj)}
theorem uG.rep2(G:uG K B0 B a ps gs H0 H σ δ):∃Ha,dJ H0 Ha/\eA B0 B Ha H/\Rep K Ha (.ref a) (.list (gs.map .list)):=by
 have s0:dJ H0 (λq=>if q=a\/q∈ps then H q else H0 q):=λb u e=>by
  show(if b=a\/b∈ps then H b else H0 b)=some u
  split
  ·exact G.fr.sub b u e
  ·exact e
 refine⟨λq=>if q=a\/q∈ps then H q else H0 q,s0,⟨G.fr.ent.big,G.fr.ent.gx.trans s0,λb u e=>?_,λb e=>?_⟩,?_⟩
 ·have e:(if b=a\/b∈ps then H b else H0 b)=some u:=e
  split at e
  ·exact e
  ·exact G.fr.sub b u e
 ·have e:(if b=a\/b∈ps then H b else H0 b)≠none:=e
  split at e
  ·rename_i z
   rcases z with rfl|z
   ·exact .inr G.aB
   ·obtain⟨i,hi⟩:=qY.mp z
    have hl:i<gs.length:=by rw[<-G.len];exact(aM.mp hi).1
    exact .inr (G.cell i b gs[i] hi (by simp[hl])).2.1
  ·exact G.fr.ent.new b e
 ·refine .lst (kO.of (by show(if a=a\/a∈ps then H a else H0 a)=_;rw[if_pos (.inl rfl)];exact G.arr)) ?_
  have go:∀(l:List aK)(m:List (List aj)),l.length=m.length->(∀(i:Nat)p ds,l[i]?=some p->m[i]?=some ds->p∈ps/\∃xs,H p=some (.lst xs)/\cO K H0 xs ds)->cO K (λq=>if q=a\/q∈ps then H q else H0 q) (l.map V.ref) (m.map .list):=by
   intro l
   induction l with
   |nil=>
    intro m hm _;cases m with
    |nil=>exact .nil
    |cons _ _=>cases hm
   |cons p l ih=>
    intro m hm hc;cases m with
    |nil=>cases hm
    |cons ds m=>
     obtain⟨hp,xs,h1,h2⟩:=hc 0 p ds rfl rfl;refine .cons (.lst (kO.of (by show(if p=a\/p∈ps then H p else H0 p)=_;rw[if_pos (.inr hp)];exact h1)) (h2.mono s0)) (ih m (by simpa using hm) λi p' Gb e1 e2=>hc (i+1) p' Gb (by simpa using e1) (by simpa using e2))
  exact go ps gs G.len λi p ds e1 e2=>by
   obtain⟨_,_,xs,h1,h2⟩:=G.cell i p ds e1 e2;exact⟨bA e1,xs,h1,h2⟩
theorem uG.freeze(G:uG K B0 B a ps gs H0 H σ δ){ig:Nat}(QV:δ[ig]?=some (.ref a)):∃Ha,dJ H0 Ha/\hV K B0 B Ha H σ (δ.set ig (.val (.list (gs.map .list)))):=by
 obtain⟨Ha,sm,g,r⟩:=G.rep2;have hs:σ[ig]?=some (some (.ref a)):=G.fr.slot ig _ QV;have f0:hV K B0 B Ha H σ δ:=by
  refine⟨g,G.fr.len,λi sl e=>?_,G.fr.apart⟩
  have q:=G.fr.slot i sl e;cases sl with
  |un=>trivial
  |ref _=>exact q
  |val d=>obtain⟨v,g1,g2⟩:=q;exact⟨v,g1,g2.mono sm⟩
  |own ds=>exact absurd e (lE G.no i ds)
 have f1:=f0.sC (i:=ig) (v:=.ref a) (sl:=.val (.list (gs.map .list))) ⟨_,rfl,r⟩ rfl;have e:σ.set ig (some (.ref a))=σ:=by
  apply il;intro i;by_cases h:i=ig
  ·subst h;rw[bq (aM.mp hs).1,hs]
  ·rw[a9 (bY h)]
 rw[e]at f1;exact⟨Ha,sm,f1⟩
end
section
variable{X:Cx}{B0 B H0 H ef H' Ha Hb:Hp}{σ σ':St}{D:Ends}{st:gZ}{rest body orelse:List gZ}{δ δ':List Slot}{a:aK}{ps:List aK}{gs:List (List aj)}{e c tg iter e1 e2 ea:bR}{d:aj}{ds:List aj}{pos px xk:Pos}{x y:Str}
def nq{α:Type}(l:List α)(i:Nat)(y:α):List α:=l.take i++y::l.drop i
def Lz:V->List V->Hp->VK->Prop:=λx vs H Q=>∃(l:aK)(xs:List V)(j:Int)(y:V),x=.ref l/\vs=[.int j,y]/\H l=some (.lst xs)/\0<=j/\j<=xs.length/\xs.length<sizeLine/\Q .non (upd H l (.lst (nq xs j.toNat y)))
theorem dS.ins{xs:List V}{us:List av}{y:V}{u:av}(r:dS xs us)(ru:RelV y u)(i:Nat):dS (nq xs i y) (nq us i u):=(r.take i).append (.cons ru (r.drop i))
theorem Gn:Sd X "list.insert" Lz:=by
 intro pins s σ H x vs v us Q I rx rv h;obtain⟨l,xs,j,y,rfl,rfl,hH,h0,hi,hz,q⟩:=h;cases rx;obtain⟨u1,u2,rfl,ru1,S9⟩:=rv.two;obtain⟨t,rfl⟩:=ru1;obtain⟨z,its,n,r,hl,e⟩:=I.Sf hH;have P0:uF j=true:=by
  have:=dI;unfold uF;simp;omega
 refine kU F.slot_list_insert ⟨_,e,rfl⟩ F.entry_list_insert (F.args_list_insert_3 _ _ _) (PySem.AutoSeq1.list_insert_list_int_val_1 l its.toArray n j t u2 (by rw[P0];decide) (by rw[bu];omega)) ⟨e,?_⟩
 refine⟨.non,_,I.Se (its':=nq its j.toNat u2) hH e ?_ (r.ins S9 j.toNat) ?_,rfl,q⟩
 ·show(its.toArray.extract 0 (if j<0 then(j+((its.toArray.size:Nat):Int)).toNat else min j.toNat its.toArray.size)).push u2++its.toArray.extract (if j<0 then(j+((its.toArray.size:Nat):Int)).toNat else min j.toNat its.toArray.size)=_
  rw[if_neg (by omega),bu,mI (by omega)]
  unfold nq;apply Array.toList_inj.mp;simp;rw[cM (by simp)]
 ·unfold nq
  rw[a7,bD,cj,cG];omega
theorem cO.ins{K:ai}{xs:List V}{v:V}(r:cO K H xs ds)(rv:Rep K H v d)(i:Nat):cO K H (nq xs i v) (nq ds i d):=(r.take i).append (.cons rv (r.drop i))
theorem IZ(G:uG X.K B0 B a ps gs H0 H σ δ)(ig:Nat){j m:Nat}{p:aK}{p0 p4 ap:Pos}(QV:δ[ig]?=some (.ref a))(ha:VE X ea δ (.int j))(hp:ps[j]?=some p)(hg:gs[j]?=some ds)(h1:VE X e1 (δ.set ig (.val (.list (gs.map .list)))) (.int m))(Zk:noOwn (δ.set ig (.val (.list (gs.map .list))))=true)(hm:m<=ds.length)(h2:VE X e2 δ d)(hz:ds.length<sizeLine)
  (q:∀σ' ef H',uG X.K B0 B a ps (gs.set j (nq ds m d)) ef H' σ' δ->D.nx σ' H')(hig:X.N[ig]?=some x:=by rfl)
  (hv:EH X.env.scope x:=by first|exact bj rfl|exact cP (bj rfl)|exact cP (cP rfl))(hd:(x==("__debug__":Str))=false:=by decide)(rJ:(x==("__classdict__":Str))=false:=by decide)(qy:q_ ea:=by intro _ _;rfl)
  (hs:starEach [e1,e2] X.env=(false,eval e1 X.env)::starEach [e2] X.env:=by rfl)(pL:starEach [e2] X.env=(false,eval e2 X.env)::starEach [] X.env:=by rfl)(mM:attributeBase (.Subscript (.Name x p0) ea p4) "insert" X.env (eval (.Subscript (.Name x p0) ea p4) X.env)=eval (.Subscript (.Name x p0) ea p4) X.env:=by rfl)
  (sv:((backTo px (starEach [e1,e2] X.env)).all (λx=>!x.1)&&(backToKw px (keywordEach [] X.env)).all (λx=>x.1.isSome)&&decide (([e1,e2]:List bR).length+([]:List iK).length+(if([]:List iK).isEmpty then 0 else 1)<30))=true:=by rfl)
  (hline:(ap.endLine==px.line)=true:=by rfl)(jZ:(backTo px (starEach [e2] X.env)).any (·.1)=false:=by rfl)(BZ:swapsWith (.Call (.Attribute (.Subscript (.Name x p0) ea p4) "insert" ap) [e1,e2] [] px) none pos.line X.env=pure false:=by rfl):
  cS X (.Expr (.Call (.Attribute (.Subscript (.Name x p0) ea p4) "insert" ap) [e1,e2] [] px) pos) D σ H:=λpins s I=>by
 refine tK (wY iD PySem.F.slot_list_insert PySem.F.type_list_insert Gn (M6 Ad (lU hig hv hd rJ) dg qy) (dR dg (dR dg gi pL) hs) mM sv hline hs jZ) BZ pins s σ H D I ?_
 refine⟨.ref a,G.fr.slot ig _ QV,?_⟩
 refine ha H0 H σ H0 H _ G.own λv H1 dU g r=>?_
 cases r;have G1:=G.go (G.own.grow g) G.no;obtain⟨c1,c2,xs,c3,c4⟩:=G1.cell j p ds hp hg;refine .inl ⟨a,_,_,.ref p,rfl,rfl,kO.of G1.arr,bH (by rw[aJ,hp];rfl),.inl ⟨rfl,_,kO.of c3⟩,?_⟩
 obtain⟨Ha,sm,ff⟩:=G1.freeze QV;refine h1 Ha dU σ Ha dU _ (ff.re Zk (.refl ff.sub)) λv Hb H2 g2 r2=>?_
 cases r2;have G2:uG X.K B0 B a ps gs H1 H2 σ δ:=G1.go (G1.own.grow (.far G1.fr.sub g2.big)) G1.no;refine h2 H1 H2 σ H1 H2 _ G2.own λw H3 wy g3 r3=>?_
 have G3:=G2.go (G2.own.grow g3) G2.no;obtain⟨k1,k2,ys,k3,k4⟩:=G3.cell j p ds hp hg;refine⟨p,ys,m,w,rfl,rfl,k3,by omega,by rw[k4.length];omega,by rw[k4.length];exact hz,q σ H3 _ ?_⟩
 have hjl:j<gs.length:=(aM.mp hg).1;have QW:a≠p:=λz=>G.na (by rw[z];exact bA hp)
 refine⟨G3.fr.touch k1 k2 (lE G.no),G.no,by rw[aR QW];exact G3.arr,G3.a0,G.aB,G.na,G.nd,by rw[yq];exact G.len,λi p' Gb e1 e2=>?_⟩
 by_cases hi:i=j
 ·subst hi
  rw[hp]at e1;cases e1;rw[bq hjl]at e2;cases e2;exact⟨k1,k2,_,bB,by rw[fw];exact k4.ins r3 m⟩
 ·rw[a9 (bY hi)]at e2
  obtain⟨k1,k2,ys,k3,k4⟩:=G3.cell i p' Gb e1 e2;have np:p'≠p:=λz=>by
   subst z;have l1:=(aM.mp e1);have l2:=(aM.mp hp);exact hi ((List.getElem_inj G.nd (h₀:=l1.1) (h₁:=l2.1)).mp (by rw[l1.2,l2.2]))
  exact⟨k1,k2,ys,by rw[aR np];exact k3,k4⟩
theorem P1(G:uG X.K B0 B a ps gs H0 H σ δ){ig:Nat}{o:Out}(QV:δ[ig]?=some (.ref a))(h:uT X rest (δ.set ig (.val (.list (gs.map .list)))) o)(q:∀Ha,dJ H0 Ha->qH X.K B0 B Ha D o):DP X rest D σ H:=by
 obtain⟨Ha,sm,ff⟩:=G.freeze QV;exact h B0 B σ Ha H D ff (q Ha sm)
end
section
variable{X:Cx}{a b c:bR}{δ:List Slot}{d1 d2 d3:aj}{pos px py pz:Pos}{x y z:Str}
theorem cO.three{K:ai}{H:Hp}{vs:List V}(r:cO K H vs [d1,d2,d3]):∃v w u,vs=[v,w,u]/\Rep K H v d1/\Rep K H w d2/\Rep K H u d3:=by
 cases r with|cons a t=>cases t with|cons b t=>cases t with|cons c t=>cases t;exact⟨_,_,_,rfl,a,b,c⟩
theorem LC(i j k:Nat){pt Dw:Pos}{kt k2}(h1:VE X a δ d1)(h2:VE X b δ d2)(h3:VE X c δ d3)(hc:X.calm=true)(hN:X.N.Nodup)(yZ:i≠j)(hik:i≠k)(DN:j≠k)(hi:X.N[i]?=some x:=by rfl)(hj:X.N[j]?=some y:=by rfl)(hk:X.N[k]?=some z:=by rfl)(hx:X.env.scope.names.lookup x=some .local:=by rfl)(hy:X.env.scope.names.lookup y=some .local:=by rfl)(hz:X.env.scope.names.lookup z=some .local:=by rfl)
  (hw:swappedStores [.Tuple [.Name x px,.Name y py,.Name z pz] kt pt] (.Tuple [a,b,c] k2 Dw) X.env=pure (some [x,y,z]):=by rfl)(hs:swapsWithSole [.Tuple [.Name x px,.Name y py,.Name z pz] kt pt] (.Tuple [a,b,c] k2 Dw) pos.line X.env=pure false:=by rfl)
  (Nh:starEach [a,b,c] X.env=(false,eval a X.env)::starEach [b,c] X.env:=by rfl)(pL:starEach [b,c] X.env=(false,eval b X.env)::starEach [c] X.env:=by rfl)(Wi:starEach [c] X.env=(false,eval c X.env)::starEach [] X.env:=by rfl):
  VS X (.Assign [.Tuple [.Name x px,.Name y py,.Name z pz] kt pt] (.Tuple [a,b,c] k2 Dw) pos) δ (.nx (((δ.set i (.val d1)).set j (.val d2)).set k (.val d3))):=λB0 B σ H0 H D f ok pins s I=>by
 obtain⟨t,ha,qa⟩:=aq h1 (aq h2 (aq h3 aQ Wi) pL) Nh;have h:=qa B0 B σ H0 H (λvs H1=>∃v w u,vs=[v,w,u]/\D.nx (((σ.set i (some v)).set j (some w)).set k (some u)) H1) f λvs H1 dU g rs=>by
  obtain⟨v,w,u,rfl,r1,r2,r3⟩:=rs.three;exact⟨v,w,u,rfl,ok _ H1 dU g.gx ((((f.grow g).set r1).set r2).set r3)⟩
 rw[exec_Assign_arm];refine ay (wc ?_)
 rw[hs];refine ay (a8 ?_)
 rw[if_neg (by decide)]
 refine ay (Tuple_ (gD (ha _ pins s σ H _ I h) λus s1 ⟨vs,H1,I1,r1,q1⟩=>?_))
 obtain⟨v,w,u,e1,q1⟩:=q1;subst e1;obtain⟨u1,u2,u3,rfl,rv,oU,ru⟩:∃u1 u2 u3,us=[u1,u2,u3]/\RelV v u1/\RelV w u2/\RelV u u3:=by
  cases r1 with
  |cons p q=>
   cases q with
   |cons p' q'=>
    cases q' with
    |cons p2 q2=>
     cases q2;exact⟨_,_,_,rfl,p,p',p2⟩
 refine eB ?_ (by show 3<=sizeLine;decide)
 have I2:Inv X pins σ H1 { s1 with heap:=s1.heap.push { cls:=.type "tuple",data:=.seq [u1,u2,u3].toArray } }:=I1.kept (t':=s1.toks) λb o e=>aE _ e
 rw[hw];refine ay (a8 ?_)
 show wpAny (model X.prog X.w) X.A (do rule "assign.swapped-stores";let items <-unpackItems (.ref s1.heap.objs.size) 3 none;assignInOrder [λv=>bindName X.env z v,λv=>bindName X.env y v,λv=>bindName X.env x v] items.reverse;pure BD) _ _ _
 refine ay (r9 (ay (unpackItems_tuple (items:=#[u1,u2,u3]) (I.ok.hd hc) (oQ s1.heap _) λh' VH=>?_)))
 have I3:=I2.kept (h':=h') (t':=s1.toks) λb o e=>VH b o (aX (aY e)) e
 show wpAny _ _ (assignInOrder [λv=>bindName X.env z v,λv=>bindName X.env y v,λv=>bindName X.env x v] [u3,u2,u1] >>= λ_=>pure BD) _ _ _
 refine ay (ju (oS (mL I3 hN hk (.inl hz) ru (λs2 I4=>?_) (.inr hz))))
 refine ju (oS (mL I4 hN hj (.inl hy) oU (λs3 I5=>?_) (.inr hy)))
 refine ju (oS (mL I5 hN hi (.inl hx) rv (λs4 I6=>yv (a8 ?_)) (.inr hx)))
 have e:((σ.set k (some u)).set j (some w)).set i (some v)=((σ.set i (some v)).set j (some w)).set k (some u):=by
  rw[tE _ _ (bY DN),tE _ _ (bY hik),tE _ _ (bY yZ)]
 rw[e]at I6;exact⟨_,H1,I6,q1⟩
theorem t_{k:Bool}(h:VE X a δ (.bool k)):VE X (.UnaryOp .Not a pos) δ (.bool (!k)):=.of (Ox dg) λB0 B σ H0 H Q f q=>h B0 B σ H0 H _ f λv H1 dU g r=>by
 cases r;exact⟨k,rfl,q _ H1 dU g (.bl _)⟩
theorem xu{st:List gZ}{o:Out}(h:∀B0 B σ H0 H D,hV X.K B0 B H0 H σ δ->qH X.K B0 B H0 D o->DP X st D σ H):uT X st δ o:=h
end
section
variable{X:Cx}{a:bR}{δ:List Slot}{pos p:Pos}{x:Str}{ds:List aj}
theorem yI:jh X (.type "str") (λxs H Q=>∃x,xs=[.str x]/\Q (.str x) H):=by
 intro pins s σ H xs us Q I r h;obtain⟨x,rfl,q⟩:=h;obtain⟨u,rfl,t,rfl⟩:=vals1 r;exact PySem.P.str_of_str ⟨.str x,H,I,⟨t,rfl⟩,q⟩
theorem P2{K:ai}:mN K (λxs H Q=>∃x,xs=[.str x]/\Q (.str x) H) [.str x] (.str x):=λvs H0 H Q s r k=>by
 obtain⟨v,rfl,r1⟩:=r.one;cases r1;exact⟨x,rfl,k _ _ _ (.refl s) (.str _)⟩
theorem LD(h:VE X a δ (.str x))(hm:X.mg "str"=none)(hg:Gl X "str":=by rfl)(hs:starEach [a] X.env=(false,eval a X.env)::starEach [] X.env:=by rfl):VE X (.Call (.Name "str" p) [a] [] pos) δ (.str x):=ja yI P2 (aq h aQ hs) hm rfl hg (he:=hs)
theorem LJ{K:ai}:Ip K (λxs H Q=>∃p ys,xs=[.ref p]/\(kO K H p ys\/og K H p ys)/\∀l,H l=none->Q (.ref l) (upd H l (.lst ys))) [.tuple ds] ds:=λvs H0 H Q s r q=>by
 obtain⟨v,rfl,r1⟩:=r.one;cases r1 with
 |tup hq rs=>
  refine⟨_,_,rfl,.inr (s.oq hq),λl hl=>?_⟩
  exact q l _ H0 _ (.loose s hl) hl (s.free hl) bB rs
end
section
variable{prog:bo}{w:bX}{A:cU}{E:av->aF->Prop}{s:aF}
theorem yJ{l:aK}{items:Array av}{Q:av->aF->Prop}(hh:A.handled=none)(hl:s.heap.IsTuple l items)(T:Nat->cK->Prop)
  (t0:∀led h',h'.get? s.heap.objs.size=some (jw led)->(∀b o,s.heap.get? b=some o->h'.get? b=some o)->T 0 h')
  (keep:∀i h h',T i h->(∀b o,b≠s.heap.objs.size+1->h.get? b=some o->h'.get? b=some o)->T i h')
  (add:∀i v (s':aF) (Q:Bool->aF->Prop) (E:av->aF->Prop),i<items.size->items[i]?=some v->T i s'.heap->(∀h' tk b,s'.toks<=tk->ie s.heap.objs.size s'.heap h'->T (i+1) h'->Q b { s' with heap:=h',toks:=tk })->wpAny (model prog w) A.in1.in1.in1 (setAdd s.heap.objs.size v) Q E s')
  (h:∀(h':cK)(tk:Nat),T items.size h'->(∀b o,b<s.heap.objs.size->s.heap.get? b=some o->h'.get? b=some o)->Q (.ref s.heap.objs.size) { s with heap:=h',toks:=tk }):
  wpAny (model prog w) A (call (.type "set") [.ref l]) Q E s:=by
 obtain⟨c,tl,zb2⟩:=jY.mro;have ZE:=jY.made;have BX:=jY.sub;refine wpAny_call (codeAny_of_tree ?_)
 show wpAny _ _ (callAny (.type "set") _) _ _ _;refine a8 ⟨Code.quiet_builtin _ (by decide +kernel),iJ F.entry_type_call ?_⟩
 rw[cU.under_plain (weight_type_call_type "set" [.ref l] []) rfl];have h1:=jY.notType;have h2:=jY.canCreate;have ZF:=F.typeCall_set_1 (.ref l)
 repeat (any_goals (first|assumption|wp_step))
 refine nZ (code_set_new_1 (.ref l) (E:=E) (Q₁:=λobj s₁=>∃led:Bool,obj=.ref s.heap.objs.size/\s₁={ s with heap:=s.heap.push (jw led) }) λled=>⟨led,rfl,rfl⟩) λr s₁ hr=>?_
 cases r with
 |error e=>exact hr
 |ok fl=>
  cases fl with
  |ret obj=>
   obtain⟨led,rfl,rfl⟩:=hr;have hS:(s.heap.push (jw led)).get? s.heap.objs.size=some (jw led):=bp _ rfl;have hT:aF.TypeIs { s with heap:=s.heap.push (jw led) } (.ref s.heap.objs.size) "set":=⟨_,hS,rfl⟩
   have hli:=jY.init.lookup;have hbi:=jY.init.bind (.ref s.heap.objs.size)
   repeat (any_goals (first|assumption|wp_step))
   refine nZ (codeAny_call_builtin (R:=wants (λr s₂=>r=.none/\∃h' tk,s₂={ s with heap:=h',toks:=tk }/\T items.size h'/\(∀b o,b<s.heap.objs.size->s.heap.get? b=some o->h'.get? b=some o)) E) jY.init.plain F.entry_set_init (check_set_init_1 hT ?_)) λr₂ s₂ WW=>?_
   ·obtain⟨ol,IK,IL,nl,Hq⟩:=hl
    obtain⟨WX,Nt,S',I0⟩:=ol;simp only at IL Hq;subst IL;subst Hq;have WY:(s.heap.push (jw led)).get? l=some { cls:=.type "tuple",dict:=Nt,data:=.seq items nl,slots:=I0 }:=aE _ IK;have zb3:=F.sub_tuple_set;have zb4:=F.sub_tuple_frozenset;have Ao:(tq "tuple"==tq "dict")=false:=by decide
    have Kn:(s.heap.push (jw led)).IsTuple l items:=⟨_,WY,rfl,nl,rfl⟩;unfold pX.«set.__init__» noKeywords pX.Frozenset.updateFrom
    generalize hPI:pyIter=PI
    wp_walk
    subst hPI;refine wF Kn ?_
    refine ay (wpAny_runValue ?_)
    have Ta:l<s.heap.objs.size:=aY IK;have hh3:A.in1.in1.in1.handled=none:=by simp[hh]
    have Ab:(s.heap.push (jw led)).objs.size=s.heap.objs.size+1:=gX _ _;have P4:l≠(s.heap.push (jw led)).objs.size:=by rw[Ab];exact aX (kX Ta)
    have K7:s.heap.objs.size∉[(s.heap.push (jw led)).objs.size,l]:=by
     rw[Ab];simp only[aI,bh,bG,or_false,not_or];exact⟨aX (jN _),fY Ta⟩
    refine Ia ((Walks.tuple hh3 _ l P4 items).toS) s.heap.objs.size K7 T (λi h h' t k=>keep i h h' t λb o hb e=>k b o ?_ e) (λi v s' Q E hi hv t q=>add i v s' Q E hi hv t q) (items.size-0) 0 _ (by omega) (bx _)
     ⟨⟨_,bp _ rfl,rfl,rfl⟩,(Kn.push _)⟩ ?hS0 ?hR
    ·rw[Ab]
     intro z;rw[bh]at z;exact hb z
    case hS0=>
     exact t0 led _ (aE _ hS) λb o e=>aE _ (aE _ e)
    case hR=>
     intro s' hm K8;obtain⟨h',g',d',yt,KJ⟩:=s';have eg:g'=s.gens:=hm.gens;have ed:d'=s.drawn:=hm.drawn;have eo:KJ=s.os:=hm.os;subst eg;subst ed;subst eo;show wpAny _ _ _ _ _ _;refine a8 ?_
     show wpAny _ _ (ret iq) _ _ _;refine a8 ⟨rfl,h',yt,rfl,K8,λb o hb e=>?_⟩
     have WZ:b≠s.heap.objs.size:=aX hb;have W1:b≠(s.heap.push (jw led)).objs.size:=by rw[Ab];exact aX (kX hb)
     exact hm.heap b o (by simp only[aI,bh,bG,or_false,not_or];exact⟨WZ,W1⟩) (aE _ (aE _ e))
   ·cases r₂ with
    |error e=>exact WW
    |ok fl₂=>
     cases fl₂ with
     |ret r=>
      obtain⟨rfl,h',tk,rfl,K8,hk'⟩:=WW
      repeat (any_goals (first|assumption|wp_step))
      exact h _ _ K8 hk'
     |_=>exact WW.elim
  |_=>exact hr.elim
end
section
variable{X:Cx}{a b c e:bR}{δ:List Slot}{d d1 d2:aj}{ds:List aj}{pos p p2 rK:Pos}{k:Nat}
def P5(K:ai):List V->Hp->VK->Prop:=λxs H Q=>∃(a:aK)(ss:List Str),xs=[.ref a]/\og K H a (ss.map V.str)/\ss.length<4000/\∀l,H l=none->Q (.ref l) (upd H l (.ext (Ge l (dd [] ss).length)))
theorem xx(hc:X.calm=true):jh X (.type "set") (P5 X.K):=by
 intro pins s σ H xs us Q I r h;obtain⟨a,ss,rfl,hq,h4,q⟩:=h;obtain⟨u,rfl,rx⟩:=vals1 r;cases rx;obtain⟨its,rv,pl,hz⟩:=I.tuple hq;have W3:=rv.length;simp only[ao]at W3;have hsz:its.toArray.size=ss.length:=by simp only[bu];omega
 refine yJ (I.ok.hd hc) (show s.heap.IsTuple _ _ from pl) (λi h=>(∀b o,s.heap.get? b=some o->h.get? b=some o)/\h.SetOf (strKind X.prog X.w) s.heap.objs.size (λk=>decide (k∈dd [] (ss.take i))) (dd [] (ss.take i)).length) (λled h' e k=>?_) (λi h h' ⟨k1,T⟩ k=>?_) (λi v s' Q' E' hi hv ⟨k1,T⟩ q'=>?_) (λh' tk ⟨k1,T⟩ _=>?_)
 ·have n0:dd [] (ss.take 0)=[]:=by rw[List.take_zero];rfl
  refine⟨k,?_⟩
  rw[n0];refine⟨_,#[],0,.fresh 0 0 led,e,⟨rfl,rfl,rfl⟩,rfl,(λe he=>by cases he),(λk=>⟨λz=>by simp at z,λ⟨e,he,_⟩=>by cases he⟩),(by show 0<scanBound;unfold scanBound;omega),rfl,rfl⟩
 ·refine⟨λb o e=>k b o ?_ (k1 b o e),?_⟩
  ·have:=aY e
   exact aX (kX this)
  ·obtain⟨o,es,ep,t,ho,rest⟩:=T
   exact⟨o,es,ep,t,k _ _ (aX (jN _)) ho,rest⟩
 ·rw[hsz]at hi
  have HF:its[i]?=some v:=by simpa using hv
  obtain⟨x,t,hx,rfl⟩:=zo rv i v HF;have ZG:(strKind X.prog X.w).is x (.str x t)=true:=by show sY x (.str x t)=true;simp[sY]
  have hle:=uU (ss.take i) [];simp only[cB,iu,cj]at hle;have W4:ss.take (i+1)=ss.take i ++ [x]:=by rw[dm,hx];rfl
  unfold setAdd;refine nh (ay ((strKind X.prog X.w).pyHash ZG ?_))
  refine wpAny_setAddHashed_of (knd:=strKind X.prog X.w) (s:={ s' with toks:=s'.toks+1 }) ZG rfl T (by unfold scanBound;omega) λh' sb T'=>q' h' _ _ (oJ _) sb ⟨λb o e=>?_,?_⟩
  ·have hb:=aY e
   rw[sb.2 b (aX hb)];exact k1 b o e
  ·have ed:dd [] (ss.take (i+1))=if decide (x∈dd [] (ss.take i))=true then dd [] (ss.take i)else dd [] (ss.take i) ++ [x]:=by rw[W4,zm];rfl
   rw[ed];by_cases hm:decide (x∈dd [] (ss.take i))=true
   ·rw[if_pos hm]at T' ⊢
    refine SetOf_congr T' (λk=>?_) rfl
    by_cases hk:k=x
    ·subst hk;rw[hm];rfl
    ·simp[hk]
   ·rw[if_neg hm]at T' ⊢
    refine SetOf_congr T' (λk=>?_) (by simp)
    rw[gC];simp
 ·rw[hsz,iM]at T
  exact⟨.ref s.heap.objs.size,_,I.laid k1 (aD _) (SetOf.WD T).ok,rfl,q _ (I.hok.fresh (aD _))⟩
theorem B_{ss:List Str}(h:VE X a δ (.tuple (ss.map .str)))(hl:ss.length<4000)(hc:X.calm=true)(m1:X.mg "len"=none)(m2:X.mg "set"=none)(hg:Gl X "len":=by rfl)(Pw:Gl X "set":=by rfl)
  (hs:starEach [a] X.env=(false,eval a X.env)::starEach [] X.env:=by rfl)(pL:starEach [.Call (.Name "set" p2) [a] [] rK] X.env=(false,eval (.Call (.Name "set" p2) [a] [] rK) X.env)::starEach [] X.env:=by rfl)(qy:(backTo rK (starEach [] X.env)).any (·.1)=false:=by rfl)(I_:(backTo pos (starEach [] X.env)).any (·.1)=false:=by rfl):
  VE X (.Call (.Name "len" p) [.Call (.Name "set" p2) [a] [] rK] [] pos) δ (.int (dd [] ss).length):=
 .of (wV yG hg m1 rH (dR (kZ (xx hc) Pw m2 (by rfl) (dR dg gi hs) (by decide) (by decide) hs qy) gi pL) (by decide) (by decide) pL I_) λB0 B σ H0 H Q f q=>h B0 B σ H0 H _ f λv H1 dU g r=>by
  cases r with
  |tup hq rs=>
   have e:=rs.strs;subst e;have:=uU ss [];exact⟨_,ss,rfl,g.sub.oq hq,hl,λl hl'=>⟨l,_,rfl,bB,by simp at this;omega,q _ H1 _ (g.trans (.loose g.sub hl')) (.int _)⟩⟩
def xA:List Bool->Bool:=λl=>l.any id
theorem Ja(hc:X.calm=true):jh X (.builtin "any") (λxs H Q=>∃p bs,xs=[.ref p]/\kO X.K H p (bs.map V.bl)/\Q (.bl (xA bs)) H):=by
 intro pins s σ H xs us Q I r h;obtain⟨p,bs,rfl,hq,q⟩:=h;obtain⟨u,rfl,rx⟩:=vals1 r;cases rx;obtain⟨its,rv,pl,hz⟩:=I.list hq;have hl:=rv.length;simp only[ao]at hl;refine call_any_walkS (lN pl.isList ?_)
 have Ao:p≠s.heap.objs.size:=aX (aY pl.isList.choose_spec.1);have WG:∀(i:Nat)v,its.toArray[i]?=some v->v=.bool (bs.getD i false):=λi v hv=>by
  have HF:its[i]?=some v:=by simpa using hv
  have e:=rv.getD i;have e2:its.getD i iq=v:=by rw[ax,HF];rfl
  have hi:i<bs.length:=by have:=(aM.mp HF).1;omega
  have e3:(bs.map V.bl).getD i .non=.bl (bs.getD i false):=by
   rw[ax,aJ,ax,au hi];rfl
  rw[e2,e3]at e;exact e
 refine⟨_,_,_,_,_,_,_,λi=>bs.getD i false,rfl,(Walks.list (by simp[I.ok.hd hc]) _ p Ao its.toArray).toS,⟨⟨_,bp _ rfl,rfl,rfl⟩,pl.isList.push _⟩,?_,λs' hm=>?_⟩
 ·intro i v Q' E' s' hv q'
  rw[WG i v hv];exact eW q'
 ·have ea:(aW its.toArray.size).any (λi=>bs.getD i false)=xA bs:=by
   rw[bu,<-hl];unfold xA;rw[gC,lL,lL]
   constructor
   ·rintro⟨i,hi,h⟩
    have hi:=cF.mp hi;rw[ax,au hi]at h;exact⟨_,dG hi,h⟩
   ·rintro⟨x,hx,h⟩
    obtain⟨i,hi⟩:=qY.mp hx;refine⟨i,cF.mpr (aM.mp hi).1,?_⟩
    rw[ax,hi];exact h
  rw[ea];obtain⟨h',g',d',yt,KJ⟩:=s';have eg:g'=s.gens:=hm.gens;have ed:d'=s.drawn:=hm.drawn;have eo:KJ=s.os:=hm.os;subst eg;subst ed;subst eo;refine⟨.bl _,H,I.kept (t':=yt) λb o e=>hm.heap b o ?_ (aE _ e),rfl,q⟩
  have:=aY e;simp only[bh];exact aX this
theorem Tb{K:ai}{bs:List Bool}:mN K (λxs H Q=>∃p bs,xs=[.ref p]/\kO K H p (bs.map V.bl)/\Q (.bl (xA bs)) H) [.list (bs.map .bool)] (.bool (xA bs)):=λvs H0 H Q s r q=>by
 obtain⟨v,rfl,r1⟩:=r.one;cases r1 with
 |lst hq rs=>
  have e:=rs.WH;subst e;exact⟨_,bs,rfl,s.seq hq,q _ _ _ (.refl s) (.bl _)⟩
theorem uX:fillsNumberSlot (.type "tuple") "mul"=pure false:=
 PySem.fillsNumberSlot_seq (id:="tuple.__mul__") (r:=some (.builtin "tuple.__rmul__")) qm.lookup (by decide +kernel) F.slot_tuple_rmul.lookup (by decide +kernel)
theorem Ax:seqRepeat? (.type "tuple")=pure (some (.builtin "tuple.__mul__")):=by
 unfold seqRepeat?;rw[PySem.seqSlot_of (T:="tuple") (name:="__mul__") (id:="tuple.__mul__") qm.lookup (by decide +kernel),PySem.seqSlot_of (T:="tuple") (name:="__rmul__") (id:="tuple.__rmul__") F.slot_tuple_rmul.lookup (by decide +kernel)]
 rfl
theorem xB(i:Int)(t:Tok)(l:aK)(items:Array av)(n:Nat)(dd:Option aK)(sl:Array (Option av)):
  Meets (pX.«int.__rmul__» ⟨[.int i t,.ref l],[]⟩) (λ_ R s=>s.heap.get? l=some { cls:=.type "tuple",dict:=dd,data:=.seq items n,slots:=sl }/\R (.ok (.ret av.notImplemented)) s):=
 .of_wp λprog w A R s h=>by obtain⟨hp,g,d,tk,os⟩:=s;obtain⟨hl,h⟩:=h;wp_walk;exact⟨_,rfl,h⟩
theorem yK(l:aK)(items:Array av)(n:Nat)(dd:Option aK)(sl:Array (Option av))(t:Tok):
  Meets (pX.«tuple.__mul__» ⟨[.ref l,.int 1 t],[]⟩) (λ_ R s=>s.heap.get? l=some { cls:=.type "tuple",dict:=dd,data:=.seq items n,slots:=sl }/\R (.ok (.ret (.ref l))) s):=
 .of_wp λprog w A R s h=>by
  obtain⟨hp,g,d,tk,os⟩:=s;obtain⟨hl,h⟩:=h;have f1:=EE;have f2:=yr;have c1:(items.isEmpty||(1:Int)==1)=true:=by simp
  wp_walk using fP hl
  exact⟨_,rfl,h⟩
theorem xC(l:aK)(its:List av)(n:Nat)(dd:Option aK)(sl:Array (Option av))(k:Int)(t:Tok)(hk:2<=k)(ZH:k<2^63)(Ao:its≠[])(hsz:its.length*k.toNat<=sizeLine):
  Meets (pX.«tuple.__mul__» ⟨[.ref l,.int k t],[]⟩) (λ_ R s=>s.heap.get? l=some { cls:=.type "tuple",dict:=dd,data:=.seq its.toArray n,slots:=sl }/\R (.ok (.ret (.ref s.heap.objs.size))) { s with heap:=s.heap.push { cls:=tq "tuple",data:=Data.seq (a_ k.toNat its).flatten.toArray } }):=
 .of_wp λprog w A R s h=>by
  obtain⟨hp,g,d,tk,os⟩:=s;obtain⟨hl,h⟩:=h;have f1:=EE;have f2:=yr;have Tc:its.toArray.isEmpty=false:=by cases its with|nil=>exact absurd rfl Ao|cons _ _=>rfl
  have zca:its.toArray.size*k.toNat<=sizeLine:=by rw[bu];exact hsz
  have Td:List.foldl (λx1 x2=>x1++x2) #[] (a_ k.toNat its.toArray)=(a_ k.toNat its).flatten.toArray:=by
   have:=foldl_rep its k.toNat [];rw[mB]at this;exact this
  generalize hI:its.toArray=items at *
  have U1:¬(decide (k < -2^63)||decide (k>=2^63))=true:=by simp;omega
  have hc1:¬(items.isEmpty||k==1)=true:=by rw[Tc];simp;omega
  have UO:¬(decide (k<=0)||items.isEmpty)=true:=by rw[Tc];simp;omega
  have hmul:(items.size:Int)*k=((items.size*k.toNat:Nat):Int):=by rw[Int.natCast_mul,Int.toNat_of_nonneg (by omega)]
  have hsl:(sizeLine:Int)<=(2^63-1)/8:=by decide
  have hc3:¬((items.size:Int)*k>(2^63-1)/8):=by rw[hmul];omega
  have hc4:¬tH ((items.size:Int)*k)=true:=by unfold tH;rw[hmul];simp only[gt_iff_lt,decide_eq_true_eq];omega
  wp_walk using fP hl
  refine kR (decide_eq_false U1) ?_
  wp_walk using fP hl
  refine kR (decide_eq_false hc1) ?_
  wp_walk using fP hl
  refine kR (decide_eq_false UO) ?_
  wp_walk using fP hl
  refine kR (decide_eq_false hc3) ?_
  wp_walk using fP hl
  refine kR (decide_eq_false hc4) ?_
  wp_walk using fP hl
  rw[Td];refine kR (decide_eq_false ?_) ?_
  ·rw[bu,len_rep]
   have:items.size=its.length:=by rw[<-hI,bu]
   rw[Nat.mul_comm];omega
  wp_walk
  exact⟨_,rfl,h⟩
def Te(K:ai):R2:=λx y H Q=>∃a k xs,x=.ref a/\y=.int k/\og K H a xs/\1<=k/\k<2^63/\xs≠[]/\xs.length*k.toNat<=sizeLine/\(k=1->Q (.ref a) H)/\(k≠1->∀p,H p=none->Q (.ref p) (upd H p (.tup (a_ k.toNat xs).flatten)))
theorem LK:qw X (binaryOp .Mult) (Te X.K):=by
 intro pins s σ H x y v u Q I rx ry h;obtain⟨a,k,xs,rfl,rfl,ha,h1,h2,hx,hz,q1,q2⟩:=h;cases rx;obtain⟨t,rfl⟩:=ry;obtain⟨its,r1,p1,_⟩:=I.tuple ha;obtain⟨⟨cls,dd,data,sl⟩,ho,hc,n,hd⟩:=id p1;simp only at hc hd;subst hc hd;refine wpAny_binaryOp_repeat_ref (T:="tuple") (U:="int") (by decide) ⟨_,ho,rfl⟩ (λs'=>typeIs_int s' k t) uX F.fills_int_mul F.slot_int_rmul Ax F.slot_int_index.lookup
  (kU F.slot_int_rmul (typeIs_int s k t) F.entry_int_rmul (F.args_int_rmul_2 _ _) (xB k t a its.toArray n dd sl) ⟨ho,rfl,⟨_,ho,rfl⟩,?_⟩)
 by_cases hk:k=1
 ·subst hk
  exact kU qm ⟨_,ho,rfl⟩ F.entry_tuple_mul (F.args_tuple_mul_2 _ _) (yK a its.toArray n dd sl t) ⟨ho,.ref a,H,I,rfl,q1 rfl⟩
 ·refine kU qm ⟨_,ho,rfl⟩ F.entry_tuple_mul (F.args_tuple_mul_2 _ _) (xC a its n dd sl k t (by omega) h2 (λz=>hx (r1.wt.mp z)) (by rw[<-r1.length];exact hz)) ⟨ho,?_⟩
  refine⟨.ref s.heap.objs.size,_,I.laid (t':=s.toks) (o:=.tup (a_ k.toNat xs).flatten) (λb ob q=>aE _ q) (aD _) ?_,rfl,q2 hk _ (I.hok.fresh (aD _))⟩
  exact⟨by rw[len_rep,Nat.mul_comm];exact hz,_,r1.rep k.toNat,oQ _ _⟩
theorem LN{n:Int}(h1:VE X a δ (.tuple ds))(h2:VE X b δ (.int n))(hn:1<=n)(QJ:n<=1000)(hz:ds.length<=100)(Ao:ds≠[]):VE X (.BinOp a .Mult b pos) δ (.tuple (a_ n.toNat ds).flatten):=by
 refine .of (ER LK dg dg) λB0 B σ H0 H Q f q=>h1 B0 B σ H0 H _ f λv H1 dU g1 r1=>h2 B0 B σ H1 dU _ (f.grow g1) λu H2 iS g2 r2=>?_
 cases r2;cases r1 with
 |tup hq rs=>
  rename_i ad xs
  have gg:=g1.trans g2;have hl:=rs.length;have h63:(1000:Int)<2^63:=by decide
  have Nr:=rs.mono g2.gx;have go:∀m,cO X.K H2 (a_ m xs).flatten (a_ m ds).flatten:=by
   intro m
   induction m with
   |zero=>exact .nil
   |succ m ih=>rw[dO,ft,dO,ft];exact Nr.append ih
  refine⟨_,n,_,rfl,rfl,g2.sub.oq (g2.gx.oq hq),hn,by omega,λz=>?_,?_,λe=>?_,λ_ p hp=>?_⟩
  ·rw[z]at hl
   exact Ao (lY hl.symm)
  ·rw[dI,hl]
   have:n.toNat<=1000:=by omega
   have:=g7 hz this;omega
  ·refine q _ H2 iS gg ?_
   have e2:(a_ n.toNat ds).flatten=ds:=by rw[e];simp
   rw[e2];exact .tup (g2.gx.oq hq) Nr
  ·exact q _ _ _ (gg.trans (.laid g2.sub hp)) (.tup (og.of bB) ((go _).mono (eA.laid g2.sub hp).gx))
end
def rL(as:List aK)(H H0:Hp):Hp:=λq=>if q∈as then H q else H0 q
theorem wA{as:List aK}{H H0:Hp}{q:aK}(h:q∈as):rL as H H0 q=H q:=if_pos h
theorem ua{as:List aK}{H H0:Hp}{q:aK}(h:q∉as):rL as H H0 q=H0 q:=if_neg h
abbrev OR:=Hp->Hp->List aK->Prop
def ub(R:OR):Prop:=∀H0 H Ha Hb as,R H0 H as->dJ H0 Ha->(∀a∈as,Hb a=H a)->R Ha Hb as
structure OF(K:ai)(B0 B:Hp)(R:OR)(H0 H:Hp)(σ:St)(δ:List Slot):Prop where
 fr:hV K B0 B H0 H σ δ
 no:noOwn δ=true
 ex:∃as:List aK,(∀a∈as,H0 a=none/\B a=none/\H a≠none)/\R H0 H as
section
variable{K:ai}{B0 B H0 H ef H' C0 C Ha Hb:Hp}{σ σ':St}{δ δ':List Slot}{R R':OR}
theorem dJ.eq{H H':Hp}(s:dJ H H'){a:aK}(h:H a≠none):H' a=H a:=by
 cases e:H a with
 |none=>exact absurd e h
 |some o=>exact s a o e
theorem OF.go(m:ub R)(G:OF K B0 B R H0 H σ δ)(f':hV K H0 H Ha Hb σ' δ')(hn:noOwn δ'=true):OF K B0 B R Ha Hb σ' δ':=by
 obtain⟨as,h1,h2⟩:=G.ex;refine⟨f'.re hn (G.fr.ent.trans f'.ent),hn,as,λa ha=>?_,m _ _ _ _ _ h2 f'.ent.gx λa ha=>f'.ent.big.eq (h1 a ha).2.2⟩
 obtain⟨z1,z2,z3⟩:=h1 a ha;cases e:H a with
 |none=>exact absurd e z3
 |some o=>exact⟨f'.ent.still z1 e,z2,f'.ent.big.ne z3⟩
theorem OF.from(G:OF K B0 B R H0 H σ δ)(g:eA C0 B H0 H):OF K C0 B R H0 H σ δ:=⟨G.fr.re G.no g,G.no,G.ex⟩
theorem OF.own(G:OF K B0 B R H0 H σ δ):hV K H0 H H0 H σ δ:=G.fr.re G.no (.refl G.fr.sub)
theorem OF.forget(m:ub R)(G:OF K B0 B R H0 H σ δ)(hf:Km δ δ')(hn:noOwn δ'=true):OF K B0 B R H0 H σ δ':=G.go m (G.own.forget hf.len hf.at) hn
theorem qL{as:List aK}(sb:dJ H0 H):dJ H0 (rL as H H0):=λb u e=>by
 by_cases hb:b∈as
 ·rw[wA hb];exact sb b u e
 ·rw[ua hb];exact e
theorem Ay{as:List aK}(sb:dJ H0 H):dJ (rL as H H0) H:=λb u e=>by
 by_cases hb:b∈as
 ·rw[wA hb]at e;exact e
 ·rw[ua hb]at e;exact sb b u e
theorem OF.look{d:aj}{p:aK}(G:OF K B0 B R H0 H σ δ){i:Nat}(hi:δ[i]?=some (.ref p))(hR:∀Ha Hb as,dJ Ha Hb->R Ha Hb as->Rep K (rL as Hb Ha) (.ref p) d):∃C0,hV K C0 H C0 H σ (δ.set i (.val d)):=by
 obtain⟨as,h1,h2⟩:=G.ex;have sm:=qL (as:=as) G.fr.sub;have hs:σ[i]?=some (some (.ref p)):=G.fr.slot i _ hi;have f0:hV K (rL as H H0) H (rL as H H0) H σ δ:=by
  refine⟨.refl (Ay G.fr.sub),G.fr.len,λi sl e=>?_,G.fr.apart⟩
  have q:=G.fr.slot i sl e;cases sl with
  |un=>trivial
  |ref _=>exact q
  |val d=>obtain⟨v,g1,g2⟩:=q;exact⟨v,g1,g2.mono sm⟩
  |own ds=>exact absurd e (lE G.no i ds)
 have f1:=f0.sC (i:=i) (v:=.ref p) (sl:=.val d) ⟨_,rfl,hR H0 H as G.fr.sub h2⟩ rfl;have e:σ.set i (some (.ref p))=σ:=by
  apply il;intro j;by_cases h:j=i
  ·subst h;rw[bq (aM.mp hs).1,hs]
  ·rw[a9 (bY h)]
 rw[e]at f1;exact⟨_,f1⟩
theorem OF.rep{d:aj}{p:aK}(G:OF K B0 B R H0 H σ δ)(hR:∀Ha Hb as,dJ Ha Hb->R Ha Hb as->Rep K (rL as Hb Ha) (.ref p) d):∃Ha,eA B0 B Ha H/\Rep K Ha (.ref p) d:=by
 obtain⟨as,h1,h2⟩:=G.ex;refine⟨rL as H H0,⟨G.fr.ent.big,G.fr.ent.gx.trans (qL G.fr.sub),Ay G.fr.sub,λb e=>?_⟩,hR H0 H as G.fr.sub h2⟩
 by_cases hb:b∈as
 ·exact .inr (h1 b hb).2.1
 ·rw[ua hb]at e;exact G.fr.ent.new b e
end
section
variable{X:Cx}{B0 B H0 H ef H' Ha Hb:Hp}{σ σ':St}{D:Ends}{st:gZ}{rest body orelse:List gZ}{δ δ':List Slot}{a p:aK}{e c tg iter:bR}{d dp:aj}{ds:List aj}{pos px xk:Pos}{x y:Str}{R:OR}
theorem kB(m:ub R)(G:OF X.K B0 B R H0 H σ δ)(h:VS X st δ (.nx δ'))(hn:noOwn δ'=true)(q:∀σ' ef H',OF X.K B0 B R ef H' σ' δ'->D.nx σ' H'):cS X st D σ H:=
 h H0 H σ H0 H D G.own λσ' Ha Hb sm f'=>q σ' Ha Hb (G.go m f' hn)
theorem P6(m:ub R)(G:OF X.K B0 B R H0 H σ δ)(i j:Nat)(hi:δ[i]?=some (.ref p))(hR:∀Ha Hb as,dJ Ha Hb->R Ha Hb as->Rep X.K (rL as Hb Ha) (.ref p) dp)(h:VE X e (δ.set i (.val dp)) d)(hs:Iq d=true)(hn:noOwn (δ.set j (.val d))=true)(q:∀σ' ef H',OF X.K B0 B R ef H' σ' (δ.set j (.val d))->D.nx σ' H')(hN:X.N.Nodup)
  (hj:X.N[j]?=some y:=by rfl)(hx:Loc X.env.scope y:=by first|exact bj rfl|exact cP rfl)(BZ:swapsWith e (some (.Name y px)) pos.line X.env=pure false:=by rfl)(hf:X.fn y=true\/X.env.scope.names.lookup y=some .local:=by first|exact .inl rfl|exact .inr rfl):
  cS X (.Assign [.Name y px] e pos) D σ H:=λpins s I=>by
 refine wL (i:=j) hN hj hx dg BZ hf pins s σ H D I ?_
 obtain⟨C0,f1⟩:=G.look hi hR;refine h C0 H σ C0 H _ f1 λv C1 H1 g1 r=>?_
 have G1:OF X.K B0 B R H0 H1 σ δ:=G.go m (G.own.grow (.far G.fr.sub g1.big)) G.no;exact q _ H0 H1 (G1.go m (G1.own.sC (v:=v) (sl:=.val d) ⟨_,rfl,r.S0 hs⟩ rfl) hn)
theorem Tf{tgt:DT}(Rs:Nat->OR)(m:∀k,ub (Rs k))(G:OF X.K B0 B (Rs 0) H0 H σ δ)(hp:zK (model X.prog X.w) X.A X.env X.xe)(hc:X.calm=true)(hi:VI X tg iter δ ds)(hg:PG X tg (Kk X.K tgt))
  (step:∀k d,ds[k]?=some d->∃δ',yF tgt d δ=some δ'/\noOwn δ'=true/\∀(D:Ends)C0 σ' ef H',OF X.K C0 B (Rs k) ef H' σ' δ'->(∀σ2 Ha Hb,OF X.K C0 B (Rs (k+1)) Ha Hb σ2 δ->D.nx σ2 Hb)->DP X body D σ' H')
  (q:∀σ2 Ha Hb,OF X.K B0 B (Rs ds.length) Ha Hb σ2 δ->D.nx σ2 Hb)
  (hs:∀x,foldedSetIterable iter X.env x=pure x:=by intro _;rfl):cS X (.For tg iter body [] pos) D σ H:=λpins s I=>by
 obtain⟨wi,pi,qi⟩:=hi;refine zZ hp hc pi hg ou hs pins s σ H D I ?_
 refine qi H0 H σ H0 H _ G.own λJ H1 dU g it=>?_
 have G1:=G.go (m 0) (G.own.grow g) G.no;refine⟨λi mm σ' H'=>i<=ds.length/\mm=ds.length-i/\∃Ha,OF X.K H1 B (Rs i) Ha H' σ' δ,⟨ds.length,bx _,rfl,H1,G1.from ⟨G1.fr.ent.big,dJ.refl _,G1.fr.sub,λ_ z=>.inl z⟩⟩,?_⟩
 rintro i mm σ' H' ⟨hi,rfl,Ha,Ga⟩
 obtain⟨i1,i2,i3⟩:=it Ha H' Ga.fr.ent.gx Ga.fr.sub i;by_cases om:i<ds.length
 ·have hd:ds[i]?=some ds[i]:=by simp[om]
  obtain⟨δ',e1,e2,e3⟩:=step i _ hd;refine .inr ⟨i1 om,λσ'' xi=>∃Hb,OF X.K H1 B (Rs (i+1)) Hb xi σ'' δ,λσ'' xi ⟨Hb,z⟩=>⟨ds.length-(i+1),by omega,om,rfl,Hb,z⟩,λv H2 y=>?_⟩
  obtain⟨Hb,g2,rx⟩:=i3 v H2 _ hd y;refine qG (Ga.own.grow g2) rx e1 λσ3 f3=>?_
  exact e3 _ H1 σ3 Hb H2 (Ga.go (m i) f3 e2) λσ2 Hc Hd z=>⟨Hc,z⟩
 ·have e:i=ds.length:=by omega
  subst e;refine .inl ⟨i2 (aD _),q σ' Ha H' (Ga.from ⟨Ga.fr.ent.big,G1.fr.ent.gx.trans Ga.fr.ent.gx,Ga.fr.sub,λb z=>?_⟩)⟩
  rcases Ga.fr.ent.new b z with z|z
  ·exact G1.fr.ent.new b z
  ·exact .inr z
theorem Tg(G:OF X.K B0 B R H0 H σ δ)(i:Nat)(hi:δ[i]?=some (.ref p))(hR:∀Ha Hb as,dJ Ha Hb->R Ha Hb as->Rep X.K (rL as Hb Ha) (.ref p) d)(q:∀v ef H',eA B0 B ef H'->Rep X.K ef v d->D.rt v H')
  (hN:X.N[i]?=some x:=by rfl)(hv:EH X.env.scope x:=by first|exact bj rfl|exact cP (bj rfl)|exact cP (cP rfl))(hd:(x==("__debug__":Str))=false:=by decide)(rJ:(x==("__classdict__":Str))=false:=by decide):
  cS X (.Return (some (.Name x px)) pos) D σ H:=λpins s I=>zY (lU hN hv hd rJ) pins s σ H D I (by
 obtain⟨Ha,g,r⟩:=G.rep hR;exact⟨_,G.fr.slot i _ hi,q _ Ha H g r⟩)
def Jb(K:ai)(S:Type)(PR:aK->S->OR)(ok:S->aj->S->Prop):Sp:=λvs H Q _=>∃(H0:Hp)(p:aK)(v:V)(as:List aK)(s s':S)(d:aj),vs=[.ref p,v]/\dJ H0 H/\Rep K H0 v d/\(∀a∈as,H0 a=none/\H a≠none)/\PR p s H0 H as/\ok s d s'/\
 ∀(ef H':Hp)(as':List aK),dJ H0 ef->dJ ef H'->(∀a,ef a≠none->H0 a≠none\/H a=none)->(∀a∈as',ef a=none/\H' a≠none/\(a∈as\/H a=none))->(∀b o,H b=some o->b∉as->H' b=some o)->PR p s' ef H' as'->Q .non H'
theorem Ti{S:Type}{PR:aK->S->OR}{ok:S->aj->S->Prop}{k:Nat}{f:Str}{ps:List Str}{p0 p1 pc:Pos}{s s':S}(C:bE X.prog X.w X.K X.mg X.base k f ps (Jb X.K S PR ok))(hr:fc k X.A)(G:OF X.K B0 B (PR p s) H0 H σ δ)(m:ub (PR p s))(i:Nat)(hi:δ[i]?=some (.ref p))(h:VE X e δ d)(hok:ok s d s')
  (q:∀ef H',OF X.K B0 B (PR p s') ef H' σ δ->D.nx σ H')
  (hN:X.N[i]?=some x:=by rfl)(hv:EH X.env.scope x:=by first|exact bj rfl|exact cP (bj rfl)|exact cP (cP rfl))(hd:(x==("__debug__":Str))=false:=by decide)(rJ:(x==("__classdict__":Str))=false:=by decide)
  (hg:Gl X f:=by rfl)(qx:(f==("__debug__":Str))=false:=by decide)(he:starEach [.Name x p0,e] X.env=(false,eval (.Name x p0) X.env)::starEach [e] X.env:=by rfl)(Wp:starEach [e] X.env=(false,eval e X.env)::starEach [] X.env:=by rfl)(qy:(backTo pc (starEach [e] X.env)).any (·.1)=false:=by rfl)
  (BZ:swapsWith (.Call (.Name f p1) [.Name x p0,e] [] pc) none pos.line X.env=pure false:=by rfl):
  cS X (.Expr (.Call (.Name f p1) [.Name x p0,e] [] pc) pos) D σ H:=λpins s0 I=>by
 obtain⟨fa,fd,F,hm,hk,hb⟩:=C;refine tK (z_ F hr hg hm hk hb .nil E2 (dR (lU hN hv hd rJ) (dR dg gi Wp) he) qx he qy) BZ pins s0 σ H D I ?_
 refine⟨.ref p,G.fr.slot i _ hi,?_⟩
 refine h H0 H σ H0 H _ G.own λv H1 dU g r=>?_
 have G1:=G.go m (G.own.grow g) G.no;obtain⟨as,h1,h2⟩:=G1.ex;refine⟨H1,p,v,as,s,s',d,rfl,G1.fr.sub,r,λa ha=>⟨(h1 a ha).1,(h1 a ha).2.2⟩,h2,hok,λef H' as' a1 a2 a3 a4 a5 a6=>?_⟩
 have hB:∀b,B b≠none->b∉as:=λb hb z=>hb (h1 b z).2.1
 refine q ef H' ⟨⟨⟨λb u e=>a5 b u (G1.fr.ent.big b u e) (hB b (by rw[e];simp)),G1.fr.ent.gx.trans a1,a2,λb z=>?_⟩,G1.fr.len,λj sl e=>?_,G1.fr.apart⟩,G.no,as',λa ha=>?_,a6⟩
 ·rcases a3 b z with z|z
  ·exact G1.fr.ent.new b z
  ·exact .inr (G1.fr.ent.big.free z)
 ·have qq:=G1.fr.slot j sl e
  cases sl with
  |un=>trivial
  |ref _=>exact qq
  |val d=>obtain⟨v,g1,g2⟩:=qq;exact⟨v,g1,g2.mono a1⟩
  |own ds=>exact absurd e (lE G.no j ds)
 ·obtain⟨z1,z2,z3⟩:=a4 a ha
  refine⟨z1,?_,z2⟩
  rcases z3 with z3|z3
  ·exact(h1 a z3).2.1
  ·exact G1.fr.ent.big.free z3
end
section
variable{X:Cx}{pins:List (aK×Obj)}{σ:St}{H:Hp}{s:aF}{a:aK}{kvs:List (Key×V)}{k:Key}{d:V}{u r:av}{A:cU}{E:av->aF->Prop}
theorem Jc{Q:av->aF->Prop}(I:Inv X pins σ H s)(e:H a=some (.dK kvs))(ry:RelV (kV k) u)(rd:RelV d r)(hl:kvs.length<sizeLine)(h1:∀v w' s',jd kvs k=some v->Inv X pins σ H s'->RelV v w'->Q w' s')
  (h2:∀s',jd kvs k=none->Inv X pins σ (upd H a (.dK (putK kvs k d))) s'->Q r s'):wpAny (model X.prog X.w) A (call (.builtin "dict.setdefault") [.ref a,u,r]) Q E s:=by
 obtain⟨z,hd,vs,rel,dd⟩:=za I.hok e;have rv:=rel.val k;refine call_meetsIn vT dd.typeIs PySem.F.entry_dict_setdefault (PySem.F.args_dict_setdefault_3 _ _ _) (kt_meets_setdefault (eK X.prog X.w) a (qz ry) hd r) ⟨vs,dd,by rw[<-rel.length];exact z,λv hv=>?_,λhn h' BU hs=>?_⟩
 ·rw[hv]at rv
  cases ev:jd kvs k with
  |none=>rw[ev]at rv;exact rv.elim
  |some w=>rw[ev]at rv;exact h1 w v _ ev (I.tok _) rv
 ·have PN:(putK kvs k d).length<=sizeLine:=by have:=lC kvs k d;omega
  have he:∃q,h'.get? a=some q:=let⟨q,_,_,hq,_⟩:=BU;⟨q,hq⟩;rw[hn]at rv;refine h2 _ ?_ (wu I (by rw[e];exact fN) hs he (w_ PN hd (rel.put k rd) BU))
  cases ev:jd kvs k with
  |none=>rfl
  |some w=>rw[ev]at rv;exact rv.elim
end
def Tj(td ty tx:TE):TE:=λσ H Q=>td σ H λx H1=>∃a,x=.ref a/\Wb H1 a/\ty σ H1 λy H2=>tx σ H2 λz H3=>∃kvs k,H3 a=some (.dK kvs)/\y=kV k/\kvs.length<sizeLine/\
 (∀v,jd kvs k=some v->Q v H3)/\(jd kvs k=none->Q z (upd H3 a (.dK (putK kvs k z))))
section
variable{X:Cx}{o e f:bR}{apos oX:Pos}{td ty tx:TE}
theorem LQ(ho:PE X o td)(he:PE X e ty)(hf:PE X f tx)(m:M2 X o "setdefault" apos e f oX):PE X (.Call (.Attribute o "setdefault" apos) [e,f] [] oX) (Tj td ty tx):=by
 intro pins s σ H Q I h;refine wpAny_Call_method m.base m.few m.line yS vT PySem.F.type_dict_setdefault (gD (ho pins s σ H _ I h) λu s1 ⟨x,H1,I1,rx,a,ex,d,q1⟩=>?_)
 subst ex;obtain rfl:u=c0 a:=rx;obtain⟨t1,t2,_⟩:=HY I1 d;refine⟨t1,t2,?_⟩
 rw[m.trees];refine pP rfl (rG (j' (gD (he pins s1 σ H1 _ I1 q1) λiv s2 ⟨y,H2,I2,ry,q2⟩=>
  j' (gD (hf pins s2 σ H2 _ I2 q2) λfv s3 ⟨z,H3,I3,rz,kvs,k,ea,ey,hl,q3,q4⟩=>uI ?_))))
 subst ey;exact Jc I3 ea ry rz hl (λv w' s' ev I4 oU=>⟨v,H3,I4,oU,q3 v ev⟩) λs' ev I4=>⟨z,_,I4,rz,q4 ev⟩
end
section
variable{X:Cx}{B0 B H0 H:Hp}{σ:St}{D:Ends}{st:gZ}{rest body orelse:List gZ}{δ δ':List Slot}{a p C dx:aK}{e c ek ev:bR}{d:aj}{pos px po ps pa pc:Pos}{x y fl:Str}{fs:List (Str×V)}{k:Nat}
theorem P7(f:hV X.K B0 B H0 H σ δ)(h:VS X st δ (.nx δ'))(q:∀σ' Ha Hb,dJ H0 Ha->hV X.K B0 B Ha Hb σ' δ'->D.nx σ' Hb):cS X st D σ H:=h B0 B σ H0 H D f q
theorem xD(f:hV X.K B0 B H0 H σ δ)(h:VT X c δ true)(q:∀Ha Hb,eA H0 H Ha Hb->DP X body D σ Hb):cS X (.If c body orelse pos) D σ H:=λpins s I=>
 EL o3 ou oh pins s σ H D I (h B0 B σ H0 H _ f λH1 dU g=>Sl (q H1 dU g))
theorem mR(f:hV X.K B0 B H0 H σ δ)(h:VT X c δ false)(q:∀Ha Hb,eA H0 H Ha Hb->DP X orelse D σ Hb):cS X (.If c body orelse pos) D σ H:=λpins s I=>
 EL o3 oh ou pins s σ H D I (h B0 B σ H0 H _ f λH1 dU g=>Sj (q H1 dU g))
theorem P8(i:Nat){fi:aK}{fd:bS}{ZI:List Str}{sp:Sp}{j:Nat}{p0 pk:Pos}(M:Mk X.K C fi)(F:eU X.prog X.w X.K X.mg X.base ky j fi fd ZI sp)(hr:fc (j+1) X.A)(hm:X.mg x=some (.ref C))(hb:Binds X.K fd ZI [])
  (q:∀p dx E,H p=none->H dx=none->dx≠p->sp [.ref p] (upd (upd H dx (.own p)) p (.ins C dx [])) (λv H2=>v=.non/\D.nx (σ.set i (some (.ref p))) H2) E)
  (hN:X.N.Nodup)(hi:X.N[i]?=some y:=by rfl)(hx:Loc X.env.scope y:=by first|exact bj rfl|exact cP rfl)(hs:swapsWith (.Call (.Name x p0) [] [] pk) (some (.Name y px)) pos.line X.env=pure false:=by rfl)(hf:X.fn y=true\/X.env.scope.names.lookup y=some .local:=by first|exact .inl rfl|exact .inr rfl)
  (hg:Gl X x:=by rfl)(qx:(x==("__debug__":Str))=false:=by decide):cS X (.Assign [.Name y px] (.Call (.Name x p0) [] [] pk) pos) D σ H:=λpins s I=>by
 refine wL (i:=i) hN hi hx (HK M F hr hg hm hb .nil E2 qx) hs hf pins s σ H D I ?_
 exact λp dx h1 h2 h3=>q p dx _ h1 h2 h3
theorem Nu(f:hV X.K B0 B H0 H σ δ)(hr:fc k X.A)(i:Nat){kvs:List (Key×V)}(hi:δ[i]?=some (.ref p))(ins:H p=some (.ins C dx fs))(cl:BL X.K C)(na:jK X.K C fl)(lk:fs.lookup fl=some (.ref a))(hd:H a=some (.dK kvs))(hk:VE X ek δ (.str y))(hv:VE X ev δ d)(hl:kvs.length<sizeLine)
  (q:∀v Ha Hb,eA H0 H Ha Hb->Rep X.K Ha v d->D.nx σ (upd Hb a (.dK (putK kvs (bF y) v))))
  (hN:X.N[i]?=some x:=by rfl)(Az:EH X.env.scope x:=by first|exact bj rfl|exact cP (bj rfl)|exact cP (cP rfl))(qx:(x==("__debug__":Str))=false:=by decide)(rJ:(x==("__classdict__":Str))=false:=by decide)
  (hb:attributeBase (.Name x px) fl X.env (eval (.Name x px) X.env)=eval (.Name x px) X.env:=by rfl)(hs:swapsWith ev (some (.Subscript (.Attribute (.Name x px) fl po) ek ps)) pos.line X.env=pure false:=by rfl):
  cS X (.Assign [.Subscript (.Attribute (.Name x px) fl po) ek ps] ev pos) D σ H:=λpins s I=>by
 refine Ah (Lr hr) (wQ (lU hN Az qx rJ) hb) dg dg hs pins s σ H D I ?_
 refine hv B0 B σ H0 H _ f λv H1 dU g1 r1=>?_
 refine⟨.ref p,f.slot i _ hi,p,C,dx,fs,.ref a,rfl,g1.big _ _ ins,cl,na,lk,?_⟩
 refine hk B0 B σ H1 dU _ (f.grow g1) λu H2 iS g2 r2=>?_
 cases r2;exact⟨a,_,rfl,Ag.k (k:=bF y) (g2.big _ _ (g1.big _ _ hd)) hl,q v H2 iS (g1.trans g2) (r1.mono g2.gx)⟩
theorem P9(f:hV X.K B0 B H0 H σ δ)(hr:fc k X.A)(i:Nat){kvs:List (List Key×V)}{e1 e2:bR}{z1 z2:Str}{x1}{pt:Pos}(hi:δ[i]?=some (.ref p))(ins:H p=some (.ins C dx fs))(cl:BL X.K C)(na:jK X.K C fl)(lk:fs.lookup fl=some (.ref a))(hd:H a=some (.dT kvs))(QN:VE X e1 δ (.str z1))(ZH:VE X e2 δ (.str z2))(hv:VE X ev δ d)(hl:kvs.length<sizeLine)
  (q:∀v t Ha Hb,eA H0 H Ha Hb->Hb t=none->Rep X.K Ha v d->D.nx σ (upd (upd Hb t (.tup [.str z1,.str z2])) a (.dT (putK kvs (uV (z1,z2)) v))))
  (hN:X.N[i]?=some x:=by rfl)(Az:EH X.env.scope x:=by first|exact bj rfl|exact cP (bj rfl)|exact cP (cP rfl))(qx:(x==("__debug__":Str))=false:=by decide)(rJ:(x==("__classdict__":Str))=false:=by decide)
  (hb:attributeBase (.Name x px) fl X.env (eval (.Name x px) X.env)=eval (.Name x px) X.env:=by rfl)(hs:swapsWith ev (some (.Subscript (.Attribute (.Name x px) fl po) (.Tuple [e1,e2] x1 pt) ps)) pos.line X.env=pure false:=by rfl)
  (Nh:starEach [e1,e2] X.env=(false,eval e1 X.env)::starEach [e2] X.env:=by rfl)(pL:starEach [e2] X.env=(false,eval e2 X.env)::starEach [] X.env:=by rfl):
  cS X (.Assign [.Subscript (.Attribute (.Name x px) fl po) (.Tuple [e1,e2] x1 pt) ps] ev pos) D σ H:=λpins s I=>by
 refine Ah (Lr hr) (wQ (lU hN Az qx rJ) hb) (DI (dR dg (dR dg gi pL) Nh)) dg hs pins s σ H D I ?_
 refine hv B0 B σ H0 H _ f λv H1 dU g1 r1=>?_
 refine⟨.ref p,f.slot i _ hi,p,C,dx,fs,.ref a,rfl,g1.big _ _ ins,cl,na,lk,?_⟩
 refine QN B0 B σ H1 dU _ (f.grow g1) λu H2 iS g2 r2=>?_
 cases r2;refine ZH B0 B σ H2 iS _ ((f.grow g1).grow g2) λu H3 wy g3 r3=>?_
 cases r3;have gg:=(g1.trans g2).trans g3;refine⟨by show 2<=sizeLine;rw[dI];decide,λt ht=>?_⟩
 have Nv:(upd wy t (.tup [.str z1,.str z2])) a=some (.dT kvs):=by rw[aR (bT (gg.big _ _ hd) ht)];exact gg.big _ _ hd
 exact⟨a,_,rfl,Ag.t (k:=uV (z1,z2)) Nv bB hl,q v t H3 wy gg ht ((r1.mono g2.gx).mono g3.gx)⟩
theorem Ca(f:hV X.K B0 B H0 H σ δ)(i:Nat){xs:List V}(hi:δ[i]?=some (.ref p))(ins:H p=some (.ins C dx fs))(cl:BL X.K C)(na:jK X.K C fl)(lk:fs.lookup fl=some (.ref a))(hd:H a=some (.lst xs))(hv:VE X e δ d)(hl:xs.length<sizeLine)
  (q:∀v Ha Hb,eA H0 H Ha Hb->Rep X.K Ha v d->D.nx σ (upd Hb a (.lst (xs ++ [v]))))
  (hN:X.N[i]?=some x:=by rfl)(Az:EH X.env.scope x:=by first|exact bj rfl|exact cP (bj rfl)|exact cP (cP rfl))(qx:(x==("__debug__":Str))=false:=by decide)(rJ:(x==("__classdict__":Str))=false:=by decide)
  (hb:attributeBase (.Name x px) fl X.env (eval (.Name x px) X.env)=eval (.Name x px) X.env:=by rfl)(mM:attributeBase (.Attribute (.Name x px) fl po) "append" X.env (eval (.Attribute (.Name x px) fl po) X.env)=eval (.Attribute (.Name x px) fl po) X.env:=by rfl)
  (hs:starEach [e] X.env=(false,eval e X.env)::starEach [] X.env:=by rfl)
  (sv:((backTo pc (starEach [e] X.env)).all (λx=>!x.1)&&(backToKw pc (keywordEach [] X.env)).all (λx=>x.1.isSome)&&decide (([e]:List bR).length+([]:List iK).length+(if([]:List iK).isEmpty then 0 else 1)<30))=true:=by rfl)
  (hline:(pa.endLine==pc.line)=true:=by rfl)(jZ:(backTo pc (starEach [] X.env)).any (·.1)=false:=by rfl)(BZ:swapsWith (.Call (.Attribute (.Attribute (.Name x px) fl po) "append" pa) [e] [] pc) none pos.line X.env=pure false:=by rfl):
  cS X (.Expr (.Call (.Attribute (.Attribute (.Name x px) fl po) "append" pa) [e] [] pc) pos) D σ H:=λpins s I=>by
 refine tK (wY iD nI nJ rh (wQ (lU hN Az qx rJ) hb) (dR dg gi hs) mM sv hline hs jZ) BZ pins s σ H D I ?_
 refine⟨.ref p,f.slot i _ hi,p,C,dx,fs,.ref a,rfl,ins,cl,na,lk,.inl ⟨rfl,_,kO.of hd⟩,?_⟩
 refine hv B0 B σ H0 H _ f λv H1 dU g1 r1=>?_
 exact⟨a,xs,v,rfl,rfl,g1.big _ _ hd,hl,q v H1 dU g1 r1⟩
theorem Jd(f:hV X.K B0 B H0 H σ δ)(i:Nat){kvs:List (Key×V)}{pl QX QY:Pos}(hi:δ[i]?=some (.ref p))(ins:H p=some (.ins C dx fs))(cl:BL X.K C)(na:jK X.K C fl)(lk:fs.lookup fl=some (.ref a))(hd:H a=some (.dK kvs))(hk:VE X ek δ (.str y))(hv:VE X e δ d)(hl:kvs.length<sizeLine)(Ho:noOwn δ=true)(W5:H0 a=none)
  (hc:∀v,jd kvs (bF y)=some v->∃c xs,v=.ref c/\H c=some (.lst xs)/\xs.length<sizeLine)
  (q1:∀c xs v t Ha Hb,jd kvs (bF y)=some (.ref c)->H c=some (.lst xs)->H t=none->eA H0 H Ha Hb->Ha t=none->Rep X.K Ha v d->D.nx σ (upd Hb c (.lst (xs ++ [v]))))
  (q2:∀v c Ha Hb,jd kvs (bF y)=none->H c=none->dJ H0 Ha->dJ Ha Hb->(∀b,Ha b≠none->H0 b≠none\/H b=none)->(∀b o,H b=some o->b≠a->Hb b=some o)->Hb a=some (.dK (putK kvs (bF y) (.ref c)))->Hb c=some (.lst [])->Ha c=none->Ha a=none->Rep X.K Ha v d->D.nx σ (upd Hb c (.lst [v])))
  (hN:X.N[i]?=some x:=by rfl)(Az:EH X.env.scope x:=by first|exact bj rfl|exact cP (bj rfl)|exact cP (cP rfl))(qx:(x==("__debug__":Str))=false:=by decide)(rJ:(x==("__classdict__":Str))=false:=by decide)
  (hb:attributeBase (.Name x px) fl X.env (eval (.Name x px) X.env)=eval (.Name x px) X.env:=by rfl)(m:M2 X (.Attribute (.Name x px) fl po) "setdefault" QX ek (.List [] pl) QY:=by exact⟨rfl,rfl,rfl,rfl⟩)
  (mM:attributeBase (.Call (.Attribute (.Attribute (.Name x px) fl po) "setdefault" QX) [ek,.List [] pl] [] QY) "append" X.env (eval (.Call (.Attribute (.Attribute (.Name x px) fl po) "setdefault" QX) [ek,.List [] pl] [] QY) X.env)=eval (.Call (.Attribute (.Attribute (.Name x px) fl po) "setdefault" QX) [ek,.List [] pl] [] QY) X.env:=by rfl)
  (hs:starEach [e] X.env=(false,eval e X.env)::starEach [] X.env:=by rfl)
  (sv:((backTo pc (starEach [e] X.env)).all (λx=>!x.1)&&(backToKw pc (keywordEach [] X.env)).all (λx=>x.1.isSome)&&decide (([e]:List bR).length+([]:List iK).length+(if([]:List iK).isEmpty then 0 else 1)<30))=true:=by rfl)
  (hline:(pa.endLine==pc.line)=true:=by rfl)(jZ:(backTo pc (starEach [] X.env)).any (·.1)=false:=by rfl)(BZ:swapsWith (.Call (.Attribute (.Call (.Attribute (.Attribute (.Name x px) fl po) "setdefault" QX) [ek,.List [] pl] [] QY) "append" pa) [e] [] pc) none pos.line X.env=pure false:=by rfl):
  cS X (.Expr (.Call (.Attribute (.Call (.Attribute (.Attribute (.Name x px) fl po) "setdefault" QX) [ek,.List [] pl] [] QY) "append" pa) [e] [] pc) pos) D σ H:=λpins s I=>by
 refine tK (wY iD nI nJ rh (LQ (wQ (lU hN Az qx rJ) hb) dg (z8 gi) m) (dR dg gi hs) mM sv hline hs jZ) BZ pins s σ H D I ?_
 refine⟨.ref p,f.slot i _ hi,p,C,dx,fs,.ref a,rfl,ins,cl,na,lk,a,rfl,.inl ⟨kvs,.inl hd⟩,?_⟩
 refine hk B0 B σ H0 H _ f λu H1 dU g1 r1=>?_
 cases r1;refine⟨by show 0<=sizeLine;exact bx _,λt ht=>?_⟩
 have W6:a≠t:=bT (g1.big _ _ hd) ht;have gl:eA H0 H H1 (upd dU t (.lst [])):=g1.trans (.loose g1.sub ht);refine⟨kvs,bF y,by rw[aR W6];exact g1.big _ _ hd,rfl,hl,λv Cb=>?_,λhn=>?_⟩
 ·obtain⟨c,xs,rfl,IL,Tn⟩:=hc v Cb
  have ZF:c≠t:=bT (g1.big _ _ IL) ht;refine⟨.inl ⟨rfl,_,kO.of (by rw[aR ZF];exact g1.big _ _ IL)⟩,?_⟩
  refine hv B0 B σ H1 _ _ (f.grow gl) λv H2 iS g2 r2=>?_
  have gg:=gl.trans g2;refine⟨c,xs,v,rfl,rfl,gg.big _ _ IL,Tn,q1 c xs v t H2 iS Cb IL (g1.big.free ht) gg ?_ r2⟩
  exact g2.still (g1.sub.free ht) bB
 ·have ZJ:t≠a:=bY W6
  have ga:(upd dU t (.lst [])) a=some (.dK kvs):=by rw[aR W6];exact g1.big _ _ hd
  refine⟨.inl ⟨rfl,_,kO.of (by rw[aR ZJ];exact bB)⟩,?_⟩
  have ZK:H1 a=none:=g1.still W5 hd;have ZL:H1 t=none:=g1.sub.free ht
  generalize hM:upd (upd dU t (.lst [])) a (.dK (putK kvs (bF y) (.ref t)))=Hm
  have m0:∀b o,H b=some o->b≠a->Hm b=some o:=λb o e hb=>by
   rw[<-hM,aR hb,aR (bT (g1.big _ _ e) ht)];exact g1.big _ _ e
  have m1:Hm a=some (.dK (putK kvs (bF y) (.ref t))):=by rw[<-hM];exact bB
  have m2:Hm t=some (.lst []):=by rw[<-hM,aR ZJ];exact bB
  have sm:dJ H1 Hm:=λb u e=>by
   rw[<-hM,aR (bT e ZK),aR (bT e ZL)];exact g1.sub b u e
  have fm:hV X.K H1 Hm H1 Hm σ δ:=by
   have f1:=f.grow g1;refine⟨.refl sm,f1.len,λj sl e=>?_,f1.apart⟩
   have qq:=f1.slot j sl e;cases sl with
   |un=>trivial
   |ref _=>exact qq
   |val d=>exact qq
   |own ds=>exact absurd e (lE Ho j ds)
  refine hv H1 Hm σ H1 Hm _ fm λv H2 iS g2 r2=>?_
  refine⟨t,[],v,rfl,rfl,g2.big _ _ m2,by show 0<sizeLine;rw[dI];decide,?_⟩
  refine q2 v t H2 iS hn (g1.big.free ht) (g1.gx.trans g2.gx) g2.sub (λb z=>?_) (λb o e hb=>g2.big _ _ (m0 b o e hb)) (g2.big _ _ m1) (g2.big _ _ m2) (g2.still ZL m2) (g2.still ZK m1) r2
  rcases g2.new b z with z|z
  ·exact g1.new b z
  ·refine .inr ?_
   cases e:H b with
   |none=>rfl
   |some o=>
    exfalso
    by_cases hb:b=a
    ·subst hb;rw[m1]at z;cases z
    ·rw[m0 b o e hb]at z;cases z
end
section
variable{X:Cx}{a b e:bR}{δ:List Slot}{d:aj}{ds:List aj}{pos:Pos}{k:Nat}
theorem LR{P:bo}{w:bX}{k:Key}{v:av}(h:(eK P w).is k v=true):RelV (kV k) v:=by
 rcases gL h with⟨i,t,rfl,rfl⟩|⟨x,t,rfl,rfl⟩
 ·exact⟨t,rfl⟩
 ·exact⟨t,rfl⟩
end
end L2
namespace PySem
theorem AA:typeLookup (.type "list") "keys"=pure none:=by rw[typeLookup_type,builtinLookup_eq_fast];kernel_rfl
theorem vZ:typeLookup (.type "list") "__getattr__"=pure none:=by rw[typeLookup_type,builtinLookup_eq_fast];kernel_rfl
section
variable{prog:bo}{w:bX}{A:cU}{E:av->aF->Prop}{h:cK}{g:Array oP}{d:Drawn}{t:Nat}{os:OsState}{a:aK}{items:Array av}{n:Nat}{sl}
theorem v3{tk:Tok}{Q:Fin->aF->Prop}(hx:h.get? a=some { cls:=.type "list",dict:=none,data:=.seq items n,slots:=sl })(hh:A.handled=none)
  (hq:∀h' yt e,qo h h' e (.ref a) "keys"->E (.ref e) ⟨h',g,d,yt,os⟩):
  wpAny (model prog w) A (pX.«object.__getattribute__» ⟨[.ref a,.str "keys" tk],[]⟩) Q E ⟨h,g,d,t,os⟩:=by
 have hT:(⟨h,g,d,t,os⟩:aF).TypeIs (.ref a) "list":=⟨_,hx,rfl⟩;have f4:=AA
 repeat (any_goals (first|assumption|with_reducible refine wpAny_raiseAttrError hh (λh' yt e k=>hq h' yt e k) (by decide +kernel)|wp_step))
theorem xE{tk:Tok}{R:sf->aF->Prop}(hx:h.get? a=some { cls:=.type "list",dict:=none,data:=.seq items n,slots:=sl })(hh:A.handled=none)
  (hq:∀h' yt e,qo h h' e (.ref a) "keys"->R (.error (.ref e)) ⟨h',g,d,yt,os⟩):
  codeAny (model prog w) A (.call (.builtin "list.__getattribute__") ⟨[.ref a,.str "keys" tk],[]⟩) R ⟨h,g,d,t,os⟩:=
 codeAny_call_builtin kr.plain F.entry_list_ga (kr.check _ _ _ _ _ _ _ _ (show(⟨h,g,d,t,os⟩:aF).TypeIs (.ref a) "list" from⟨_,hx,rfl⟩) (F.args_list_getattribute_2 _ _) (v3 hx hh hq))
theorem AF{tk:Tok}{Q:av->aF->Prop}(hx:h.get? a=some { cls:=.type "list",dict:=none,data:=.seq items n,slots:=sl })(hh:A.handled=none)
  (hq:∀h' yt e,qo h h' e (.ref a) "keys"->E (.ref e) ⟨h',g,d,yt,os⟩):
  wpAny (model prog w) A (getAttrBy (.ref a) (.str "keys" tk) false) Q E ⟨h,g,d,t,os⟩:=by
 have hT:(⟨h,g,d,t,os⟩:aF).TypeIs (.ref a) "list":=⟨_,hx,rfl⟩;have f2:=kr.lookup;have f3:=kr.bind (.ref a);have f4:=vZ;have f5:=sub_AttributeError
 repeat (any_goals (first|assumption|wp_step))
 refine xE hx hh (λh' yt e k=>?_)
 have hTe:(⟨h',g,d,yt,os⟩:aF).TypeIs (.ref e) "AttributeError":=by
  obtain⟨_,_,he⟩:=k.there;exact⟨_,he,rfl⟩
 repeat (any_goals (first|assumption|wp_step))
 exact hq _ _ _ k
theorem xF{Q:Option av->aF->Prop}(hx:h.get? a=some { cls:=.type "list",dict:=none,data:=.seq items n,slots:=sl })(hh:A.handled=none)
  (hq:∀h' yt e,qo h h' e (.ref a) "keys"->Q none ⟨h',g,d,yt,os⟩):
  wpAny (model prog w) A (getAttr? (.ref a) "keys") Q E ⟨h,g,d,t,os⟩:=by
 unfold getAttr? getAttrBy?;refine ay (wpAny_mkText (ay (wpAny_attempt (AF hx hh (λh' yt e k=>?_)))))
 have hTe:(⟨h',g,d,yt,os⟩:aF).TypeIs (.ref e) "AttributeError":=by
  obtain⟨_,_,he⟩:=k.there;exact⟨_,he,rfl⟩
 have f5:=sub_AttributeError;have hQ:=hq h' yt e k
 repeat (any_goals (first|assumption|wp_step))
end
end PySem
namespace PySem.F
theorem kC:entryFor table "dict.update.loop"=some pX.«dict.update.loop»:=entryFor_of_tree (by kernel_rfl)
theorem gG:plainId "dict.update.loop"=true:=by decide +kernel
end PySem.F
namespace L2
open PySem PySem.Spec PyProof.Rows
section
variable{prog:bo}{w:bX}{A:cU}{R:sf->aF->Prop}{I:aK}{fp wr:List aK}{G:Array oP->Array oP->Prop}{n:Nat}{P:Nat->av->Prop}{St:Nat->aF->Prop}
theorem Gp(W:WalksS prog w A.in1 I fp wr G n P St)(S:aK)(K7:S∉fp)(T:Nat->cK->Prop)(keep:∀i h h',T i h->(∀b o,b∉wr->h.get? b=some o->h'.get? b=some o)->T i h')
  (add:∀i v (s:aF),i<n->P i v->T i s.heap->∃a x y,v=.ref a/\s.heap.IsTuple a #[x,y]/\∀(Q:Unit->aF->Prop)(E:av->aF->Prop),(∀h' tk,s.toks<=tk->ie S s.heap h'->T (i+1) h'->Q () { s with heap:=h',toks:=tk })->wpAny (model prog w) A.in1 (dictSet S x y) Q E s):
  ∀(k i:Nat)(j:Int)(u:Tok)(s:aF),n-i=k->i<=n->St i s->T i s.heap->(∀s',Moved (S::wr) G s s'->T n s'.heap->R (.ok (.ret .none)) s')->
   codeAny (model prog w) A (.builtin "dict.update.loop" ⟨[.ref S,.ref I,.int j u,.none],[]⟩) R s:=by
 have hSw:S∉wr:=λh=>K7 (W.sub _ h)
 have BX:∀b∈wr,b∈S::wr:=λb hb=>aT _ hb
 intro k
 induction k with
 |zero=>
  intro i j u s hk hi Hz hS hR;have Wc:i=n:=by omega
  subst Wc;refine iJ F.kC ?_
  rw[fW F.gG _];show wpAny _ A.in1 (pyNext (.ref I) >>= _) _ _ s;refine ay (W.done s _ _ Hz λs' hm=>?_)
  show wpAny _ A.in1 (pX.Dict.addKeywords S [] >>= _) _ _ s';refine ay (a8 ?_)
  exact a8 (hR s' (hm.mono BX) (keep _ _ _ hS λb o hb e=>hm.heap b o hb e))
 |succ k ih=>
  intro i j u s hk hi Hz hS hR;have om:i<n:=by omega
  refine iJ F.kC ?_
  rw[fW F.gG _];show wpAny _ A.in1 (pyNext (.ref I) >>= _) _ _ s;refine ay (W.item i s _ _ om Hz λv s' hP Pb hm=>?_)
  have K8:T i s'.heap:=keep _ _ _ hS λb o hb e=>hm.heap b o hb e
  obtain⟨a,x,y,rfl,⟨o,ho,hc,m,hd⟩,q⟩:=add i v s' om hP K8;refine ay (nh ?_)
  refine ay (wpAny_tryCatch ?_)
  unfold pX.Dict.pairItems;refine ay (yx (T:="tuple") ⟨_,ho,hc⟩ ?_)
  refine ay (h_ ho hd ?_)
  refine a8 ?_
  show wpAny _ A.in1 (holding [x,y] (dictSet S x y)) _ _ s';refine nh (q _ _ λh' tk QK Ib hT=>?_)
  refine a8 ⟨qf F.gG _,ih (i+1) _ _ _ (by omega) om (W.frame _ s' _ _ Pb QK λb hb o e=>?_) hT λKL Pg Ph=>?_⟩
  ·rw[Ib.2 b (λh:b=S=>K7 (by rw[<-h];exact hb))];exact e
  ·refine hR KL (Moved.trans W.gtrans ((hm.mono BX).then_heap QK λb o hb e=>?_) Pg) Ph
   rw[Ib.2 b (λh:b=S=>hb (by rw[h];exact aN))];exact e
end
section
variable{prog:bo}{w:bX}{A:cU}{E:av->aF->Prop}{s:aF}
theorem yL{l:aK}{items:Array av}{Q:av->aF->Prop}(hh:A.handled=none)(hx:PlainL s.heap l items)(T:Nat->cK->Prop)
  (t0:∀h',h'.get? s.heap.objs.size=some { cls:=.type "dict",data:=.dict #[] }->(∀b o,s.heap.get? b=some o->h'.get? b=some o)->T 0 h')
  (keep:∀i h h' c,s.heap.objs.size<c->T i h->(∀b o,b≠c->h.get? b=some o->h'.get? b=some o)->T i h')
  (add:∀i v (s':aF),i<items.size->items[i]?=some v->T i s'.heap->∃a x y,v=.ref a/\s'.heap.IsTuple a #[x,y]/\∀(Q:Unit->aF->Prop)(E:av->aF->Prop),(∀h' tk,s'.toks<=tk->ie s.heap.objs.size s'.heap h'->T (i+1) h'->Q () { s' with heap:=h',toks:=tk })->wpAny (model prog w) A.in1.in1 (dictSet s.heap.objs.size x y) Q E s')
  (h:∀(h':cK)(tk:Nat),T items.size h'->(∀b o,b<s.heap.objs.size->s.heap.get? b=some o->h'.get? b=some o)->Q (.ref s.heap.objs.size) { s with heap:=h',toks:=tk }):
  wpAny (model prog w) A (call (.type "dict") [.ref l]) Q E s:=by
 refine callType_codes (Q₁:=λobj s₁=>obj=.ref s.heap.objs.size/\s₁={ s with heap:=s.heap.push { cls:=.type "dict",data:=.dict #[] } }) F.kt_called_dict (F.kt_typeCall_dict_1 _) F.entry_dict_init (kt_code_dict_new _ ⟨rfl,rfl⟩) ?_
 rintro obj s₁ ⟨rfl,rfl⟩
 obtain⟨⟨WX,Nt,S',I0⟩,m,ho,hc,Je,hd⟩:=hx;simp only at hc Je hd;subst hc Je hd;have hS:(s.heap.push { cls:=.type "dict",data:=.dict #[] }).get? s.heap.objs.size=some { cls:=.type "dict",data:=.dict #[] }:=bp _ rfl;have hT:aF.TypeIs { s with heap:=s.heap.push { cls:=.type "dict",data:=.dict #[] } } (.ref s.heap.objs.size) "dict":=⟨_,hS,rfl⟩
 have zU:=aE (o:={ cls:=.type "dict",data:=.dict #[] }) ho;refine⟨hT,F.args_dict_init_2 _ _,?_⟩
 unfold pX.«dict.__init__»;refine ay ?_
 unfold pX.Dict.selfAndRest;refine ay (wpAny_notOrdered_dict hT ?_)
 show wpAny _ _ (pure (s.heap.objs.size,[c0 l])) _ _ _;refine a8 ?_
 show wpAny _ _ (vU "dict.__init__" s.heap.objs.size (.ref l) [] .none) _ _ _;unfold vU;refine ay (yx (T:="list") ⟨_,zU,rfl⟩ ?_)
 rw[if_pos (by decide)]
 refine ay (xF zU (by simp[hh]) λh1 tk1 e ne=>?_)
 simp only[Option.isNone_none,if_true];refine ay (r9 ?_)
 have Kn:h1.IsList l items:=⟨_,ne.keeps _ _ zU,rfl,m,rfl⟩;refine ay (lN (s:={ s with heap:=h1,toks:=tk1 }) Kn ?_)
 have QS:h1.get? s.heap.objs.size=some { cls:=.type "dict",data:=.dict #[] }:=ne.keeps _ _ hS;have U2:s.heap.objs.size<h1.objs.size:=aY QS;have Ta:l<s.heap.objs.size:=aY ho;have P4:l≠h1.objs.size:=aX (vQ Ta U2);have K7:s.heap.objs.size∉[h1.objs.size,l]:=by
  simp only[aI,bh,bG,or_false,not_or];exact⟨aX U2,fY Ta⟩
 refine a8 ⟨qf F.gG _,?_⟩
 refine Gp ((Walks.list (by simp[hh]) h1.objs.size l P4 items).toS) s.heap.objs.size K7 T (λi h h' t k=>keep i h h' h1.objs.size U2 t λb o hb e=>k b o (by rwa [bh]) e) (λi v s' hi hv t=>add i v s' hi hv t) (items.size-0) 0 _ _ _ (by omega) (bx _)
  ⟨⟨_,bp _ rfl,rfl,rfl⟩,(Kn.push _)⟩ ?hS0 ?hR
 case hS0=>
  exact t0 _ (aE _ QS) λb o e=>aE _ (ne.keeps _ _ (aE _ e))
 case hR=>
  intro s' hm K8;obtain⟨h',g',d',yt,KJ⟩:=s';have eg:g'=s.gens:=hm.gens;have ed:d'=s.drawn:=hm.drawn;have eo:KJ=s.os:=hm.os;subst eg;subst ed;subst eo;refine⟨rfl,h h' yt K8 λb o hb e=>?_⟩
  have WZ:b≠s.heap.objs.size:=aX hb;have W1:b≠h1.objs.size:=aX (vQ hb U2);exact hm.heap b o (by simp only[aI,bh,bG,or_false,not_or];exact⟨WZ,W1⟩) (aE _ (ne.keeps _ _ (aE _ e)))
end
section
variable{X:Cx}
end
section
variable{ε:Type}{X:Cx}{sc:lb}{own N:List Str}{cap:List Nat}{cl:List (Str×aK)}{tg elt iter:bR}{ifs:List bR}{δ:List Slot}{ds:List aj}{pos:Pos}{tgt:DT}{Er:Hp->V->ε->Prop}
end
section
variable{X:Cx}{a b c:bR}{δ:List Slot}{d:aj}{pos p:Pos}{k:Nat}{z1 z2:Str}
end
inductive Dn:aj->Prop
 |non:Dn .none
 |bl (b:Bool):Dn (.bool b)
 |int (i:Int):Dn (.int i)
 |str (x:Str):Dn (.str x)
 |lst {ds:List aj}:(∀d∈ds,Dn d)->Dn (.list ds)
 |tup {ds:List aj}:(∀d∈ds,Dn d)->Dn (.tuple ds)
def v5(H:Hp)(p:aK):Hp:=λq=>if q=p then none else H q
theorem kD{H:Hp}{p q:aK}(h:q≠p):v5 H p q=H q:=if_neg h
theorem LV{H:Hp}{p:aK}:v5 H p p=none:=if_pos rfl
section
variable{K:ai}{H:Hp}{p:aK}{kvs:List (Key×V)}
end
def sC(kv:List (Str×aj))(y:Str)(d:aj):List (Str×aj):=kv.map λq=>if q.1=y then(q.1,d)else q
section
variable{X:Cx}{B0 B H0 H:Hp}{σ:St}{D:Ends}{δ:List Slot}{ev:bR}{d:aj}{pos px ps pk:Pos}{x y:Str}{k:Nat}{jk}
theorem P_{st:List gZ}(h:uT X st δ (.rt d))(f:hV X.K B0 B H0 H σ δ)(ok:∀v ef H',eA B0 B ef H'->Rep X.K ef v d->D.rt v H'):DP X st D σ H:=h B0 B σ H0 H D f ok
end
end L2
namespace L2
open PySem
section
variable{M:Model}{A:cU}{E:av->aF->Prop}{s:aF}
end
section
variable{prog:bo}{w:bX}{A:cU}{E:av->aF->Prop}{R:sf->aF->Prop}{h:cK}{g:Array oP}{d:Drawn}{t:Nat}{os:OsState}
variable{nm q:Str}{C N:aK}{bs bm bmB:List av}{W7:Bool}{sn:List Str}{sub:List av}{ab:Bool}{col:Option Bool}{dd:Option aK}{k0 k1 k2 k3 k5:Option av}{B newId P':String}
end
end L2
namespace L2
open PySem PySem.Spec PyProof.Rows
section
variable{prog:bo}{w:bX}{A:cU}{E:av->aF->Prop}{R:sf->aF->Prop}{h:cK}{g:Array oP}{d:Drawn}{t:Nat}{os:OsState}
variable{nm q:Str}{C N e t0:aK}{bs bm bmB:List av}{W7:Bool}{sn:List Str}{sub:List av}{ab:Bool}{col:Option Bool}{dd dx:Option aK}{k0 k1 k2 k3 k5:Option av}{B newId P':String}{sl:Array (Option av)}
end
section
variable{prog:bo}{w:bX}{A:cU}{E:av->aF->Prop}{s:aF}{K:ai}{C e t0 dx:aK}{sl:Array (Option av)}{name:Str}{v:av}{mA:Str->Option av}
end
section
variable{X:Cx}{pins:List (aK×Obj)}{σ:St}{H:Hp}{s:aF}{C e dx:aK}{f:Str}{y:V}{u:av}{fs:List (Str×V)}{A:cU}{E:av->aF->Prop}
end
section
variable{X:Cx}{o value a1 a2:bR}{f x y:Str}{pos pos' p p2 ap p3 p4:Pos}{j4:Nat}{ta tv:TE}{C M dx:aK}{i:Nat}
end
section
variable{X:Cx}{CX:EX}{k:Nat}{f C:aK}{fd:bS}{ps:List Str}{sp:Sp}{E:XK}
end
section
variable{H:Hp}{ex:List aK}{e T b:aK}{o1 o2:HO}
end
section
variable{P:bo}{w:bX}{fs ex:List aK}{H0 H:Hp}{h0 h h':cK}{L e T:aK}{oe:Obj}{o1 o2:HO}
end
section
variable{P:bo}{w:bX}{K:ai}{mg:Str->Option av}{base:cK}{N:List Str}{qual:Str}{scope:lb}{f:aK}{cd:av}{A:cU}{outer:List Env}{s0:aF}{H0:Hp}{E:XK}
variable{pins:List (aK×Obj)}{σ:St}{H:Hp}{s:aF}
end
section
variable{X:Cx}{B0 B H0 H:Hp}{σ:St}{D:Ends}{δ:List Slot}{a1 a2 tg iter:bR}{p:Int}{wd x y:Str}{np oX pos:Pos}{k:Nat}{fI C:aK}{fd:bS}{body:List gZ}{ds:List aj}
end
section
variable{M:Model}{A:cU}{E:av->aF->Prop}{s:aF}
end
section
variable{X:Cx}{pins:List (aK×Obj)}{σ:St}{H:Hp}{s:aF}{C M e dx T:aK}{E:av->aF->Prop}
end
section
variable{X:Cx}{B0 B H0 H:Hp}{σ:St}{D:Ends}{δ:List Slot}{pins:List (aK×Obj)}{s:aF}
end
section
variable{X:Cx}{CX:EX}{k:Nat}{f:aK}{fd:bS}{ps:List Str}{sp:Sp}{E:XK}{Ex:av->aF->Prop}
end
section
variable{X:Cx}{B0 B H0 H:Hp}{σ:St}{D:Ends}{δ:List Slot}{C M fa:aK}{fd:bS}{ps:List Str}{ds:List aj}{R:List aj->Int->Str->Prop}{k jn jc:Nat}{p:Int}{wd y g xM n xc:Str}{a:bR}{as:List bR}{p1 p2 p3 p4 p5 p6 p7 p8 hp pos:Pos}
end
end L2
namespace L2
open PySem PySem.Spec PyProof.Rows PySem.W
section
variable{prog:bo}{w:bX}{A:cU}{E:av->aF->Prop}{s:aF}{K:ai}{x C:aK}{ox:Obj}{od:Option Obj}{name:Str}
end
end L2
namespace L2
open PySem PySem.Spec PyProof.Rows
section
variable{X:Cx}{pins:List (aK×Obj)}{σ:St}{H H':Hp}{s:aF}{e C:aK}{p:Int}{wd f x:Str}
end
section
variable{X:Cx}{δ:List Slot}{pos px:Pos}{a b e:bR}{x:Str}{d:aj}{ds:List aj}{k:Int}{j:Nat}
theorem Fj{K:ai}{d:aj}{b:Bool}(h:(match d with | .none=>false|_=>true)=b):yD K (λx y H Q=>y=.non/\Q (.bl (!decide (x=.non))) H) d .none (.bool b):=λv u H0 H Q s r1 r2 k=>by
 cases r2;subst h;refine⟨rfl,k _ _ _ (.refl s) ?_⟩
 cases r1<;>exact .bl _
end
def mS(kv:List (Str×aj))(y:Str)(d:aj):List (Str×aj):=if(kv.any λq=>decide (q.1=y))=true then sC kv y d else kv ++ [(y,d)]
def DR(K:ai)(a:aK)(kv:List (Str×aj)):OR:=λH0 H as=>as=[a]/\∃kvs:List (Key×V),H a=some (.dK kvs)/\kvs.map (·.1)=kv.map (λp=>(bF p.1:Key))/\cO K H0 (kvs.map (·.2)) (kv.map (·.2))
theorem DR.mono{K:ai}{a:aK}{kv:List (Str×aj)}:ub (DR K a kv):=λH0 H Ha Hb as ⟨e,kvs,h1,h2,h3⟩ sm hb=>⟨e,kvs,by rw[hb a (by rw[e];simp)];exact h1,h2,h3.mono sm⟩
theorem DR.rep{K:ai}{a:aK}{kv:List (Str×aj)}(Ha Hb:Hp)(as:List aK)(s:dJ Ha Hb)(h:DR K a kv Ha Hb as):Rep K (rL as Hb Ha) (.ref a) (eQ kv):=by
 obtain⟨e,kvs,h1,h2,h3⟩:=h;refine .dct (kvs:=kvs) (by rw[wA (by rw[e];simp)];exact h1) ?_ ?_
 ·have e2:=congrArg (rP sx) h2
  rw[aS,aS]at e2;rw[aS];exact e2.symm
 ·rw[aS]
  exact h3.mono (qL s)
theorem Fk{y:Str}:∀{kv:List (Str×aj)}{kvs:List (Key×V)},kvs.map (·.1)=kv.map (λp=>(bF p.1:Key))->(kvs.any λz=>decide (z.1=(bF y:Key)))=kv.any λq=>decide (q.1=y)
 | [],[],_=>rfl
 | [],_::_,e=>by simp at e
 |_::_,[],e=>by simp at e
 |q::kv,z::kvs,e=>by
  rw[aH,aH]at e
  injection e with e1 e2
  rw[lQ,lQ,Fk e2,e1]
  congr 1
  by_cases h:q.1=y
  ·rw[decide_eq_true h,decide_eq_true (by rw[h])]
  ·rw[decide_eq_false h,decide_eq_false λz=>h (p_ z)]
theorem Jf{K:ai}{H:Hp}{y:Str}{v:V}{d:aj}(r:Rep K H v d):∀{kv:List (Str×aj)}{kvs:List (Key×V)},kvs.map (·.1)=kv.map (λp=>(bF p.1:Key))->cO K H (kvs.map (·.2)) (kv.map (·.2))->
  (kvs.map λq=>if q.1=bF y then(q.1,v)else q).map (·.1)=(sC kv y d).map (λp=>(bF p.1:Key))/\cO K H ((kvs.map λq=>if q.1=bF y then(q.1,v)else q).map (·.2)) ((sC kv y d).map (·.2))
 | [],[],_,_=>⟨rfl,.nil⟩
 | [],_::_,e,_=>by simp at e
 |_::_,[],e,_=>by simp at e
 |q::kv,z::kvs,e,t=>by
  rw[aH,aH]at e t
  injection e with e1 e2
  cases t with
  |cons a t=>
   obtain⟨g1,g2⟩:=Jf r e2 t;unfold sC at g1 g2 ⊢;rw[aH,aH,aH,aH,aH,aH];by_cases h:q.1=y
   ·have hz:z.1=(bF y:Key):=by rw[e1,h]
    rw[if_pos h,if_pos hz,g1];exact⟨by rw[e1],.cons r g2⟩
   ·have hz:¬z.1=(bF y:Key):=λz'=>h (p_ (e1.symm.trans z'))
    rw[if_neg h,if_neg hz,g1];exact⟨by rw[e1],.cons a g2⟩
theorem LW{K:ai}{H:Hp}{y:Str}{v:V}{d:aj}(r:Rep K H v d){kv:List (Str×aj)}{kvs:List (Key×V)}(h1:kvs.map (·.1)=kv.map (λp=>(bF p.1:Key)))(h2:cO K H (kvs.map (·.2)) (kv.map (·.2))):
  (putK kvs (bF y) v).map (·.1)=(mS kv y d).map (λp=>(bF p.1:Key))/\cO K H ((putK kvs (bF y) v).map (·.2)) ((mS kv y d).map (·.2)):=by
 unfold putK mS;rw[Fk h1]
 split
 ·exact Jf r h1 h2
 ·rw[aU,aU,aU,aU,h1]
  exact⟨rfl,h2.append (.cons r .nil)⟩
section
variable{K:ai}{B0 B H0 H:Hp}{σ:St}{δ:List Slot}{R:OR}{d:aj}{p:aK}
theorem OF.done(G:OF K B0 B R H0 H σ δ){i:Nat}(hi:δ[i]?=some (.ref p))(hR:∀Ha Hb as,dJ Ha Hb->R Ha Hb as->Rep K (rL as Hb Ha) (.ref p) d):∃Ha,dJ H0 Ha/\hV K B0 B Ha H σ (δ.set i (.val d)):=by
 obtain⟨as,h1,h2⟩:=G.ex;have sm:=qL (as:=as) G.fr.sub;have hs:σ[i]?=some (some (.ref p)):=G.fr.slot i _ hi;have f0:hV K B0 B (rL as H H0) H σ δ:=by
  refine⟨⟨G.fr.ent.big,G.fr.ent.gx.trans sm,Ay G.fr.sub,λb e=>?_⟩,G.fr.len,λi sl e=>?_,G.fr.apart⟩
  ·by_cases hb:b∈as
   ·exact .inr (h1 b hb).2.1
   ·rw[ua hb]at e;exact G.fr.ent.new b e
  have q:=G.fr.slot i sl e;cases sl with
  |un=>trivial
  |ref _=>exact q
  |val d=>obtain⟨v,g1,g2⟩:=q;exact⟨v,g1,g2.mono sm⟩
  |own ds=>exact absurd e (lE G.no i ds)
 have f1:=f0.sC (i:=i) (v:=.ref p) (sl:=.val d) ⟨_,rfl,hR H0 H as G.fr.sub h2⟩ rfl;have e:σ.set i (some (.ref p))=σ:=by
  apply il;intro j;by_cases h:j=i
  ·subst h;rw[bq (aM.mp hs).1,hs]
  ·rw[a9 (bY h)]
 rw[e]at f1;exact⟨_,sm,f1⟩
end
section
variable{X:Cx}{B0 B H0 H:Hp}{σ:St}{D:Ends}{δ:List Slot}{a:aK}{ek ev:bR}{d:aj}{pos px pd ps:Pos}{x y:Str}{kv:List (Str×aj)}{k:Nat}
theorem Jg(f:hV X.K B0 B H0 H σ δ)(i:Nat)(hN:X.N.Nodup)(hn:∀p,noOwn (δ.set i (.ref p))=true)(q:∀p σ' H',OF X.K B0 B (DR X.K p []) H0 H' σ' (δ.set i (.ref p))->D.nx σ' H')
  (hi:X.N[i]?=some x:=by rfl)(hx:Loc X.env.scope x:=by first|exact bj rfl|exact cP rfl)(hs:swapsWith (.Dict [] [] pd) (some (.Name x px)) pos.line X.env=pure false:=by rfl)(hf:X.fn x=true\/X.env.scope.names.lookup x=some .local:=by first|exact .inl rfl|exact .inr rfl):
  cS X (.Assign [.Name x px] (.Dict [] [] pd) pos) D σ H:=λpins s I=>by
 refine wL (i:=i) hN hi hx qB hs hf pins s σ H D I λp hp=>?_
 refine q p _ _ ⟨(f.grow (.loose f.sub hp)).sC (v:=.ref p) (sl:=.ref p) rfl rfl,hn p,[p],λb hb=>?_,rfl,[],bB,rfl,.nil⟩
 rw[bh.mp hb];exact⟨f.sub.free hp,f.ent.big.free hp,by rw[bB];simp⟩
theorem AG(G:OF X.K B0 B (DR X.K a kv) H0 H σ δ)(hr:fc k X.A)(i:Nat)(hi:δ[i]?=some (.ref a))(hk:VE X ek δ (.str y))(hv:VE X ev δ d)(hl:kv.length<sizeLine)(q:∀ef H',OF X.K B0 B (DR X.K a (mS kv y d)) ef H' σ δ->D.nx σ H')
  (hN:X.N[i]?=some x:=by rfl)(Az:EH X.env.scope x:=by first|exact bj rfl|exact cP (bj rfl)|exact cP (cP rfl))(qx:(x==("__debug__":Str))=false:=by decide)(rJ:(x==("__classdict__":Str))=false:=by decide)
  (hs:swapsWith ev (some (.Subscript (.Name x px) ek ps)) pos.line X.env=pure false:=by rfl):
  cS X (.Assign [.Subscript (.Name x px) ek ps] ev pos) D σ H:=λpins s I=>by
 refine Ah (Lr hr) (lU hN Az qx rJ) dg dg hs pins s σ H D I ?_
 refine hv H0 H σ H0 H _ G.own λv H1 dU g1 r1=>?_
 have G1:=G.go DR.mono (G.own.grow g1) G.no;refine⟨.ref a,G1.fr.slot i _ hi,hk H1 dU σ H1 dU _ G1.own λu H2 iS g2 r2=>?_⟩
 cases r2;have G2:=G1.go DR.mono (G1.own.grow g2) G1.no;obtain⟨as,h1,e,kvs,ha,QN,Cb⟩:=G2.ex;subst e;obtain⟨p1,p2⟩:=LW (y:=y) (r1.mono g2.gx) QN Cb;obtain⟨z1,z2,z3⟩:=h1 a (by simp)
 have hlen:kvs.length=kv.length:=by have:=congrArg fD QN;simpa using this
 refine⟨a,_,rfl,Ag.k (k:=bF y) ha (by omega),q H2 _ ⟨G2.fr.touch z1 z2 (lE G2.no),G2.no,[a],λb hb=>?_,rfl,_,bB,p1,p2⟩⟩
 rw[bh.mp hb];exact⟨z1,z2,by rw[bB];simp⟩
end
def mU(lo:Int)(n:Nat):List aj:=(aW n).map λ(i:Nat)=>fj (lo+i)
section
variable{X:Cx}{a b:bR}{δ:List Slot}{pos rK p p2:Pos}
theorem vz:jh X (.type "range") (λxs H Q=>∃i j:Int,xs=[.int i,.int j]/\∀l,H l=none->Q (.ref l) (upd H l (.rng i j))):=by
 intro pins s σ H xs us Q I r h;obtain⟨i,j,rfl,q⟩:=h;obtain⟨u,u',rfl,⟨t,rfl⟩,⟨t',rfl⟩⟩:=vals2 r;exact call_range_2 ⟨.ref _,_,I.laid (λb o e=>aE _ e) (aD _) (show gw X.prog X.w _ _ _ (.rng i j) from⟨_,_,_,bp _ rfl⟩),rfl,q _ (I.hok.fresh (aD _))⟩
theorem xG(hc:X.calm=true):jh X (.type "list") (λxs H Q=>∃(p:aK)(lo:Int)(n:Nat),xs=[.ref p]/\H p=some (.rng lo (lo+n))/\0<=lo/\lo<=100000/\n<=1000/\∀l,H l=none->Q (.ref l) (upd H l (.lst ((aW n).map λ(i:Nat)=>.int (lo+i))))):=by
 intro pins s σ H xs us Q I r h;obtain⟨p,lo,n,rfl,hp,h0,h1,hn,q⟩:=h;obtain⟨u,rfl,rx⟩:=vals1 r;cases rx;obtain⟨t,u,v,ho⟩:=I.hok p _ hp;have h62:(200000:Int)<2^62:=by decide
 refine call_list_range (I.ok.hd hc) ho (small_one (by omega) (by omega) (by omega) (by omega)) (n:=n) (by rw[rangeSize_one];split<;>omega) (by omega) λh' tk acc c k e it=>?_
 have rel:∀(l:List av)(m:Nat),(∀(j:Nat)v,l[j]?=some v->∃t,v=.int (lo+(m+j:Nat)) t)->dS ((List.range' m l.length).map λ(i:Nat)=>V.int (lo+i)) l:=by
  intro l
  induction l with
  |nil=>intro m _;exact .nil
  |cons x l ih=>
   intro m hx;rw[bD,List.range'_succ,aH];obtain⟨t,e⟩:=hx 0 x rfl;refine .cons ⟨t,by simpa using e⟩ (ih (m+1) λj v hj=>?_)
   obtain⟨t,e⟩:=hx (j+1) v (by simpa using hj)
   exact⟨t,by rw[e];congr 2;omega⟩
 have hl:acc.toList.length=n:=by simpa using it.1
 have rv:=rel acc.toList 0 λj v hj=>by
  obtain⟨t,e⟩:=it.2 j v (by rw[<-qg];exact hj)
  exact⟨t,by rw[e,Int.mul_one,iu]⟩
 rw[hl,<-EF]at rv;exact⟨.ref _,_,I.laid k (aD _) (show gw X.prog X.w _ h' _ (.lst _) from⟨by rw[ao,cp,dI];omega,acc.toList,c,rv,by simpa using e⟩),rfl,q _ (I.hok.fresh (aD _))⟩
theorem rU{lo:Int}{n:Nat}(h1:VE X a δ (.int lo))(h2:VE X b δ (.int (lo+n)))(h0:0<=lo)(M7:lo<=100000)(hn:n<=1000)(hc:X.calm=true)(m1:X.mg "list"=none)(m2:X.mg "range"=none)(hg:Gl X "list":=by rfl)(Pw:Gl X "range":=by rfl)
  (hs:starEach [a,b] X.env=(false,eval a X.env)::starEach [b] X.env:=by rfl)(Ib:starEach [b] X.env=(false,eval b X.env)::starEach [] X.env:=by rfl)(pL:starEach [.Call (.Name "range" p2) [a,b] [] rK] X.env=(false,eval (.Call (.Name "range" p2) [a,b] [] rK) X.env)::starEach [] X.env:=by rfl)(qy:(backTo rK (starEach [b] X.env)).any (·.1)=false:=by rfl)(I_:(backTo pos (starEach [] X.env)).any (·.1)=false:=by rfl):
  VO X (.Call (.Name "list" p) [.Call (.Name "range" p2) [a,b] [] rK] [] pos) δ (mU lo n):=
 .of (kZ (xG hc) hg m1 (by rfl) (dR (kZ vz Pw m2 (by rfl) (dR dg (dR dg gi Ib) hs) (by decide) (by decide) hs qy) gi pL) (by decide) (by decide) pL I_) λB0 B σ H0 H Q f q=>h1 B0 B σ H0 H _ f λv Ha W8 ga ra=>by
  cases ra;refine h2 B0 B σ Ha W8 _ (f.grow ga) λv H1 dU gb rb=>?_
  cases rb;have g:=ga.trans gb;refine⟨lo,lo+n,rfl,λl hl=>⟨l,lo,n,rfl,bB,h0,M7,hn,λm hm=>?_⟩⟩
  have nl:dU m=none:=by
   by_cases e:m=l
   ·subst e;rw[bB]at hm;cases hm
   ·rw[aR e]at hm;exact hm
  have g2:=g.trans (eA.loose (o:=HO.rng lo (lo+n)) g.sub hl);refine q m _ H1 _ (g2.trans (.loose g2.sub hm)) (g.big.free nl) (g.sub.free nl) bB ?_
  have go:∀l:List Nat,cO X.K H1 (l.map λ(i:Nat)=>V.int (lo+i)) (l.map λ(i:Nat)=>fj (lo+i)):=by
   intro l
   induction l with
   |nil=>exact .nil
   |cons x l ih=>exact .cons (.int _) ih
  exact go _
end
end L2
namespace PySem
open Sem (wp)
section
variable{prog:bo}{w:bX}{A:cU}{E:av->aF->Prop}{s:aF}{r:aK}{a b c:Int}{t u v:Tok}{n:Nat}
theorem v7{R:sf->aF->Prop}{S:aK}{c₀:Nat}(hh:A.handled=none)(hr:IsRange s.heap r a b c t u v)(o6:kS a b c=true)(hn:hU a b c=n)(hlen:n<=2^24)(hS:s.heap.get? S=some { cls:=.type "list",data:=.seq #[] c₀ })
  (hR:∀h' tk D1 c',(∀b o,b≠S->s.heap.get? b=some o->h'.get? b=some o)->h'.get? S=some { cls:=.type "list",dict:=none,data:=.seq D1 c',slots:=#[] }->
   ItemsOf (λi v=>∃t,v=.int (a+i*c) t) D1 n->R (.ok (.ret (.ref S))) { s with heap:=h',toks:=tk }) :
  codeAny (model prog w) A (.builtin "list.__iadd__" ⟨[.ref S,.ref r],[]⟩) R s:=by
 refine iJ F.entry_list_iadd ?_
 rw[fW F.plain_list_iadd _];exact wpAny_extend_range hh hr o6 hn hlen S (.ref S) c₀ hS hR
theorem rM{Q:List av->aF->Prop}(hh:A.handled=none)(hr:IsRange s.heap r a b c t u v)(o6:kS a b c=true)(hn:hU a b c=n)(hlen:n<=2^24)
  (hQ:∀h' tk D1,(∀b o,s.heap.get? b=some o->h'.get? b=some o)->ItemsOf (λi v=>∃t,v=.int (a+i*c) t) D1 n->Q D1.toList { s with heap:=h',toks:=tk }):wpAny (model prog w) A (collect (.ref r)) Q E s:=by
 unfold collect;refine ay (wpAny_runValue (iJ F.entry_proto_collect ?_))
 rw[fW F.plain_proto_collect _];show wpAny _ A.in1 (newList [] >>= λl=>again (.builtin "list.__iadd__" ⟨[l,.ref r],[]⟩)) _ _ s
 refine ay (eB ?_)
 have hS₁:(s.heap.push { cls:=.type "list",data:=.seq ([]:List av).toArray }).get? s.heap.objs.size=some { cls:=.type "list",data:=.seq ([]:List av).toArray }:=bp _ rfl;refine a8 ⟨qf F.plain_list_iadd _,v7 (s:={ s with heap:=s.heap.push { cls:=.type "list",data:=.seq ([]:List av).toArray } }) hh (aE _ hr) o6 hn hlen hS₁ λh' tk D1 c' k e it=>?_⟩
 show wpAny _ A (load s.heap.objs.size >>= _) _ _ _;refine ay (wpAny_load e ?_)
 exact a8 (hQ h' tk D1 (λb o q=>k b o (λz=>by rw[z]at q;exact absurd (aY q) (jq _)) (aE _ q)) it)
end
theorem pT(r:aK)(a b c:Int)(t u v:Tok)(n:Nat)(o6:kS a b c=true)(hn:hU a b c=n)(hlen:n<=1000):
  Meets (pX.«tuple.__new__» ⟨[.type "tuple",.ref r],[]⟩)
   (λA R s=>A.handled=none/\IsRange s.heap r a b c t u v/\∀(h':cK)(tk:Nat)(acc:Array av),(∀b o,s.heap.get? b=some o->h'.get? b=some o)->ItemsOf (λi v=>∃t,v=.int (a+i*c) t) acc n->
    R (.ok (.ret (.ref h'.objs.size))) { s with heap:=h'.push { cls:=.type "tuple",data:=.seq acc },toks:=tk }):=
 .of_wp λprog w A R s h=>by
  obtain⟨hh,hr,h⟩:=h;have BX:=sub_tuple_self;have ZM:=init_tuple_lookup;have hmh:=madeHere_tuple;have hT:s.TypeIs (.ref r) "range":=⟨_,hr,rfl⟩;have hh1:A.in1.handled=none:=hh
  wp_walk using yx hT,rM hh1 hr o6 hn (b_ hlen (by decide))
  intro h' tk acc hk LX;show wpAny _ _ (fx acc.toList.toArray >>= λv=>ret v) _ _ _
  unfold fx;refine ay (eB ?_ (show acc.toList.toArray.size<=sizeLine by simp only[Array.toArray_toList];rw[LX.1,dI];omega))
  refine a8 ⟨_,rfl,?_⟩
  have e:acc.toList.toArray=acc:=by simp
  rw[e];exact h h' tk acc hk LX
section
variable{prog:bo}{w:bX}{A:cU}{E:av->aF->Prop}{s:aF}{r:aK}{a b c:Int}{t u v:Tok}{n:Nat}
theorem uY{Q:av->aF->Prop}(hh:A.handled=none)(hr:IsRange s.heap r a b c t u v)(o6:kS a b c=true)(hn:hU a b c=n)(hlen:n<=1000)
  (h:∀(h':cK)(tk:Nat)(acc:Array av),(∀b o,s.heap.get? b=some o->h'.get? b=some o)->ItemsOf (λi v=>∃t,v=.int (a+i*c) t) acc n->Q (.ref h'.objs.size) { s with heap:=h'.push { cls:=.type "tuple",data:=.seq acc },toks:=tk }):
  wpAny (model prog w) A (call (.type "tuple") [.ref r]) Q E s:=by
 refine callType_new F.called_tuple (by decide) (F.typeCall_tuple_1 _) (F.newCall_tuple_1 _) (λobj=>F.args_object_init_2 obj _) F.entry_tuple_new
  (pT r a b c t u v n o6 hn hlen) ⟨hh,hr,λh' tk acc hk LX=>⟨⟨_,bp _ rfl,rfl⟩,?_⟩⟩
 exact h h' tk acc hk LX
end
end PySem
namespace L2
open PySem PySem.Spec PyProof.Rows
section
variable{X:Cx}{a b:bR}{δ:List Slot}{pos rK p p2:Pos}
theorem v8(hc:X.calm=true):jh X (.type "tuple") (λxs H Q=>∃(p:aK)(lo:Int)(n:Nat),xs=[.ref p]/\H p=some (.rng lo (lo+n))/\0<=lo/\lo<=100000/\n<=1000/\∀l,H l=none->Q (.ref l) (upd H l (.tup ((aW n).map λ(i:Nat)=>.int (lo+i))))):=by
 intro pins s σ H xs us Q I r h;obtain⟨p,lo,n,rfl,hp,h0,h1,hn,q⟩:=h;obtain⟨u,rfl,rx⟩:=vals1 r;cases rx;obtain⟨t,u,v,ho⟩:=I.hok p _ hp;have h62:(200000:Int)<2^62:=by decide
 refine uY (I.ok.hd hc) ho (small_one (by omega) (by omega) (by omega) (by omega)) (n:=n) (by rw[rangeSize_one];split<;>omega) hn λh' tk acc kp it=>?_
 have rel:∀(l:List av)(m:Nat),(∀(j:Nat)v,l[j]?=some v->∃t,v=.int (lo+(m+j:Nat)) t)->dS ((List.range' m l.length).map λ(i:Nat)=>V.int (lo+i)) l:=by
  intro l
  induction l with
  |nil=>intro m _;exact .nil
  |cons x l ih=>
   intro m hx;rw[bD,List.range'_succ,aH];obtain⟨t,e⟩:=hx 0 x rfl;refine .cons ⟨t,by simpa using e⟩ (ih (m+1) λj v hj=>?_)
   obtain⟨t,e⟩:=hx (j+1) v (by simpa using hj)
   exact⟨t,by rw[e];congr 2;omega⟩
 have hl:acc.toList.length=n:=by simpa using it.1
 have rv:=rel acc.toList 0 λj v hj=>by
  obtain⟨t,e⟩:=it.2 j v (by rw[<-qg];exact hj)
  exact⟨t,by rw[e,Int.mul_one,iu]⟩
 rw[hl,<-EF]at rv;have I1:Inv X pins σ H { s with heap:=h',toks:=tk }:=I.kept (t':=tk) kp
 have ea:acc.toList.toArray=acc:=by simp
 have I2:Inv X pins σ (upd H h'.objs.size (.tup ((aW n).map λ(i:Nat)=>.int (lo+i)))) { s with heap:=h'.push { cls:=.type "tuple",data:=.seq acc },toks:=tk }:=by
  rw[<-ea];exact I1.laid (t':=tk) (λb o e=>aE _ e) (aD _) (show gw X.prog X.w _ _ _ (.tup _) from⟨by rw[ao,cp,dI];omega,acc.toList,rv,oQ _ _⟩)
 exact⟨.ref h'.objs.size,_,I2,rfl,q _ (I1.hok.fresh (aD _))⟩
theorem xH{lo:Int}{n:Nat}(h1:VE X a δ (.int lo))(h2:VE X b δ (.int (lo+n)))(h0:0<=lo)(M7:lo<=100000)(hn:n<=1000)(hc:X.calm=true)(m1:X.mg "tuple"=none)(m2:X.mg "range"=none)(hg:Gl X "tuple":=by rfl)(Pw:Gl X "range":=by rfl)
  (hs:starEach [a,b] X.env=(false,eval a X.env)::starEach [b] X.env:=by rfl)(Ib:starEach [b] X.env=(false,eval b X.env)::starEach [] X.env:=by rfl)(pL:starEach [.Call (.Name "range" p2) [a,b] [] rK] X.env=(false,eval (.Call (.Name "range" p2) [a,b] [] rK) X.env)::starEach [] X.env:=by rfl)(qy:(backTo rK (starEach [b] X.env)).any (·.1)=false:=by rfl)(I_:(backTo pos (starEach [] X.env)).any (·.1)=false:=by rfl):
  VE X (.Call (.Name "tuple" p) [.Call (.Name "range" p2) [a,b] [] rK] [] pos) δ (.tuple (mU lo n)):=
 .of (kZ (v8 hc) hg m1 (by rfl) (dR (kZ vz Pw m2 (by rfl) (dR dg (dR dg gi Ib) hs) (by decide) (by decide) hs qy) gi pL) (by decide) (by decide) pL I_) λB0 B σ H0 H Q f q=>h1 B0 B σ H0 H _ f λv Ha W8 ga ra=>by
  cases ra;refine h2 B0 B σ Ha W8 _ (f.grow ga) λv H1 dU gb rb=>?_
  cases rb;have g:=ga.trans gb;refine⟨lo,lo+n,rfl,λl hl=>⟨l,lo,n,rfl,bB,h0,M7,hn,λm hm=>?_⟩⟩
  have g2:=g.trans (eA.loose (o:=HO.rng lo (lo+n)) g.sub hl);refine q (.ref m) _ _ (g2.trans (.laid g2.sub hm)) (.tup (og.of bB) ?_)
  have go:∀l:List Nat,cO X.K (upd H1 m (.tup ((aW n).map λ(i:Nat)=>.int (lo+i)))) (l.map λ(i:Nat)=>V.int (lo+i)) (l.map λ(i:Nat)=>fj (lo+i)):=by
   intro l
   induction l with
   |nil=>exact .nil
   |cons x l ih=>exact .cons (.int _) ih
  exact go _
end
section
variable{X:Cx}{B0 B H0 H:Hp}{σ:St}{D:Ends}{body:List gZ}{tg iter:bR}{ds:List aj}{pos:Pos}
theorem D2{tgt:DT}(Rs:Nat->OR)(δs:Nat->List Slot)(m:∀k,ub (Rs k))(G:OF X.K B0 B (Rs 0) H0 H σ (δs 0))(hp:zK (model X.prog X.w) X.A X.env X.xe)(hc:X.calm=true)(hi:VI X tg iter (δs 0) ds)(hg:PG X tg (Kk X.K tgt))
  (step:∀k d,ds[k]?=some d->∃δ',yF tgt d (δs k)=some δ'/\noOwn δ'=true/\∀(D:Ends)C0 σ' ef H',OF X.K C0 B (Rs k) ef H' σ' δ'->(∀σ2 Ha Hb,OF X.K C0 B (Rs (k+1)) Ha Hb σ2 (δs (k+1))->D.nx σ2 Hb)->DP X body D σ' H')
  (q:∀σ2 Ha Hb,OF X.K B0 B (Rs ds.length) Ha Hb σ2 (δs ds.length)->D.nx σ2 Hb)
  (hs:∀x,foldedSetIterable iter X.env x=pure x:=by intro _;rfl):cS X (.For tg iter body [] pos) D σ H:=λpins s I=>by
 obtain⟨wi,pi,qi⟩:=hi;refine zZ hp hc pi hg ou hs pins s σ H D I ?_
 refine qi H0 H σ H0 H _ G.own λJ H1 dU g it=>?_
 have G1:=G.go (m 0) (G.own.grow g) G.no;refine⟨λi mm σ' H'=>i<=ds.length/\mm=ds.length-i/\∃Ha,OF X.K H1 B (Rs i) Ha H' σ' (δs i),⟨ds.length,bx _,rfl,H1,G1.from ⟨G1.fr.ent.big,dJ.refl _,G1.fr.sub,λ_ z=>.inl z⟩⟩,?_⟩
 rintro i mm σ' H' ⟨hi,rfl,Ha,Ga⟩
 obtain⟨i1,i2,i3⟩:=it Ha H' Ga.fr.ent.gx Ga.fr.sub i;by_cases om:i<ds.length
 ·have hd:ds[i]?=some ds[i]:=by simp[om]
  obtain⟨δ',e1,e2,e3⟩:=step i _ hd;refine .inr ⟨i1 om,λσ'' xi=>∃Hb,OF X.K H1 B (Rs (i+1)) Hb xi σ'' (δs (i+1)),λσ'' xi ⟨Hb,z⟩=>⟨ds.length-(i+1),by omega,om,rfl,Hb,z⟩,λv H2 y=>?_⟩
  obtain⟨Hb,g2,rx⟩:=i3 v H2 _ hd y;refine qG (Ga.own.grow g2) rx e1 λσ3 f3=>?_
  exact e3 _ H1 σ3 Hb H2 (Ga.go (m i) f3 e2) λσ2 Hc Hd z=>⟨Hc,z⟩
 ·have e:i=ds.length:=by omega
  subst e;refine .inl ⟨i2 (aD _),q σ' Ha H' (Ga.from ⟨Ga.fr.ent.big,G1.fr.ent.gx.trans Ga.fr.ent.gx,Ga.fr.sub,λb z=>?_⟩)⟩
  rcases Ga.fr.ent.new b z with z|z
  ·exact G1.fr.ent.new b z
  ·exact .inr z
end
def lj(kvs:List (Key×V))(l:List (Key×V)):List (Key×V):=l.foldl (λkvs q=>putK kvs q.1 q.2) kvs
theorem qM:∀(l kvs:List (Key×V)),(lj kvs l).length<=kvs.length+l.length
 | [],kvs=>aD _
 |q::l,kvs=>by
  have h1:=qM l (putK kvs q.1 q.2);have h2:=lC kvs q.1 q.2
  show(lj (putK kvs q.1 q.2) l).length<=kvs.length+(l.length+1)
  omega
theorem AH(kvs l:List (Key×V))(q:Key×V):lj kvs (l ++ [q])=putK (lj kvs l) q.1 q.2:=by
 unfold lj;rw[gv];rfl
theorem vA:∀(l kvs:List (Key×V)),((kvs++l).map (·.1)).Nodup->lj kvs l=kvs++l
 | [],kvs,_=>(eI _).symm
 |q::l,kvs,h=>by
  have hn:(kvs.any λz=>decide (z.1=q.1))=false:=by
   rw[List.any_eq_false];intro z hz e;have e:=of_decide_eq_true e;rw[aU,aH,cZ]at h;exact h.2.2 z.1 (aG.mpr ⟨z,hz,rfl⟩) q.1 aN e
  have hp:putK kvs q.1 q.2=kvs ++ [q]:=by unfold putK;rw[hn,if_neg cu]
  show lj (putK kvs q.1 q.2) l=_;rw[hp,vA l (kvs ++ [q]) (by rw[cV];exact h),cV]
  rfl
section
variable{X:Cx}
def Jh(K:ai):List V->Hp->VK->Prop:=λxs H Q=>∃(p:aK)(qs:List (aK×Key×V)),xs=[.ref p]/\kO K H p (qs.map λq=>.ref q.1)/\
 (∀q∈qs,og K H q.1 [kV q.2.1,q.2.2])/\∀l,H l=none->Q (.ref l) (upd H l (.dK (lj [] (qs.map (·.2)))))
theorem uZ(hc:X.calm=true):jh X (.type "dict") (Jh X.K):=by
 intro pins s σ H xs us Q I r h;obtain⟨p,qs,rfl,hp,hqs,q⟩:=h;obtain⟨u,rfl,rx⟩:=vals1 r;cases rx;obtain⟨its,rv,pl,hz⟩:=I.list hp;have W3:=rv.length;simp only[ao]at W3 hz;have hsz:its.toArray.size=qs.length:=by simp only[bu];omega
 refine yL (I.ok.hd hc) pl (λi h=>(∀b o,s.heap.get? b=some o->h.get? b=some o)/\∃vs,KV (lj [] ((qs.take i).map (·.2))) vs/\h.DictOf (eK X.prog X.w) s.heap.objs.size vs)
  (λh' e k=>⟨k,[],.nil,?_⟩) (λi h h' c hc ⟨k1,vs,kv,dd⟩ k=>?_) (λi v s' hi hv ⟨k1,vs,kv,dd⟩=>?_) (λh' tk ⟨k1,vs,kv,dd⟩ _=>?_)
 ·exact⟨_,#[],0,e,⟨rfl,rfl,rfl⟩,rfl,(by intro _ h;exact nomatch h),.nil,kP⟩
 ·obtain⟨o,es,ep,ho,rest⟩:=dd
  exact⟨λb o e=>k b o (aX (vQ (aY e) hc)) (k1 b o e),vs,kv,o,es,ep,k _ _ (aX hc) ho,rest⟩
 ·rw[hsz]at hi
  have HF:its[i]?=some v:=by simpa using hv
  have U3:qs[i]?=some qs[i]:=au hi
  generalize qs[i]=q0 at U3
  obtain⟨u0,ZN,ru0⟩:=rv.get (i:=i) (x:=.ref q0.1) (by rw[aJ,U3];rfl)
  rw[HF]at ZN;cases ZN;cases ru0;obtain⟨it2,Nq,W9,_⟩:=I.tuple (hqs q0 (bA U3));obtain⟨u1,u2,rfl,r1,r2⟩:∃u1 u2,it2=[u1,u2]/\RelV (kV q0.2.1) u1/\RelV q0.2.2 u2:=by
   cases Nq with|cons a t=>cases t with|cons b t2=>cases t2;exact⟨_,_,rfl,a,b⟩
  obtain⟨o2,QL,Tp⟩:=W9;refine⟨q0.1,u1,u2,rfl,⟨o2,k1 _ _ QL,Tp⟩,λQ' E' q'=>?_⟩
  have W4:qs.take (i+1)=qs.take i ++ [q0]:=by rw[dm,U3];rfl
  have Tn:vs.length<=sizeLine:=by
   have e1:=kv.length;have e2:=qM ((qs.take i).map (·.2)) []
   simp only[cB,ao,cj,iu]at e2;omega
  refine wpAny_dictSet_pairs (qz r1) dd (λh' BU sb=>q' h' _ (eO _ _) sb ⟨λb o e=>?_,_,?_,BU⟩) Tn
  ·rw[sb.2 b (aX (aY e))]
   exact k1 b o e
  ·rw[W4,aU,aH,fV,AH]
   exact kv.put q0.2.1 r2
 ·rw[hsz,iM]at kv
  have hlen:=qM (qs.map (·.2)) []
  simp only[cB,ao,iu]at hlen;exact⟨.ref s.heap.objs.size,_,I.laid (o:=.dK (lj [] (qs.map (·.2)))) k1 (aD _) (w_ (by omega) (beq_eq_false_iff_ne.mpr (bY (aX I.big))) kv dd),rfl,q _ (I.hok.fresh (aD _))⟩
def pairD(q:Str×aj):aj:=.tuple [.str q.1,q.2]
theorem Cd{K:ai}{H:Hp}:∀{l:List (Str×aj)}{xs:List V},cO K H xs (l.map pairD)->∃qs:List (aK×Key×V),xs=qs.map (λq=>.ref q.1)/\(∀q∈qs,og K H q.1 [kV q.2.1,q.2.2])/\qs.map (·.2.1)=l.map (λp=>(bF p.1:Key))/\cO K H (qs.map (·.2.2)) (l.map (·.2))
 | [],_,.nil=>⟨[],rfl,(by intro _ h;cases h),rfl,.nil⟩
 |q::l,_,.cons a r=>by
  obtain⟨qs,e1,e2,e3,e4⟩:=Cd r;cases a with
  |tup hq rs=>
   cases rs with
   |cons b rs=>
    cases b;cases rs with
    |cons c rs=>
     cases rs;refine⟨(_,.inr q.1,_)::qs,by rw[e1];rfl,λz hz=>?_,by rw[aH,aH,e3],.cons c e4⟩
     rcases aI.mp hz with rfl|hz
     ·exact hq
     ·exact e2 z hz
theorem LY{K:ai}{l:List (Str×aj)}(hn:(l.map (·.1)).Nodup):mN K (Jh K) [.list (l.map pairD)] (eQ l):=λvs H0 H Q s r k=>by
 obtain⟨v,rfl,rv⟩:=r.one;cases rv with
 |lst hq rs=>
  obtain⟨qs,e1,e2,e3,e4⟩:=Cd rs;subst e1;have Tq:((qs.map (·.2)).map (·.1)).Nodup:=by
   rw[aS]
   show(qs.map (·.2.1)).Nodup
   rw[e3,show(l.map λp=>(bF p.1:Key))=(l.map (·.1)).map (bF:Str->Key) by rw[aS];rfl]
   exact yT _ (λa b QT z=>QT (p_ z)) hn
  refine⟨_,qs,rfl,s.seq hq,λq FZ=>s.oq (e2 q FZ),λp hp=>?_⟩
  rw[vA _ [] (by rw[mB];exact Tq),mB]
  have g:=eA.laid s (o:=.dK (qs.map (·.2))) hp
  refine k (.ref p) _ _ g (.dct (kvs:=qs.map (·.2)) bB ?_ ?_)
  ·have e:=congrArg (rP sx) e3
   simp only[aS]at e ⊢;exact e.symm
  ·simp only[aS]
   exact e4.mono g.gx
end
section
variable{X:Cx}{a:bR}{δ:List Slot}{pos p:Pos}
theorem Ce{l:List (Str×aj)}(h:VE X a δ (.list (l.map pairD)))(hn:(l.map (·.1)).Nodup)(hc:X.calm=true)(hm:X.mg "dict"=none)(hg:Gl X "dict":=by rfl)(hs:starEach [a] X.env=(false,eval a X.env)::starEach [] X.env:=by rfl):VE X (.Call (.Name "dict" p) [a] [] pos) δ (eQ l):=ja (uZ hc) (LY hn) (aq h aQ hs) hm rfl hg (he:=hs)
end
def Gq(kvs:List (Str×aj)):aj:=.dict ((.none,.int 1)::kvs.map λp=>(.str p.1,p.2))
section
variable{K:ai}{H:Hp}{v:V}
theorem Fm:∀{kvs:List (Str×aj)}{ws:List (Key×V)},(ws.map λp=>sx p.1)=(kvs.map λp=>aP p.1)->ws.map (·.1)=kvs.map (λp=>(bF p.1:Key))
 | [],ws,e=>by cases ws with|nil=>rfl|cons q l=>simp at e
 |p::kvs,ws,e=>by
  cases ws with
  |nil=>simp at e
  |cons q ws=>
   rw[aH,aH]at e ⊢
   injection e with h1 h2
   rw[Fm h2]
   congr 1
   cases eq:q.1 with
   |inl i=>rw[eq]at h1;cases h1
   |inr x=>rw[eq]at h1;injection h1 with h1;rw[h1]
theorem Rep.Cg{kvs:List (Str×aj)}(r:Rep K H v (Gq kvs)):∃a o ws,v=.ref a/\H a=some (.pZ o (.dK ws))/\ws.map (·.1)=kvs.map (λp=>(bF p.1:Key))/\cO K H (ws.map (·.2)) (kvs.map (·.2)):=by
 unfold Gq at r
 generalize e:kvs.map (λp=>(aP p.1,p.2))=ds at r
 cases r with
 |dct h k t=>
  rename_i a ws
  exfalso
  cases ws with
  |nil=>simp at k
  |cons q ws=>
   rw[aH,aH]at k
   injection k with k1 _
   cases eq:q.1 with
   |inl i=>rw[eq]at k1;cases k1
   |inr x=>rw[eq]at k1;cases k1
 |QP h k t=>
  rename_i a o ws
  refine⟨a,o,ws,rfl,h,Fm ?_,?_⟩
  ·rw[<-k,<-e,aS];rfl
  ·rw[<-e,aS]at t
   exact t
def LZ(H:Hp)(p:aK):Prop:=∀o,H p=some o->∀xs,o≠.lst xs/\o≠.tup xs/\∀u,o≠.pZ u (.lst xs)/\o≠.pZ u (.tup xs)
theorem Rep.Ji{p:aK}(hp:LZ H p){v:V}{d:aj}(r:Rep K H v d):Dn d->Rep K (v5 H p) v d:=by
 refine Rep.rec (motive_1:=λv d _=>Dn d->Rep K (v5 H p) v d) (motive_2:=λxs ds _=>(∀d∈ds,Dn d)->cO K (v5 H p) xs ds) ?_ ?_ ?_ ?_ ?_ ?_ ?_ ?_ ?_ ?_ ?_ ?_ r
 ·exact λ_=>.non
 ·exact λb _=>.bl b
 ·exact λi _=>.int i
 ·exact λx _=>.str x
 ·intro a xs ds h _ t n
  cases n with
  |lst n=>
   refine .lst ?_ (t n)
   rcases h with(h|⟨o,h⟩)|h
   ·exact .inl (.inl (by rw[kD (λz=>by subst z;exact(hp _ h xs).1 rfl)];exact h))
   ·exact .inl (.inr ⟨o,by rw[kD (λz=>by subst z;exact((hp _ h xs).2.2 o).1 rfl)];exact h⟩)
   ·exact .inr h
 ·intro a xs ds h _ t n
  cases n with
  |tup n=>
   refine .tup ?_ (t n)
   rcases h with(h|⟨o,h⟩)|h
   ·exact .inl (.inl (by rw[kD (λz=>by subst z;exact(hp _ h xs).2.1 rfl)];exact h))
   ·exact .inl (.inr ⟨o,by rw[kD (λz=>by subst z;exact((hp _ h xs).2.2 o).2 rfl)];exact h⟩)
   ·exact .inr h
 ·intro a kvs ds _ _ _ _ n;cases n
 ·intro a kvs ds _ _ _ _ n;cases n
 ·intro a C dx fs ds _ _ _ _ _ _ n;cases n
 ·intro a o kvs ds _ _ _ _ n;cases n
 ·exact λ_=>.nil
 ·intro x d xs ds _ _ a t n
  exact .cons (a (n d aN)) (t λd hd=>n d (aT _ hd))
theorem cO.Ji{p:aK}(hp:LZ H p):∀{ds:List aj}{xs:List V},cO K H xs ds->(∀d∈ds,Dn d)->cO K (v5 H p) xs ds
 | [],_,r,_=>by cases r;exact .nil
 |d::ds,_,r,n=>by cases r with|cons a t=>exact .cons (a.Ji hp (n d aN)) (cO.Ji hp t λd hd=>n d (aT _ hd))
theorem L0{p:aK}{ws:List (Key×V)}(h:H p=some (.dK ws)):LZ H p:=λo e xs=>by
 rw[h]at e;cases e;exact⟨nofun,nofun,λu=>⟨nofun,nofun⟩⟩
theorem Jj{p:aK}{ob:Obj}{ws:List (Key×V)}(h:H p=some (.pZ ob (.dK ws))):LZ H p:=λo e xs=>by
 rw[h]at e;cases e;exact⟨nofun,nofun,λu=>⟨nofun,nofun⟩⟩
theorem Fn{p:aK}{o:HO}:dJ (v5 H p) (upd (v5 H p) p o):=λb u e=>by
 rw[aR (λz=>by subst z;rw[LV]at e;cases e)];exact e
end
section
variable{X:Cx}{pins:List (aK×Obj)}{σ:St}{H:Hp}{s:aF}{a:aK}{ws:List (Key×V)}
theorem Inv.freeze(I:Inv X pins σ H s)(h:H a=some (.dK ws)):∃o,Inv X pins σ (upd H a (.pZ o (.dK ws))) s:=by
 obtain⟨z,hd,vs,rel,dd⟩:=za I.hok h;obtain⟨o,es,ep,ho,rest⟩:=id dd;refine⟨o,?_⟩
 have:=I.write (x:=a) (e:=a) (h':=s.heap) (t':=s.toks) (o:=.pZ o (.dK ws)) (by rw[h];trivial) (.inl rfl) (λb u _ q=>q) ⟨o,ho⟩ ⟨ho,z,hd,vs,rel,dd⟩
 exact this
theorem Inv.W_{o:Obj}(I:Inv X pins σ H s)(h:H a=some (.pZ o (.dK ws)))(hn:∀o u,X.H₀ a≠some (.pZ o u)):Inv X pins σ (upd H a (.dK ws)) s:=by
 have ne:∀{b:aK},H b=none->b≠a:=λe z=>by subst z;rw[h]at e;cases e
 have ob:gw X.prog X.w H s.heap a (.dK ws):=(Rd.ok (.inr ⟨o,h⟩) I.hok);refine⟨I.ok,I.os,I.bare,⟨I.base.keep,I.base.slot,λb u e n hx=>?_,I.base.there,λb xs e=>?_,λb ob u e=>?_,λb ps e=>?_⟩,I.loc,I.cell,?_,λx c e=>?_,λp hp=>?_,λb u e=>?_,I.len⟩
 ·have q:=I.base.free b u e n hx
  rw[aR (ne q)];exact q
 ·have q:=I.base.tups b xs e
  rw[aR (λz=>by subst z;rw[h]at q;cases q)];exact q
 ·have q:=I.base.uM b ob u e
  rw[aR (λz=>by subst z;exact hn _ _ e)];exact q
 ·obtain⟨more,q⟩:=I.base.wJ b ps e
  exact⟨more,by rw[aR (λz=>by subst z;rw[h]at q;cases q)];exact q⟩
 ·rw[aR (ne I.free)];exact I.free
 ·rw[aR (ne (I.n_ x c e))];exact I.n_ x c e
 ·obtain⟨q1,q2,q3⟩:=I.pin p hp
  exact⟨q1,by rw[aR (ne q2)];exact q2,q3⟩
 ·have st:∀{b:aK}{u:HO},gw X.prog X.w H s.heap b u->gw X.prog X.w (upd H a (.dK ws)) s.heap b u:=λx=>
   x.stay (λc v _ q=>q) (λc q=>by rw[aR (λz=>by subst z;rw[h]at q;cases q)];exact q) λc xs q=>by rw[aR (λz=>by subst z;rw[h]at q;cases q)];exact q
  by_cases hb:b=a
  ·subst hb;rw[bB]at e;cases e;exact st ob
  ·rw[aR hb]at e;exact st (I.hok b u e)
end
section
variable{X:Cx}{e:bR}{δ δ':List Slot}{es:List aj}{kvs:List (Str×aj)}
theorem Gr(i:Nat)(hi:δ[i]?=some (.val (eQ kvs)))(hl:δ'.length=δ.length)(hδ:∀j sl,δ'[j]?=some sl->sl=.un\/(j=i/\sl=.val (Gq kvs)))(hkv:∀q∈kvs,Dn q.2)(hes:∀d∈es,Dn d)(h:VO X e δ' es):VO X e δ es:=λB0 B σ H0 H Q f q pins s I=>by
 obtain⟨v,hv,rv⟩:=f.val hi;obtain⟨a,ws,rfl,ha,ke,rs⟩:=rv.lF;have W':H a=some (.dK ws):=f.sub _ _ ha;obtain⟨o,I'⟩:=I.freeze W';have hn:∀o u,X.H₀ a≠some (.pZ o u):=λo u z=>by
  have:=I.base.uM a o u z;rw[W']at this;cases this
 have Xa:dJ (upd (v5 H0 a) a (.pZ o (.dK ws))) (upd H a (.pZ o (.dK ws))):=λb u z=>by
  by_cases hb:b=a
  ·subst hb;rw[bB]at z ⊢;exact z
  ·rw[aR hb,kD hb]at z;rw[aR hb];exact f.sub _ _ z
 have f':hV X.K (upd (v5 H0 a) a (.pZ o (.dK ws))) (upd H a (.pZ o (.dK ws))) (upd (v5 H0 a) a (.pZ o (.dK ws))) (upd H a (.pZ o (.dK ws))) σ δ':=by
  refine⟨.refl Xa,by rw[hl];exact f.len,λj sl z=>?_,λj k ds es p DN z1 z2 z3=>?_⟩
  ·rcases hδ j sl z with rfl|⟨rfl,rfl⟩
   ·trivial
   ·refine⟨.ref a,hv,.QP bB ?_ ?_⟩
    ·have:=congrArg (rP sx) ke
     rw[aS,aS]at this;rw[aS];exact this.symm
    ·rw[aS]
     refine(cO.Ji (L0 ha) (ds:=kvs.map (·.2)) rs λd hd=>?_).mono Fn
     obtain⟨w,hw,rfl⟩:=aG.mp hd;exact hkv w hw
  ·rcases hδ j _ z1 with z|⟨_,z⟩<;>cases z
 refine gD (h _ _ σ _ _ (λv H'=>H' a=some (.pZ o (.dK ws))/\Q v (upd H' a (.dK ws))) f' (λp xs Ha Hb g h1 h2 h3 r=>?_) pins s I') λu s1 ⟨v,H1,I1,r1,hfz,q1⟩=>⟨v,_,I1.W_ hfz hn,r1,q1⟩
 have ZO:Ha a=some (.pZ o (.dK ws)):=g.gx _ _ bB;have hHb:Hb a=some (.pZ o (.dK ws)):=g.big _ _ bB;have QW:p≠a:=λz=>by subst z;rw[ZO]at h2;cases h2
 refine⟨hHb,q p xs (upd (v5 Ha a) a (.dK ws)) (upd Hb a (.dK ws)) ⟨λb u z=>?_,λb u z=>?_,λb u z=>?_,λb z=>?_⟩ (by rw[aR QW]at h1;exact h1) (by rw[aR QW,kD QW];exact h2) (by rw[aR QW];exact h3) ((cO.Ji (Jj ZO) r hes).mono Fn)⟩
 ·by_cases hb:b=a
  ·subst hb;rw[bB];rw[W']at z;exact z
  ·rw[aR hb];exact g.big _ _ (by rw[aR hb];exact z)
 ·by_cases hb:b=a
  ·subst hb;rw[bB];rw[ha]at z;exact z
  ·rw[aR hb,kD hb];exact g.gx _ _ (by rw[aR hb,kD hb];exact z)
 ·by_cases hb:b=a
  ·subst hb;rw[bB]at z ⊢;exact z
  ·rw[aR hb,kD hb]at z;rw[aR hb];exact g.sub _ _ z
 ·by_cases hb:b=a
  ·subst hb;exact .inl (by rw[ha];exact nofun)
  ·rw[aR hb,kD hb]at z
   rcases g.new b z with y|y
   ·rw[aR hb,kD hb]at y;exact .inl y
   ·rw[aR hb]at y;exact .inr y
end
def ZP(a:aK)(o:Obj)(kvs:List (Key×V)):It:=⟨λi H=>i<kvs.length/\H a=some (.pZ o (.dK kvs)),λi H x H'=>H'=H/\∃q,kvs[i]?=some q/\x=kV q.1,λi H=>kvs.length<=i/\H a=some (.pZ o (.dK kvs))⟩
section
variable{X:Cx}{pins:List (aK×Obj)}{σ:St}{H:Hp}{s:aF}{a it:aK}{kvs:List (Key×V)}{o:Obj}{es:Array vn}{ep:Nat}
theorem sG(I:Inv X pins σ H s)(h:H a=some (.pZ o (.dK kvs))):(a==sysModules)=false/\∃vs es ep,KV kvs vs/\o.data=.dict es ep/\s.heap.DictAt (eK X.prog X.w) a vs ep:=by
 obtain⟨ho,z,hd,vs,rel,o',es,ep,zU,c1,c2,c3⟩:=(show gw X.prog X.w H s.heap a (.pZ o (.dK kvs))from I.hok a _ h)
 rw[ho]at zU;cases zU;exact⟨hd,vs,es,ep,rel,c2,o,es,ho,c1,c2,c3⟩
theorem Gs{P:bo}{w:bX}{K:ai}{tg:bR}(a it:aK)(he:o.data=.dict es ep):Turn P w K tg (ZP a o kvs) [it] it (λi h=>h.IsKeyIter it a i kvs.length ep) where
 mem:=by simp
 obj:=λi h st b hb=>by
  have e:b=it:=by simpa using hb
  subst e;obtain⟨o,e,c,d⟩:=st;exact⟨o,e,λv z=>by rw[d]at z;cases z⟩
 keep:=λi h h' st k=>let⟨o,e,r⟩:=st;⟨o,k it (by simp) o e,r⟩
 item:=by
  intro X hP hw hK hc i pins s σ H E I hf st hg;subst hP hw hK;obtain⟨f0,f1,f2,f3,f4,f5⟩:=hf it (by simp)
  obtain⟨hi,ha⟩:=hg;obtain⟨hd,vs,Rv,Rw,rel,Tr,dd⟩:=sG I ha;rw[he]at Tr;cases Tr;have hl:=rel.length;obtain⟨q,hq⟩:∃q,kvs[i]?=some q:=⟨kvs[i],au hi⟩;obtain⟨⟨k,x⟩,hx⟩:∃p,vs[i]?=some p:=⟨vs[i]'(by omega),au (by omega)⟩
  have hk:q.1=k:=by
   have e1:=congrArg (·[i]?) rel.keys
   simp only[aJ,hq,hx,iY]at e1;exact cY e1
  refine wpAny_pyNext_dict_item (kvs:=vs) (by rw[<-hl];exact st) dd hx λkey h' OV wq sb=>?_
  have I1:Inv X pins σ H { s with heap:=h' }:=I.turned (t':=s.toks) (λb o hb e=>(sb.2 b hb).trans e) f0 f1 f3 f4 f5
  obtain⟨o,e,c,d⟩:=id wq;exact⟨key,rfl,BI (s:={ s with heap:=h' }) e c d (by decide) ⟨kV q.1,H,I1,by rw[hk];exact LR OV,⟨rfl,q,hq,rfl⟩,by rw[hl];exact wq,λb hb=>(hf b hb).1⟩⟩
 done:=by
  intro X hP hw hK hc i pins s σ H E I hf st hg;subst hP hw hK;obtain⟨f0,f1,f2,f3,f4,f5⟩:=hf it (by simp)
  obtain⟨hi,ha⟩:=hg;obtain⟨hd,vs,Rv,Rw,rel,Tr,dd⟩:=sG I ha;rw[he]at Tr;cases Tr;have hl:=rel.length;exact wpAny_pyNext_dict_end (kvs:=vs) (I.ok.hd hc) (by rw[<-hl];exact st) dd (eu (by omega)) λh' eb=>⟨rfl,I.turned (t':=s.toks) (λb o hb e=>eb b o hb e) f0 f1 f3 f4 f5⟩
 self:=λ_ _ _ _ _ st h=>wpAny_pyIter_keyiter st h
def Ts(tl:TE):TI:=λσ H R=>tl σ H λv H1=>∃a o kvs,v=.ref a/\H1 a=some (.pZ o (.dK kvs))/\R (ZP a o kvs) H1
theorem L1{tg l:bR}{tl:TE}(hl:PE X l tl):PI X tg l (Ts tl):=by
 intro pins s σ H R I h;refine gD (hl pins s σ H _ I h) λv s1 ⟨y,H1,I1,r1,q1⟩=>?_
 obtain⟨a,o,kvs,e,ha,q⟩:=q1;subst e;cases r1;obtain⟨hd,vs,es,ep,rel,he,dd⟩:=sG I1 ha;refine wpAny_pyIter_dict hd dd ?_
 rw[<-rel.length];refine⟨s1.heap.objs.size,[s1.heap.objs.size],_,_,H1,rfl,I1.kept (t':=s1.toks) λb o e=>aE _ e,Gs a _ he,⟨_,bp _ rfl,rfl,rfl⟩,λb hb=>?_,q⟩
 have e:b=s1.heap.objs.size:=by simpa using hb
 subst e;exact I1.wM (aD _) (I1.hok.fresh (aD _))
end
section
variable{X:Cx}{tg a b:bR}{δ:List Slot}{d:aj}{kvs:List (Str×aj)}{pos p:Pos}{k:Nat}{x:Str}
theorem Jk(h:VE X a δ (Gq kvs)):VI X tg a δ (kvs.map λq=>.str q.1):=⟨_,L1 dg,λB0 B σ H0 H R f q=>h B0 B σ H0 H _ f λv H1 dU g r=>by
 obtain⟨p,o,ws,rfl,hp,ke,rs⟩:=r.Cg;have hl:ws.length=kvs.length:=by have:=congrArg fD ke;simpa using this
 refine⟨p,o,ws,rfl,g.sub _ _ hp,q _ H1 dU g λHa Hb s1 s2 i=>⟨λhi=>⟨by simpa[hl]using hi,s2 _ _ (s1 _ _ hp)⟩,λhi=>⟨by simpa[hl]using hi,s2 _ _ (s1 _ _ hp)⟩,λx xi d hd ⟨e,z,hz,ex⟩=>?_⟩⟩
 subst e;subst ex;have e1:=congrArg (·[i]?) ke
 simp only[aJ,hz,iY]at e1;rw[aJ]at hd;cases hk:kvs[i]? with
 |none=>rw[hk]at hd;cases hd
 |some w=>
  rw[hk]at hd e1;cases hd;have e2:z.1=bF w.1:=cY e1;rw[e2];exact⟨Ha,.refl s2,.str w.1⟩⟩
theorem Jl(hr:fc k X.A)(h1:VE X a δ (Gq kvs))(h2:VE X b δ (.str x))(hx:gE kvs x=some d)(hs:HR b:=by intro _ _;rfl):VE X (.Subscript a b pos) δ d:=
 .of (E4 (Lr hr) dg dg hs) λB0 B σ H0 H Q fr q=>h1 B0 B σ H0 H _ fr λv H1 dU g r=>h2 B0 B σ H1 dU _ (fr.grow g) λu H2 iS g2 r2=>by
  obtain⟨p,o,ws,rfl,hp,ke,rs⟩:=r.Cg;cases r2;have ov:=sD ke rs x;rw[hx]at ov;obtain⟨w,hw,oU⟩:=ov.some_of;refine⟨p,w,rfl,?_,q w H2 iS (g.trans g2) (oU.mono g2.gx)⟩
  rw[<-hw];exact .inl ⟨ws,.inr x,.inr ⟨o,g2.sub _ _ (g2.gx _ _ hp)⟩,rfl,rfl⟩
theorem xI:jh X (.type "dict") (λxs H Q=>∃p kvs,xs=[.ref p]/\Rd H p (.dK kvs)/\∀l,H l=none->Q (.ref l) (upd H l (.dK kvs))):=by
 intro pins s σ H xs us Q I r h;obtain⟨p,kvs,rfl,hp,q⟩:=h;obtain⟨u,rfl,rx⟩:=vals1 r;cases rx;exact H_ I hp λl s' hl I'=>⟨.ref l,_,I',rfl,q l hl⟩
theorem L3{K:ai}:mN K (λxs H Q=>∃p kvs,xs=[.ref p]/\Rd H p (.dK kvs)/\∀l,H l=none->Q (.ref l) (upd H l (.dK kvs))) [eQ kvs] (eQ kvs):=λvs H0 H Q s r q=>by
 obtain⟨v,rfl,r1⟩:=r.one;obtain⟨a,ws,rfl,ha,ke,rs⟩:=r1.lF;refine⟨a,ws,rfl,.inl (s _ _ ha),λl hl=>?_⟩
 have g:=eA.laid s (o:=.dK ws) hl;refine q (.ref l) _ _ g (.dct (kvs:=ws) bB ?_ ?_)
 ·have:=congrArg (rP sx) ke
  rw[aS,aS]at this;rw[aS];exact this.symm
 ·rw[aS]
  exact rs.mono g.gx
theorem Jm(h:VE X a δ (eQ kvs))(hm:X.mg "dict"=none)(hg:Gl X "dict":=by rfl)(hs:starEach [a] X.env=(false,eval a X.env)::starEach [] X.env:=by rfl):VE X (.Call (.Name "dict" p) [a] [] pos) δ (eQ kvs):=ja xI L3 (aq h aQ hs) hm rfl hg (he:=hs)
end
def AI(P:bo)(w:bX)(A:cU)(s:aF)(u v:av):Prop:=∀(E:av->aF->Prop)(Q:Bool->aF->Prop),Q true s->wpAny (model P w) A (eqBool u v) Q E s
theorem L4{prog:bo}{w:bX}{A:cU}{E:av->aF->Prop}{s:aF}{l b:aK}{i1 i2 j1 j2:av}{Q:av->aF->Prop}(hl:s.heap.IsTuple l [i1,i2].toArray)(hb:s.heap.IsTuple b [j1,j2].toArray)(hu:A.units<cLine)
  (e1:AI prog w A.in1 s i1 j1)(e2:AI prog w A.in1 s i2 j2)(h:Q (.bool true) s):wpAny (model prog w) A (compareOp .Eq (.ref l) (.ref b)) Q E s:=by
 obtain⟨oa,ZQ,ca,na,Nv⟩:=id hl;obtain⟨ob,ZR,cb,nb,qx⟩:=id hb;have ZS:s.TypeIs (.ref l) "tuple":=⟨oa,ZQ,ca⟩;have ZT:s.TypeIs (.ref b) "tuple":=⟨ob,ZR,cb⟩;refine wpAny_richCompare_same_room (op:=.Eq) ZS ZT Bs (kf Bs ZS PySem.F.entry_tuple_eq ?_ (PySem.F.args_tuple_eq_2 _ _)) hu
 show wpAny _ _ (isInstance (.ref b) (.type "tuple") >>= _) _ _ s;refine ay (wpAny_isInstance ZT isSubtype_tuple_tuple ?_)
 simp only[Bool.not_true,Bool.false_eq_true,if_false];refine ay (wpAny_tupleItemsOf ZQ Nv ?_)
 refine ay (wpAny_tupleItemsOf ZR qx ?_)
 refine ay ?_
 refine wpAny_forIn_list _ (λrest r s'=>r.1=none/\s'=s/\∃i,rest=([(i1,j1),(i2,j2)]:List (av×av)).drop i) _ ?_ ?_ _ _ ⟨rfl,rfl,0,rfl⟩
 ·rintro⟨u,v⟩ rest r s' ⟨hr,rfl,i,hz⟩
  have he:AI prog w A.in1 s' u v/\rest=([(i1,j1),(i2,j2)]:List (av×av)).drop (i+1):=by
   match i,hz with
   |0,hz=>cases hz;exact⟨e1,rfl⟩
   |1,hz=>cases hz;exact⟨e2,rfl⟩
   |n+2,hz=>simp at hz
  refine ay (he.1 _ _ ?_)
  simp only[Bool.not_true,Bool.false_eq_true,if_false];exact a8 ⟨rfl,rfl,i+1,he.2⟩
 ·rintro⟨r1,r2⟩ s' ⟨hr,rfl,_⟩
  simp only at hr;subst hr;exact a8 ⟨_,rfl,(λz=>nomatch z),h⟩
section
variable{X:Cx}{pins:List (aK×Obj)}{σ:St}{H:Hp}{s:aF}{A:cU}
theorem eq_self(I:Inv X pins σ H s){d:aj}{v v':V}{u u':av}(hl:Lay 20 d)(r:Rep X.K H v d)(r':Rep X.K H v' d)(q:RelV v u)(q':RelV v' u')(hu:A.units+20<cLine):SeqAt.EqAt A s u u' true:=by
 obtain⟨as,ra⟩:=iT I d hl.1 r q;obtain⟨bs,rb⟩:=iT I d hl.1 r' q';have:=SeqAt.eqAt_reads d d A s u u' as bs ra rb hl.1 hl.1 (by have:=hl.2;omega)
 rw[SeqAt.eqv_refl d hl.1]at this;exact this
theorem Fo(I:Inv X pins σ H s)(hu:A.units+20<cLine){kb:List (Key×av)}:∀{l:List (Str×aj)}{ws:List (Key×V)}{ka:List (Key×av)},ws.map (·.1)=l.map (λp=>(bF p.1:Key))->cO X.K H (ws.map (·.2)) (l.map (·.2))->KV ws ka->(∀q∈l,Lay 20 q.2)->
  (∀q∈l,∃v y,valueAt kb (bF q.1)=some y/\Rep X.K H v q.2/\RelV v y)->PySem.W.KeqHits A s kb ka true
 | [],ws,ka,e,_,kv,_,_=>by
  have:ws=[]:=by simpa using e
  subst this;cases kv;exact .nil
 |p::l,ws,ka,e,r,kv,hl,hb=>by
  cases ws with
  |nil=>simp at e
  |cons q ws=>
   rw[aH,aH]at e r
   injection e with e1 e2
   cases r with
   |cons r1 r2=>
    cases kv with
    |cons k1 k2=>
     rename_i z ka
     obtain⟨zk,zv⟩:=z;obtain⟨g1,g2⟩:=k1;obtain⟨v,y,h1,h2,h3⟩:=hb p aN;have:PySem.W.KeqHits A s kb ((zk,zv)::ka) (true&&true):=.hit (y:=y) (by rw[<-show q.1=zk from g1,e1];exact h1) (eq_self I (hl p aN) r1 h2 g2 h3 hu) (Fo I hu e2 r2 k2 (λw hw=>hl w (aT _ hw)) λw hw=>hb w (aT _ hw))
     exact this
theorem kE:∀{l:List (Str×aj)},(l.map (·.1)).Nodup->∀q∈l,gE l q.1=some q.2
 | [],_,q,h=>by cases h
 |p::l,hn,q,h=>by
  rw[aH,fB]at hn;rcases aI.mp h with rfl|h
  ·exact fE rfl
  ·rw[cR (λz=>hn.1 (by rw[z];exact aG.mpr ⟨q,h,rfl⟩))]
   exact kE hn.2 q h
theorem eq_dicts(I:Inv X pins σ H s)(hu:A.units+21<cLine){l:List (Str×aj)}{v v':V}{u u':av}(hl:∀q∈l,Lay 20 q.2)(r:Rep X.K H v (eQ l))(r':Rep X.K H v' (eQ l))(q:RelV v u)(q':RelV v' u'):AI X.prog X.w A s u u':=by
 obtain⟨a,ws,rfl,ha,ke,rs⟩:=r.lF;obtain⟨b,ws',rfl,hb,Xb,rs'⟩:=r'.lF;cases q;cases q';by_cases QT:a=b
 ·subst QT;exact λE Q hq=>SeqAt.EqAt.same _ X.prog X.w E Q hq
 intro E Q hq;unfold eqBool;refine nh ?_
 refine wpAny_ite_split (λhx=>absurd (by have:=eq_of_beq hx;injection this) QT) (λ_=>?_)
 refine ay ?_
 obtain⟨z,hd,vs,rel,dd⟩:=za I.hok ha;obtain⟨z',Rr,ZU,Qa,BU⟩:=za I.hok hb;have Iw:(l.map (·.1)).Nodup:=by
  obtain⟨_,_,_,_,_,_,_,_,hn⟩:=id BU;rw[<-Qa.keys,Xb]at hn;rw[show(l.map λp=>(bF p.1:Key))=(l.map (·.1)).map (bF:Str->Key) by rw[aS];rfl]at hn
  exact List.Pairwise.of_map _ (λa b h z=>h (by rw[z])) hn
 have h1:=congrArg fD ke;have h2:=congrArg fD Xb;simp only[ao]at h1 h2;have h3:=rel.length;have h4:=Qa.length;refine PySem.W.keq_eq (knd:=eK X.prog X.w) (r:=true) hd Rr dd BU (by omega) (λ_=>Fo I (by show A.units+1+20<cLine;omega) ke rs rel hl λq hq=>?_) ?_
 ·have o1:=sD Xb rs' q.1
  rw[kE Iw q hq]at o1;obtain⟨v,hv,rv⟩:=o1.some_of;have o2:=Qa.val (bF q.1);rw[hv]at o2;cases hy:valueAt ZU (bF q.1) with
  |none=>rw[hy]at o2;exact o2.elim
  |some y=>rw[hy]at o2;exact⟨v,y,rfl,rv,o2⟩
 ·rw[show(vs.length==ZU.length)=true by rw[beq_iff_eq];omega]
  exact eW hq
theorem L5(hu:X.A.units+22<cLine):qw X (compareOp .Eq) (λx y H Q=>∃l1 l2,Rep X.K H x (.tuple [eQ l1,eQ l2])/\Rep X.K H y (.tuple [eQ l1,eQ l2])/\(∀q∈l1,Lay 20 q.2)/\(∀q∈l2,Lay 20 q.2)/\Q (.bl true) H):=by
 intro pins s σ H x y v u Q I rx ry ⟨l1,l2,r1,r2,y1,y2,q⟩;cases r1 with
 |tup t1 PX=>
  cases r2 with
  |tup t2 Nr=>
   cases rx;cases ry;obtain⟨v1,v2,rfl,a1,a2⟩:=PX.two;obtain⟨w1,w2,rfl,b1,b2⟩:=Nr.two;obtain⟨its,rv,pl,_⟩:=I.tuple t1;obtain⟨F1,Nq,W9,_⟩:=I.tuple t2;obtain⟨i1,i2,rfl,c1,c2⟩:∃u1 u2,its=[u1,u2]/\RelV v1 u1/\RelV v2 u2:=by
    cases rv with|cons a t=>cases t with|cons b t2=>cases t2;exact⟨_,_,rfl,a,b⟩
   obtain⟨j1,j2,rfl,e1,e2⟩:∃u1 u2,F1=[u1,u2]/\RelV w1 u1/\RelV w2 u2:=by
    cases Nq with|cons a t=>cases t with|cons b t2=>cases t2;exact⟨_,_,rfl,a,b⟩
   exact L4 (show s.heap.IsTuple _ [i1,i2].toArray from pl) (show s.heap.IsTuple _ [j1,j2].toArray from W9) (by omega) (eq_dicts I (by show X.A.units+1+21<cLine;omega) y1 a1 b1 c1 e1) (eq_dicts I (by show X.A.units+1+21<cLine;omega) y2 a2 b2 c2 e2) ⟨.bl true,H,I,rfl,q⟩
theorem Xc{K:ai}{l1 l2:List (Str×aj)}(h1:∀q∈l1,Lay 20 q.2)(h2:∀q∈l2,Lay 20 q.2):yD K (λx y H Q=>∃l1 l2,Rep K H x (.tuple [eQ l1,eQ l2])/\Rep K H y (.tuple [eQ l1,eQ l2])/\(∀q∈l1,Lay 20 q.2)/\(∀q∈l2,Lay 20 q.2)/\Q (.bl true) H) (.tuple [eQ l1,eQ l2]) (.tuple [eQ l1,eQ l2]) (.bool true):=λx y H0 H Q s r1 r2 k=>
 ⟨l1,l2,r1.mono s,r2.mono s,h1,h2,k _ _ _ (.refl s) (.bl true)⟩
theorem L6{a b:bR}{δ:List Slot}{pos:Pos}{k:Nat}{l1 l2:List (Str×aj)}(hr:fc k X.A)(y1:∀q∈l1,Lay 20 q.2)(y2:∀q∈l2,Lay 20 q.2)(h1:VE X a δ (.tuple [eQ l1,eQ l2]))(h2:VE X b δ (.tuple [eQ l1,eQ l2])):VE X (.Compare a [.Eq] [b] pos) δ (.bool true):=
 nM (L5 (Al hr)) (Xc y1 y2) h1 h2 (fU _)
end
end L2
namespace Mg
open L2 PySem PyProof.Rows
def top(i:Nat):gZ:=PySem.Challenge.pw_mergeline_k51_desks_that_are_stopped.main.body.getD i (.Pass ⟨0,0,0,0⟩)
theorem small{n:Nat}(h:n<=1000000):n<=sizeLine:=b_ h (by rw[dI];decide)
theorem gN{n:Nat}(h:n<=1000000):n<sizeLine:=Nat.lt_of_le_of_lt h (by rw[dI];decide)
def nA(x:Str):Prop:=cJ (.str x)=true
theorem bO(a b:Str):du (.str a) (.str b)=decide (a=b):=by
 rw[du,gC];simp
theorem jW(a b:Int):du (.int a) (.int b)=decide (a=b):=by
 rw[du,gC];simp
end Mg
namespace L2
open PySem PySem.Spec PyProof.Rows
section
variable{X:Cx}{a b c e:bR}{δ:List Slot}{d d1 d2 d3:aj}{pos:Pos}{k:Nat}
theorem Ci{op op':Bm}{r r':R2}{k1 k2:Bool}(ho:qw X (compareOp op) r)(zU:qw X (compareOp op') r')(ZV:yD X.K r d1 d2 (.bool k1))(od2:yD X.K r' d2 d3 (.bool k2))(h1:VE X a δ d1)(h2:VE X b δ d2)(h3:k1=true->VE X c δ d3)
  (hm:lastMarks [op,op'] [b,c]=false:=by with_unfolding_all rfl):VE X (.Compare a [op,op'] [b,c] pos) δ (.bool (k1&&k2)):=by
 cases k1 with
 |true=>
  refine .of (BK ho zU dg dg dg hm) λB0 B σ H0 H Q f q=>h1 B0 B σ H0 H _ f λv H1 dU g1 r1=>h2 B0 B σ H1 dU _ (f.grow g1) λu H2 iS g2 r2=>ZV v u H2 iS _ g2.sub (r1.mono g2.gx) r2 λz H3 wy g3 r3=>?_
  cases r3;refine⟨true,rfl,?_⟩
  rw[if_pos rfl];exact h3 rfl B0 B σ H3 wy _ (((f.grow g1).grow g2).grow g3) λx H4 WL g4 r4=>od2 u x H4 WL _ g4.sub ((r2.mono g3.gx).mono g4.gx) r4 λy H5 H5' g5 r5=>q y H5 H5' ((((g1.trans g2).trans g3).trans g4).trans g5) r5
 |false=>
  refine .of (BK ho zU dg dg xq hm) λB0 B σ H0 H Q f q=>h1 B0 B σ H0 H _ f λv H1 dU g1 r1=>h2 B0 B σ H1 dU _ (f.grow g1) λu H2 iS g2 r2=>ZV v u H2 iS _ g2.sub (r1.mono g2.gx) r2 λz H3 wy g3 r3=>?_
  cases r3;refine⟨false,rfl,?_⟩
  rw[if_neg cu];exact q _ H3 wy ((g1.trans g2).trans g3) (.bl false)
theorem Jn{x:Str}{s:Str}{t:Tok}(hm:X.mg x=some (.str s t))(hg:Gl X x:=by rfl)(hd:(x==("__debug__":Str))=false:=by decide):VE X (.Name x pos) δ (.str s):=.of (wo hg hm (v:=.str s) ⟨t,rfl⟩ hd) λ_ _ _ _ _ _ f k=>k _ _ _ (.refl f.sub) (.str s)
theorem Fp{x:Str}{i:Int}{t:Tok}(hm:X.mg x=some (.int i t))(hg:Gl X x:=by rfl)(hd:(x==("__debug__":Str))=false:=by decide):VE X (.Name x pos) δ (.int i):=.of (wo hg hm (v:=.int i) ⟨t,rfl⟩ hd) λ_ _ _ _ _ _ f k=>k _ _ _ (.refl f.sub) (.int i)
end
end L2
namespace Mg
open L2 PySem PyProof.Rows
seal L2.VE L2.VS L2.uT L2.VT L2.VO L2.Pu
structure Nw(mg:Str->Option av):Prop where
 len:mg "len"=none
 all:mg "all"=none
 Fb:mg "enumerate"=none
 let_:∃t,mg "LETTERS"=some (.str "abcdefghijklmnopqrstuvwxyz" t)
 fig:∃t,mg "FIGURES"=some (.str "0123456789" t)
 lna:∃t,mg "LONGEST_NAME"=some (.int 8 t)
 lnu:∃t,mg "LONGEST_NUMBER"=some (.int 6 t)
def one(c:Nat):Str:=⟨#[c]⟩
def nR(signs:Str)(longest:Int)(w:Str):Bool:=(decide (1<=(w.length:Int))&&decide ((w.length:Int)<=longest))&&w.cps.toList.all λc=>Au (one c) signs
def Nx(signs:Str):aj->Option aj
 | .str x=>some (.bool (Au x signs))
 |_=>none
theorem Gu(signs w:Str):(o5 w).filterMap (Nx signs)=(w.cps.toList.map λc=>Au (one c) signs).map .bool:=by
 unfold o5;rw[cL,aS];exact filterMap_some λc _=>rfl
def isName(w:Str):Bool:=nR "abcdefghijklmnopqrstuvwxyz" 8 w
def isNumber(w:Str):Bool:=nR "0123456789" 6 w&&(decide (w="0") || !decide ((w.cps.toList.head?.map one).getD fz="0"))
def wordsOf(row:Str):List Str:=(cz row " ").filter λw=>decide (w≠"")
def rowsOf(text:Str):List (Nat×List Str):=(cz text "\n").zipIdx.filterMap λp=>if(wordsOf p.1).isEmpty then none else some (p.2,wordsOf p.1)
theorem mh(x:Str):nA x↔∀c∈x.cps.toList,c<0x110000:=by
 show(x.cps.all λc=>decide (c<0x110000))=true↔_
 rw[<-Array.all_toList,d_];exact⟨λh c hc=>of_decide_eq_true (h c hc),λh c hc=>decide_eq_true (h c hc)⟩
theorem Qb{x:Str}{c:Nat}(h:nA x)(hc:c∈x.cps.toList):nA (one c):=by
 rw[mh]at h ⊢;intro z hz;have:z=c:=by simpa[one]using hz
 rw[this];exact h c hc
def uc(x:Str):Prop:=x.length<=100000/\nA x
section
variable{P:bo}{w:bX}{K:ai}{mg:Str->Option av}{base:cK}{f:aK}{k:Nat}
abbrev Tt:List Str:=["signs","longest","word"]
theorem Tv:cH Tt Tt (bP (top 10)):=⟨rfl,rfl,rfl,by decide +kernel,rfl,by decide +kernel,by decide +kernel⟩
def Xd(ds:List aj)(d:aj):Prop:=∃(signs:Str)(longest:Int)(x:Str),ds=[.str signs,.int longest,.str x]/\x.length<=100000/\d=.bool (nR signs longest x)
theorem Xe{fd:bS}(F:lg K "is_made_of" "is_made_of" (top 10) f fd)(n:Nw mg):eU P w K mg base ky 1 f fd Tt (gW K Xd):=
 jA F Tv (λ_ _ h=>by obtain⟨_,_,_,rfl,_⟩:=h;rfl) λ_ _ h=>by
  obtain⟨signs,longest,x,rfl,hx,rfl⟩:=h;intro ix A outer s H E hr;have nc:(["sign","signs"]:List Str).Nodup:=by decide +kernel
  have hl:(o5 x).length<=100000:=by unfold o5;rw[ao,cN];exact hx
  refine bf (cg (VE.to (kA (Ci BJ BJ (yE 1 x.length) (yE x.length longest) aA (Ff (ae 2 rfl) (small (by omega)) n.len) (λ_=>ae 1 rfl)) (λ_=>je (iU (oy rfl) zp (aq (VO.ve (VO.to (fe (own:=["sign"]) (cap:=[0]) (N:=["sign","signs"]) (tgt:=.one 0) (F:=Nx signs) (ds:=o5 x) rfl ⟨rfl,by decide +kernel,by decide +kernel,rfl,rfl,?_⟩ (PB (ae 2 rfl)) (λf s3 H3=>bM (i:=0) nc rfl (bj rfl)) rfl
   (small (by omega)) (λd hd=>?_)) (Gu signs x))) aQ) n.all rfl))) ?_))
  ·intro j hj
   rcases aI.mp hj with rfl|hj
   ·exact⟨(by show(0:Nat)<3;decide),bj rfl,rfl⟩
   ·cases hj
  ·obtain⟨c,_,rfl⟩:=aG.mp hd
   exact⟨_,rfl,λf s3 H3=>fA,λr jo f s3 H3=>by cases jo;exact PF (ae 0 rfl) (ae 1 rfl)⟩
  ·unfold nR pM
   rw[Di];rfl
theorem Tw:cH ["word"] ["word"] (bP (top 11)):=⟨rfl,rfl,rfl,by decide +kernel,rfl,by decide +kernel,by decide +kernel⟩
theorem Tx:cH ["word"] ["word"] (bP (top 12)):=⟨rfl,rfl,rfl,by decide +kernel,rfl,by decide +kernel,by decide +kernel⟩
def Tz(ds:List aj)(d:aj):Prop:=∃x:Str,ds=[.str x]/\x.length<=100000/\d=.bool (isName x)
def U4(ds:List aj)(d:aj):Prop:=∃x:Str,ds=[.str x]/\uc x/\d=.bool (isNumber x)
theorem Xf{fd:bS}(F:lg K "is_name" "is_name" (top 11) f fd)(n:Nw mg)(C:bE P w K mg base 1 "is_made_of" Tt (gW K Xd)):eU P w K mg base ky 2 f fd ["word"] (gW K Tz):=
 jA F Tw (λ_ _ h=>by obtain⟨_,rfl,_⟩:=h;rfl) λ_ _ h=>by
  obtain⟨x,rfl,hx,rfl⟩:=h;intro ix A outer s H E hr;obtain⟨t1,m1⟩:=n.let_;obtain⟨t2,m2⟩:=n.lna;exact bf (cg (bC C hr (aq (Jn m1) (aq (Fp m2) (aq (ae 0 rfl) aQ))) ⟨_,8,x,rfl,hx,rfl⟩))
theorem Xg{fd:bS}(F:lg K "is_number" "is_number" (top 12) f fd)(n:Nw mg)(C:bE P w K mg base 1 "is_made_of" Tt (gW K Xd)):eU P w K mg base ky 2 f fd ["word"] (gW K U4):=
 jA F Tx (λ_ _ h=>by obtain⟨_,rfl,_⟩:=h;rfl) λ_ _ h=>by
  obtain⟨x,rfl,⟨hx,ZW⟩,rfl⟩:=h;intro ix A outer s H E hr;obtain⟨t1,m1⟩:=n.fig;obtain⟨t2,m2⟩:=n.lnu;have o0:Lay 20 (.str "0"):=bJ (by decide +kernel)
  cases em:nR "0123456789" 6 x with
  |false=>
   refine bf (cg (VE.to (kA (k1:=false) (k2:=false) (VE.to (bC C hr (aq (Jn m1) (aq (Fp m2) (aq (ae 0 rfl) aQ))) ⟨_,6,x,rfl,hx,rfl⟩) (by rw[em])) (λz=>by cases z)) ?_))
   unfold isNumber;rw[em];rfl
  |true=>
   obtain⟨c,hc⟩:∃c,x.cps.toList.head?=some c:=by
    cases e:x.cps.toList with
    |cons c l=>exact⟨c,rfl⟩
    |nil=>
     exfalso
     have:x.length=0:=by
      have:=congrArg fD e;rw[cN]at this;exact this
     unfold nR at em;rw[this]at em;cases em
   have h0:oO x.cps.toList 0=some c:=by
    cases e:x.cps.toList with
    |nil=>rw[e]at hc;cases hc
    |cons a l=>rw[e]at hc;cases hc;exact bH (j:=0) rfl
   have okc:nA (one c):=by
    have hm:c∈x.cps.toList:=by
     cases e:x.cps.toList with
     |nil=>rw[e]at hc;cases hc
     |cons a l=>rw[e]at hc;cases hc;exact aN
    exact Qb ZW hm
   refine bf (cg (VE.to (kA (k1:=true) (VE.to (bC C hr (aq (Jn m1) (aq (Fp m2) (aq (ae 0 rfl) aQ))) ⟨_,6,x,rfl,hx,rfl⟩) (by rw[em])) (λ_=>je (qI (ow hr (bJ ZW) o0 (ae 0 rfl) aO) (λ_=>je (Iz hr (bJ okc) o0 (As (ae 0 rfl) aA (small (by omega)) h0) aO))))) ?_))
   unfold isNumber;rw[em,bO,bO,hc];rfl
end
theorem Cj{y p:Str}{c:Nat}:∀{zs:List Str},p∈zs->c∈p.cps.toList->c∈(cW y zs).cps.toList
 | [],h,_=>by cases h
 | [x],h,hc=>by
  rw[bh]at h;subst h;exact hc
 |x::x2::zs,h,hc=>by
  show c∈(x++y++cW y (x2::zs)).cps.toList;have e:(x++y++cW y (x2::zs)).cps.toList=(x.cps.toList++y.cps.toList)++(cW y (x2::zs)).cps.toList:=by
   show(x.cps++y.cps++(cW y (x2::zs)).cps).toList=_
   simp
  rw[e];rcases aI.mp h with rfl|h
  ·exact dX _ (dX _ hc)
  ·exact b9 _ (Cj h hc)
theorem Ck{x y p:Str}(h:uc x)(hp:p∈cz x y):uc p:=by
 refine⟨b_ (part_short hp) h.1,(mh p).mpr λc hc=>(mh x).mp h.2 c ?_⟩
 have:=Cj (y:=y) hp hc;rw[mJ]at this;exact this
def Fq:aj->Option aj
 | .str w=>if decide (w≠"")=true then some (.str w)else none
 |_=>none
theorem Gv(l:List Str):(l.map aP).filterMap Fq=(l.filter λw:Str=>decide (w≠"")).map aP:=by
 induction l with
 |nil=>rfl
 |cons w l ih=>
  rw[aH,lM];by_cases h:decide (w≠"")=true
  ·rw[if_pos h,c9 (f:=Fq) (b:=.str w) (by show(if _ then _ else _)=_;rw[if_pos h]),ih];rfl
  ·rw[if_neg h,fX (f:=Fq) (by show(if _ then _ else _)=_;rw[if_neg h]),ih]
def xJ(p:Nat×List Str):aj:=.tuple [.int p.1,.list (p.2.map .str)]
def o7(text:Str)(i:Nat):List (Nat×List Str):=((cz text "\n").zipIdx.take i).filterMap λp=>if(wordsOf p.1).isEmpty then none else some (p.2,wordsOf p.1)
theorem vB{text row:Str}{i:Nat}(h:(cz text "\n")[i]?=some row):o7 text (i+1)=o7 text i++(if(wordsOf row).isEmpty then []else [(i,wordsOf row)]):=by
 unfold o7;rw[dm,ik,h];simp only[iY,sZ,qX,iu]
 congr 1
 cases e:(wordsOf row).isEmpty
 ·rw[c9 (b:=(i,wordsOf row)) (by simp only[e];rfl)];rfl
 ·rw[fX (by simp only[e];rfl)];rfl
theorem D3(text:Str):o7 text (cz text "\n").length=rowsOf text:=by
 unfold o7 rowsOf;rw[cM (by simp)]
theorem D4(text:Str)(i:Nat):(o7 text i).length<=i:=by
 unfold o7;exact b_ (oM _ _) (by rw[cj];omega)
theorem vC{x y:Str}(h:x.length<=100000):(cz x y).length<=100002:=by
 have e1:=Bp x y 0 x.length (x.length+1);unfold cz
 split
 ·show 1<=100002;omega
 ·split
  ·show 1<=100002;omega
  ·rw[vR];omega
section
variable{P:bo}{w:bX}{K:ai}{mg:Str->Option av}{base:cK}{f:aK}{k:Nat}
theorem TB:cH ["row"] ["row"] (bP (top 13)):=⟨rfl,rfl,rfl,by decide +kernel,rfl,by decide +kernel,by decide +kernel⟩
def ZX(ds es:List aj):Prop:=∃x:Str,ds=[.str x]/\uc x/\es=(wordsOf x).map .str
theorem Xh{fd:bS}(F:lg K "words_of" "words_of" (top 13) f fd):eU P w K mg base ky 1 f fd ["row"] (Bv K ZX):=
 DW F TB (λ_ _ h=>by obtain⟨_,rfl,_⟩:=h;rfl) λ_ _ h=>by
  obtain⟨x,rfl,ok,rfl⟩:=h;intro ix A outer s H E hr;have nc:(["word"]:List Str).Nodup:=by decide +kernel
  have hx:=ok.1;refine bf (ri (VO.to (fe (own:=["word"]) (cap:=[]) (N:=["word"]) (cl:=[]) (tgt:=.one 0) (F:=Fq) (ds:=(cz x " ").map aP) rfl ⟨rfl,by decide +kernel,by decide +kernel,rfl,rfl,by simp⟩ (iQ (VO.ve (qJ (ae 0 rfl) aO rfl (small (by omega))))) (λf s3 H3=>bM (i:=0) nc rfl (bj rfl)) rfl
   (small (by rw[ao];have:=vC (y:=" ") hx;omega)) (λd hd=>?_)) (Gv _)))
  obtain⟨p,hp,rfl⟩:=aG.mp hd;have Ny:=Ck ok hp;refine⟨_,rfl,λf s3 H3=>?_,λr jo f s3 H3=>?_⟩
  ·refine tX (VT.to (qD (k:=0) hr (bJ Ny.2) (bJ (x:="") (by decide +kernel)) (ae 0 rfl) aO) ?_)
   rw[bO]
   show(!decide (p=""))=(if decide (p≠"")=true then some (aP p)else none).isSome
   by_cases h:p=""
   ·subst h;rfl
   ·rw[if_pos (by simpa using h),decide_eq_false h];rfl
  ·have Qc:(if decide (p≠"")=true then some (aP p)else none)=some r:=jo
   split at Qc
   ·cases Qc;exact ae 0 rfl
   ·cases Qc
abbrev ZY:List Str:=["text","rows","number","row","words"]
theorem Nz:cH ZY ["text"] (bP (top 14)):=⟨rfl,rfl,rfl,by decide +kernel,rfl,by decide +kernel,by decide +kernel⟩
def ZZ(ds es:List aj):Prop:=∃x:Str,ds=[.str x]/\uc x/\es=(rowsOf x).map xJ
theorem Xi{fd:bS}(F:lg K "rows_of" "rows_of" (top 14) f fd)(n:Nw mg)(C:bE P w K mg base 1 "words_of" ["row"] (Bv K ZX)):eU P w K mg base ky 2 f fd ["text"] (Bv K ZZ):=
 DW F Nz (λ_ _ h=>by obtain⟨_,rfl,_⟩:=h;rfl) λ_ _ h=>by
  obtain⟨x,rfl,ok,rfl⟩:=h;intro ix A outer s H E hr;have nd:ZY.Nodup:=Nz.nd;have hx:=ok.1;have hc:=vC (y:="\n") hx;refine aL (kz 1 (fG aQ) nd) ?_
  refine aL (mP (tgt:=.tup [2,3]) (o:=.nx [.val (.str x),.own ((o7 x (cz x "\n").length).map xJ),.un,.un,.un]) c7 rfl (jD (ds:=(cz x "\n").map aP) (VO.ve (qJ (ae 0 rfl) aO rfl (small (by omega)))) n.Fb)
   (gf rfl (bU (bM (i:=2) nd rfl (bj rfl)) (bU (bM (i:=3) nd rfl (bj rfl)) eR))) (λi=>[.val (.str x),.own ((o7 x i).map xJ),.un,.un,.un]) (cz x "\n").length rfl (by rw[ck];simp) (λi d hi hd=>?_) (.inl ⟨by rw[ck];simp,rfl⟩)) ?_
  ·obtain⟨y,hy,rfl⟩:=fH hd
   obtain⟨row,u5⟩:∃row,(cz x "\n")[i]?=some row:=⟨(cz x "\n")[i],by simp[hi]⟩
   rw[aJ,u5]at hy;cases hy;have QZ:=Ck ok (bA u5);have hle:=D4 x i;refine⟨_,rfl,?_⟩
   refine aL (cC 4 (VO.ve (jV C hr (aq (ae 3 rfl) aQ) ⟨row,rfl,QZ,rfl⟩)) nd) ?_
   cases ew:(wordsOf row).isEmpty with
   |true=>
    refine jE (bf (b0 (VT.to (jy (ae 4 rfl) rfl) (by cases e:wordsOf row with|nil=>rfl|cons _ _=>rw[e]at ew;cases ew)) bL)) ⟨.inr rfl,.inr ?_,.inl rfl,.inl rfl,.inl rfl,trivial⟩
    rw[vB u5,ew,if_pos rfl,eI]
   |false=>
    refine jE (bf (dN (VT.to (jy (ae 4 rfl) rfl) (by cases e:wordsOf row with|nil=>rw[e]at ew;cases ew|cons _ _=>rfl)) (bf (iF 1 rfl (d:=xJ (i,wordsOf row)) (eV (aq (ae 2 rfl) (aq (ae 4 rfl) aQ))) (gN (by rw[ao];omega)))))) ⟨.inr rfl,.inr ?_,.inl rfl,.inl rfl,.inl rfl,trivial⟩
    rw[vB u5,ew,if_neg cu,aU];rfl
  ·rw[D3]
   exact bf (E9 1 rfl)
end
def iV(ns:List Int):aj:=.list (ns.map .int)
def cn(c k:Int):Int:=((c%2147483629+k*k*7919+11)*48271%2147483647)*((c%2147483629+k*k*7919+11)*48271%2147483647)%1999999973
theorem o8(c k:Int):0<=cn c k:=aZ _ (by decide)
theorem Fs(c k:Int):cn c k<1999999973:=bw _ (by decide)
abbrev ABC:Str:="abcdefghijklmnopqrstuvwxyz"
theorem Cm:(ABC:Str).cps.toList=(aW 26).map (97 + ·):=by decide +kernel
def Cp(i:Int):Str:=one (97+i.toNat)
theorem D5{i:Int}(h0:0<=i)(h1:i<26):oO (ABC:Str).cps.toList i=some (97+i.toNat):=by
 obtain⟨n,rfl⟩:=kL h0;refine bH (j:=n) ?_
 have hn:n<26:=by omega
 rw[Cm,aJ,gJ hn];rfl
def dB(x:Str):Prop:=1<=x.cps.toList.length/\x.cps.toList.length<=8/\∀c∈x.cps.toList,97<=c/\c<123
theorem L7{c:Nat}(h:97<=c/\c<123):c∈(ABC:Str).cps.toList:=by
 rw[Cm];exact aG.mpr ⟨c-97,cF.mpr (by omega),by omega⟩
theorem dB.is{x:Str}(h:dB x):isName x=true:=by
 obtain⟨h1,h2,h3⟩:=h;rw[cN]at h1 h2;have e:x.length=x.cps.size:=rfl;unfold isName nR;rw[decide_eq_true (by omega),decide_eq_true (by omega),jl,jl,d_]
 intro c hc;show Au (one c) ABC=true;have:Au (one c) ABC=decide (c∈(ABC:Str).cps.toList):=tJ ..;rw[this];exact decide_eq_true (L7 (h3 c hc))
theorem dB.ok{x:Str}(h:dB x):uc x:=by
 obtain⟨h1,h2,h3⟩:=h;rw[cN]at h1 h2;refine⟨by show x.cps.size<=_;omega,(mh x).mpr λc hc=>?_⟩
 have:=h3 c hc;omega
theorem Cq(x:Str):∀n,(jm x n).cps.toList=(a_ n x.cps.toList).flatten
 |0=>rfl
 |n+1=>by
  have e:(jm x (n+1)).cps.toList=x.cps.toList++(jm x n).cps.toList:=by
   show(x.cps++(jm x n).cps).toList=_
   simp
  rw[e,Cq x n];rfl
theorem AJ(c n:Nat):(jm (one c) n).cps.toList=a_ n c:=by
 rw[Cq]
 induction n with
 |zero=>rfl
 |succ n ih=>
  rw[dO,ft,ih];rfl
def nameA(m:Int)(many k:Nat):Str:=jm (Cp (m/3%26)) (many-k)
def stemOf(m:Int):Str:=jm (Cp (m/4992%26)) (1+m/78%8).toNat
def rV(m:Int)(k:Nat):Str:=lR (stemOf m) none (some (m/624%(1+m/78%8)))++Cp ((m/3+5*k)%26)++lR (stemOf m) (some (m/624%(1+m/78%8)+1)) none
def namesOf(cell:Int)(many:Nat):List Str:=if cn cell 3%3=0/\many<9 then(aW many).map (nameA (cn cell 3) many) else(aW many).map (rV (cn cell 3))
theorem fh(cell:Int)(many:Nat):(namesOf cell many).length=many:=by unfold namesOf;split<;>simp
theorem u6(m:Int):(stemOf m).cps.toList=a_ (1+m/78%8).toNat (97+(m/4992%26).toNat):=AJ _ _
theorem Jo(m:Int){many k:Nat}(h:k<many)(h9:many<9):dB (nameA m many k):=by
 have e:(nameA m many k).cps.toList=a_ (many-k) (97+(m/3%26).toNat):=AJ _ _;refine⟨by rw[e,dA];omega,by rw[e,dA];omega,λc hc=>?_⟩
 rw[e]at hc;have:=(iZ.mp hc).2;omega
theorem Jp(m:Int)(k:Nat):dB (rV m k):=by
 have hs:=u6 m;have hl:(stemOf m).cps.toList.length=(1+m/78%8).toNat:=by rw[hs,dA]
 have b1:0<=m/78%8:=aZ _ (by decide)
 have b2:m/78%8<8:=bw _ (by decide)
 have p1:0<=m/624%(1+m/78%8):=aZ _ (by omega)
 have p2:m/624%(1+m/78%8)<1+m/78%8:=bw _ (by omega)
 have e1:lR (stemOf m) none (some (m/624%(1+m/78%8)))=_:=BF (x:=stemOf m) ⟨p1,by rw[hl];omega⟩
 have e2:lR (stemOf m) (some (m/624%(1+m/78%8)+1)) none=_:=zR (x:=stemOf m) ⟨by omega,by rw[hl];omega⟩
 have e:(rV m k).cps.toList=(stemOf m).cps.toList.take (m/624%(1+m/78%8)).toNat ++ [97+((m/3+5*k)%26).toNat]++(stemOf m).cps.toList.drop (m/624%(1+m/78%8)+1).toNat:=by
  unfold rV;rw[e1,e2]
  show((_++_++_:Array Nat)).toList=_
  simp only[EG,kQ,Int.sub_zero,Cp,one];rw[cM (l:=List.drop _ _) (by rw[cG];omega)]
 have l1:(rV m k).cps.toList.length=(1+m/78%8).toNat:=by
  rw[e,a7,a7,cj,cG,hl];simp only[jt];omega
 refine⟨by rw[l1];omega,by rw[l1];omega,λc hc=>?_⟩
 rw[e,hs]at hc;have q1:0<=(m/3+5*k)%26:=aZ _ (by decide)
 have q2:(m/3+5*k)%26<26:=bw _ (by decide)
 have r1:0<=m/4992%26:=aZ _ (by decide)
 have r2:m/4992%26<26:=bw _ (by decide)
 rcases bZ.mp hc with hc|hc
 ·rcases bZ.mp hc with hc|hc
  ·have:=(iZ.mp (eC hc)).2
   omega
  ·have:=bh.mp hc
   omega
 ·have:=(iZ.mp (eE hc)).2
  omega
theorem gq{cell:Int}{many:Nat}{x:Str}(h:x∈namesOf cell many):dB x:=by
 unfold namesOf at h
 split at h
 ·rename_i hh
  obtain⟨k,hk,rfl⟩:=aG.mp h;exact Jo _ (cF.mp hk) hh.2
 ·obtain⟨k,hk,rfl⟩:=aG.mp h
  exact Jp _ _
abbrev Ng(mg:Str->Option av):Prop:=Nm mg
section
variable{P:bo}{w:bX}{K:ai}{mg:Str->Option av}{base:cK}{f:aK}{k:Nat}
def zu(ds:List aj)(d:aj):Prop:=∃(ns:List Int)(k:Nat),ds=[iV ns,.int k]/\d=.int (ns.getD k 0)
theorem L8:cH ["_law_script","_law_k"] ["_law_script","_law_k"] (bP (top 41)):=⟨rfl,rfl,rfl,by decide +kernel,rfl,by decide +kernel,by decide +kernel⟩
theorem Qd(m1:mg "len"=none){ds:List aj}{d:aj}(h:zu ds d):zl P w K mg base ["_law_script","_law_k"] "_law_cell_at" (top 41) f k ds (.rt d):=by
 obtain⟨ns,n,rfl,rfl⟩:=h;intro ix A outer s H E hr;by_cases hn:n<ns.length
 ·refine dH (dN (VT.to (B3 (ae 1 rfl) (jz (ae 0 rfl) m1)) (by simp only[ao];exact decide_eq_true (by omega))) (bf (cg (gY (ae 0 rfl) (ae 1 rfl) (bH ?_))))) rfl
  rw[aJ,ax,au hn];rfl
 ·refine aL (b0 (VT.to (B3 (ae 1 rfl) (jz (ae 0 rfl) m1)) (by simp only[ao];exact decide_eq_false (by omega))) bL) ?_
  have e:ns.getD n 0=0:=by rw[ax,eu (by omega)];rfl
  rw[e];exact bf (cg aA)
theorem Qe{fd:bS}(F:lg K "_law_cell_at" "_law_cell_at" (top 41) f fd)(m1:mg "len"=none):eU P w K mg base ky 1 f fd ["_law_script","_law_k"] (gW K zu):=jA F L8 (λ_ _ h=>by obtain⟨_,_,rfl,_⟩:=h;rfl) λ_ _ h=>Qd m1 h
def yM(ds:List aj)(d:aj):Prop:=∃(c k:Int),ds=[.int c,.int k]/\0<=k/\k<=1000/\d=.int (cn c k)
abbrev Qf:List Str:=["_law_cell","_law_k","_law_m"]
theorem Jq:cH Qf ["_law_cell","_law_k"] (bP (top 42)):=⟨rfl,rfl,rfl,by decide +kernel,rfl,by decide +kernel,by decide +kernel⟩
theorem TF{ds:List aj}{d:aj}(h:yM ds d):zl P w K mg base Qf "_law_mix" (top 42) f k ds (.rt d):=by
 obtain⟨c,n,rfl,h0,h1,rfl⟩:=h;intro ix A outer s H E hr;have nd:Qf.Nodup:=Jq.nd;have q1:0<=(c%2147483629+n*n*7919+11)*48271%2147483647:=aZ _ (by decide)
 have q2:(c%2147483629+n*n*7919+11)*48271%2147483647<2147483647:=bw _ (by decide)
 refine aL (cC 2 (cv (nO (cI (cI (cv (ae 0 rfl) aA (by decide)) (nO (nO (ae 1 rfl) (ae 1 rfl) (.inl ⟨by omega,by omega⟩)) aA (.inr ⟨by decide,by decide⟩))) aA) aA (.inr ⟨by decide,by decide⟩)) aA (by decide)) nd) ?_
 exact bf (cg (cv (nO (ae 2 rfl) (ae 2 rfl) (.inl ⟨by omega,by omega⟩)) aA (by decide)))
theorem TH{fd:bS}(F:lg K "_law_mix" "_law_mix" (top 42) f fd):eU P w K mg base ky 1 f fd ["_law_cell","_law_k"] (gW K yM):=jA F Jq (λ_ _ h=>by obtain⟨_,_,rfl,_⟩:=h;rfl) λ_ _ h=>TF h
abbrev Z0:List Str:=["_law_cell","_law_many","_law_letters","_law_m","_law_size","_law_place","_law_stem"]
theorem NB:cH Z0 ["_law_cell","_law_many"] (bP (top 43)):=⟨rfl,rfl,rfl,by decide +kernel,rfl,by decide +kernel,by decide +kernel⟩
def U5(ds es:List aj):Prop:=∃(c:Int)(many:Nat),ds=[.int c,.int many]/\many<=60/\es=(namesOf c many).map .str
def FA(m:Int)(many:Nat):aj->Option aj
 | .int k=>some (.str (nameA m many k.toNat))
 |_=>none
def FB(m:Int):aj->Option aj
 | .int k=>some (.str (rV m k.toNat))
 |_=>none
theorem Qg(m:Int)(many:Nat):(jL many).filterMap (FA m many)=((aW many).map (nameA m many)).map .str:=by
 unfold jL;rw[cL,aS];exact filterMap_some λk _=>by show some _=some _;rw[fw];rfl
theorem Qh(m:Int)(many:Nat):(jL many).filterMap (FB m)=((aW many).map (rV m)).map .str:=by
 unfold jL;rw[cL,aS];exact filterMap_some λk _=>by show some _=some _;rw[fw];rfl
theorem u9:(ABC:Str).length<=sizeLine:=small (by decide +kernel)
theorem Xj{fd:bS}(F:lg K "_law_names" "_law_names" (top 43) f fd)(n:Ng mg)(C:bE P w K mg base 1 "_law_mix" ["_law_cell","_law_k"] (gW K yM)):eU P w K mg base ky 2 f fd ["_law_cell","_law_many"] (Bv K U5):=
 DW F NB (λ_ _ h=>by obtain⟨_,_,rfl,_⟩:=h;rfl) λ_ _ h=>by
  obtain⟨c,many,rfl,hm,rfl⟩:=h;intro ix A outer s H E hr;have nd:Z0.Nodup:=NB.nd;have nk:(["_law_k","_law_many","_law_letters","_law_m"]:List Str).Nodup:=by decide +kernel
  have lo:=o8 c 3;refine aL (cC 2 aO nd) ?_
  refine aL (cC 3 (d:=.int (cn c 3)) (bC C hr (aq (ae 0 rfl) (aq aA aQ)) ⟨c,3,rfl,by decide,by decide,rfl⟩) nd) ?_
  by_cases hh:cn c 3%3=0/\many<9
  ·have e:namesOf c many=(aW many).map (nameA (cn c 3) many):=by unfold namesOf;rw[if_pos hh]
   rw[e];refine dH (dN (VT.to (sA (bQ (k:=1) (hr.mono (by omega)) (cx 20 _) (cx 20 _) (cv (ae 3 rfl) aA (by decide)) aA) (λ_=>B3 (ae 1 rfl) aA)) ?_) (bf (ri (VO.to (fe (own:=["_law_k"]) (cap:=[1,2,3]) (N:=["_law_k","_law_many","_law_letters","_law_m"]) (tgt:=.one 0) (F:=FA (cn c 3) many) (ds:=jL many) rfl ⟨rfl,by decide +kernel,by decide +kernel,rfl,rfl,?_⟩ (tW (n:=(many:Int)) (ae 1 rfl) n.rng (by omega) (by omega)) (λf s3 H3=>bM (i:=0) nk rfl (bj rfl)) rfl
    (small (by rw[nQ];omega)) (λd hd=>?_)) (Qg _ _))))) rfl
   ·rw[jW,decide_eq_true hh.1,decide_eq_true (by omega)];rfl
   ·intro j hj
    rcases aI.mp hj with rfl|hj
    ·exact⟨(by show(1:Nat)<7;decide),bj rfl,rfl⟩
    ·rcases aI.mp hj with rfl|hj
     ·exact⟨(by show(2:Nat)<7;decide),bj rfl,rfl⟩
     ·rcases aI.mp hj with rfl|hj
      ·exact⟨(by show(3:Nat)<7;decide),bj rfl,rfl⟩
      ·cases hj
   ·obtain⟨i,hi,rfl⟩:=aG.mp hd
    have hi:=cF.mp hi;refine⟨_,rfl,λf s3 H3=>fA,λr jo f s3 H3=>?_⟩
    cases jo;refine VE.to (Fe (As (ae 2 rfl) (cv (eP (ae 3 rfl) aA ⟨by decide,by decide⟩) aA (by decide)) u9 (D5 (aZ _ (by decide)) (bw _ (by decide)))) (Im (ae 1 rfl) (ae 0 rfl)) (by omega) (by omega) (by show 1<=1000;decide)) ?_
    unfold nameA;have e:((many:Int)-(i:Int)).toNat=many-((i:Nat):Int).toNat:=by omega
    rw[e];rfl
  ·have e:namesOf c many=(aW many).map (rV (cn c 3)):=by unfold namesOf;rw[if_neg hh]
   rw[e];have nk2:(["_law_k","_law_letters","_law_m","_law_place","_law_stem"]:List Str).Nodup:=by decide +kernel
   have b1:0<=cn c 3/78%8:=aZ _ (by decide)
   have b2:cn c 3/78%8<8:=bw _ (by decide)
   have p1:0<=cn c 3/624%(1+cn c 3/78%8):=aZ _ (by omega)
   have p2:cn c 3/624%(1+cn c 3/78%8)<1+cn c 3/78%8:=bw _ (by omega)
   have sl:(stemOf (cn c 3)).length<=8:=by
    show(stemOf (cn c 3)).cps.size<=8
    rw[<-cN,u6,dA];omega
   refine aL (b0 (VT.to (sA (bQ (k:=1) (hr.mono (by omega)) (cx 20 _) (cx 20 _) (cv (ae 3 rfl) aA (by decide)) aA) (λ_=>B3 (ae 1 rfl) aA)) ?_) bL) ?_
   ·rw[jW]
    by_cases h0:cn c 3%3=0
    ·rw[decide_eq_true h0,jl]
     exact decide_eq_false λz=>hh ⟨h0,by omega⟩
    ·rw[decide_eq_false h0];rfl
   refine aL (cC 4 (cI aA (cv (eP (ae 3 rfl) aA ⟨by decide,by decide⟩) aA (by decide))) nd) ?_
   refine aL (cC 5 (cv (eP (ae 3 rfl) aA ⟨by decide,by decide⟩) (ae 4 rfl) (by omega)) nd) ?_
   refine aL (cC 6 (d:=.str (stemOf (cn c 3))) (Fe (As (ae 2 rfl) (cv (eP (ae 3 rfl) aA ⟨by decide,by decide⟩) aA (by decide)) u9 (D5 (aZ _ (by decide)) (bw _ (by decide)))) (ae 4 rfl) (by omega) (by omega) (by show 1<=1000;decide)) nd) ?_
   refine bf (ri (VO.to (fe (own:=["_law_k"]) (cap:=[2,3,5,6]) (N:=["_law_k","_law_letters","_law_m","_law_place","_law_stem"]) (tgt:=.one 0) (F:=FB (cn c 3)) (ds:=jL many) rfl ⟨rfl,by decide +kernel,by decide +kernel,rfl,rfl,?_⟩ (tW (n:=(many:Int)) (ae 1 rfl) n.rng (by omega) (by omega)) (λf s3 H3=>bM (i:=0) nk2 rfl (bj rfl)) rfl
    (small (by rw[nQ];omega)) (λd hd=>?_)) (Qh _ _)))
   ·intro j hj
    rcases aI.mp hj with rfl|hj
    ·exact⟨(by show(2:Nat)<7;decide),bj rfl,rfl⟩
    ·rcases aI.mp hj with rfl|hj
     ·exact⟨(by show(3:Nat)<7;decide),bj rfl,rfl⟩
     ·rcases aI.mp hj with rfl|hj
      ·exact⟨(by show(5:Nat)<7;decide),bj rfl,rfl⟩
      ·rcases aI.mp hj with rfl|hj
       ·exact⟨(by show(6:Nat)<7;decide),bj rfl,rfl⟩
       ·cases hj
   ·obtain⟨i,hi,rfl⟩:=aG.mp hd
    have hi:=cF.mp hi;refine⟨_,rfl,λf s3 H3=>fA,λr jo f s3 H3=>?_⟩
    cases jo;have l1:=Du (stemOf (cn c 3)) none (some (cn c 3/624%(1+cn c 3/78%8)));have l2:=Du (stemOf (cn c 3)) (some (cn c 3/624%(1+cn c 3/78%8)+1)) none;have l3:(Cp ((cn c 3/3+5*(i:Int))%26)).length=1:=rfl;refine VE.to (iy (iy (zr (ae 4 rfl) (small (by omega)) .no (.yes (ae 3 rfl))) (As (ae 1 rfl) (cv (cI (eP (ae 2 rfl) aA ⟨by decide,by decide⟩) (nO aA (ae 0 rfl) (.inl ⟨by decide,by decide⟩))) aA (by decide)) u9 (D5 (aZ _ (by decide)) (bw _ (by decide)))) (small ?_)) (zr (ae 4 rfl) (small (by omega)) (.yes (cI (ae 3 rfl) aA)) .no) (small ?_)) ?_
    ·show _+(Cp ((cn c 3/3+5*(i:Int))%26)).length<=_
     omega
    ·rw[cw]
     show _+(Cp ((cn c 3/3+5*(i:Int))%26)).length+_<=_;omega
    ·rfl
end
inductive Rl where
 |meet
 |gather (most age:Int)
 |many (most:Int)
 |rank (bound:Option Int)
 |turns (shares:List Int)
 |eldest
def mj:Option Int->aj
 |none=>.none
 |some i=>.int i
def mV:Rl->Str
 | .meet=>"meet"
 | .gather _ _=>"gather"
 | .many _=>"many"
 | .rank _=>"rank"
 | .turns _=>"turns"
 | .eldest=>"eldest"
def p9:Rl->List aj
 | .meet=>[]
 | .gather m a=>[.int m,.int a]
 | .many m=>[.int m]
 | .rank b=>[mj b]
 | .turns s=>[.tuple (s.map .int)]
 | .eldest=>[]
def Dp(r:Rl):aj:=.tuple (.str (mV r)::p9 r)
def AK(rest:Int)(k:Nat):Int:=1+rest/((k:Int)*k+1)%3
def iG(m:Int)(many:Nat):Rl:=
 if m%6=5/\1<many then .meet
 else if m%6=4 then .gather (1+m/6%4) (m/6/4%9)
 else if m%6=3 then .many (1+m/6%4)
 else if m%6=2 then .rank (if m/6%2=0 then none else some (m/6/2%9))
 else if m%6=1 then .turns ((aW many).map (AK (m/6)))
 else .eldest
def cq:Rl->Nat->Int
 | .many m,_=>m
 | .gather m _,_=>m
 | .meet,n=>n
 |_,_=>1
section
variable{P:bo}{w:bX}{K:ai}{mg:Str->Option av}{base:cK}{f:aK}{k:Nat}
abbrev Z1:List Str:=["_law_m","_law_many","_law_rest"]
theorem NC:cH Z1 ["_law_m","_law_many"] (bP (top 44)):=⟨rfl,rfl,rfl,by decide +kernel,rfl,by decide +kernel,by decide +kernel⟩
def Xk(ds:List aj)(d:aj):Prop:=∃(m:Int)(many:Nat),ds=[.int m,.int many]/\0<=m/\m<1999999973/\many<=60/\d=Dp (iG m many)
def Jr(rest:Int):aj->Option aj
 | .int k=>some (.int (1+rest/(k*k+1)%3))
 |_=>none
theorem D6(rest:Int)(many:Nat):(jL many).filterMap (Jr rest)=((aW many).map (AK rest)).map .int:=by
 unfold jL;rw[cL,aS];exact filterMap_some λk _=>rfl
theorem Xl{fd:bS}(F:lg K "_law_rule" "_law_rule" (top 44) f fd)(n:Ng mg):eU P w K mg base ky 1 f fd ["_law_m","_law_many"] (gW K Xk):=
 jA F NC (λ_ _ h=>by obtain⟨_,_,rfl,_⟩:=h;rfl) λ_ _ h=>by
  obtain⟨m,many,rfl,h0,h1,hm,rfl⟩:=h;intro ix A outer s H E hr;have nd:Z1.Nodup:=NC.nd;have nk:(["_law_k","_law_rest"]:List Str).Nodup:=by decide +kernel
  have r0:0<=m/6:=Int.ediv_nonneg h0 (by decide)
  have r1:m/6<1999999973:=by omega
  refine aL (cC 2 (eP (ae 0 rfl) aA ⟨by decide,by decide⟩) nd) ?_
  have ev:∀j:Int,du (.int (m%6)) (.int j)=decide (m%6=j):=λj=>jW _ _
  unfold iG;by_cases c5:m%6=5/\1<many
  ·rw[if_pos c5]
   refine dH (dN (VT.to (sA (bQ hr (cx 20 _) (cx 20 _) (cv (ae 0 rfl) aA (by decide)) aA) (λ_=>xl (ae 1 rfl) aA)) ?_) (bf (cg (VE.to (eV (aq aO aQ)) rfl)))) rfl
   rw[ev,decide_eq_true c5.1,decide_eq_true (by omega)];rfl
  rw[if_neg c5];refine aL (b0 (VT.to (sA (bQ hr (cx 20 _) (cx 20 _) (cv (ae 0 rfl) aA (by decide)) aA) (λ_=>xl (ae 1 rfl) aA)) ?_) bL) ?_
  ·rw[ev]
   by_cases h5:m%6=5
   ·rw[decide_eq_true h5,jl]
    exact decide_eq_false λz=>c5 ⟨h5,by omega⟩
   ·rw[decide_eq_false h5];rfl
  by_cases c4:m%6=4
  ·rw[if_pos c4]
   refine dH (dN (VT.to (bQ hr (cx 20 _) (cx 20 _) (cv (ae 0 rfl) aA (by decide)) aA) (by rw[ev,decide_eq_true c4])) (bf (cg (VE.to (eV (aq aO (aq (cI aA (cv (ae 2 rfl) aA (by decide))) (aq (cv (eP (ae 2 rfl) aA ⟨by decide,by decide⟩) aA (by decide)) aQ)))) rfl)))) rfl
  rw[if_neg c4];refine aL (b0 (VT.to (bQ hr (cx 20 _) (cx 20 _) (cv (ae 0 rfl) aA (by decide)) aA) (by rw[ev,decide_eq_false c4])) bL) ?_
  by_cases c3:m%6=3
  ·rw[if_pos c3]
   refine dH (dN (VT.to (bQ hr (cx 20 _) (cx 20 _) (cv (ae 0 rfl) aA (by decide)) aA) (by rw[ev,decide_eq_true c3])) (bf (cg (VE.to (eV (aq aO (aq (cI aA (cv (ae 2 rfl) aA (by decide))) aQ))) rfl)))) rfl
  rw[if_neg c3];refine aL (b0 (VT.to (bQ hr (cx 20 _) (cx 20 _) (cv (ae 0 rfl) aA (by decide)) aA) (by rw[ev,decide_eq_false c3])) bL) ?_
  by_cases c2:m%6=2
  ·rw[if_pos c2]
   refine dH (dN (VT.to (bQ hr (cx 20 _) (cx 20 _) (cv (ae 0 rfl) aA (by decide)) aA) (by rw[ev,decide_eq_true c2])) (bf (cg (VE.to (eV (aq aO (aq (gY (d:=mj (if m/6%2=0 then none else some (m/6/2%9))) (VO.ve (fG (aq gk (aq (cv (eP (ae 2 rfl) aA ⟨by decide,by decide⟩) aA (by decide)) aQ)))) (cv (ae 2 rfl) aA (by decide)) ?_) aQ))) rfl)))) rfl
   rcases Int.emod_two_eq (m/6)with e|e
   ·rw[e,if_pos rfl];rfl
   ·rw[e,if_neg (by decide)];rfl
  rw[if_neg c2];refine aL (b0 (VT.to (bQ hr (cx 20 _) (cx 20 _) (cv (ae 0 rfl) aA (by decide)) aA) (by rw[ev,decide_eq_false c2])) bL) ?_
  by_cases c1:m%6=1
  ·rw[if_pos c1]
   refine dH (dN (VT.to (bQ hr (cx 20 _) (cx 20 _) (cv (ae 0 rfl) aA (by decide)) aA) (by rw[ev,decide_eq_true c1])) (bf (cg (VE.to (eV (aq aO (aq (ja jP tV (aq (VO.ve (VO.to (fe (own:=["_law_k"]) (cap:=[2]) (N:=["_law_k","_law_rest"]) (tgt:=.one 0) (F:=Jr (m/6)) (ds:=jL many) rfl ⟨rfl,by decide +kernel,by decide +kernel,rfl,rfl,?_⟩ (tW (n:=(many:Int)) (ae 1 rfl) n.rng (by omega) (by omega)) (λf s3 H3=>bM (i:=0) nk rfl (bj rfl)) rfl
    (small (by rw[nQ];omega)) (λd hd=>?_)) (D6 _ _))) aQ) n.tup rfl) aQ))) rfl)))) rfl
   ·intro j hj
    rcases aI.mp hj with rfl|hj
    ·exact⟨(by show(2:Nat)<3;decide),bj rfl,rfl⟩
    ·cases hj
   ·obtain⟨i,hi,rfl⟩:=aG.mp hd
    have hi:=cF.mp hi;have hii:(0:Int)<=(i:Int)*i:=Int.mul_nonneg (by omega) (by omega)
    have zcz:(i:Int)*i<=60*60:=Int.mul_le_mul (by omega) (by omega) (by omega) (by omega)
    refine⟨_,rfl,λf s3 H3=>fA,λr jo f s3 H3=>?_⟩
    cases jo;exact cI aA (cv (eP (ae 1 rfl) (cI (nO (ae 0 rfl) (ae 0 rfl) (.inl ⟨by omega,by omega⟩)) aA) ⟨by omega,by omega⟩) aA (by decide))
  rw[if_neg c1];refine aL (b0 (VT.to (bQ hr (cx 20 _) (cx 20 _) (cv (ae 0 rfl) aA (by decide)) aA) (by rw[ev,decide_eq_false c1])) bL) ?_
  exact bf (cg (VE.to (eV (aq aO aQ)) rfl))
theorem TJ:cH ["_law_rule_here","_law_many"] ["_law_rule_here","_law_many"] (bP (top 45)):=⟨rfl,rfl,rfl,by decide +kernel,rfl,by decide +kernel,by decide +kernel⟩
def Q0(ds:List aj)(d:aj):Prop:=∃(r:Rl)(many:Nat),ds=[Dp r,.int many]/\d=.int (cq r many)
theorem Xm{fd:bS}(F:lg K "_law_greatest" "_law_greatest" (top 45) f fd):eU P w K mg base ky 1 f fd ["_law_rule_here","_law_many"] (gW K Q0):=
 jA F TJ (λ_ _ h=>by obtain⟨_,_,rfl,_⟩:=h;rfl) λ_ _ h=>by
  obtain⟨r,many,rfl,rfl⟩:=h;unfold Dp;intro ix A outer s H E hr;have hl:(p9 r).length<=2:=by cases r<;>simp[p9]
  have x1:∃x,(aP (mV r)::p9 r ++ [.int 0])[1]?=some x/\((gE [(("many":Str),x),("gather",x),("meet",.int many)] (mV r)).getD (.int 1))=.int (cq r many):=by
   cases r<;>exact⟨_,rfl,rfl⟩
  obtain⟨x,hx,hv⟩:=x1;have hn3:([(("many":Str),x),("gather",x),("meet",fj many)].map (·.1)).Nodup:=(show([("many":Str),"gather","meet"]).Nodup by decide +kernel)
  have Z2:oO (aP (mV r)::p9 r ++ [.int 0]) 1=some x:=bH (j:=1) hx;have hx0:oO (aP (mV r)::p9 r) 0=some (.str (mV r)):=bH (j:=0) rfl;have hz:(aP (mV r)::p9 r).length + [fj 0].length<=sizeLine:=small (by simp only[bD,cB];omega)
  have Ao:(aP (mV r)::p9 r)≠[]:=by simp
  generalize p9 r=ra at *
  generalize mV r=oU at *
  refine bf (cg (VE.to (IY hr (Aw (kvs:=[(("many":Str),x),("gather",x),("meet",.int many)]) (.cons aO ?_ (.cons aO ?_ (.cons aO (ae 1 rfl) .nil))) hn3 (by simp) (by show 3<=15;decide)) (x:=oU) ?_ (d:=.int 1) aA) hv))
  ·exact bW (wz (d1:=.str oU::ra) (d2:=[.int 0]) (ae 0 rfl) (eV (aq aA aQ)) Ao hz) aA Z2
  ·exact bW (wz (d1:=.str oU::ra) (d2:=[.int 0]) (ae 0 rfl) (eV (aq aA aQ)) Ao hz) aA Z2
  ·exact bW (ds:=.str oU::ra) (ae 0 rfl) aA hx0
end
structure Dk where
 name:Str
 to:Str
 rule:Rl
 places:List Str
def dz(l:List Str):aj:=.list (l.map .str)
def df(d:Dk):aj:=.tuple [.str d.name,.str d.to,Dp d.rule,.tuple (d.places.map .str)]
def fy(cell:Int)(nn k:Nat):Nat:=if k<nn then k else(cn cell (40+k)%nn).toNat
def xK(cell:Int)(k len:Nat):Nat:=(cn cell (60+k)%(len+1)).toNat
def dM(cell:Int)(nn:Nat)(places:List Str):Nat->List (List Str)
 |0=>a_ nn []
 |k+1=>(dM cell nn places k).set (fy cell nn k) (nq ((dM cell nn places k).getD (fy cell nn k) []) (xK cell k ((dM cell nn places k).getD (fy cell nn k) []).length) (places.getD k ""))
def D7(cell:Int)(lines:List Str)(k:Nat):Str:=(lines ++ [("":Str)]).getD (cn cell (80+k)%(lines.length+1)).toNat ""
def xN(cell:Int)(names lines:List Str)(taken:List (List Str))(k:Nat):Dk:=⟨names.getD k "",D7 cell lines k,iG (cn cell (90+k)) (taken.getD k []).length,taken.getD k []⟩
def j_(cell:Int)(n:Nat):Nat:=(1+cn cell 32%(if(n:Int)<4 then(n:Int)else 4)).toNat
def bN(cell:Int)(places lines:List Str):List Dk:=(aW (j_ cell places.length)).map (xN cell (namesOf (cn cell 31) (j_ cell places.length)) lines (dM cell (j_ cell places.length) places places.length))
theorem gO(cell:Int)(nn:Nat)(places:List Str):∀k,(dM cell nn places k).length=nn
 |0=>by simp[dM]
 |k+1=>by rw[dM,yq,gO cell nn places k]
theorem lG(cell:Int){n:Nat}(h:1<=n):1<=j_ cell n/\j_ cell n<=4/\j_ cell n<=n:=by
 unfold j_
 split
 ·rename_i hn
  have a1:0<=cn cell 32%(n:Int):=aZ _ (by omega)
  have a2:cn cell 32%(n:Int)<n:=bw _ (by omega)
  omega
 ·have a1:0<=cn cell 32%4:=aZ _ (by omega)
  have a2:cn cell 32%4<4:=bw _ (by omega)
  omega
theorem zx(cell:Int){nn:Nat}(h:1<=nn)(k:Nat):fy cell nn k<nn:=by
 unfold fy
 split
 ·assumption
 ·have a1:0<=cn cell (40+k)%(nn:Int):=aZ _ (by omega)
  have a2:cn cell (40+k)%(nn:Int)<nn:=bw _ (by omega)
  omega
theorem Js(cell:Int)(k len:Nat):xK cell k len<=len:=by
 unfold xK;have a1:0<=cn cell (60+k)%((len:Int)+1):=aZ _ (by omega)
 have a2:cn cell (60+k)%((len:Int)+1)<(len:Int)+1:=bw _ (by omega)
 omega
theorem vD{α:Type}(l:List α)(i:Nat)(y:α):(nq l i y).length=l.length+1:=by
 unfold nq;rw[a7,bD,cj,cG];omega
theorem Jt{α:Type}{l:List α}{i:Nat}{x y:α}(h:x∈nq l i y):x∈l\/x=y:=by
 unfold nq at h;rcases bZ.mp h with h|h
 ·exact .inl (eC h)
 ·rcases aI.mp h with h|h
  ·exact .inr h
  ·exact .inl (eE h)
theorem rn(cell:Int)(nn:Nat)(places:List Str):∀k,∀row∈dM cell nn places k,row.length<=k/\(k<=places.length->∀x∈row,x∈places)
 |0,row,h=>by
  obtain⟨_,rfl⟩:=iZ.mp h;exact⟨aD _,λ_ x hx=>by cases hx⟩
 |k+1,row,h=>by
  have ih:=rn cell nn places k;rcases List.mem_or_eq_of_mem_set (show row∈List.set _ _ _ from h)with h|h
  ·exact⟨Nat.le_succ_of_le (ih row h).1,λhk=>(ih row h).2 (by omega)⟩
  ·have hg:(dM cell nn places k).getD (fy cell nn k) []=[]\/(dM cell nn places k).getD (fy cell nn k) []∈dM cell nn places k:=by
    rw[ax];cases e:(dM cell nn places k)[fy cell nn k]? with
    |none=>exact .inl rfl
    |some r=>exact .inr (bA e)
   generalize(dM cell nn places k).getD (fy cell nn k) []=g at *
   subst h;have hgl:g.length<=k/\(k<=places.length->∀x∈g,x∈places):=by
    rcases hg with rfl|hg
    ·exact⟨bx _,λ_ x hx=>by cases hx⟩
    ·exact ih g hg
   refine⟨by rw[vD];omega,λhk x hx=>?_⟩
   rcases Jt hx with hx|rfl
   ·exact hgl.2 (by omega) x hx
   ·rw[ax,au (by omega)]
    exact dG _
theorem AO(cell:Int)(lines:List Str)(k:Nat):oO ((lines ++ [("":Str)]).map aP) (cn cell (80+k)%((lines.length:Int)+1))=some (.str (D7 cell lines k))/\D7 cell lines k∈lines ++ [("":Str)]:=by
 have a1:0<=cn cell (80+k)%((lines.length:Int)+1):=aZ _ (by omega)
 have a2:cn cell (80+k)%((lines.length:Int)+1)<(lines.length:Int)+1:=bw _ (by omega)
 unfold D7
 generalize cn cell (80+k)%((lines.length:Int)+1)=j at *
 obtain⟨i,rfl⟩:=kL a1;have hi:i<(lines ++ [("":Str)]).length:=by simp;omega
 have e:(lines ++ [("":Str)]).getD ((i:Int)).toNat ""=(lines ++ [("":Str)])[i]:=by
  rw[fw,ax,au hi];rfl
 rw[e];exact⟨bH (by rw[aJ,au hi];rfl),dG hi⟩
section
variable{P:bo}{w:bX}{K:ai}{mg:Str->Option av}{base:cK}{f:aK}{k:Nat}
abbrev Z3:List Str:=["_law_cell","_law_places","_law_lines","_law_names_here","_law_taken","_law_k","_law_place","_law_at","_law_desks_here","_law_name","_law_to"]
theorem NF:cH Z3 ["_law_cell","_law_places","_law_lines"] (bP (top 46)):=⟨rfl,rfl,rfl,by decide +kernel,rfl,by decide +kernel,by decide +kernel⟩
def Z4(ds es:List aj):Prop:=∃(cell:Int)(places lines:List Str),ds=[.int cell,dz places,dz lines]/\1<=places.length/\places.length<=12/\lines.length<=12/\es=(bN cell places lines).map df
theorem Xn{fd:bS}(F:lg K "_law_desks" "_law_desks" (top 46) f fd)(n:Ng mg)(C1:bE P w K mg base 1 "_law_mix" ["_law_cell","_law_k"] (gW K yM))(C2:bE P w K mg base 2 "_law_names" ["_law_cell","_law_many"] (Bv K U5))(C3:bE P w K mg base 1 "_law_rule" ["_law_m","_law_many"] (gW K Xk)):eU P w K mg base ky 3 f fd ["_law_cell","_law_places","_law_lines"] (Bv K Z4):=
 DW F NF (λ_ _ h=>by obtain⟨_,_,_,rfl,_⟩:=h;rfl) λ_ _ h=>by
  obtain⟨cell,places,lines,rfl,h1,h12,Gw,rfl⟩:=h;intro ix A outer s H E hr;have nd:Z3.Nodup:=NF.nd;have nc:(["_law_name"]:List Str).Nodup:=by decide +kernel
  have kF:fc 1 _:=hr.mono (by omega)
  obtain⟨nn1,nn4,nnp⟩:=lG cell h1;unfold bN;have enn:((j_ cell places.length:Nat):Int)=1+cn cell 32%(if(places.length:Int)<4 then(places.length:Int)else 4):=by
   unfold j_;have a1:0<=cn cell 32%(if(places.length:Int)<4 then(places.length:Int)else 4):=aZ _ (by split<;>omega)
   omega
  generalize j_ cell places.length=nn at *
  have nl:=fh (cn cell 31) nn
  generalize hnm:namesOf (cn cell 31) nn=names at *
  refine aL (cC 3 (d:=dz names) (VO.ve (jV C2 hr (aq (bC C1 kF (aq (ae 0 rfl) (aq aA aQ)) ⟨cell,31,rfl,by decide,by decide,rfl⟩) (aq (VE.to (k:=.int nn) (cI aA (cv (bC C1 kF (aq (ae 0 rfl) (aq aA aQ)) ⟨cell,32,rfl,by decide,by decide,rfl⟩) (iU (FV rfl) (PZ 4 (places.length:Int)) (aq aA (aq (VE.to (jz (ae 1 rfl) n.len) (by simp)) aQ)) n.min rfl) (by split<;>omega))) (by rw[enn])) aQ)) ⟨cn cell 31,nn,rfl,by omega,by rw[hnm]⟩)) nd) ?_
  refine xu λB0 B σ H0 Hh D fr ok=>?_
  refine dE (Lj 4 (ds:=names.map aP) (own:=["_law_name"]) (cap:=[]) (N:=["_law_name"]) (cl:=[]) (tgt:=.one 0) fr rfl rfl ⟨rfl,by decide +kernel,by decide +kernel,rfl,rfl,by simp⟩ (iQ (ae 3 rfl)) (λf s3 H3=>bM (i:=0) nc rfl (bj rfl)) rfl (small (by rw[ao];omega)) (λd hd=>⟨_,rfl⟩) nd (λσ1 a ps H1 dU G=>?_) (λa=>rfl))
  refine dE (S3 (tgt:=.tup [5,6]) (ds:=mO (places.map .str)) G c7 rfl (jD (ds:=places.map .str) (ae 1 rfl) n.Fb)
   (gf rfl (bU (bM (i:=5) nd rfl (bj rfl)) (bU (bM (i:=6) nd rfl (bj rfl)) eR))) (λi=>(dM cell nn places i).map λr=>r.map aP) ?_ (λi d hd=>?_) (λσ2 Ha Hb G2=>?_))
  ·show(a_ nn []).map _=_
   rw[List.map_replicate,ao,nl];rfl
  ·obtain⟨x,hx,rfl⟩:=fH hd
   obtain⟨hip,rfl⟩:i<places.length/\x=.str (places.getD i ""):=by
    rw[aJ]at hx;cases e:places[i]? with
    |none=>rw[e]at hx;cases hx
    |some p=>
     rw[e]at hx;cases hx;exact⟨(aM.mp e).1,by rw[ax,e];rfl⟩
   refine⟨[.val (.int cell),.val (dz places),.val (dz lines),.val (dz names),.ref a,.val (.int i),.val (.str (places.getD i "")),.un,.un,.un,.un],rfl,rfl,λD C0 σ' ef H' G q=>?_⟩
   have hR:=gO cell nn places i;have hj:=zx cell nn1 i;have qy:ps.length=nn:=G.len.trans (by simp[hR])
   obtain⟨p,hp⟩:∃p,ps[fy cell nn i]?=some p:=⟨ps[fy cell nn i]'(by omega),au _⟩
   have u5:(dM cell nn places i)[fy cell nn i]?=some ((dM cell nn places i).getD (fy cell nn i) []):=by
    rw[ax,au (by omega)];rfl
   have xh:=bA u5;have hlen:=(rn cell nn places i _ xh).1;have egs:((dM cell nn places (i+1)).map λr=>r.map aP)=((dM cell nn places i).map λr=>r.map aP).set (fy cell nn i) (nq (((dM cell nn places i).getD (fy cell nn i) []).map aP) (xK cell i ((dM cell nn places i).getD (fy cell nn i) []).length) (.str (places.getD i ""))):=by
    show(List.set _ _ _).map _=_
    rw[List.map_set]
    congr 1
    unfold nq;rw[aU,aH,Bt,oN]
   have Z5:((dM cell nn places i).map λr=>r.map aP)[fy cell nn i]?=some (((dM cell nn places i).getD (fy cell nn i) []).map aP):=by
    rw[aJ,u5];rfl
   rw[egs]at q
   generalize(dM cell nn places i).getD (fy cell nn i) []=row at *
   refine dE (Iv G (cC 7 (ae 5 rfl) nd) rfl λσ1 Ha Hb G1=>?_)
   refine dE (Iv G1 (Nc (o:=.nx [.val (.int cell),.val (dz places),.val (dz lines),.val (dz names),.ref a,.val (.int i),.val (.str (places.getD i "")),.val (.int (fy cell nn i)),.un,.un,.un]) (Nb (ae 5 rfl) (jz (ae 3 rfl) n.len)) (λhk=>?_) (λhk=>?_)) rfl λσ2 Hc Hd G2=>?_)
   ·have hk:¬i<nn:=by
     have:=of_decide_eq_true hk;rw[ao,nl]at this;omega
    have e:((fy cell nn i:Nat):Int)=cn cell (40+i)%(nn:Int):=by
     unfold fy;rw[if_neg hk];have a1:0<=cn cell (40+i)%(nn:Int):=aZ _ (by omega)
     omega
    rw[e];exact bf (cC 7 (cv (bC C1 kF (aq (ae 0 rfl) (aq (cI aA (ae 5 rfl)) aQ)) ⟨cell,40+(i:Int),rfl,by omega,by omega,rfl⟩) (VE.to (jz (ae 3 rfl) n.len) (by rw[ao,nl])) (by omega)) nd)
   ·have hk:i<nn:=by
     have:=of_decide_eq_false hk;rw[ao,nl]at this;omega
    have e:fy cell nn i=i:=by unfold fy;rw[if_pos hk]
    rw[e];exact bL
   have em:((xK cell i row.length:Nat):Int)=cn cell (60+i)%((row.length:Int)+1):=by
    unfold xK;have a1:0<=cn cell (60+i)%((row.length:Int)+1):=aZ _ (by omega)
    omega
   refine dF (IZ G2 4 (j:=fy cell nn i) (m:=xK cell i row.length) (p:=p) (ds:=row.map .str) (d:=.str (places.getD i "")) rfl (ae 7 rfl) hp Z5 (VE.to (cv (bC C1 kF (aq (ae 0 rfl) (aq (cI aA (ae 5 rfl)) aQ)) ⟨cell,60+(i:Int),rfl,by omega,by omega,rfl⟩) (cI (jz (ds:=row.map .str) (gY (ae 4 rfl) (ae 7 rfl) (bH (by rw[aJ,Z5];rfl))) n.len) aA) (by omega)) (by rw[em,ao])) rfl (by rw[ao];exact Js _ _ _) (ae 6 rfl) (gN (by rw[ao];omega)) (λσ6 Hk Hl G6=>?_))
   exact q _ _ _ (G6.forget ⟨.inr rfl,.inr rfl,.inr rfl,.inr rfl,.inr rfl,.inl rfl,.inl rfl,.inl rfl,.inr rfl,.inr rfl,.inr rfl,trivial⟩ rfl)
  ·refine P1 G2 (ig:=4) (o:=.ro ((aW nn).map (xN cell names lines (dM cell nn places places.length)) |>.map df)) rfl ?_ (λHx _=>qH.ret rfl rfl ok)
   rw[ck,ao];have tl:=gO cell nn places places.length;have tr:=rn cell nn places places.length
   generalize dM cell nn places places.length=taken at *
   refine aL (kz 8 (fG aQ) nd) ?_
   refine aL (mP (tgt:=.tup [5,9]) (o:=.nx [.val (.int cell),.val (dz places),.val (dz lines),.val (dz names),.val (.list ((taken.map λr=>r.map aP).map .list)),.un,.un,.un,.own (((aW nn).map (xN cell names lines taken)).map df),.un,.un]) c7 rfl (jD (ds:=names.map .str) (ae 3 rfl) n.Fb)
    (gf rfl (bU (bM (i:=5) nd rfl (bj rfl)) (bU (bM (i:=9) nd rfl (bj rfl)) eR))) (λi=>[.val (.int cell),.val (dz places),.val (dz lines),.val (dz names),.val (.list ((taken.map λr=>r.map aP).map .list)),.un,.un,.un,.own (((aW i).map (xN cell names lines taken)).map df),.un,.un]) nn rfl (by rw[ck,ao,nl];exact aD _) (λi d hi hd=>?_) (.inl ⟨by rw[ck,ao,nl],rfl⟩)) (bf (E9 8 rfl))
   obtain⟨x,hx,rfl⟩:=fH hd;obtain rfl:x=.str (names.getD i ""):=by
    rw[aJ,au (by omega)]at hx
    cases hx;rw[ax,au (by omega)];rfl
   have u5:taken[i]?=some (taken.getD i []):=by
    rw[ax,au (by omega)];rfl
   have TK:=(tr _ (bA u5)).1;obtain⟨ht,_⟩:=AO cell lines i;have lo:=o8 cell (90+i);have hi':=Fs cell (90+i);refine⟨_,rfl,?_⟩
   refine aL (cC 10 (d:=.str (D7 cell lines i)) (gY (ds:=(lines ++ [("":Str)]).map .str) (VE.to (VO.ve (nP (d1:=lines.map .str) (d2:=[.str ""]) (ae 2 rfl) (VO.ve (fG (aq aO aQ))) (small (by simp only[ao,bD,cB];omega)))) (by rw[aU];rfl)) (VE.to (cv (bC C1 kF (aq (ae 0 rfl) (aq (cI aA (ae 5 rfl)) aQ)) ⟨cell,80+(i:Int),rfl,by omega,by omega,rfl⟩) (cI (jz (ae 2 rfl) n.len) aA) (by omega)) (by rw[ao])) ht) nd) ?_
   refine jE (bf (iF 8 rfl (d:=df (xN cell names lines taken i)) (eV (aq (ae 9 rfl) (aq (ae 10 rfl) (aq ?_ (aq ?_ aQ))))) (gN (by simp only[ao,cp];omega)))) ⟨.inr rfl,.inr rfl,.inr rfl,.inr rfl,.inr rfl,.inl rfl,.inl rfl,.inl rfl,.inr ?_,.inl rfl,.inl rfl,trivial⟩
   ·exact bC C3 kF (aq (bC C1 kF (aq (ae 0 rfl) (aq (cI aA (ae 5 rfl)) aQ)) ⟨cell,90+(i:Int),rfl,by omega,by omega,rfl⟩) (aq (jz (ds:=(taken.getD i []).map .str) (gY (ae 4 rfl) (ae 5 rfl) (bH (by rw[aJ,aJ,u5];rfl))) n.len) aQ)) ⟨cn cell (90+i),(taken.getD i []).length,by rw[ao],by omega,by omega,by omega,rfl⟩
   ·exact ja jP tV (aq (gY (ds:=(taken.map λr=>r.map aP).map .list) (d:=.list ((taken.getD i []).map .str)) (ae 4 rfl) (ae 5 rfl) (bH (by rw[aJ,aJ,u5];rfl))) aQ) n.tup rfl
   ·rw[jg,aU,aU];rfl
end
def gy(ns:List Int):Int:=ns.getD 0 0
def bK(ns:List Int):Int:=ns.getD 1 0
def eZ(ns:List Int):Int:=ns.getD 2 0
def lH(p:Str×Option Int):aj:=.tuple [.str p.1,mj p.2]
def sH(m:Int):Option Int:=if m%3=2 then some (1+m/3%30)else none
def kindAt(a:Int)(names:List Str)(k:Nat):Str×Option Int:=(names.getD k "",sH (cn a (10+k)))
def iW(a:Int):Nat:=(1+cn a 1%4).toNat
def cy(a:Int):List (Str×Option Int):=(aW (iW a)).map (kindAt a (namesOf a (iW a)))
def fZ(b:Int):Nat:=(1+cn b 2%3).toNat
def placesOf(b:Int):List Str:=namesOf (cn b 4) (fZ b+(cn b 5%4).toNat)
def lX(b:Int)(n:Nat):Nat:=(cn b 6%n).toNat
def orderOf(b:Int):List Str:=(placesOf b).drop (lX b (placesOf b).length)++(placesOf b).take (lX b (placesOf b).length)
def kG(b:Int):List Str:=(placesOf b).take (fZ b)
def linesOf(b:Int):List Str:=(placesOf b).drop (fZ b)
def gA(g8:List Dk)(name:Str):List Int:=g8.filterMap λd=>if decide (d.to=name)=true then some (cq d.rule d.places.length)else none
def maxOf(l:List Int):Int:=l.foldl (λm z=>if m<z then z else m) 1
def roomAt(b:Int)(g8:List Dk)(lines:List Str)(k:Nat):Str×Int:=(lines.getD k "",maxOf (gA g8 (lines.getD k ""))+cn b (20+k)%3)
def kH(p:Str×Int):aj:=.tuple [.str p.1,.int p.2]
def pO(p:Str×Str×Int):aj:=.tuple [.str p.1,.str p.2.1,.int p.2.2]
def qN(p:Str×Int×Int):aj:=.tuple [.str p.1,.int p.2.1,.int p.2.2]
def sI(m:Int)(dn:Str)(p:(Str×Option Int)×Nat):Option (Str×Str×Int):=if decide (0<m/((p.2:Int)+7)%3)=true then some (dn,p.1.1,1+m/((p.2:Int)*p.2+2)%6)else none
def fF(m:Int)(dn:Str)(kinds:List (Str×Option Int))(j:Nat):List (Str×Str×Int):=(kinds.zipIdx.take j).filterMap (sI m dn)
def jQ(m:Int)(dn:Str):List (Str×Int×Int):=if m/5%4=0 then [(dn,m/20%9,9+m/180%20),(dn,25+m/3600%20,50+m/72000%40)]else []
def f7(c:Int)(g8:List Dk)(kinds:List (Str×Option Int))(i:Nat):List (Str×Str×Int):=(g8.zipIdx.take i).flatMap λp=>fF (cn c (110+p.2)) p.1.name kinds kinds.length
def iA(c:Int)(g8:List Dk)(i:Nat):List (Str×Int×Int):=(g8.zipIdx.take i).flatMap λp=>jQ (cn c (110+p.2)) p.1.name
structure Pl where
 kinds:List (Str×Option Int)
 gates:List Str
 lines:List (Str×Int)
 desks:List Dk
 times:List (Str×Str×Int)
 hours:List (Str×Int×Int)
def eX(ns:List Int):Pl:=
 let Z6:=cy (gy ns)
 let Xo:=linesOf (bK ns)
 let g8:=bN (eZ ns) (orderOf (bK ns)) Xo
 ⟨Z6,kG (bK ns),(aW Xo.length).map (roomAt (bK ns) g8 Xo),g8,f7 (eZ ns) g8 Z6 g8.length,iA (eZ ns) g8 g8.length⟩
def kI(p:Pl):List (Str×aj):=[("kinds",.list (p.kinds.map lH)),("gates",dz p.gates),("lines",.list (p.lines.map kH)),("desks",.list (p.desks.map df)),("times",.list (p.times.map pO)),("hours",.list (p.hours.map qN)),("paces",.list [])]
def gP(p:Pl):aj:=eQ (kI p)
theorem mW(l:List Int):maxOf l∈(1::l)/\∀z∈(1::l),z<=maxOf l:=by
 have go:∀(l:List Int)(m0:Int),(l.foldl (λm z=>if m<z then z else m) m0)∈m0::l/\∀z∈m0::l,z<=l.foldl (λm z=>if m<z then z else m) m0:=by
  intro l
  induction l with
  |nil=>intro m0;exact⟨aN,λz hz=>by simp at hz;rw[hz];exact Int.le_refl _⟩
  |cons x l ih=>
   intro m0;obtain⟨h1,h2⟩:=ih (if m0<x then x else m0)
   rw[my];refine⟨?_,λz hz=>?_⟩
   ·rcases aI.mp h1 with h|h
    ·rw[h]
     split<;>simp
    ·exact aT _ (aT _ h)
   ·have hm:=h2 _ aN
    rcases aI.mp hz with rfl|hz
    ·refine Int.le_trans ?_ hm
     split<;>omega
    ·rcases aI.mp hz with rfl|hz
     ·refine Int.le_trans ?_ hm
      split<;>omega
     ·exact h2 z (aT _ hz)
 exact go l 1
theorem rW{m:Int}{dn:Str}{kinds:List (Str×Option Int)}{j:Nat}{p:Str×Option Int}(h:kinds[j]?=some p):fF m dn kinds (j+1)=fF m dn kinds j++(sI m dn (p,j)).toList:=by
 unfold fF;rw[dm,ik,h];simp only[iY,sZ,qX,iu];cases e:sI m dn (p,j) with
 |none=>rw[fX e];rfl
 |some r=>rw[c9 e];rfl
theorem qO(m:Int)(dn:Str)(kinds:List (Str×Option Int))(j:Nat):(fF m dn kinds j).length<=j:=by
 unfold fF;exact b_ (oM _ _) (by rw[cj];omega)
theorem o9{c:Int}{g8:List Dk}{kinds:List (Str×Option Int)}{i:Nat}{d:Dk}(h:g8[i]?=some d):f7 c g8 kinds (i+1)=f7 c g8 kinds i++fF (cn c (110+i)) d.name kinds kinds.length:=by
 unfold f7;rw[dm,ik,h];simp
theorem ud{c:Int}{g8:List Dk}{i:Nat}{d:Dk}(h:g8[i]?=some d):iA c g8 (i+1)=iA c g8 i++jQ (cn c (110+i)) d.name:=by
 unfold iA;rw[dm,ik,h];simp
theorem Cr(m:Int)(dn:Str):(jQ m dn).length<=2:=by unfold jQ;split<;>simp
theorem o_(c:Int)(g8:List Dk)(kinds:List (Str×Option Int))(hk:kinds.length<=4):∀i,i<=g8.length->(f7 c g8 kinds i).length<=4*i
 |0,_=>by simp[f7]
 |i+1,h=>by
  have ih:=o_ c g8 kinds hk i (by omega)
  have:=qO (cn c (110+i)) g8[i].name kinds kinds.length;rw[o9 (au (by omega)),a7]
  omega
theorem pj(c:Int)(g8:List Dk):∀i,i<=g8.length->(iA c g8 i).length<=2*i
 |0,_=>by simp[iA]
 |i+1,h=>by
  have ih:=pj c g8 i (by omega)
  have:=Cr (cn c (110+i)) g8[i].name;rw[ud (au (by omega)),a7]
  omega
theorem lI(a:Int):1<=iW a/\iW a<=4:=by
 unfold iW;have a1:0<=cn a 1%4:=aZ _ (by omega)
 have a2:cn a 1%4<4:=bw _ (by omega)
 omega
theorem iN(b:Int):1<=fZ b/\fZ b<=3:=by
 unfold fZ;have a1:0<=cn b 2%3:=aZ _ (by omega)
 have a2:cn b 2%3<3:=bw _ (by omega)
 omega
theorem nS(b:Int):(placesOf b).length=fZ b+(cn b 5%4).toNat:=fh _ _
theorem jF(b:Int):fZ b<=(placesOf b).length/\(placesOf b).length<=6:=by
 have:=iN b;have a1:0<=cn b 5%4:=aZ _ (by omega)
 have a2:cn b 5%4<4:=bw _ (by omega)
 rw[nS];omega
theorem oB(b:Int){n:Nat}(h:1<=n):lX b n<n:=by
 unfold lX;have a1:0<=cn b 6%(n:Int):=aZ _ (by omega)
 have a2:cn b 6%(n:Int)<n:=bw _ (by omega)
 omega
theorem pq(cell:Int)(places lines:List Str):(bN cell places lines).length=j_ cell places.length:=by simp[bN]
theorem L9(m:Int):oO [aj.none,.none,.int (1+m/3%30)] (m%3)=some (mj (sH m)):=by
 unfold sH;have a1:0<=m%3:=aZ _ (by omega)
 have a2:m%3<3:=bw _ (by omega)
 rcases(by omega:m%3=0\/m%3=1\/m%3=2)with e|e|e<;>rw[e]<;>rfl
def u_(r:aj)(n:Nat):Int:=match r with
 | .tuple [.str w,.int m]=>if w="many" then m else 1
 | .tuple [.str w,.int m,_]=>if w="gather" then m else 1
 | .tuple [.str w]=>if w="meet" then n else 1
 |_=>1
theorem AQ(r:Rl)(n:Nat):u_ (Dp r) n=cq r n:=by
 cases r with
 |rank b=>cases b<;>rfl
 |_=>rfl
def Ft(name:Str):aj->Option aj
 | .tuple [_,.str to,r,.tuple ps]=>if decide (to=name)=true then some (.int (u_ r ps.length))else none
 |_=>none
theorem sJ(name:Str)(d:Dk):Ft name (df d)=(if decide (d.to=name)=true then some (.int (cq d.rule d.places.length))else none):=by
 show(if decide (d.to=name)=true then some (fj (u_ (Dp d.rule) (d.places.map aP).length))else none)=_
 rw[AQ,ao]
theorem Gx(name:Str)(g8:List Dk):(g8.map df).filterMap (Ft name)=(gA g8 name).map .int:=by
 unfold gA;rw[cL,List.map_filterMap]
 congr 1
 funext d
 show Ft name (df d)=_;rw[sJ]
 split<;>rfl
section
variable{P:bo}{w:bX}{K:ai}{mg:Str->Option av}{base:cK}{f:aK}{k:Nat}
abbrev Z7:List Str:=["_law_script","_law_a","_law_b","_law_c","_law_kinds","_law_k","_law_name","_law_m","_law_many","_law_places","_law_gates","_law_lines","_law_order","_law_desks_here","_law_rooms","_law_loads","_law_times","_law_hours","_law_desk","_law_j","_law_kind"]
theorem NK:cH Z7 ["_law_script"] (bP (top 47)):=⟨rfl,rfl,rfl,by decide +kernel,rfl,by decide +kernel,by decide +kernel⟩
def Z8(ds:List aj)(d:aj):Prop:=∃ns:List Int,ds=[iV ns]/\d=gP (eX ns)
end
theorem mn{α β:Type}(g:α->β)(l:List α)(lo hi:Option Int):L2.cutD (l.map g) lo hi=(L2.cutD l lo hi).map g:=by
 unfold L2.cutD;rw[ao,Bt,oN]
theorem jR{α:Type}(l:List α)(n:Nat):L2.cutD l (some (n:Int)) none=l.drop n:=by
 unfold L2.cutD;rw[HT.oW,HT.BP];by_cases h:n<=l.length
 ·rw[mI h,cM (by rw[cG];omega)]
 ·rw[Nat.min_eq_right (by omega),pY (aD _),pY (by omega)];simp
section
variable{P:bo}{w:bX}{K:ai}{mg:Str->Option av}{base:cK}{f:aK}{k:Nat}
theorem Xp{fd:bS}(F:lg K "_law_plant" "_law_plant" (top 47) f fd)(n:Ng mg)(C0:bE P w K mg base 1 "_law_cell_at" ["_law_script","_law_k"] (gW K zu))(C1:bE P w K mg base 1 "_law_mix" ["_law_cell","_law_k"] (gW K yM))(C2:bE P w K mg base 2 "_law_names" ["_law_cell","_law_many"] (Bv K U5))(C3:bE P w K mg base 1 "_law_greatest" ["_law_rule_here","_law_many"] (gW K Q0))(C4:bE P w K mg base 3 "_law_desks" ["_law_cell","_law_places","_law_lines"] (Bv K Z4)):eU P w K mg base ky 4 f fd ["_law_script"] (gW K Z8):=
 jA F NK (λ_ _ h=>by obtain⟨_,rfl,_⟩:=h;rfl) λ_ _ h=>by
  obtain⟨ns,rfl,rfl⟩:=h;intro ix A outer s H E hr;have nd:Z7.Nodup:=NK.nd;have kF:fc 1 _:=hr.mono (by omega)
  have NM:fc 2 _:=hr.mono (by omega)
  have e0:eX ns=⟨(cy (gy ns)),(placesOf (bK ns)).take (fZ (bK ns)),((aW (linesOf (bK ns)).length).map (roomAt (bK ns) (bN (eZ ns) (orderOf (bK ns)) (linesOf (bK ns))) (linesOf (bK ns)))),(bN (eZ ns) (orderOf (bK ns)) (linesOf (bK ns))),f7 (eZ ns) (bN (eZ ns) (orderOf (bK ns)) (linesOf (bK ns))) (cy (gy ns)) (bN (eZ ns) (orderOf (bK ns)) (linesOf (bK ns))).length,iA (eZ ns) (bN (eZ ns) (orderOf (bK ns)) (linesOf (bK ns))) (bN (eZ ns) (orderOf (bK ns)) (linesOf (bK ns))).length⟩:=rfl;rw[e0];obtain⟨k1,k4⟩:=lI (gy ns);have Z9:(namesOf (gy ns) (iW (gy ns))).length=iW (gy ns):=fh _ _;have hkd:(aW (iW (gy ns))).map (kindAt (gy ns) (namesOf (gy ns) (iW (gy ns))))=(cy (gy ns)):=rfl;have Z_:(cy (gy ns)).length=iW (gy ns):=by simp[cy]
  obtain⟨g1,g3⟩:=iN (bK ns);obtain⟨p1,p6⟩:=jF (bK ns);have pl:=nS (bK ns);have Gw:(placesOf (bK ns)).drop (fZ (bK ns))=(linesOf (bK ns)):=rfl;have Z':(linesOf (bK ns)).length<=6:=by rw[<-Gw,cG];omega
  have hor:(placesOf (bK ns)).drop (lX (bK ns) (placesOf (bK ns)).length)++(placesOf (bK ns)).take (lX (bK ns) (placesOf (bK ns)).length)=(orderOf (bK ns)):=rfl;have IK:(orderOf (bK ns)).length=(placesOf (bK ns)).length:=by rw[<-hor,a7,cG,cj];have:=oB (bK ns) (n:=(placesOf (bK ns)).length) (by omega);omega
  have Hq:(bN (eZ ns) (orderOf (bK ns)) (linesOf (bK ns))).length<=4:=by rw[pq];exact(lG (eZ ns) (by omega)).2.1
  have ek:((iW (gy ns):Nat):Int)=1+cn (gy ns) 1%4:=by
   unfold iW;have a1:0<=cn (gy ns) 1%4:=aZ _ (by omega)
   omega
  have eg:(((fZ (bK ns)):Nat):Int)=1+cn (bK ns) 2%3:=by
   unfold fZ;have a1:0<=cn (bK ns) 2%3:=aZ _ (by omega)
   omega
  have ep:((((fZ (bK ns))+(cn (bK ns) 5%4).toNat:Nat)):Int)=((fZ (bK ns)):Int)+cn (bK ns) 5%4:=by
   have a1:0<=cn (bK ns) 5%4:=aZ _ (by omega)
   omega
  have et:((lX (bK ns) (placesOf (bK ns)).length:Nat):Int)=cn (bK ns) 6%((placesOf (bK ns)).length:Int):=by
   unfold lX;have a1:0<=cn (bK ns) 6%((placesOf (bK ns)).length:Int):=aZ _ (by omega)
   omega
  refine aL (LC 1 2 3 (d1:=.int (gy ns)) (d2:=.int (bK ns)) (d3:=.int (eZ ns)) (bC C0 kF (aq (ae 0 rfl) (aq aA aQ)) ⟨ns,0,rfl,rfl⟩) (bC C0 kF (aq (ae 0 rfl) (aq aA aQ)) ⟨ns,1,rfl,rfl⟩) (bC C0 kF (aq (ae 0 rfl) (aq aA aQ)) ⟨ns,2,rfl,rfl⟩) rfl nd (by decide) (by decide) (by decide)) ?_
  refine aL (kz 4 (fG aQ) nd) ?_
  refine aL (mP (tgt:=.tup [5,6]) (o:=.nx [.val (iV ns),.val (.int (gy ns)),.val (.int (bK ns)),.val (.int (eZ ns)),.own (((aW (iW (gy ns))).map (kindAt (gy ns) (namesOf (gy ns) (iW (gy ns))))).map lH),.un,.un,.un,.un,.un,.un,.un,.un,.un,.un,.un,.un,.un,.un,.un,.un]) c7 rfl (jD (ds:=(namesOf (gy ns) (iW (gy ns))).map .str) (VO.ve (jV C2 NM (aq (ae 1 rfl) (aq (VE.to (k:=.int (iW (gy ns):Nat)) (cI aA (cv (bC C1 kF (aq (ae 1 rfl) (aq (aA) aQ)) ⟨gy ns,1,rfl,by first|decide|omega,by first|decide|omega,rfl⟩) aA (by decide))) (by rw[ek])) aQ)) ⟨gy ns,iW (gy ns),rfl,by omega,rfl⟩)) n.Fb)
   (gf rfl (bU (bM (i:=5) nd rfl (by first|exact bj rfl|exact cP rfl)) (bU (bM (i:=6) nd rfl (by first|exact bj rfl|exact cP rfl)) (eR)))) (λi=>[.val (iV ns),.val (.int (gy ns)),.val (.int (bK ns)),.val (.int (eZ ns)),.own (((aW (i)).map (kindAt (gy ns) (namesOf (gy ns) (iW (gy ns))))).map lH),.un,.un,.un,.un,.un,.un,.un,.un,.un,.un,.un,.un,.un,.un,.un,.un]) (iW (gy ns)) rfl (by rw[ck,ao,Z9];exact aD _) (λi d hi hd=>?_) (.inl ⟨by rw[ck,ao,Z9],rfl⟩)) ?_
  ·obtain⟨x,hx,rfl⟩:=fH hd
   obtain rfl:x=.str ((namesOf (gy ns) (iW (gy ns))).getD i ""):=by
    rw[aJ,au (by omega)]at hx
    cases hx;rw[ax,au (by omega)];rfl
   refine⟨_,rfl,?_⟩
   refine aL (cC 7 (d:=.int (cn (gy ns) (10+i))) (bC C1 kF (aq (ae 1 rfl) (aq (cI aA (ae 5 rfl)) aQ)) ⟨gy ns,10+(i:Int),rfl,by first|decide|omega,by first|decide|omega,rfl⟩) nd) ?_
   refine jE (bf (iF 4 rfl (d:=lH (kindAt (gy ns) (namesOf (gy ns) (iW (gy ns))) i)) (eV (aq (ae 6 rfl) (aq (gY (VO.ve (fG (aq gk (aq gk (aq (cI aA (cv (eP (ae 7 rfl) aA ⟨by decide,by decide⟩) aA (by decide))) aQ))))) (cv (ae 7 rfl) aA (by decide)) (L9 _)) aQ))) (gN (by simp only[ao,cp];omega)))) ⟨.inr rfl,.inr rfl,.inr rfl,.inr rfl,.inr ?_,.inl rfl,.inl rfl,.inl rfl,.inl rfl,.inl rfl,.inl rfl,.inl rfl,.inl rfl,.inl rfl,.inl rfl,.inl rfl,.inl rfl,.inl rfl,.inl rfl,.inl rfl,.inl rfl,trivial⟩
   rw[jg,aU,aU];rfl
  rw[hkd];refine fJ 4 rfl ?_
  refine aL (cC 8 (d:=.int ((fZ (bK ns)):Nat)) (VE.to (cI aA (cv (bC C1 kF (aq (ae 2 rfl) (aq (aA) aQ)) ⟨bK ns,2,rfl,by first|decide|omega,by first|decide|omega,rfl⟩) aA (by decide))) (by rw[eg])) nd) ?_
  refine aL (cC 9 (d:=dz (placesOf (bK ns))) (VO.ve (jV C2 NM (aq (bC C1 kF (aq (ae 2 rfl) (aq (aA) aQ)) ⟨bK ns,4,rfl,by first|decide|omega,by first|decide|omega,rfl⟩) (aq (VE.to (k:=.int ((fZ (bK ns))+(cn (bK ns) 5%4).toNat:Nat)) (cI (ae 8 rfl) (cv (bC C1 kF (aq (ae 2 rfl) (aq (aA) aQ)) ⟨bK ns,5,rfl,by first|decide|omega,by first|decide|omega,rfl⟩) aA (by decide))) (by rw[ep])) aQ)) ⟨cn (bK ns) 4,(fZ (bK ns))+(cn (bK ns) 5%4).toNat,rfl,by omega,rfl⟩)) nd) ?_
  refine aL (Iu 10 11 (d1:=dz ((placesOf (bK ns)).take (fZ (bK ns)))) (d2:=dz (linesOf (bK ns))) (VE.to (VO.ve (gM (ds:=(placesOf (bK ns)).map .str) (ae 9 rfl) .no (.yes (ae 8 rfl)))) (by rw[mn,tY];rfl)) (VE.to (VO.ve (gM (ds:=(placesOf (bK ns)).map .str) (ae 9 rfl) (.yes (ae 8 rfl)) .no)) (by rw[mn,jR];rfl)) rfl nd (by decide)) ?_
  refine aL (cC 12 (d:=dz (orderOf (bK ns))) (VE.to (VO.ve (nP (VO.ve (VO.to (k:=((placesOf (bK ns)).drop (lX (bK ns) (placesOf (bK ns)).length)).map aP) (gM (ds:=(placesOf (bK ns)).map .str) (ae 9 rfl) (.yes (VE.to (k:=.int (lX (bK ns) (placesOf (bK ns)).length:Nat)) (cv (bC C1 kF (aq (ae 2 rfl) (aq (aA) aQ)) ⟨bK ns,6,rfl,by first|decide|omega,by first|decide|omega,rfl⟩) (jz (ds:=(placesOf (bK ns)).map .str) (ae 9 rfl) n.len) (by rw[ao];omega)) (by rw[et,ao]))) .no) (by rw[mn,jR]))) (VO.ve (VO.to (k:=((placesOf (bK ns)).take (lX (bK ns) (placesOf (bK ns)).length)).map aP) (gM (ds:=(placesOf (bK ns)).map .str) (ae 9 rfl) .no (.yes (VE.to (k:=.int (lX (bK ns) (placesOf (bK ns)).length:Nat)) (cv (bC C1 kF (aq (ae 2 rfl) (aq (aA) aQ)) ⟨bK ns,6,rfl,by first|decide|omega,by first|decide|omega,rfl⟩) (jz (ds:=(placesOf (bK ns)).map .str) (ae 9 rfl) n.len) (by rw[ao];omega)) (by rw[et,ao])))) (by rw[mn,tY]))) (small (by simp only[ao,cG,cj];omega)))) (by rw[<-aU,hor];rfl)) nd) ?_
  refine aL (cC 13 (d:=.list ((bN (eZ ns) (orderOf (bK ns)) (linesOf (bK ns))).map df)) (VO.ve (jV C4 hr (aq (ae 3 rfl) (aq (ae 12 rfl) (aq (ae 11 rfl) aQ))) ⟨eZ ns,(orderOf (bK ns)),(linesOf (bK ns)),rfl,by omega,by omega,by omega,rfl⟩)) nd) ?_
  refine aL (kz 14 (fG aQ) nd) ?_
  have Q5:∀d∈(bN (eZ ns) (orderOf (bK ns)) (linesOf (bK ns))),nA d.to:=λd hd=>by
   obtain⟨j,_,rfl⟩:=aG.mp hd;have hm:=(AO (eZ ns) (linesOf (bK ns)) j).2;rcases bZ.mp hm with hm|hm
   ·exact(gq (eE (show D7 (eZ ns) (linesOf (bK ns)) j∈(placesOf (bK ns)).drop (fZ (bK ns))from hm))).ok.2
   ·show nA (D7 (eZ ns) (linesOf (bK ns)) j)
    rw[bh.mp hm];show cJ (.str ("":Str))=true;decide +kernel
  refine aL (mP (tgt:=.tup [5,6]) (o:=.nx [.val (iV ns),.val (.int (gy ns)),.val (.int (bK ns)),.val (.int (eZ ns)),.val (.list ((cy (gy ns)).map lH)),.un,.un,.un,.val (.int (fZ (bK ns))),.val (dz (placesOf (bK ns))),.val (dz ((placesOf (bK ns)).take (fZ (bK ns)))),.val (dz (linesOf (bK ns))),.val (dz (orderOf (bK ns))),.val (.list ((bN (eZ ns) (orderOf (bK ns)) (linesOf (bK ns))).map df)),.own (((aW ((linesOf (bK ns)).length)).map (roomAt (bK ns) (bN (eZ ns) (orderOf (bK ns)) (linesOf (bK ns))) (linesOf (bK ns)))).map kH),.un,.un,.un,.un,.un,.un]) c7 rfl (jD (ds:=(linesOf (bK ns)).map .str) (ae 11 rfl) n.Fb)
   (gf rfl (bU (bM (i:=5) nd rfl (by first|exact bj rfl|exact cP rfl)) (bU (bM (i:=6) nd rfl (by first|exact bj rfl|exact cP rfl)) (eR)))) (λi=>[.val (iV ns),.val (.int (gy ns)),.val (.int (bK ns)),.val (.int (eZ ns)),.val (.list ((cy (gy ns)).map lH)),.un,.un,.un,.val (.int (fZ (bK ns))),.val (dz (placesOf (bK ns))),.val (dz ((placesOf (bK ns)).take (fZ (bK ns)))),.val (dz (linesOf (bK ns))),.val (dz (orderOf (bK ns))),.val (.list ((bN (eZ ns) (orderOf (bK ns)) (linesOf (bK ns))).map df)),.own (((aW (i)).map (roomAt (bK ns) (bN (eZ ns) (orderOf (bK ns)) (linesOf (bK ns))) (linesOf (bK ns)))).map kH),.un,.un,.un,.un,.un,.un]) (linesOf (bK ns)).length rfl (by rw[ck,ao];exact aD _) (λi d hi hd=>?_) (.inl ⟨by rw[ck,ao],rfl⟩)) ?_
  ·obtain⟨x,hx,rfl⟩:=fH hd
   obtain⟨rfl,xh⟩:x=.str ((linesOf (bK ns)).getD i "")/\(linesOf (bK ns)).getD i ""∈(linesOf (bK ns)):=by
    rw[aJ,au (by omega)]at hx
    cases hx;rw[ax,au (by omega)]
    exact⟨rfl,dG _⟩
   have okn:nA ((linesOf (bK ns)).getD i ""):=(gq (eE (show(linesOf (bK ns)).getD i ""∈(placesOf (bK ns)).drop (fZ (bK ns))from xh))).ok.2
   have nc:(["_law_desk","_law_name"]:List Str).Nodup:=by decide +kernel
   have M7:(gA (bN (eZ ns) (orderOf (bK ns)) (linesOf (bK ns))) ((linesOf (bK ns)).getD i "")).length<=4:=b_ (oM _ _) Hq;refine⟨_,rfl,?_⟩
   refine aL (Ap 15 (own:=["_law_desk"]) (cap:=[6]) (N:=["_law_desk","_law_name"]) (tgt:=.one 0) (F:=Ft ((linesOf (bK ns)).getD i "")) (ds:=(bN (eZ ns) (orderOf (bK ns)) (linesOf (bK ns))).map df) rfl ⟨rfl,by decide +kernel,by decide +kernel,rfl,rfl,?_⟩ (iQ (ae 13 rfl)) (λf s3 H3=>bM (i:=0) nc rfl (bj rfl)) rfl (small (by rw[ao];omega)) (λd hd=>?_) nd) ?_
   ·intro j hj
    rcases aI.mp hj with rfl|hj
    ·exact⟨(by show(6:Nat)<21;decide),bj rfl,rfl⟩
    ·cases hj
   ·obtain⟨dk,Ct,rfl⟩:=aG.mp hd
    refine⟨_,rfl,λf s3 H3=>?_,λr jo f s3 H3=>?_⟩
    ·refine tX (VT.to (bQ (k:=1) kF (bJ (Q5 dk Ct)) (bJ okn) (bW (ae 0 rfl) aA rfl) (ae 1 rfl)) ?_)
     rw[sJ,bO];by_cases h:dk.to=(linesOf (bK ns)).getD i ""
     ·rw[decide_eq_true h,if_pos rfl];rfl
     ·rw[decide_eq_false h,if_neg cu];rfl
    ·rw[sJ]at jo
     split at jo
     ·cases jo
      exact bC C3 kF (aq (bW (ae 0 rfl) aA rfl) (aq (jU (ds:=dk.places.map .str) (bW (ae 0 rfl) aA rfl) n.len) aQ)) ⟨dk.rule,dk.places.length,by rw[ao],rfl⟩
     ·cases jo
   refine fJ 15 rfl ?_
   rw[Gx];obtain⟨mx1,mx2⟩:=mW (gA (bN (eZ ns) (orderOf (bK ns)) (linesOf (bK ns))) ((linesOf (bK ns)).getD i ""));refine jE (bf (iF 14 rfl (d:=kH (roomAt (bK ns) (bN (eZ ns) (orderOf (bK ns)) (linesOf (bK ns))) (linesOf (bK ns)) i)) (eV (aq (ae 6 rfl) (aq (cI (iU (Gd rfl) (S2 (ns:=1::gA (bN (eZ ns) (orderOf (bK ns)) (linesOf (bK ns))) ((linesOf (bK ns)).getD i "")) mx1 mx2) (aq (VO.ve (nP (d1:=[.int 1]) (d2:=(gA (bN (eZ ns) (orderOf (bK ns)) (linesOf (bK ns))) ((linesOf (bK ns)).getD i "")).map .int) (VO.ve (fG (ds:=[.int 1]) (aq aA aQ))) (ae 15 rfl) (small (by simp only[ao,bD,cB];omega)))) aQ) n.max rfl) (cv (bC C1 kF (aq (ae 2 rfl) (aq (cI aA (ae 5 rfl)) aQ)) ⟨bK ns,20+(i:Int),rfl,by first|decide|omega,by first|decide|omega,rfl⟩) aA (by decide))) aQ))) (gN (by simp only[ao,cp];omega)))) ⟨.inr rfl,.inr rfl,.inr rfl,.inr rfl,.inr rfl,.inl rfl,.inl rfl,.inl rfl,.inr rfl,.inr rfl,.inr rfl,.inr rfl,.inr rfl,.inr rfl,.inr ?_,.inl rfl,.inl rfl,.inl rfl,.inl rfl,.inl rfl,.inl rfl,trivial⟩
   rw[jg,aU,aU];rfl
  refine fJ 14 rfl ?_
  refine aL (Ly 16 17 (fG aQ) (fG aQ) rfl nd (by decide)) ?_
  refine aL (mP (tgt:=.tup [5,18]) (o:=.nx [.val (iV ns),.val (.int (gy ns)),.val (.int (bK ns)),.val (.int (eZ ns)),.val (.list ((cy (gy ns)).map lH)),.un,.un,.un,.val (.int (fZ (bK ns))),.val (dz (placesOf (bK ns))),.val (dz ((placesOf (bK ns)).take (fZ (bK ns)))),.val (dz (linesOf (bK ns))),.val (dz (orderOf (bK ns))),.val (.list ((bN (eZ ns) (orderOf (bK ns)) (linesOf (bK ns))).map df)),.val (.list (((aW (linesOf (bK ns)).length).map (roomAt (bK ns) (bN (eZ ns) (orderOf (bK ns)) (linesOf (bK ns))) (linesOf (bK ns)))).map kH)),.un,.own ((f7 (eZ ns) (bN (eZ ns) (orderOf (bK ns)) (linesOf (bK ns))) (cy (gy ns)) ((bN (eZ ns) (orderOf (bK ns)) (linesOf (bK ns))).length)).map pO),.own ((iA (eZ ns) (bN (eZ ns) (orderOf (bK ns)) (linesOf (bK ns))) ((bN (eZ ns) (orderOf (bK ns)) (linesOf (bK ns))).length)).map qN),.un,.un,.un]) c7 rfl (jD (ds:=(bN (eZ ns) (orderOf (bK ns)) (linesOf (bK ns))).map df) (ae 13 rfl) n.Fb)
   (gf rfl (bU (bM (i:=5) nd rfl (by first|exact bj rfl|exact cP rfl)) (bU (bM (i:=18) nd rfl (by first|exact bj rfl|exact cP rfl)) (eR)))) (λi=>[.val (iV ns),.val (.int (gy ns)),.val (.int (bK ns)),.val (.int (eZ ns)),.val (.list ((cy (gy ns)).map lH)),.un,.un,.un,.val (.int (fZ (bK ns))),.val (dz (placesOf (bK ns))),.val (dz ((placesOf (bK ns)).take (fZ (bK ns)))),.val (dz (linesOf (bK ns))),.val (dz (orderOf (bK ns))),.val (.list ((bN (eZ ns) (orderOf (bK ns)) (linesOf (bK ns))).map df)),.val (.list (((aW (linesOf (bK ns)).length).map (roomAt (bK ns) (bN (eZ ns) (orderOf (bK ns)) (linesOf (bK ns))) (linesOf (bK ns)))).map kH)),.un,.own ((f7 (eZ ns) (bN (eZ ns) (orderOf (bK ns)) (linesOf (bK ns))) (cy (gy ns)) (i)).map pO),.own ((iA (eZ ns) (bN (eZ ns) (orderOf (bK ns)) (linesOf (bK ns))) (i)).map qN),.un,.un,.un]) (bN (eZ ns) (orderOf (bK ns)) (linesOf (bK ns))).length rfl (by rw[ck,ao];exact aD _) (λi d hi hd=>?_) (.inl ⟨by rw[ck,ao],rfl⟩)) ?_
  ·obtain⟨x,hx,rfl⟩:=fH hd
   obtain⟨dk,Ct,rfl⟩:∃dk,(bN (eZ ns) (orderOf (bK ns)) (linesOf (bK ns)))[i]?=some dk/\x=df dk:=by
    rw[aJ,au (by omega)]at hx
    cases hx;exact⟨_,au (by omega),rfl⟩
   refine⟨_,rfl,?_⟩
   refine aL (cC 7 (d:=.int (cn (eZ ns) (110+i))) (bC C1 kF (aq (ae 3 rfl) (aq (cI aA (ae 5 rfl)) aQ)) ⟨eZ ns,110+(i:Int),rfl,by first|decide|omega,by first|decide|omega,rfl⟩) nd) ?_
   have tsu:=o9 (c:=eZ ns) (kinds:=(cy (gy ns))) Ct;have hsu:=ud (c:=eZ ns) Ct;have tle:=o_ (eZ ns) (bN (eZ ns) (orderOf (bK ns)) (linesOf (bK ns))) (cy (gy ns)) (by omega) i (by omega)
   have hle:=pj (eZ ns) (bN (eZ ns) (orderOf (bK ns)) (linesOf (bK ns))) i (by omega)
   rw[tsu,hsu];have m0:=o8 (eZ ns) (110+i)
   generalize cn (eZ ns) (110+i)=m at *
   refine aL (mP (tgt:=.tup [19,20]) (o:=.nx [.val (iV ns),.val (.int (gy ns)),.val (.int (bK ns)),.val (.int (eZ ns)),.val (.list ((cy (gy ns)).map lH)),.val (.int i),.un,.val (.int m),.val (.int (fZ (bK ns))),.val (dz (placesOf (bK ns))),.val (dz ((placesOf (bK ns)).take (fZ (bK ns)))),.val (dz (linesOf (bK ns))),.val (dz (orderOf (bK ns))),.val (.list ((bN (eZ ns) (orderOf (bK ns)) (linesOf (bK ns))).map df)),.val (.list (((aW (linesOf (bK ns)).length).map (roomAt (bK ns) (bN (eZ ns) (orderOf (bK ns)) (linesOf (bK ns))) (linesOf (bK ns)))).map kH)),.un,.own ((f7 (eZ ns) (bN (eZ ns) (orderOf (bK ns)) (linesOf (bK ns))) (cy (gy ns)) i++fF m dk.name (cy (gy ns)) ((cy (gy ns)).length)).map pO),.own ((iA (eZ ns) (bN (eZ ns) (orderOf (bK ns)) (linesOf (bK ns))) (i)).map qN),.val (df dk),.un,.un]) c7 rfl (jD (ds:=(cy (gy ns)).map lH) (ae 4 rfl) n.Fb)
    (gf rfl (bU (bM (i:=19) nd rfl (by first|exact bj rfl|exact cP rfl)) (bU (bM (i:=20) nd rfl (by first|exact bj rfl|exact cP rfl)) (eR)))) (λj=>[.val (iV ns),.val (.int (gy ns)),.val (.int (bK ns)),.val (.int (eZ ns)),.val (.list ((cy (gy ns)).map lH)),.val (.int i),.un,.val (.int m),.val (.int (fZ (bK ns))),.val (dz (placesOf (bK ns))),.val (dz ((placesOf (bK ns)).take (fZ (bK ns)))),.val (dz (linesOf (bK ns))),.val (dz (orderOf (bK ns))),.val (.list ((bN (eZ ns) (orderOf (bK ns)) (linesOf (bK ns))).map df)),.val (.list (((aW (linesOf (bK ns)).length).map (roomAt (bK ns) (bN (eZ ns) (orderOf (bK ns)) (linesOf (bK ns))) (linesOf (bK ns)))).map kH)),.un,.own ((f7 (eZ ns) (bN (eZ ns) (orderOf (bK ns)) (linesOf (bK ns))) (cy (gy ns)) i++fF m dk.name (cy (gy ns)) (j)).map pO),.own ((iA (eZ ns) (bN (eZ ns) (orderOf (bK ns)) (linesOf (bK ns))) (i)).map qN),.val (df dk),.un,.un]) (cy (gy ns)).length (by show([.val (iV ns),.val (.int (gy ns)),.val (.int (bK ns)),.val (.int (eZ ns)),.val (.list ((cy (gy ns)).map lH)),.val (.int i),.un,.val (.int m),.val (.int (fZ (bK ns))),.val (dz (placesOf (bK ns))),.val (dz ((placesOf (bK ns)).take (fZ (bK ns)))),.val (dz (linesOf (bK ns))),.val (dz (orderOf (bK ns))),.val (.list ((bN (eZ ns) (orderOf (bK ns)) (linesOf (bK ns))).map df)),.val (.list (((aW (linesOf (bK ns)).length).map (roomAt (bK ns) (bN (eZ ns) (orderOf (bK ns)) (linesOf (bK ns))) (linesOf (bK ns)))).map kH)),.un,.own ((f7 (eZ ns) (bN (eZ ns) (orderOf (bK ns)) (linesOf (bK ns))) (cy (gy ns)) i++fF m dk.name (cy (gy ns)) (0)).map pO),.own ((iA (eZ ns) (bN (eZ ns) (orderOf (bK ns)) (linesOf (bK ns))) (i)).map qN),.val (df dk),.un,.un]:List Slot)=_;rw[show fF m dk.name (cy (gy ns)) 0=[]from rfl,eI];rfl) (by rw[ck,ao];exact aD _) (λj d hj hd=>?_) (.inl ⟨by rw[ck,ao],rfl⟩)) ?_
   ·obtain⟨x,hx,rfl⟩:=fH hd
    obtain⟨kd,Xq,rfl⟩:∃kd,(cy (gy ns))[j]?=some kd/\x=lH kd:=by
     rw[aJ,au (by omega)]at hx
     cases hx;exact⟨_,au (by omega),rfl⟩
    have rle:=qO m dk.name (cy (gy ns)) j;have jj0:(0:Int)<=(j:Int)*j:=Int.mul_nonneg (by omega) (by omega)
    have jj1:(j:Int)*j<=60*60:=Int.mul_le_mul (by omega) (by omega) (by omega) (by omega)
    refine⟨_,rfl,?_⟩
    rw[rW Xq];by_cases ht:decide (0<m/((j:Int)+7)%3)=true
    ·have et:sI m dk.name (kd,j)=some (dk.name,kd.1,1+m/((j:Int)*j+2)%6):=by show(if _ then _ else _)=_;rw[if_pos ht]
     rw[et];refine jE (bf (dN (VT.to (xl (cv (eP (ae 7 rfl) (cI (ae 19 rfl) aA) ⟨by omega,by omega⟩) aA (by decide)) aA) ht) (bf (iF 16 rfl (d:=pO (dk.name,kd.1,1+m/((j:Int)*j+2)%6)) (eV (aq (bW (ae 18 rfl) aA rfl) (aq (bW (ae 20 rfl) aA rfl) (aq (cI aA (cv (eP (ae 7 rfl) (cI (nO (ae 19 rfl) (ae 19 rfl) (.inl ⟨by omega,by omega⟩)) aA) ⟨by omega,by omega⟩) aA (by decide))) aQ)))) (gN (by simp only[ao,a7];omega)))))) ⟨.inr rfl,.inr rfl,.inr rfl,.inr rfl,.inr rfl,.inr rfl,.inl rfl,.inr rfl,.inr rfl,.inr rfl,.inr rfl,.inr rfl,.inr rfl,.inr rfl,.inr rfl,.inl rfl,.inr ?_,.inr rfl,.inr rfl,.inl rfl,.inl rfl,trivial⟩
     rw[<-cV,aU (l₂:=Option.toList _)];rfl
    ·have et:sI m dk.name (kd,j)=none:=by show(if _ then _ else _)=_;rw[if_neg ht]
     rw[et];refine jE (bf (b0 (VT.to (xl (cv (eP (ae 7 rfl) (cI (ae 19 rfl) aA) ⟨by omega,by omega⟩) aA (by decide)) aA) (by simpa using ht)) bL)) ⟨.inr rfl,.inr rfl,.inr rfl,.inr rfl,.inr rfl,.inr rfl,.inl rfl,.inr rfl,.inr rfl,.inr rfl,.inr rfl,.inr rfl,.inr rfl,.inr rfl,.inr rfl,.inl rfl,.inr ?_,.inr rfl,.inr rfl,.inl rfl,.inl rfl,trivial⟩
     rw[Option.toList_none,eI]
   have rle:=qO m dk.name (cy (gy ns)) (cy (gy ns)).length;have e5:du (.int (m/5%4)) (.int 0)=decide (m/5%4=0):=jW _ _;by_cases h5:m/5%4=0
   ·have eh:jQ m dk.name=[(dk.name,m/20%9,9+m/180%20),(dk.name,25+m/3600%20,50+m/72000%40)]:=by unfold jQ;rw[if_pos h5]
    rw[eh];refine jE (bf (dN (VT.to (bQ (k:=1) kF (cx 20 _) (cx 20 _) (cv (eP (ae 7 rfl) aA ⟨by decide,by decide⟩) aA (by decide)) aA) (by rw[e5,decide_eq_true h5])) (aL (iF 17 rfl (d:=qN (dk.name,m/20%9,9+m/180%20)) (eV (aq (bW (ae 18 rfl) aA rfl) (aq (cv (eP (ae 7 rfl) aA ⟨by decide,by decide⟩) aA (by decide)) (aq (cI aA (cv (eP (ae 7 rfl) aA ⟨by decide,by decide⟩) aA (by decide))) aQ)))) (gN (by simp only[ao];omega))) (bf (iF 17 rfl (d:=qN (dk.name,25+m/3600%20,50+m/72000%40)) (eV (aq (bW (ae 18 rfl) aA rfl) (aq (cI aA (cv (eP (ae 7 rfl) aA ⟨by decide,by decide⟩) aA (by decide))) (aq (cI aA (cv (eP (ae 7 rfl) aA ⟨by decide,by decide⟩) aA (by decide))) aQ)))) (gN (by simp only[ao,a7,bD,cB];omega))))))) ⟨.inr rfl,.inr rfl,.inr rfl,.inr rfl,.inr rfl,.inl rfl,.inl rfl,.inl rfl,.inr rfl,.inr rfl,.inr rfl,.inr rfl,.inr rfl,.inr rfl,.inr rfl,.inl rfl,.inr rfl,.inr ?_,.inl rfl,.inl rfl,.inl rfl,trivial⟩
    rw[aU (l₂:=[_,_]),cV];rfl
   ·have eh:jQ m dk.name=[]:=by unfold jQ;rw[if_neg h5]
    rw[eh,eI];exact jE (bf (b0 (VT.to (bQ (k:=1) kF (cx 20 _) (cx 20 _) (cv (eP (ae 7 rfl) aA ⟨by decide,by decide⟩) aA (by decide)) aA) (by rw[e5,decide_eq_false h5])) bL)) ⟨.inr rfl,.inr rfl,.inr rfl,.inr rfl,.inr rfl,.inl rfl,.inl rfl,.inl rfl,.inr rfl,.inr rfl,.inr rfl,.inr rfl,.inr rfl,.inr rfl,.inr rfl,.inl rfl,.inr rfl,.inr rfl,.inl rfl,.inl rfl,.inl rfl,trivial⟩
  refine fJ 16 rfl ?_
  refine fJ 17 rfl ?_
  refine bf (cg (Aw (.cons aO (ae 4 rfl) (.cons aO (ae 10 rfl) (.cons aO (ae 14 rfl) (.cons aO (ae 13 rfl) (.cons aO (ae 16 rfl) (.cons aO (ae 17 rfl) (.cons aO (VO.ve (fG aQ)) .nil))))))) (show([("kinds":Str),"gates","lines","desks","times","hours","paces"]).Nodup by decide +kernel) (by simp[kI]) (by show 7<=15;decide)))
end
end Mg
namespace Mg
open L2 PySem PyProof.Rows
theorem Ju(p:Pl):gE (kI p) "kinds"=some (.list (p.kinds.map lH)):=fE rfl
theorem Cu(p:Pl):gE (kI p) "gates"=some (dz p.gates):=(cR (show ¬(("kinds":Str)="gates") by decide +kernel)).trans (fE rfl)
theorem xO(p:Pl):gE (kI p) "lines"=some (.list (p.lines.map kH)):=(cR (show ¬(("kinds":Str)="lines") by decide +kernel)).trans ((cR (show ¬(("gates":Str)="lines") by decide +kernel)).trans (fE rfl))
theorem xP(p:Pl):gE (kI p) "desks"=some (.list (p.desks.map df)):=(cR (show ¬(("kinds":Str)="desks") by decide +kernel)).trans ((cR (show ¬(("gates":Str)="desks") by decide +kernel)).trans ((cR (show ¬(("lines":Str)="desks") by decide +kernel)).trans (fE rfl)))
theorem Jv(p:Pl):gE (kI p) "times"=some (.list (p.times.map pO)):=(cR (show ¬(("kinds":Str)="times") by decide +kernel)).trans ((cR (show ¬(("gates":Str)="times") by decide +kernel)).trans ((cR (show ¬(("lines":Str)="times") by decide +kernel)).trans ((cR (show ¬(("desks":Str)="times") by decide +kernel)).trans (fE rfl))))
theorem Jw(p:Pl):gE (kI p) "hours"=some (.list (p.hours.map qN)):=(cR (show ¬(("kinds":Str)="hours") by decide +kernel)).trans ((cR (show ¬(("gates":Str)="hours") by decide +kernel)).trans ((cR (show ¬(("lines":Str)="hours") by decide +kernel)).trans ((cR (show ¬(("desks":Str)="hours") by decide +kernel)).trans ((cR (show ¬(("times":Str)="hours") by decide +kernel)).trans (fE rfl)))))
theorem Jx(p:Pl):gE (kI p) "paces"=some (.list []):=(cR (show ¬(("kinds":Str)="paces") by decide +kernel)).trans ((cR (show ¬(("gates":Str)="paces") by decide +kernel)).trans ((cR (show ¬(("lines":Str)="paces") by decide +kernel)).trans ((cR (show ¬(("desks":Str)="paces") by decide +kernel)).trans ((cR (show ¬(("times":Str)="paces") by decide +kernel)).trans ((cR (show ¬(("hours":Str)="paces") by decide +kernel)).trans (fE rfl))))))
def pickOf{α:Type}(l:List α)(d:α)(j:Int):α:=l.getD (j%l.length).toNat d
theorem Fu{α:Type}{l:List α}{d:α}{F:α->aj}(h:1<=l.length)(j:Int):oO (l.map F) (j%(l.length:Int))=some (F (pickOf l d j))/\pickOf l d j∈l:=by
 unfold pickOf;have a1:0<=j%(l.length:Int):=aZ _ (by omega)
 have a2:j%(l.length:Int)<l.length:=bw _ (by omega)
 generalize j%(l.length:Int)=i at *
 obtain⟨n,rfl⟩:=kL a1;have hn:n<l.length:=by omega
 have e:l.getD ((n:Int)).toNat d=l[n]:=by rw[fw,ax,au hn];rfl
 rw[e];exact⟨bH (by rw[aJ,au hn];rfl),dG hn⟩
structure Ka(K:ai):Prop where
 ss:dY K (.type "str") (.type "str")=some true
 is:dY K (.type "int") (.type "str")=some false
 ts:dY K (.type "tuple") (.type "str")=some false
 ls:dY K (.type "list") (.type "str")=some false
 ii:dY K (.type "int") (.type "int")=some true
 ti:dY K (.type "tuple") (.type "int")=some false
 li:dY K (.type "list") (.type "int")=some false
 ib:dY K (.type "int") (.type "bool")=some false
 tt:dY K (.type "tuple") (.type "tuple")=some true
 tl:dY K (.type "tuple") (.type "list")=some false
 lt:dY K (.type "list") (.type "tuple")=some false
 ll:dY K (.type "list") (.type "list")=some true
def Xr:aj->Bool
 | .none=>true
 |_=>false
theorem oC{K:ai}{d:aj}:yD K (λx y H Q=>y=.non/\Q (.bl (decide (x=.non))) H) d .none (.bool (Xr d)):=λv u H0 H Q s r1 r2 k=>by
 cases r2;refine⟨rfl,k _ _ _ (.refl s) ?_⟩
 cases r1<;>exact .bl _
structure Na(mg:Str->Option av):Prop extends Nm mg where
 str:mg "str"=none
 all:mg "all"=none
def U6:aj->Option aj:=λ_=>some (.bool true)
theorem AU:∀l:List aj,l.filterMap U6=(a_ l.length true).map .bool
 | []=>rfl
 |d::l=>by rw[c9 (f:=U6) (b:=.bool true) rfl,AU l];rfl
theorem zy(n:Nat):pM (a_ n true)=true:=by
 unfold pM;rw[d_];intro b hb;exact(iZ.mp hb).2
def zz(c:Nat):List (List Nat)->List Nat
 | []=>[]
 | [x]=>x
 |x::y::r=>x++c::zz c (y::r)
theorem Cv{c:Nat}:∀{a b r s:List Nat},c∉a->c∉b->a++c::r=b++c::s->a=b/\r=s
 | [],[],r,s,_,_,h=>⟨rfl,(jJ h).2⟩
 | [],y::b,r,s,_,hb,h=>absurd (jJ h).1 (λz=>hb (by rw[z];exact aN))
 |x::a,[],r,s,ha,_,h=>absurd (jJ h).1 (λz=>ha (by rw[<-z];exact aN))
 |x::a,y::b,r,s,ha,hb,h=>by
  obtain⟨h1,h2⟩:=jJ h;obtain⟨h3,h4⟩:=Cv (λz=>ha (aT _ z)) (λz=>hb (aT _ z)) h2
  exact⟨by rw[h1,h3],h4⟩
theorem zA{c:Nat}:∀{ps qs:List (List Nat)},ps≠[]->qs≠[]->(∀p∈ps,c∉p)->(∀p∈qs,c∉p)->zz c ps=zz c qs->ps=qs
 | [],_,h,_,_,_,_=>absurd rfl h
 |_,[],_,h,_,_,_=>absurd rfl h
 | [x],[y],_,_,_,_,h=>by have h:x=y:=h;rw[h]
 | [x],y::y2::qs,_,_,hp,_,h=>by
  have h:x=y++c::zz c (y2::qs):=h;exact absurd (by rw[h];exact b9 _ aN) (hp x aN)
 |x::x2::ps,[y],_,_,_,hq,h=>by
  have h:x++c::zz c (x2::ps)=y:=h;exact absurd (by rw[<-h];exact b9 _ aN) (hq y aN)
 |x::x2::ps,y::y2::qs,_,_,hp,hq,h=>by
  obtain⟨h1,h2⟩:=Cv (hp x aN) (hq y aN) h;have:=zA (ps:=x2::ps) (qs:=y2::qs) (by simp) (by simp) (λp z=>hp p (aT _ z)) (λp z=>hq p (aT _ z)) h2
  rw[h1,this]
theorem add_list(x y:Str):(x++y).cps.toList=x.cps.toList++y.cps.toList:=by
 show(x.cps++y.cps).toList=_
 simp
theorem str_inj{x y:Str}(h:x.cps.toList=y.cps.toList):x=y:=Str.ext' (Array.toList_inj.mp h)
theorem join_list(c:Nat):∀ps:List Str,(cW (one c) ps).cps.toList=zz c (ps.map λp=>p.cps.toList)
 | []=>rfl
 | [x]=>rfl
 |x::y::r=>by
  show(x++one c++cW (one c) (y::r)).cps.toList=_
  rw[add_list,add_list,join_list c (y::r)];show x.cps.toList ++ [c]++_=x.cps.toList++c::_;simp
theorem uf(x y:Str):cz x y≠[]:=by
 intro h;unfold cz at h
 split at h
 ·cases h
 ·split at h
  ·cases h
  ·have:=congrArg fD h
   rw[vR]at this;simp at this
theorem sL{c:Nat}{ps:List Str}(h:ps≠[])(hf:∀p∈ps,c∉p.cps.toList):cz (cW (one c) ps) (one c)=ps:=by
 have h1:=mJ (cW (one c) ps) (one c);have h2:=mK (cW (one c) ps) c;have h3:=uf (cW (one c) ps) (one c)
 generalize hq:cz (cW (one c) ps) (one c)=qs at *
 have h2:∀p∈qs,c∉p.cps.toList:=by rw[<-hq];exact mK (cW (one c) ps) c
 have e:=congrArg (λs:Str=>s.cps.toList) h1
 simp only[join_list]at e;have:=zA (c:=c) (ps:=qs.map λp=>p.cps.toList) (qs:=ps.map λp=>p.cps.toList) (by simpa using h3) (by simpa using h)
  (λp hp=>by obtain⟨q,hq,rfl⟩:=aG.mp hp;exact h2 q hq) (λp hp=>by obtain⟨q,hq,rfl⟩:=aG.mp hp;exact hf q hq) e
 have inj:∀{l m:List Str},(l.map λp=>p.cps.toList)=(m.map λp=>p.cps.toList)->l=m:=by
  intro l
  induction l with
  |nil=>intro m hm;cases m with|nil=>rfl|cons _ _=>cases hm
  |cons x l ih=>
   intro m hm;cases m with
   |nil=>cases hm
   |cons y m=>
    obtain⟨a1,a2⟩:=jJ hm;rw[str_inj a1,ih a2]
 exact inj this
theorem Cw(c:Nat):∀{ps qs:List Str},ps≠[]->qs≠[]->cW (one c) (ps++qs)=cW (one c) ps++one c++cW (one c) qs
 | [],_,h,_=>absurd rfl h
 | [x],q::qs,_,_=>rfl
 | [x],[],_,h=>absurd rfl h
 |x::y::r,qs,_,h=>by
  show x++one c++cW (one c) ((y::r)++qs)=_;rw[Cw c (ps:=y::r) (by simp) h]
  apply str_inj;show _=(x++one c++cW (one c) (y::r)++one c++cW (one c) qs).cps.toList;simp only[add_list,cV]
theorem Gy(c:Nat)(x y:Str):cz (x++one c++y) (one c)=cz x (one c)++cz y (one c):=by
 have e:x++one c++y=cW (one c) (cz x (one c)++cz y (one c)):=by
  rw[Cw c (uf _ _) (uf _ _),mJ,mJ]
 rw[e];refine sL (by simp[uf]) λp hp=>?_
 rcases bZ.mp hp with hp|hp
 ·exact mK x c p hp
 ·exact mK y c p hp
theorem xQ{c:Nat}{x:Str}(h:c∉x.cps.toList):cz x (one c)=[x]:=by
 have:=sL (c:=c) (ps:=[x]) (by simp) (λp hp=>by rw[bh.mp hp];exact h)
 exact this
theorem va:(" ":Str)=one 32:=by decide +kernel
theorem Qi:("\n":Str)=one 10:=by decide +kernel
theorem k7(x y:Str):wordsOf (x++" "++y)=wordsOf x++wordsOf y:=by
 unfold wordsOf;rw[va,Gy,List.filter_append]
theorem xR:wordsOf ""=[]:=by
 unfold wordsOf;rw[va,xQ (by decide +kernel)]
 rfl
theorem vb{w:Str}(h:w≠"")(hb:32∉w.cps.toList):wordsOf w=[w]:=by
 unfold wordsOf;rw[va,xQ hb,lM,if_pos (by simpa using h)]
 rfl
theorem Gz(x y z:Str):x++y++z=x++(y++z):=by
 apply str_inj;simp only[add_list,cV]
theorem GA(x:Str):x++""=x:=by
 apply str_inj;rw[add_list];show x.cps.toList ++ []=_;simp
theorem empty_app(x:Str):""++x=x:=by
 apply str_inj;rw[add_list];rfl
theorem xS(x:Str)(n:Nat):jm x (n+1)=x++jm x n:=by
 apply str_inj;rw[add_list]
 show(x.cps++(jm x n).cps).toList=_
 simp
theorem D8(n:Nat)(y:Str):wordsOf (jm " " n++y)=wordsOf y:=by
 induction n with
 |zero=>rw[show jm " " 0="" from rfl,empty_app]
 |succ n ih=>
  have e:jm " " (n+1)++y=""++" "++(jm " " n++y):=by rw[xS,empty_app,Gz]
  rw[e,k7,xR,ih];rfl
theorem GB(n:Nat)(x y:Str):wordsOf (x++jm " " (n+1)++y)=wordsOf x++wordsOf y:=by
 have e:x++jm " " (n+1)++y=x++" "++(jm " " n++y):=by rw[xS];apply str_inj;simp only[add_list,cV]
 rw[e,k7,D8]
theorem xT(n:Nat):∀{ws:List Str},(∀w∈ws,w≠""/\32∉w.cps.toList)->wordsOf (cW (jm " " (n+1)) ws)=ws
 | [],_=>xR
 | [w],h=>vb (h w aN).1 (h w aN).2
 |w::v::ws,h=>by
  show wordsOf (w++jm " " (n+1)++cW (jm " " (n+1)) (v::ws))=_;rw[GB,vb (h w aN).1 (h w aN).2,xT n (λu hu=>h u (aT _ hu))]
  rfl
theorem nB{ws:List Str}(h:∀w∈ws,w≠""/\32∉w.cps.toList):wordsOf (cW " " ws)=ws:=by
 have e:jm " " (0+1)=" ":=by rw[xS,show jm " " 0="" from rfl,GA]
 have:=xT 0 h;rw[e]at this;exact this
theorem GC{rows:List Str}(h0:rows≠[])(h:∀r∈rows,10∉r.cps.toList):rowsOf (cW "\n" rows)=rows.zipIdx.filterMap λp=>if(wordsOf p.1).isEmpty then none else some (p.2,wordsOf p.1):=by
 unfold rowsOf;rw[Qi,sL h0 h]
def dv(n:Int):Str:=ni (toString n)
theorem AV{m:Nat}(h:¬m<10):iw 10 m=iw 10 (m/10) ++ [Nat.digitChar (m%10)]:=by
 have hm:m%10<10:=qp m (by decide)
 have t:iw 10 (m/10)++iw 10 (m%10)=iw 10 (10*(m/10)+m%10):=Nat.toDigits_append_toDigits (by decide) (by omega) hm
 rw[Nat.div_add_mod]at t;rw[<-t,kM hm]
theorem Fv:∀(k m:Nat),1<=k->m<10^k->(iw 10 m).length<=k
 |0,_,h,_=>by omega
 |k+1,m,_,h=>by
  by_cases hm:m<10
  ·rw[kM hm];simp
  ·rw[AV hm,a7]
   have hk:1<=k:=by
    rcases uJ k with rfl|hk
    ·exact absurd h (by simpa using hm)
    ·exact hk
   have h10:m/10<10^k:=by rw[Nat.div_lt_iff_lt_mul (by decide)];rw[Nat.pow_succ]at h;exact h
   have:=Fv k (m/10) hk h10;simp only[jt];omega
theorem L_(m:Nat):1<=(iw 10 m).length:=by
 by_cases hm:m<10
 ·rw[kM hm];simp
 ·rw[AV hm,a7];simp
theorem Jy(m:Nat)(h:0<m):∃c,(iw 10 m).head?=some c/\c≠'0':=by
 induction m using Nat.strongRecOn with
 |_ m ih=>
  by_cases hm:m<10
  ·rw[kM hm]
   refine⟨_,rfl,?_⟩
   have:∀d:Nat,d<10->0<d->Nat.digitChar d≠'0':=by decide
   exact this m hm h
  ·obtain⟨c,h1,h2⟩:=ih (m/10) (by omega) (by omega)
   refine⟨c,?_,h2⟩
   rw[AV hm,List.head?_append,h1]
   rfl
theorem vd{n:Int}(h0:0<=n):(dv n).cps.toList=(iw 10 n.toNat).map Char.toNat:=by
 obtain⟨m,rfl⟩:=kL h0;exact PySem.W.KIN.signs_num m
theorem k8{n:Int}(h0:0<=n){c:Nat}(hc:c∈(dv n).cps.toList):48<=c/\c<=57:=by
 rw[vd h0]at hc;obtain⟨ch,Hj,e⟩:=aG.mp hc;have r:=digit_range (Nat.isDigit_of_mem_toDigits (by decide) (by decide) Hj)
 rw[<-e];exact r
theorem wB{n:Int}(h0:0<=n)(h1:n<1000000):1<=(dv n).length/\(dv n).length<=6:=by
 have e:(dv n).length=(iw 10 n.toNat).length:=by
  show(dv n).cps.size=_
  rw[<-cN,vd h0,ao]
 rw[e];exact⟨L_ _,Fv 6 _ (by decide) (by omega)⟩
theorem Cy:("0123456789":Str).cps.toList=(aW 10).map (48 + ·):=by decide +kernel
theorem nT{n:Int}(h0:0<=n)(h1:n<1000000):uc (dv n):=by
 refine⟨by have:=wB h0 h1;omega,(mh _).mpr λc hc=>?_⟩
 have:=k8 h0 hc;omega
theorem xU{n:Int}(h0:0<=n)(h1:n<1000000):isNumber (dv n)=true:=by
 obtain⟨l1,l2⟩:=wB h0 h1;have em:nR "0123456789" 6 (dv n)=true:=by
  unfold nR;rw[decide_eq_true (by omega),decide_eq_true (by omega),jl,jl,d_]
  intro c hc;have hd:=k8 h0 hc;have:Au (one c) "0123456789"=decide (c∈("0123456789":Str).cps.toList):=tJ ..;rw[this,Cy];exact decide_eq_true (aG.mpr ⟨c-48,cF.mpr (by omega),by omega⟩)
 unfold isNumber;rw[em,jl];by_cases hn:n=0
 ·subst hn
  rw[decide_eq_true (show dv 0="0" by decide +kernel)]
  rfl
 ·obtain⟨c,c1,c2⟩:=Jy n.toNat (by omega)
  have hh:(dv n).cps.toList.head?=some c.toNat:=by
   rw[vd h0,List.head?_map,c1]
   rfl
  rw[hh];have:one c.toNat≠"0":=by
   intro z;have z2:(one c.toNat).cps.toList=("0":Str).cps.toList:=by rw[z]
   have z3:[c.toNat]=[48]:=z2;have z4:c.toNat=48:=by simpa using z3
   exact c2 (Char.toNat_inj.mp z4)
  show(_ || !decide (one c.toNat="0"))=true
  rw[decide_eq_false this];simp
theorem num_reads{n:Int}(h0:0<=n)(h1:n<1000000):intText? (dv n)=some n:=PySem.W.KIN.num_reads h0 (by omega)
theorem mX{n:Int}(h0:0<=n)(h1:n<1000000):dv n≠""/\32∉(dv n).cps.toList/\10∉(dv n).cps.toList:=by
 refine⟨λz=>?_,λz=>?_,λz=>?_⟩
 ·have:=(wB h0 h1).1
  rw[z]at this;exact absurd this (by decide)
 ·have:=k8 h0 z;omega
 ·have:=k8 h0 z;omega
theorem hC{x:Str}(h:dB x):x≠""/\32∉x.cps.toList/\10∉x.cps.toList:=by
 refine⟨λz=>?_,λz=>?_,λz=>?_⟩
 ·have:=h.1
  rw[z]at this;exact absurd this (by decide)
 ·have:=h.2.2 _ z;omega
 ·have:=h.2.2 _ z;omega
end Mg
namespace Mg
open L2 PySem PyProof.Rows
seal L2.VE L2.VS L2.uT L2.VT L2.VO L2.Pu
def dq(i:Int):Prop:=0<=i/\i<1000000
theorem dq.log{i:Int}(h:dq i):i.natAbs.log2<1920:=by
 have:i.natAbs<2^20:=by have:=h.1;have:=h.2;omega
 have h2:i.natAbs.log2<=20:=by
  rcases uJ i.natAbs with e|e
  ·rw[e];decide
  ·exact qc ((Nat.log2_lt (by omega)).mpr this)
 omega
def Dq:aj->Prop
 | .none=>True
 | .int i=>dq i
 | .str x=>x=""\/dB x
 |_=>False
def ei:aj->Str
 | .str x=>if x="" then "-" else x
 | .int i=>dv i
 |_=>"-"
section
variable{P:bo}{w:bX}{K:ai}{mg:Str->Option av}{base:cK}{f:aK}{k:Nat}
theorem TL:cH ["_law_thing"] ["_law_thing"] (bP (top 48)):=⟨rfl,rfl,rfl,by decide +kernel,rfl,by decide +kernel,by decide +kernel⟩
def Xs(ds:List aj)(d:aj):Prop:=∃x,ds=[x]/\Dq x/\d=.str (ei x)
theorem Xt{fd:bS}(F:lg K "_law_dash" "_law_dash" (top 48) f fd)(n:Na mg):eU P w K mg base ky 1 f fd ["_law_thing"] (gW K Xs):=
 jA F TL (λ_ _ h=>by obtain⟨_,rfl,_⟩:=h;rfl) λ_ _ h=>by
  obtain⟨x,rfl,ho,rfl⟩:=h;intro ix A outer s H E hr;have l0:Lay 20 (.str ""):=bJ (by decide +kernel)
  cases x with
  |none=>exact dH (dN (VT.to (jx (k2:=true) (iE kY oC (ae 0 rfl) gk (fU _)) (λz=>by cases z)) rfl) (bf (cg aO))) rfl
  |int i=>
   refine aL (b0 (VT.to (jx (iE kY oC (ae 0 rfl) gk (fU _)) (λ_=>bQ hr (cx 20 _) l0 (ae 0 rfl) aO)) rfl) bL) ?_
   exact bf (cg (rj (ae 0 rfl) (dq.log ho) n.str))
  |str z=>
   have oz:nA z:=by
    rcases ho with rfl|ho
    ·show cJ (.str ("":Str))=true;decide +kernel
    ·exact ho.ok.2
   by_cases hz:z=""
   ·refine dH (dN (VT.to (jx (iE kY oC (ae 0 rfl) gk (fU _)) (λ_=>bQ hr (bJ oz) l0 (ae 0 rfl) aO)) ?_) (bf (cg (VE.to aO ?_)))) rfl
    ·rw[bO,decide_eq_true hz];rfl
    ·show aP "-"=.str (if z="" then "-" else z);rw[if_pos hz]
   ·refine aL (b0 (VT.to (jx (iE kY oC (ae 0 rfl) gk (fU _)) (λ_=>bQ hr (bJ oz) l0 (ae 0 rfl) aO)) ?_) bL) ?_
    ·rw[bO,decide_eq_false hz];rfl
    ·refine bf (cg (VE.to (LD (ae 0 rfl) n.str) ?_))
     show aP z=.str (if z="" then "-" else z);rw[if_neg hz]
  |_=>exact ho.elim
def xV:Rl->Prop
 | .meet=>True
 | .gather m a=>dq m/\dq a
 | .many m=>dq m
 | .rank none=>True
 | .rank (some b)=>dq b
 | .turns s=>s.length<=60/\∀z∈s,dq z
 | .eldest=>True
def cQ:Rl->List Str
 | .turns s=>"turns"::s.map dv
 |r=>mV r::(p9 r).map ei
def oE(r:Rl):Str:=cW " " (cQ r)
theorem TN:cH ["_law_rule_here"] ["_law_rule_here"] (bP (top 49)):=⟨rfl,rfl,rfl,by decide +kernel,rfl,by decide +kernel,by decide +kernel⟩
def Rrt(ds:List aj)(d:aj):Prop:=∃r,ds=[Dp r]/\xV r/\d=.str (oE r)
def TQ:aj->Option aj
 | .int i=>some (.str (dv i))
 |_=>none
theorem Jz(l:List Int):(l.map fj).filterMap TQ=(l.map dv).map .str:=by
 rw[cL,aS];exact filterMap_some λk _=>rfl
def NP:aj->Option aj:=λd=>some (.str (ei d))
theorem GF(l:List aj):l.filterMap NP=(l.map ei).map .str:=by
 rw[aS];exact filterMap_some λk _=>rfl
theorem hG{i:Int}(h:dq i):(dv i).length<=6:=(wB h.1 h.2).2
theorem oF:∀{l:List Str}{b:Nat},(∀x∈l,x.length<=b)->(l.map (·.length)).sum<=l.length*b
 | [],_,_=>by simp
 |x::l,b,h=>by
  have h1:=h x aN;have h2:=oF λy hy=>h y (aT _ hy)
  rw[aH,Bu,bD,Nat.add_mul];omega
theorem j0{d:aj}(h:Dq d):(ei d).length<=8:=by
 cases d with
 |none=>decide
 |int i=>exact b_ (hG h) (by decide)
 |str x=>
  show(if x="" then("-":Str)else x).length<=8
  split
  ·decide
  ·rename_i hx
   rcases h with h|h
   ·exact absurd h hx
   ·have:=h.2.1
    rw[cN]at this;exact this
 |_=>exact h.elim
theorem xW{r:Rl}(ht:∀s,r≠.turns s)(h:xV r):∀d∈p9 r,Dq d:=by
 intro d hd;cases r with
 |meet=>cases hd
 |eldest=>cases hd
 |gather m a=>
  rcases aI.mp hd with rfl|hd
  ·exact h.1
  ·rw[bh.mp hd];exact h.2
 |many m=>rw[bh.mp hd];exact h
 |rank b=>rw[bh.mp hd];cases b with|none=>trivial|some b=>exact h
 |turns s=>exact absurd rfl (ht s)
theorem Xu{fd:bS}(F:lg K "_law_rule_text" "_law_rule_text" (top 49) f fd)(n:Na mg)(C:bE P w K mg base 1 "_law_dash" ["_law_thing"] (gW K Xs)):eU P w K mg base ky 2 f fd ["_law_rule_here"] (gW K Rrt):=
 jA F TN (λ_ _ h=>by obtain⟨_,rfl,_⟩:=h;rfl) λ_ _ h=>by
  obtain⟨r,rfl,ho,rfl⟩:=h;intro ix A outer s H E hr;have oR:nA (mV r):=by cases r<;>dsimp only[mV,nA]<;>decide +kernel
  have lT:Lay 20 (.str "turns"):=bJ (by decide +kernel)
  have h0:oO (aP (mV r)::p9 r) 0=some (.str (mV r)):=bH (j:=0) rfl;by_cases ht:∃sh,r=.turns sh
  ·obtain⟨sh,rfl⟩:=ht
   have nc:(["_law_share"]:List Str).Nodup:=by decide +kernel
   refine dH (dN (VT.to (bQ (k:=1) hr (bJ oR) lT (bW (ae 0 rfl) aA h0) aO) (by rw[bO];exact decide_eq_true rfl)) (bf (cg (rm (zs:=cQ (.turns sh)) aO (VE.to (VO.ve (nP (d1:=[.str "turns"]) (d2:=(sh.map dv).map .str) (VO.ve (fG (aq aO aQ))) (VO.ve (VO.to (fe (own:=["_law_share"]) (cap:=[]) (N:=["_law_share"]) (cl:=[]) (tgt:=.one 0) (F:=TQ) (ds:=sh.map .int) rfl ⟨rfl,by decide +kernel,by decide +kernel,rfl,rfl,by simp⟩ (xm (bW (d:=.tuple (sh.map .int)) (ae 0 rfl) aA (bH (j:=1) rfl))) (λf s3 H3=>bM (i:=0) nc rfl (bj rfl)) rfl
    (small (by rw[ao];have:=ho.1;omega)) (λd hd=>?_)) (Jz _))) (small (by simp only[ao,bD,cB];have:=ho.1;omega)))) rfl) ?_)))) rfl
   ·obtain⟨z,hz,rfl⟩:=aG.mp hd
    refine⟨_,rfl,λf s3 H3=>fA,λr jo f s3 H3=>?_⟩
    cases jo;exact rj (ae 0 rfl) (dq.log (ho.2 z hz)) n.str
   ·have h1:=oF (l:=cQ (.turns sh)) (b:=6) λx hx=>by
     rcases aI.mp hx with rfl|hx
     ·decide
     ·obtain⟨z,hz,rfl⟩:=aG.mp hx
      exact hG (ho.2 z hz)
    have h2:(cQ (.turns sh)).length=sh.length+1:=by simp[cQ]
    have h3:=ho.1;have h4:(" ":Str).length=1:=by decide
    rw[h4];omega
  ·have AW:∀sh,r≠.turns sh:=λsh z=>ht ⟨sh,z⟩
   have hw:mV r≠"turns":=by
    cases r with
    |turns sh=>exact absurd rfl (AW sh)
    |_=>dsimp only[mV];decide +kernel
   have JA:cQ r=mV r::(p9 r).map ei:=by
    cases r with
    |turns sh=>exact absurd rfl (AW sh)
    |_=>rfl
   have hl:(p9 r).length<=2:=by cases r<;>simp[p9]
   have O6:(mV r).length<=8:=by cases r<;>dsimp only[mV]<;>decide +kernel
   have hok:=xW AW ho;unfold oE;rw[JA];unfold Dp
   generalize p9 r=ra at *
   generalize mV r=oU at *
   have nc:(["_law_one"]:List Str).Nodup:=by decide +kernel
   have JB:L2.cutD (aP oU::ra) (some 1) none=ra:=(jR (aP oU::ra) 1).trans rfl;refine aL (b0 (VT.to (bQ (k:=1) hr (bJ oR) lT (bW (ae 0 rfl) aA h0) aO) (by rw[bO];exact decide_eq_false hw)) bL) ?_
   refine bf (cg (rm (zs:=oU::ra.map ei) aO (VE.to (VO.ve (nP (d1:=[.str oU]) (d2:=(ra.map ei).map .str) (VO.ve (fG (aq (bW (ae 0 rfl) aA h0) aQ))) (VO.ve (VO.to (fe (own:=["_law_one"]) (cap:=[]) (N:=["_law_one"]) (cl:=[]) (tgt:=.one 0) (F:=NP) (ds:=ra) rfl ⟨rfl,by decide +kernel,by decide +kernel,rfl,rfl,by simp⟩ (xm (VE.to (uS (ds:=.str oU::ra) (ae 0 rfl) (.yes aA) .no ?_) (by rw[JB]))) (λf s3 H3=>bM (i:=0) nc rfl (bj rfl)) rfl
    (small (by omega)) (λd hd=>?_)) (GF _))) (small (by simp only[ao,bD,cB];omega)))) rfl) ?_))
   ·intro z
    have:=z.1;rw[show(1:Int)=((1:Nat):Int)from rfl,HT.oW,bD]at this
    omega
   ·refine⟨_,rfl,λf s3 H3=>fA,λr jo f s3 H3=>?_⟩
    cases jo;exact bC C hr (aq (ae 0 rfl) aQ) ⟨d,rfl,hok d hd,rfl⟩
   ·have h1:=oF (l:=oU::ra.map ei) (b:=8) λx hx=>by
     rcases aI.mp hx with rfl|hx
     ·exact O6
     ·obtain⟨z,hz,rfl⟩:=aG.mp hx
      exact j0 (hok z hz)
    have h2:(oU::ra.map ei).length=ra.length+1:=by simp
    have h4:(" ":Str).length=1:=by decide
    rw[h4];omega
end
def pw(p:Str×Option Int):Str:="kind "++p.1++" "++ei (mj p.2)
def mq(g:Str):Str:="gate "++g
def mr(p:Str×Int):Str:="line "++p.1++" "++dv p.2
def mY(d:Dk):Str:="desk "++d.name++" to "++ei (.str d.to)++" by "++oE d.rule
def lq(d:Dk):Str:=mY d++" from "++cW " " d.places
def mw(p:Str×Str×Int):Str:=cW " " ["time",p.1,p.2.1,dv p.2.2]
def nD(p:Str×Int×Int):Str:=cW " " ["open",p.1,dv p.2.1,dv p.2.2]
structure j3(p:Pl):Prop where
 kn:p.kinds.length<=60
 gn:p.gates.length<=60
 ln:p.lines.length<=60
 dn:p.desks.length<=60
 tn:p.times.length<=600
 hn:p.hours.length<=600
 kinds:∀q∈p.kinds,dB q.1/\Dq (mj q.2)
 gates:∀g∈p.gates,dB g
 lines:∀q∈p.lines,dB q.1/\dq q.2
 desks:∀d∈p.desks,dB d.name/\(d.to=""\/dB d.to)/\xV d.rule/\d.places.length<=60/\∀x∈d.places,dB x
 times:∀q∈p.times,dB q.1/\dB q.2.1/\dq q.2.2
 hours:∀q∈p.hours,dB q.1/\dq q.2.1/\dq q.2.2
theorem dB.short{x:Str}(h:dB x):x.length<=8:=by
 have:=h.2.1;rw[cN]at this;exact this
theorem gQ{y:Str}(hy:y.length<=1):∀{l:List Str}{b:Nat},(∀x∈l,x.length<=b)->(cW y l).length<=l.length*(b+1)
 | [],_,_=>by show 0<=_;exact bx _
 | [x],b,h=>by
  have:=h x aN;show x.length<=1*(b+1);omega
 |x::z::l,b,h=>by
  have h1:=h x aN;have h2:=gQ hy (l:=z::l) λu hu=>h u (aT _ hu)
  show(x++y++cW y (z::l)).length<=(z::l).length.succ*(b+1)
  rw[cw,cw,Dt];omega
theorem mZ{r:Rl}(h:xV r):(oE r).length<=700:=by
 have hl:(cQ r).length<=61/\∀x∈cQ r,x.length<=8:=by
  by_cases ht:∃sh,r=.turns sh
  ·obtain⟨sh,rfl⟩:=ht
   refine⟨by have:=h.1;simp[cQ];omega,λx hx=>?_⟩
   rcases aI.mp hx with rfl|hx
   ·decide
   ·obtain⟨z,hz,rfl⟩:=aG.mp hx
    exact b_ (hG (h.2 z hz)) (by decide)
  ·have AW:∀sh,r≠.turns sh:=λsh z=>ht ⟨sh,z⟩
   have hok:=xW AW h;have JA:cQ r=mV r::(p9 r).map ei:=by
    cases r with
    |turns sh=>exact absurd rfl (AW sh)
    |_=>rfl
   have hl:(p9 r).length<=2:=by cases r<;>simp[p9]
   have O6:(mV r).length<=8:=by cases r<;>dsimp only[mV]<;>decide +kernel
   rw[JA];refine⟨by rw[bD,ao];omega,λx hx=>?_⟩
   rcases aI.mp hx with rfl|hx
   ·exact O6
   ·obtain⟨z,hz,rfl⟩:=aG.mp hx
    exact j0 (hok z hz)
 have:=gQ (y:=" ") (by decide) hl.2
 unfold oE;have h9:(cQ r).length*(8+1)<=61*9:=g7 hl.1 (aD _);omega
def Fkr:aj->Option aj
 | .tuple [.str a,k]=>some (.str ("kind "++a++" "++ei k))
 |_=>none
def Fgr:aj->Option aj
 | .str a=>some (.str (mq a))
 |_=>none
def Flr:aj->Option aj
 | .tuple [.str a,.int i]=>some (.str (mr (a,i)))
 |_=>none
def Ftr:aj->Option aj
 | .tuple [.str a,.str b,.int i]=>some (.str (mw (a,b,i)))
 |_=>none
def Fhr:aj->Option aj
 | .tuple [.str a,.int i,.int j]=>some (.str (nD (a,i,j)))
 |_=>none
theorem Ma(l:List (Str×Option Int)):(l.map lH).filterMap Fkr=(l.map pw).map .str:=by
 rw[cL,aS];exact filterMap_some λk _=>rfl
theorem Mb(l:List Str):(l.map aP).filterMap Fgr=(l.map mq).map .str:=by
 rw[cL,aS];exact filterMap_some λk _=>rfl
theorem Md(l:List (Str×Int)):(l.map kH).filterMap Flr=(l.map mr).map .str:=by
 rw[cL,aS];exact filterMap_some λk _=>rfl
theorem Mf(l:List (Str×Str×Int)):(l.map pO).filterMap Ftr=(l.map mw).map .str:=by
 rw[cL,aS];exact filterMap_some λk _=>rfl
theorem Mh(l:List (Str×Int×Int)):(l.map qN).filterMap Fhr=(l.map nD).map .str:=by
 rw[cL,aS];exact filterMap_some λk _=>rfl
def lZ(p:Pl):List Str:=p.kinds.map pw++p.gates.map mq++p.lines.map mr
def dD(p:Pl):List Str:=lZ p++p.desks.map lq++p.times.map mw++p.hours.map nD
def lu(p:Pl):Str:=cW "\n" (dD p)
section
variable{P:bo}{w:bX}{K:ai}{mg:Str->Option av}{base:cK}{f:aK}{k:Nat}
abbrev Npt:List Str:=["_law_h","_law_rows","_law_name","_law_to","_law_rule_here","_law_places","_law_row","_law_gate","_law_kind","_law_burst","_law_gap"]
theorem NQ:cH Npt ["_law_h"] (bP (top 50)):=⟨rfl,rfl,rfl,by decide +kernel,rfl,by decide +kernel,by decide +kernel⟩
def Rpt(ds:List aj)(d:aj):Prop:=∃p,ds=[gP p]/\j3 p/\d=.str (lu p)
theorem Xv{fd:bS}(F:lg K "_law_plant_text" "_law_plant_text" (top 50) f fd)(n:Na mg)(C1:bE P w K mg base 1 "_law_dash" ["_law_thing"] (gW K Xs))(C2:bE P w K mg base 2 "_law_rule_text" ["_law_rule_here"] (gW K Rrt)):eU P w K mg base ky 3 f fd ["_law_h"] (gW K Rpt):=
 jA F NQ (λ_ _ h=>by obtain⟨_,rfl,_⟩:=h;rfl) λ_ _ h=>by
  obtain⟨p,rfl,ok,rfl⟩:=h;intro ix A outer s H E hr;have nd:Npt.Nodup:=NQ.nd;have kF:fc 1 _:=hr.mono (by omega)
  have b1:=ok.kn;have b2:=ok.gn;have b3:=ok.ln;have b4:=ok.dn;have b5:=ok.tn;have b6:=ok.hn;have nk:(["_law_name","_law_keep"]:List Str).Nodup:=by decide +kernel
  refine aL (Ap 1 (own:=["_law_name","_law_keep"]) (cap:=[]) (N:=["_law_name","_law_keep"]) (cl:=[]) (tgt:=.tup [0,1]) (F:=Fkr) (ds:=p.kinds.map lH) rfl ⟨rfl,by decide +kernel,by decide +kernel,rfl,rfl,by simp⟩ (iQ (gF kF (ae 0 rfl) aO (Ju p))) (λf s3 H3=>gf rfl (bU (bM (i:=0) nk rfl (bj rfl)) (bU (bM (i:=1) nk rfl (bj rfl)) eR))) rfl (small (by rw[ao];omega)) (λd hd=>?_) nd) ?_
  ·obtain⟨q,hq,rfl⟩:=aG.mp hd
   obtain⟨h1,h2⟩:=ok.kinds q hq;refine⟨_,rfl,λf s3 H3=>fA,λr jo f s3 H3=>?_⟩
   cases jo;have s1:=h1.short;have s2:=j0 h2;have e1:("kind ":Str).length=5:=by decide
   have e2:(" ":Str).length=1:=by decide
   exact iy (iy (iy aO (ae 0 rfl) (small (by omega))) aO (small (by simp only[cw];omega))) (bC C1 kF (aq (ae 1 rfl) aQ) ⟨_,rfl,h2,rfl⟩) (small (by simp only[cw];omega))
  rw[Ma];refine fJ 1 rfl ?_
  have n1:(["_law_name"]:List Str).Nodup:=by decide +kernel
  refine aL (kz 1 (ds:=(p.kinds.map pw++p.gates.map mq).map .str) (VO.to (nP (d2:=(p.gates.map mq).map .str) (ae 1 rfl) (VO.ve (VO.to (fe (own:=["_law_name"]) (cap:=[]) (N:=["_law_name"]) (cl:=[]) (tgt:=.one 0) (F:=Fgr) (ds:=p.gates.map .str) rfl ⟨rfl,by decide +kernel,by decide +kernel,rfl,rfl,by simp⟩ (iQ (gF kF (ae 0 rfl) aO (Cu p))) (λf s3 H3=>bM (i:=0) n1 rfl (bj rfl)) rfl (small (by rw[ao];omega)) (λd hd=>?_)) (Mb _))) (small (by simp only[ao];omega))) (by rw[aU])) nd) ?_
  ·obtain⟨q,hq,rfl⟩:=aG.mp hd
   have s1:=(ok.gates q hq).short;have e1:("gate ":Str).length=5:=by decide
   refine⟨_,rfl,λf s3 H3=>fA,λr jo f s3 H3=>?_⟩
   cases jo;exact iy aO (ae 0 rfl) (small (by omega))
  refine fJ 1 rfl ?_
  have n2:(["_law_name","_law_room"]:List Str).Nodup:=by decide +kernel
  refine aL (kz 1 (ds:=(lZ p).map .str) (VO.to (nP (d2:=(p.lines.map mr).map .str) (ae 1 rfl) (VO.ve (VO.to (fe (own:=["_law_name","_law_room"]) (cap:=[]) (N:=["_law_name","_law_room"]) (cl:=[]) (tgt:=.tup [0,1]) (F:=Flr) (ds:=p.lines.map kH) rfl ⟨rfl,by decide +kernel,by decide +kernel,rfl,rfl,by simp⟩ (iQ (gF kF (ae 0 rfl) aO (xO p))) (λf s3 H3=>gf rfl (bU (bM (i:=0) n2 rfl (bj rfl)) (bU (bM (i:=1) n2 rfl (bj rfl)) eR))) rfl (small (by rw[ao];omega)) (λd hd=>?_)) (Md _))) (small (by simp only[ao,a7];omega))) (by unfold lZ;rw[aU (l₂:=rP mr _)])) nd) ?_
  ·obtain⟨⟨qa,qi⟩,hq,rfl⟩:=aG.mp hd
   obtain⟨h1,h2⟩:dB qa/\dq qi:=ok.lines (qa,qi) hq;have s1:=h1.short;have s2:=hG h2;have e1:("line ":Str).length=5:=by decide
   have e2:(" ":Str).length=1:=by decide
   refine⟨_,rfl,λf s3 H3=>fA,λr jo f s3 H3=>?_⟩
   cases jo;exact VE.to (iy (x:="line "++qa++" ") (y:=dv qi) (iy (x:="line "++qa) (iy (y:=qa) aO (ae 0 rfl) (small (by omega))) aO (small (by simp only[cw];omega))) (rj (ae 1 rfl) (dq.log h2) n.str) (small (by simp only[cw];omega))) rfl
  have r1:(lZ p).length=p.kinds.length+p.gates.length+p.lines.length:=by unfold lZ;simp only[a7,ao]
  refine aL (mP (tgt:=.tup [2,3,4,5]) (o:=.nx [.val (gP p),.own ((lZ p++(p.desks.take p.desks.length).map lq).map .str),.un,.un,.un,.un,.un,.un,.un,.un,.un]) c7 rfl (iQ (gF kF (ae 0 rfl) aO (xP p)))
   (gf rfl (bU (bM (i:=2) nd rfl (by first|exact bj rfl|exact cP rfl)) (bU (bM (i:=3) nd rfl (by first|exact bj rfl|exact cP rfl)) (bU (bM (i:=4) nd rfl (by first|exact bj rfl|exact cP rfl)) (bU (bM (i:=5) nd rfl (by first|exact bj rfl|exact cP rfl)) eR))))) (λi=>[.val (gP p),.own ((lZ p++(p.desks.take i).map lq).map .str),.un,.un,.un,.un,.un,.un,.un,.un,.un]) p.desks.length (by show([.val (gP p),.own ((lZ p++(p.desks.take 0).map lq).map .str),.un,.un,.un,.un,.un,.un,.un,.un,.un]:List Slot)=_;rw[List.take_zero,fV,eI];rfl) (by rw[ao];exact aD _) (λi d hi hd=>?_) (.inl ⟨by rw[ao],rfl⟩)) ?_
  ·obtain⟨dk,Ct,rfl⟩:∃dk,p.desks[i]?=some dk/\d=df dk:=by
    rw[aJ,au (by omega)]at hd
    cases hd;exact⟨_,au (by omega),rfl⟩
   obtain⟨h1,h2,h3,h4,h5⟩:=ok.desks dk (bA Ct);have Q6:Dq (.str dk.to):=h2;have s1:=h1.short;have s2:=j0 Q6;have s3:=mZ h3;have s4:=gQ (y:=" ") (by decide) (l:=dk.places) (b:=8) λx hx=>(h5 x hx).short
   have s5:dk.places.length*(8+1)<=60*9:=g7 h4 (aD _);have s6:=oF (l:=dk.places) (b:=8) λx hx=>(h5 x hx).short
   have e1:("desk ":Str).length=5:=by decide
   have e2:(" to ":Str).length=4:=by decide
   have e3:(" by ":Str).length=4:=by decide
   have e4:(" from ":Str).length=6:=by decide
   have e5:(" ":Str).length=1:=by decide
   have eh:(mY dk).length<=800:=by unfold mY;simp only[cw];omega
   refine⟨_,rfl,?_⟩
   refine aL (cC 6 (d:=.str (mY dk)) (iy (iy (iy (iy (iy aO (ae 2 rfl) (small (by omega))) aO (small (by simp only[cw];omega))) (bC C1 kF (aq (ae 3 rfl) aQ) ⟨_,rfl,Q6,rfl⟩) (small (by simp only[cw];omega))) aO (small (by simp only[cw];omega))) (bC C2 hr (aq (ae 4 rfl) aQ) ⟨_,rfl,h3,rfl⟩) (small (by simp only[cw];omega))) nd) ?_
   refine jE (bf (iF 1 rfl (d:=.str (lq dk)) (iy (iy (ae 6 rfl) aO (small (by omega))) (rm (zs:=dk.places) aO (VO.ve (zh tP LJ (aq (ae 5 rfl) aQ) n.lst rfl)) (by rw[e5];omega)) (small (by simp only[cw];omega))) (gN (by simp only[ao,a7,cj];omega)))) ⟨.inr rfl,.inr ?_,.inl rfl,.inl rfl,.inl rfl,.inl rfl,.inl rfl,.inr rfl,.inr rfl,.inr rfl,.inr rfl,trivial⟩
   rw[dm,Ct];simp only[sZ,aU,aH,fV,cV]
  rw[iM];refine fJ 1 rfl ?_
  have n3:(["_law_desk","_law_kind","_law_work"]:List Str).Nodup:=by decide +kernel
  refine aL (kz 1 (ds:=(lZ p++p.desks.map lq++p.times.map mw).map .str) (VO.to (nP (d2:=(p.times.map mw).map .str) (ae 1 rfl) (VO.ve (VO.to (fe (own:=["_law_desk","_law_kind","_law_work"]) (cap:=[]) (N:=["_law_desk","_law_kind","_law_work"]) (cl:=[]) (tgt:=.tup [0,1,2]) (F:=Ftr) (ds:=p.times.map pO) rfl ⟨rfl,by decide +kernel,by decide +kernel,rfl,rfl,by simp⟩ (iQ (gF kF (ae 0 rfl) aO (Jv p))) (λf s3 H3=>gf rfl (bU (bM (i:=0) n3 rfl (bj rfl)) (bU (bM (i:=1) n3 rfl (bj rfl)) (bU (bM (i:=2) n3 rfl (bj rfl)) eR)))) rfl (small (by rw[ao];omega)) (λd hd=>?_)) (Mf _))) (small (by simp only[ao,a7];omega))) (by rw[aU (l₂:=rP mw _)])) nd) ?_
  ·obtain⟨⟨qa,qb,qi⟩,hq,rfl⟩:=aG.mp hd
   obtain⟨h1,h2,h3⟩:dB qa/\dB qb/\dq qi:=ok.times (qa,qb,qi) hq;have s1:=h1.short;have s2:=h2.short;have s3:=hG h3;have e1:("time":Str).length=4:=by decide
   have e2:(" ":Str).length=1:=by decide
   refine⟨_,rfl,λf s3 H3=>fA,λr jo f s3 H3=>?_⟩
   cases jo;exact rm (zs:=["time",qa,qb,dv qi]) aO (VO.ve (fG (aq aO (aq (ae 0 rfl) (aq (ae 1 rfl) (aq (rj (ae 2 rfl) (dq.log h3) n.str) aQ)))) (small (by show 4<=_;decide)))) (by rw[e2];simp only[aH,fV,Bu,List.sum_nil,bD,cB];omega)
  refine fJ 1 rfl ?_
  have n4:(["_law_desk","_law_begin","_law_end"]:List Str).Nodup:=by decide +kernel
  refine aL (kz 1 (ds:=(dD p).map .str) (VO.to (nP (d2:=(p.hours.map nD).map .str) (ae 1 rfl) (VO.ve (VO.to (fe (own:=["_law_desk","_law_begin","_law_end"]) (cap:=[]) (N:=["_law_desk","_law_begin","_law_end"]) (cl:=[]) (tgt:=.tup [0,1,2]) (F:=Fhr) (ds:=p.hours.map qN) rfl ⟨rfl,by decide +kernel,by decide +kernel,rfl,rfl,by simp⟩ (iQ (gF kF (ae 0 rfl) aO (Jw p))) (λf s3 H3=>gf rfl (bU (bM (i:=0) n4 rfl (bj rfl)) (bU (bM (i:=1) n4 rfl (bj rfl)) (bU (bM (i:=2) n4 rfl (bj rfl)) eR)))) rfl (small (by rw[ao];omega)) (λd hd=>?_)) (Mh _))) (small (by simp only[ao,a7];omega))) (by unfold dD;rw[aU (l₂:=rP nD _)])) nd) ?_
  ·obtain⟨⟨qa,qb,qi⟩,hq,rfl⟩:=aG.mp hd
   obtain⟨h1,h2,h3⟩:dB qa/\dq qb/\dq qi:=ok.hours (qa,qb,qi) hq;have s1:=h1.short;have s2:=hG h2;have s3:=hG h3;have e1:("open":Str).length=4:=by decide
   have e2:(" ":Str).length=1:=by decide
   refine⟨_,rfl,λf s3 H3=>fA,λr jo f s3 H3=>?_⟩
   cases jo;exact rm (zs:=["open",qa,dv qb,dv qi]) aO (VO.ve (fG (aq aO (aq (ae 0 rfl) (aq (rj (ae 1 rfl) (dq.log h2) n.str) (aq (rj (ae 2 rfl) (dq.log h3) n.str) aQ)))) (small (by show 4<=_;decide)))) (by rw[e2];simp only[aH,fV,Bu,List.sum_nil,bD,cB];omega)
  refine aL (mP (tgt:=.tup [7,8,9,10]) (o:=.nx [.val (gP p),.own ((dD p).map .str),.un,.un,.un,.un,.un,.un,.un,.un,.un]) c7 rfl (iQ (gF kF (ae 0 rfl) aO (Jx p)))
   (gf rfl (bU (bM (i:=7) nd rfl (by first|exact bj rfl|exact cP rfl)) (bU (bM (i:=8) nd rfl (by first|exact bj rfl|exact cP rfl)) (bU (bM (i:=9) nd rfl (by first|exact bj rfl|exact cP rfl)) (bU (bM (i:=10) nd rfl (by first|exact bj rfl|exact cP rfl)) eR))))) (λi=>[.val (gP p),.own ((dD p).map .str),.un,.un,.un,.un,.un,.un,.un,.un,.un]) 0 rfl (bx _) (λi d hi hd=>absurd hi (by omega)) (.inl ⟨rfl,rfl⟩)) ?_
  refine fJ 1 rfl ?_
  refine bf (cg (rm (zs:=dD p) aO (ae 1 rfl) ?_))
  have e5:("\n":Str).length=1:=by decide
  have e2:(" ":Str).length=1:=by decide
  have hl:(dD p).length<=1440:=by unfold dD;simp only[a7,ao];omega
  have hs:=oF (l:=dD p) (b:=2000) λx hx=>by
   unfold dD lZ at hx;simp only[bZ,aG]at hx;rcases hx with((((⟨q,hq,rfl⟩|⟨q,hq,rfl⟩)|⟨q,hq,rfl⟩)|⟨dk,hq,rfl⟩)|⟨q,hq,rfl⟩)|⟨q,hq,rfl⟩
   ·obtain⟨h1,h2⟩:=ok.kinds q hq
    have s1:=h1.short;have s2:=j0 h2;have e1:("kind ":Str).length=5:=by decide
    unfold pw;simp only[cw];omega
   ·have s1:=(ok.gates q hq).short
    have e1:("gate ":Str).length=5:=by decide
    unfold mq;simp only[cw];omega
   ·obtain⟨h1,h2⟩:=ok.lines q hq
    have s1:=h1.short;have s2:=hG h2;have e1:("line ":Str).length=5:=by decide
    unfold mr;simp only[cw];omega
   ·obtain⟨h1,h2,h3,h4,h5⟩:=ok.desks dk hq
    have Q6:Dq (.str dk.to):=h2;have s1:=h1.short;have s2:=j0 Q6;have s3:=mZ h3;have s4:=gQ (y:=" ") (by decide) (l:=dk.places) (b:=8) λx hx=>(h5 x hx).short
    have s5:dk.places.length*(8+1)<=60*9:=g7 h4 (aD _);have e1:("desk ":Str).length=5:=by decide
    have e2:(" to ":Str).length=4:=by decide
    have e3:(" by ":Str).length=4:=by decide
    have e4:(" from ":Str).length=6:=by decide
    unfold lq mY;simp only[cw];omega
   ·obtain⟨h1,h2,h3⟩:=ok.times q hq
    have s1:=h1.short;have s2:=h2.short;have s3:=hG h3;have:=gQ (y:=" ") (by decide) (l:=["time",q.1,q.2.1,dv q.2.2]) (b:=8) λx hx=>by
     simp only[aI,bG,or_false]at hx;rcases hx with rfl|rfl|rfl|rfl
     ·decide
     ·exact s1
     ·exact s2
     ·omega
    unfold mw;exact b_ this (by simp only[bD,cB];omega)
   ·obtain⟨h1,h2,h3⟩:=ok.hours q hq
    have s1:=h1.short;have s2:=hG h2;have s3:=hG h3;have:=gQ (y:=" ") (by decide) (l:=["open",q.1,dv q.2.1,dv q.2.2]) (b:=8) λx hx=>by
     simp only[aI,bG,or_false]at hx;rcases hx with rfl|rfl|rfl|rfl
     ·decide
     ·exact s1
     ·omega
     ·omega
    unfold nD;exact b_ this (by simp only[bD,cB];omega)
  have hb:(dD p).length*2000<=1440*2000:=g7 hl (aD _);rw[e5];omega
end
end Mg
namespace Mg
open L2 PySem PyProof.Rows
theorem eY(a c:Int){b:Int}(hb:0<b)(hc:0<=c)(h:c+b<=1000000):dq (c+a%b):=by
 have a1:0<=a%b:=aZ _ (by omega)
 have a2:a%b<b:=bw _ hb;exact⟨by omega,by omega⟩
theorem m8(a:Int){b:Int}(hb:0<b)(h:b<=1000000):dq (a%b):=by
 have:=eY a 0 hb (by omega) (by omega)
 rw[Int.zero_add]at this;exact this
theorem getD_mem{l:List Str}{k:Nat}(h:k<l.length):l.getD k ""∈l:=by
 rw[ax,au h];exact dG _
theorem Fw(m:Int){many:Nat}(h:many<=60):xV (iG m many):=by
 unfold iG
 split
 ·trivial
 split
 ·exact⟨eY _ 1 (by decide) (by decide) (by decide),m8 _ (by decide) (by decide)⟩
 split
 ·exact eY _ 1 (by decide) (by decide) (by decide)
 split
 ·split
  ·trivial
  ·exact m8 _ (by decide) (by decide)
 split
 ·refine⟨by rw[ao,cp];exact h,λz hz=>?_⟩
  obtain⟨k,_,rfl⟩:=aG.mp hz;exact eY _ 1 (by decide) (by decide) (by decide)
 ·trivial
theorem xX(m:Int){many:Nat}(h:many<=12):cq (iG m many) many<=12:=by
 have a2:m/6%4<4:=bw _ (by decide)
 unfold iG
 split
 ·show(many:Int)<=12;omega
 split
 ·show 1+m/6%4<=12;omega
 split
 ·show 1+m/6%4<=12;omega
 split
 ·show(1:Int)<=12;omega
 split
 ·show(1:Int)<=12;omega
 ·show(1:Int)<=12;omega
theorem AX{cell:Int}{places lines:List Str}(h1:1<=places.length)(h12:places.length<=12){d:Dk}(hd:d∈bN cell places lines):
  dB d.name/\d.to∈lines ++ [("":Str)]/\xV d.rule/\d.places.length<=places.length/\(∀x∈d.places,x∈places)/\cq d.rule d.places.length<=12:=by
 obtain⟨k,hk,rfl⟩:=aG.mp hd;have hk:=cF.mp hk;have tl:=gO cell (j_ cell places.length) places places.length;have u5:(dM cell (j_ cell places.length) places places.length).getD k []∈dM cell (j_ cell places.length) places places.length:=by
  rw[ax,au (by omega)]
  exact dG _
 obtain⟨r1,r2⟩:=rn cell _ places _ _ u5;refine⟨gq (getD_mem (by rw[fh];exact hk)),(AO cell lines k).2,Fw _ (by omega),r1,r2 (aD _),xX _ (by omega)⟩
theorem AY(ns:List Int):j3 (eX ns):=by
 obtain⟨k1,k4⟩:=lI (gy ns);obtain⟨g1,g3⟩:=iN (bK ns);obtain⟨p1,p6⟩:=jF (bK ns);have Z':(linesOf (bK ns)).length<=6:=by unfold linesOf;rw[cG];omega
 have IK:(orderOf (bK ns)).length=(placesOf (bK ns)).length:=by
  unfold orderOf;rw[a7,cG,cj];have:=oB (bK ns) (n:=(placesOf (bK ns)).length) (by omega)
  omega
 have U7:∀x∈placesOf (bK ns),dB x:=λx hx=>gq hx
 have hon:∀x∈orderOf (bK ns),dB x:=λx hx=>by
  rcases bZ.mp hx with hx|hx
  ·exact U7 x (eE hx)
  ·exact U7 x (eC hx)
 have Gw:∀x∈linesOf (bK ns),dB x:=λx hx=>U7 x (eE hx)
 have Z_:(cy (gy ns)).length=iW (gy ns):=by simp[cy]
 have hkn:∀q∈cy (gy ns),dB q.1/\Dq (mj q.2):=λq hq=>by
  obtain⟨k,hk,rfl⟩:=aG.mp hq;have hk:=cF.mp hk;refine⟨gq (getD_mem (by rw[fh];exact hk)),?_⟩
  show Dq (mj (sH _));unfold sH
  split
  ·exact eY _ 1 (by decide) (by decide) (by decide)
  ·trivial
 have Hq:(bN (eZ ns) (orderOf (bK ns)) (linesOf (bK ns))).length<=4:=by rw[pq];exact(lG (eZ ns) (by omega)).2.1
 have Ct:∀d∈bN (eZ ns) (orderOf (bK ns)) (linesOf (bK ns)),_:=λd hd=>AX (by omega) (by omega) hd
 have htl:=o_ (eZ ns) (bN (eZ ns) (orderOf (bK ns)) (linesOf (bK ns))) (cy (gy ns)) (by omega) _ (aD _)
 have hhl:=pj (eZ ns) (bN (eZ ns) (orderOf (bK ns)) (linesOf (bK ns))) _ (aD _)
 generalize hD:bN (eZ ns) (orderOf (bK ns)) (linesOf (bK ns))=g8 at *
 have e0:eX ns=⟨cy (gy ns),kG (bK ns),(aW (linesOf (bK ns)).length).map (roomAt (bK ns) g8 (linesOf (bK ns))),g8,f7 (eZ ns) g8 (cy (gy ns)) g8.length,iA (eZ ns) g8 g8.length⟩:=by rw[<-hD];rfl
 rw[e0];refine⟨by show(cy (gy ns)).length<=60;omega,?_,?_,by show g8.length<=60;omega,by show(f7 _ _ _ _).length<=600;omega,by show(iA _ _ _).length<=600;omega,hkn,λg hg=>U7 g (eC hg),λq hq=>?_,λd hd=>?_,λq hq=>?_,λq hq=>?_⟩
 ·show(kG (bK ns)).length<=60
  unfold kG;rw[cj];omega
 ·show((aW (linesOf (bK ns)).length).map _).length<=60
  rw[ao,cp];omega
 ·obtain⟨k,hk,rfl⟩:=aG.mp hq
  have hk:=cF.mp hk;refine⟨Gw _ (getD_mem hk),?_⟩
  have mo:=mW (gA g8 ((linesOf (bK ns)).getD k ""));have mb:maxOf (gA g8 ((linesOf (bK ns)).getD k ""))<=12:=by
   rcases aI.mp mo.1 with h|h
   ·rw[h];decide
   ·obtain⟨d,hd,he⟩:=iX.mp h
    split at he
    ·rw[<-cY he];exact(Ct d hd).2.2.2.2.2
    ·cases he
  have ml:=mo.2 1 aN;exact eY _ _ (by decide) (by omega) (by omega)
 ·obtain⟨d1,d2,d3,d4,d5,_⟩:=Ct d hd
  refine⟨d1,?_,d3,by omega,λx hx=>hon x (d5 x hx)⟩
  rcases bZ.mp d2 with h|h
  ·exact .inr (Gw _ h)
  ·exact .inl (bh.mp h)
 ·obtain⟨⟨d,i⟩,hd,hq⟩:=wm.mp hq
  have Q7:d∈g8:=by
   have:=eC hd;exact jH this
  obtain⟨⟨kd,j⟩,hk,hq⟩:=iX.mp hq;have hkm:kd∈cy (gy ns):=jH (eC hk);unfold sI at hq
  split at hq
  ·cases hq
   exact⟨(Ct d Q7).1,(hkn kd hkm).1,eY _ 1 (by decide) (by decide) (by decide)⟩
  ·cases hq
 ·obtain⟨⟨d,i⟩,hd,hq⟩:=wm.mp hq
  have Q7:d∈g8:=jH (eC hd);have hn:=(Ct d Q7).1;unfold jQ at hq
  split at hq
  ·rcases aI.mp hq with rfl|hq
   ·exact⟨hn,m8 _ (by decide) (by decide),eY _ 9 (by decide) (by decide) (by decide)⟩
   ·rw[bh.mp hq]
    exact⟨hn,eY _ 25 (by decide) (by decide) (by decide),eY _ 50 (by decide) (by decide) (by decide)⟩
  ·cases hq
def iH(x:Str):Prop:=x≠""/\32∉x.cps.toList/\10∉x.cps.toList
theorem iH.one{x:Str}(h:iH x):wordsOf x=[x]:=vb h.1 h.2.1
theorem pA{l k:Str}(hl:l=k++" ")(hk:iH k)(x:Str):wordsOf (l++x)=k::wordsOf x:=by
 rw[hl,k7,hk.one];rfl
theorem sM{l k:Str}(hl:l=" "++k++" ")(hk:iH k)(x y:Str):wordsOf (x++l++y)=wordsOf x++k::wordsOf y:=by
 have e:x++l++y=x++" "++(k++" "++y):=by
  rw[hl];apply str_inj;simp only[add_list,cV]
 rw[e,k7,k7,hk.one];rfl
theorem rq{d:aj}(h:Dq d):iH (ei d):=by
 have e:iH "-":=by unfold iH;decide +kernel
 cases d with
 |none=>exact e
 |int i=>exact mX h.1 h.2
 |str x=>
  show iH (if x="" then "-" else x)
  split
  ·exact e
  ·rename_i hx
   rcases h with h|h
   ·exact absurd h hx
   ·exact hC h
 |_=>exact h.elim
theorem sN{r:Rl}(h:xV r):∀w∈cQ r,iH w:=by
 intro w hw;by_cases ht:∃sh,r=.turns sh
 ·obtain⟨sh,rfl⟩:=ht
  rcases aI.mp hw with rfl|hw
  ·unfold iH;decide +kernel
  ·obtain⟨z,hz,rfl⟩:=aG.mp hw
   exact mX (h.2 z hz).1 (h.2 z hz).2
 ·have AW:∀sh,r≠.turns sh:=λsh z=>ht ⟨sh,z⟩
  have hok:=xW AW h;have JA:cQ r=mV r::(p9 r).map ei:=by
   cases r with
   |turns sh=>exact absurd rfl (AW sh)
   |_=>rfl
  rw[JA]at hw;rcases aI.mp hw with rfl|hw
  ·cases r<;>dsimp only[mV,iH]<;>decide +kernel
  ·obtain⟨z,hz,rfl⟩:=aG.mp hw
   exact rq (hok z hz)
theorem D9{q:Str×Option Int}(h:dB q.1/\Dq (mj q.2)):wordsOf (pw q)=[("kind":Str),q.1,ei (mj q.2)]:=by
 unfold pw;rw[k7,pA (k:="kind") (by decide +kernel) (by unfold iH;decide +kernel),(show iH q.1 from hC h.1).one,(rq h.2).one];rfl
theorem D_{g:Str}(h:dB g):wordsOf (mq g)=[("gate":Str),g]:=by
 unfold mq;rw[pA (k:="gate") (by decide +kernel) (by unfold iH;decide +kernel),(show iH g from hC h).one]
theorem Ea{q:Str×Int}(h:dB q.1/\dq q.2):wordsOf (mr q)=[("line":Str),q.1,dv q.2]:=by
 unfold mr;rw[k7,pA (k:="line") (by decide +kernel) (by unfold iH;decide +kernel),(show iH q.1 from hC h.1).one,(show iH (dv q.2)from mX h.2.1 h.2.2).one];rfl
theorem Eb{d:Dk}(h:dB d.name/\(d.to=""\/dB d.to)/\xV d.rule/\d.places.length<=60/\∀x∈d.places,dB x):wordsOf (lq d)=[("desk":Str),d.name,"to",ei (.str d.to),"by"]++cQ d.rule ++ [("from":Str)]++d.places:=by
 obtain⟨h1,h2,h3,h4,h5⟩:=h;have Q6:Dq (.str d.to):=h2;have hr:wordsOf (oE d.rule)=cQ d.rule:=nB λw hw=>⟨(sN h3 w hw).1,(sN h3 w hw).2.1⟩
 have hp:wordsOf (cW " " d.places)=d.places:=nB λw hw=>⟨(hC (h5 w hw)).1,(hC (h5 w hw)).2.1⟩
 unfold lq mY;rw[sM (k:="from") (by decide +kernel) (by unfold iH;decide +kernel),sM (k:="by") (by decide +kernel) (by unfold iH;decide +kernel),sM (k:="to") (by decide +kernel) (by unfold iH;decide +kernel),pA (k:="desk") (by decide +kernel) (by unfold iH;decide +kernel),(show iH d.name from hC h1).one,(rq Q6).one,hr,hp]
 simp
theorem Ec{q:Str×Str×Int}(h:dB q.1/\dB q.2.1/\dq q.2.2):wordsOf (mw q)=[("time":Str),q.1,q.2.1,dv q.2.2]:=by
 refine nB λw hw=>?_
 have:iH w:=by
  simp only[aI,bG,or_false]at hw;rcases hw with rfl|rfl|rfl|rfl
  ·unfold iH;decide +kernel
  ·exact hC h.1
  ·exact hC h.2.1
  ·exact mX h.2.2.1 h.2.2.2
 exact⟨this.1,this.2.1⟩
theorem Ed{q:Str×Int×Int}(h:dB q.1/\dq q.2.1/\dq q.2.2):wordsOf (nD q)=[("open":Str),q.1,dv q.2.1,dv q.2.2]:=by
 refine nB λw hw=>?_
 have:iH w:=by
  simp only[aI,bG,or_false]at hw;rcases hw with rfl|rfl|rfl|rfl
  ·unfold iH;decide +kernel
  ·exact hC h.1
  ·exact mX h.2.1.1 h.2.1.2
  ·exact mX h.2.2.1 h.2.2.2
 exact⟨this.1,this.2.1⟩
end Mg
namespace Mg
open L2 PySem PyProof.Rows
seal L2.VE L2.VS L2.uT L2.VT L2.VO L2.Pu
inductive Sh where
 |name|number|count|share|k9|lJ|ly
def Sh.tx:Sh->Str
 | .name=>"name"
 | .number=>"number"
 | .count=>"count"
 | .share=>"share"
 | .k9=>"count or -"
 | .lJ=>"name or -"
 | .ly=>"number or -"
def jX(x:Str):Bool:=isNumber x && !decide (x="0")
def kT:Sh->Str->Bool
 | .name,x=>isName x
 | .number,x=>isNumber x
 | .count,x=>jX x
 | .share,x=>jX x&&decide ((x.length:Int)=1)
 | .k9,x=>decide (x="-")||jX x
 | .lJ,x=>decide (x="-")||isName x
 | .ly,x=>decide (x="-")||isNumber x
def AZ(x:Str):Int:=(intText? x).getD 0
def ia:Sh->Str->aj
 | .name,x=>.str x
 | .lJ,x=>.str (if x="-" then "" else x)
 |_,x=>if x="-" then .none else .int (AZ x)
def Sh.base:Sh->Bool
 | .name=>true
 | .number=>true
 | .count=>true
 |_=>false
theorem Sh.ok(s:Sh):nA s.tx:=by cases s<;>(show cJ (.str _)=true)<;>decide +kernel
theorem xY{x:Str}(h:isNumber x=true):1<=x.length/\x.length<=6/\∀c∈x.cps.toList,48<=c/\c<=57:=by
 unfold isNumber at h;have h:=(eG.mp h).1;unfold nR at h;obtain⟨h1,h2⟩:=eG.mp h;obtain⟨h3,h4⟩:=eG.mp h1;have h3:=of_decide_eq_true h3;have h4:=of_decide_eq_true h4;refine⟨by omega,by omega,λc hc=>?_⟩
 have:=d_.mp h2 c hc;have e:Au (one c) "0123456789"=decide (c∈("0123456789":Str).cps.toList):=tJ ..;rw[e,Cy]at this;obtain⟨i,hi,rfl⟩:=aG.mp (of_decide_eq_true this);have:=cF.mp hi;omega
theorem yN{x:Str}(h:isNumber x=true):intText? x=some (AZ x):=by
 obtain⟨h1,h2,h3⟩:=xY h;have hd:NumText.AllDigits x.cps.toList:=λc hc=>h3 c hc
 have hl:x.cps.toList.length=x.length:=cN;have e:=intText_digits hd (λz=>by rw[z]at hl;simp only[cB]at hl;omega) (by omega)
 unfold AZ;rw[e];rfl
theorem Cz{n:Int}(h:dq n):AZ (dv n)=n:=by unfold AZ;rw[num_reads h.1 h.2];rfl
theorem pC{x:Str}(h:jX x=true):isNumber x=true:=(eG.mp h).1
theorem vE{s:Sh}{x:Str}(h:kT s x=true)(h1:s≠.name)(h2:s≠.lJ)(hx:x≠"-"):isNumber x=true:=by
 cases s with
 |name=>exact absurd rfl h1
 |lJ=>exact absurd rfl h2
 |number=>exact h
 |count=>exact pC h
 |share=>exact pC (eG.mp h).1
 |k9=>
  rcases Bool.or_eq_true_iff.mp h with h|h
  ·exact absurd (of_decide_eq_true h) hx
  ·exact pC h
 |ly=>
  rcases Bool.or_eq_true_iff.mp h with h|h
  ·exact absurd (of_decide_eq_true h) hx
  ·exact h
section
variable{P:bo}{w:bX}{K:ai}{mg:Str->Option av}{base:cK}{f:aK}{k:Nat}
abbrev Hr:List Str:=["shape","word"]
theorem NR:cH Hr Hr (bP (top 22)):=⟨rfl,rfl,rfl,by decide +kernel,rfl,by decide +kernel,by decide +kernel⟩
def Q8(b:Bool)(ds:List aj)(d:aj):Prop:=∃(s:Sh)(x:Str),ds=[.str s.tx,.str x]/\uc x/\(b=true\/s.base=true)/\d=.bool (kT s x)
theorem aV{x:Str}(h:cJ (.str x)=true:=by decide +kernel):Lay 20 (.str x):=bJ h
theorem TR{fb:Bool}(n:Na mg)(C1:bE P w K mg base 2 "is_name" ["word"] (gW K Tz))(C2:bE P w K mg base 2 "is_number" ["word"] (gW K U4))(k2:2<=k)(C3:fb=true->bE P w K mg base k "fits" Hr (gW K (Q8 false))){ds:List aj}{d:aj}(h:Q8 fb ds d):zl P w K mg base Hr "fits" (top 22) f k ds (.rt d):=by
 obtain⟨s,x,rfl,ox,hb,rfl⟩:=h;intro ix A outer sh H E hr;have NM:fc 2 _:=hr.mono k2;have ls:=bJ (n:=20) s.ok;have lx:=bJ (n:=20) ox.2;cases s with
 |name=>exact dH (dN (VT.to (bQ hr ls aV (ae 0 rfl) aO) (by rw[bO];exact decide_eq_true rfl)) (bf (cg (bC C1 NM (aq (ae 1 rfl) aQ) ⟨x,rfl,ox.1,rfl⟩)))) rfl
 |number=>
  refine aL (b0 (VT.to (bQ hr ls aV (ae 0 rfl) aO) (by rw[bO];decide +kernel)) bL) ?_
  exact dH (dN (VT.to (bQ hr ls aV (ae 0 rfl) aO) (by rw[bO];exact decide_eq_true rfl)) (bf (cg (bC C2 NM (aq (ae 1 rfl) aQ) ⟨x,rfl,ox,rfl⟩)))) rfl
 |count=>
  refine aL (b0 (VT.to (bQ hr ls aV (ae 0 rfl) aO) (by rw[bO];decide +kernel)) bL) ?_
  refine aL (b0 (VT.to (bQ hr ls aV (ae 0 rfl) aO) (by rw[bO];decide +kernel)) bL) ?_
  exact dH (dN (VT.to (bQ hr ls aV (ae 0 rfl) aO) (by rw[bO];exact decide_eq_true rfl)) (bf (cg (VE.to (kA (bC C2 NM (aq (ae 1 rfl) aQ) ⟨x,rfl,ox,rfl⟩) (λ_=>je (Iz hr lx aV (ae 1 rfl) aO))) (by rw[bO];rfl))))) rfl
 |share=>
  have C3:=C3 (hb.resolve_right (by decide))
  refine aL (b0 (VT.to (bQ hr ls aV (ae 0 rfl) aO) (by rw[bO];decide +kernel)) bL) ?_
  refine aL (b0 (VT.to (bQ hr ls aV (ae 0 rfl) aO) (by rw[bO];decide +kernel)) bL) ?_
  refine aL (b0 (VT.to (bQ hr ls aV (ae 0 rfl) aO) (by rw[bO];decide +kernel)) bL) ?_
  exact dH (dN (VT.to (bQ hr ls aV (ae 0 rfl) aO) (by rw[bO];exact decide_eq_true rfl)) (bf (cg (VE.to (kA (bC C3 hr (aq aO (aq (ae 1 rfl) aQ)) ⟨.count,x,rfl,ox,.inr rfl,rfl⟩) (λ_=>je (ow hr (cx 20 _) (cx 20 _) (Ff (ae 1 rfl) (small (by have:=ox.1;omega)) n.len) aA))) (by rw[jW];rfl))))) rfl
 |k9=>
  have C3:=C3 (hb.resolve_right (by decide))
  refine aL (b0 (VT.to (bQ hr ls aV (ae 0 rfl) aO) (by rw[bO];decide +kernel)) bL) ?_
  refine aL (b0 (VT.to (bQ hr ls aV (ae 0 rfl) aO) (by rw[bO];decide +kernel)) bL) ?_
  refine aL (b0 (VT.to (bQ hr ls aV (ae 0 rfl) aO) (by rw[bO];decide +kernel)) bL) ?_
  refine aL (b0 (VT.to (bQ hr ls aV (ae 0 rfl) aO) (by rw[bO];decide +kernel)) bL) ?_
  have Ab:(cz (Sh.k9.tx) " ").map aP=[.str "count",.str "or",.str "-"]:=by rw[show cz (Sh.k9.tx) " "=[("count":Str),"or","-"]from by decide +kernel];rfl
  exact bf (cg (VE.to (qI (ow hr lx aV (ae 1 rfl) aO) (λ_=>je (bC C3 hr (aq (gY (VE.to (VO.ve (qJ (ae 0 rfl) aO rfl (small (by decide)))) (by rw[Ab])) aA (bH (j:=0) rfl)) (aq (ae 1 rfl) aQ)) ⟨.count,x,rfl,ox,.inr rfl,rfl⟩))) (by rw[bO];rfl)))
 |lJ=>
  have C3:=C3 (hb.resolve_right (by decide))
  refine aL (b0 (VT.to (bQ hr ls aV (ae 0 rfl) aO) (by rw[bO];decide +kernel)) bL) ?_
  refine aL (b0 (VT.to (bQ hr ls aV (ae 0 rfl) aO) (by rw[bO];decide +kernel)) bL) ?_
  refine aL (b0 (VT.to (bQ hr ls aV (ae 0 rfl) aO) (by rw[bO];decide +kernel)) bL) ?_
  refine aL (b0 (VT.to (bQ hr ls aV (ae 0 rfl) aO) (by rw[bO];decide +kernel)) bL) ?_
  have Ab:(cz (Sh.lJ.tx) " ").map aP=[.str "name",.str "or",.str "-"]:=by rw[show cz (Sh.lJ.tx) " "=[("name":Str),"or","-"]from by decide +kernel];rfl
  exact bf (cg (VE.to (qI (ow hr lx aV (ae 1 rfl) aO) (λ_=>je (bC C3 hr (aq (gY (VE.to (VO.ve (qJ (ae 0 rfl) aO rfl (small (by decide)))) (by rw[Ab])) aA (bH (j:=0) rfl)) (aq (ae 1 rfl) aQ)) ⟨.name,x,rfl,ox,.inr rfl,rfl⟩))) (by rw[bO];rfl)))
 |ly=>
  have C3:=C3 (hb.resolve_right (by decide))
  refine aL (b0 (VT.to (bQ hr ls aV (ae 0 rfl) aO) (by rw[bO];decide +kernel)) bL) ?_
  refine aL (b0 (VT.to (bQ hr ls aV (ae 0 rfl) aO) (by rw[bO];decide +kernel)) bL) ?_
  refine aL (b0 (VT.to (bQ hr ls aV (ae 0 rfl) aO) (by rw[bO];decide +kernel)) bL) ?_
  refine aL (b0 (VT.to (bQ hr ls aV (ae 0 rfl) aO) (by rw[bO];decide +kernel)) bL) ?_
  have Ab:(cz (Sh.ly.tx) " ").map aP=[.str "number",.str "or",.str "-"]:=by rw[show cz (Sh.ly.tx) " "=[("number":Str),"or","-"]from by decide +kernel];rfl
  exact bf (cg (VE.to (qI (ow hr lx aV (ae 1 rfl) aO) (λ_=>je (bC C3 hr (aq (gY (VE.to (VO.ve (qJ (ae 0 rfl) aO rfl (small (by decide)))) (by rw[Ab])) aA (bH (j:=0) rfl)) (aq (ae 1 rfl) aQ)) ⟨.number,x,rfl,ox,.inr rfl,rfl⟩))) (by rw[bO];rfl)))
theorem TV{fd:bS}(F:lg K "fits" "fits" (top 22) f fd)(n:Na mg)(C1:bE P w K mg base 2 "is_name" ["word"] (gW K Tz))(C2:bE P w K mg base 2 "is_number" ["word"] (gW K U4)):eU P w K mg base ky 3 f fd Hr (gW K (Q8 false)):=
 jA F NR (λ_ _ h=>by obtain⟨_,_,rfl,_⟩:=h;rfl) λ_ _ h=>TR n C1 C2 (aD _) (λz=>by cases z) h
theorem Xw{fd:bS}(F:lg K "fits" "fits" (top 22) f fd)(n:Na mg)(C1:bE P w K mg base 2 "is_name" ["word"] (gW K Tz))(C2:bE P w K mg base 2 "is_number" ["word"] (gW K U4))(C3:bE P w K mg base 3 "fits" Hr (gW K (Q8 false))):eU P w K mg base ky 4 f fd Hr (gW K (Q8 true)):=
 jA F NR (λ_ _ h=>by obtain⟨_,_,rfl,_⟩:=h;rfl) λ_ _ h=>TR n C1 C2 (by decide) (λ_=>C3) h
theorem TX:cH Hr Hr (bP (top 23)):=⟨rfl,rfl,rfl,by decide +kernel,rfl,by decide +kernel,by decide +kernel⟩
def Rvo(ds:List aj)(d:aj):Prop:=∃(s:Sh)(x:Str),ds=[.str s.tx,.str x]/\uc x/\kT s x=true/\d=ia s x
theorem Xx{fd:bS}(F:lg K "value_of" "value_of" (top 23) f fd)(n:Na mg):eU P w K mg base ky 1 f fd Hr (gW K Rvo):=
 jA F TX (λ_ _ h=>by obtain⟨_,_,rfl,_⟩:=h;rfl) λ_ _ h=>by
  obtain⟨s,x,rfl,ox,hf,rfl⟩:=h;intro ix A outer sh H E hr;have ls:=bJ (n:=20) s.ok;have lx:=bJ (n:=20) ox.2;by_cases h1:s=.name
  ·subst h1
   exact dH (dN (VT.to (bQ hr ls aV (ae 0 rfl) aO) (by rw[bO];exact decide_eq_true rfl)) (bf (cg (ae 1 rfl)))) rfl
  ·have d1:s.tx≠"name":=by cases s<;>first|exact absurd rfl h1|(dsimp only[Sh.tx];decide +kernel)
   refine aL (b0 (VT.to (bQ hr ls aV (ae 0 rfl) aO) (by rw[bO];exact decide_eq_false d1)) bL) ?_
   by_cases h2:s=.lJ
   ·subst h2
    refine dH (dN (VT.to (bQ hr ls aV (ae 0 rfl) aO) (by rw[bO];exact decide_eq_true rfl)) (bf (cg (An (k:=decide (x="-")) (VT.to (bQ hr lx aV (ae 1 rfl) aO) (by rw[bO])) (λz=>VE.to aO ?_) (λz=>VE.to (ae 1 rfl) ?_))))) rfl
    ·show aP ""=.str (if x="-" then "" else x);rw[if_pos (of_decide_eq_true z)]
    ·show aP x=.str (if x="-" then "" else x);rw[if_neg (of_decide_eq_false z)]
   ·have d2:s.tx≠"name or -":=by cases s<;>first|exact absurd rfl h2|exact absurd rfl h1|(dsimp only[Sh.tx];decide +kernel)
    have ev:ia s x=if x="-" then .none else .int (AZ x):=by cases s<;>first|exact absurd rfl h1|exact absurd rfl h2|rfl
    rw[ev];refine aL (b0 (VT.to (bQ hr ls aV (ae 0 rfl) aO) (by rw[bO];exact decide_eq_false d2)) bL) ?_
    refine bf (cg (An (k:=decide (x="-")) (VT.to (bQ hr lx aV (ae 1 rfl) aO) (by rw[bO])) (λz=>VE.to gk (by rw[if_pos (of_decide_eq_true z)])) (λz=>VE.to (Lp (ae 1 rfl) (yN (vE hf h1 h2 (of_decide_eq_false z))) (by have:=(xY (vE hf h1 h2 (of_decide_eq_false z))).2.1;omega) n.int) (by rw[if_neg (of_decide_eq_false z)]))))
def CB(oG:List Sh):aj:=.tuple (oG.map λs=>.str s.tx)
def qP(oG:List Sh)(ws:List Str):Bool:=decide (ws.length=oG.length)&&(oG.zip ws).all λp=>kT p.1 p.2
def nE(oG:List Sh)(ws:List Str):List aj:=(oG.zip ws).map λp=>ia p.1 p.2
def ji(oG:List Sh)(ws:List Str):aj:=if qP oG ws then .tuple (nE oG ws)else .none
abbrev Q9:List Str:=["shapes","words"]
theorem TY:cH Q9 Q9 (bP (top 24)):=⟨rfl,rfl,rfl,by decide +kernel,rfl,by decide +kernel,by decide +kernel⟩
def U8(ds:List aj)(d:aj):Prop:=∃(oG:List Sh)(ws:List Str),ds=[CB oG,dz ws]/\oG.length<=1000/\ws.length<=100002/\(∀x∈ws,uc x)/\d=ji oG ws
def CD(x:Str):Sh:=if x="name" then .name else if x="number" then .number else if x="count" then .count else if x="share" then .share else if x="count or -" then .k9 else if x="name or -" then .lJ else .ly
theorem ug(s:Sh):CD s.tx=s:=by
 cases s<;>rfl
def Qj:aj->Option aj
 | .tuple [.str s,.str x]=>some (.bool (kT (CD s) x))
 |_=>none
def T1:aj->Option aj
 | .tuple [.str s,.str x]=>some (ia (CD s) x)
 |_=>none
theorem qQ:∀(oG:List Sh)(ws:List Str),vY (oG.map λs=>aP s.tx) (ws.map aP)=(oG.zip ws).map λp=>.tuple [.str p.1.tx,.str p.2]
 | [],_=>rfl
 |_::_,[]=>rfl
 |s::oG,x::ws=>by
  have:=qQ oG ws;unfold vY at this ⊢;rw[aH,aH,km,km,aH,aH,this]
theorem CF(oG:List Sh)(ws:List Str):(vY (oG.map λs=>aP s.tx) (ws.map aP)).filterMap Qj=((oG.zip ws).map λp=>kT p.1 p.2).map .bool:=by
 rw[qQ,cL,aS];exact filterMap_some λp _=>by show some (kj (kT (CD p.1.tx) p.2))=_;rw[ug];rfl
theorem JC(oG:List Sh)(ws:List Str):(vY (oG.map λs=>aP s.tx) (ws.map aP)).filterMap T1=nE oG ws:=by
 unfold nE;rw[qQ,cL];exact filterMap_some λp _=>by show some (ia (CD p.1.tx) p.2)=_;rw[ug]
theorem Xy{fd:bS}(F:lg K "values_of" "values_of" (top 24) f fd)(n:Na mg)(mz:mg "zip"=none)(C1:bE P w K mg base 4 "fits" Hr (gW K (Q8 true)))(C2:bE P w K mg base 1 "value_of" Hr (gW K Rvo)):eU P w K mg base ky 5 f fd Q9 (gW K U8):=
 jA F TY (λ_ _ h=>by obtain⟨_,_,rfl,_⟩:=h;rfl) λ_ _ h=>by
  obtain⟨oG,ws,rfl,Nh,hw1,hok,rfl⟩:=h;intro ix A outer sh H E hr;have kF:fc 1 _:=hr.mono (by omega)
  have nc:(["shape","word"]:List Str).Nodup:=by decide +kernel
  have hzl:(vY (oG.map λs=>aP s.tx) (ws.map aP)).length<=1000:=by rw[qQ,ao,List.length_zip];omega
  have hlen:∀b,decide (ws.length=oG.length)=b->du (.int ((ws.map aP).length:Nat)) (.int ((oG.map λs=>aP s.tx).length:Nat))=b:=λb hb=>by
   rw[jW,ao,ao,<-hb,gC,decide_eq_true_iff,decide_eq_true_iff];omega
  have xh:∀d∈vY (oG.map λs=>aP s.tx) (ws.map aP),∃s x,d=.tuple [.str (Sh.tx s),.str x]/\(s,x)∈oG.zip ws/\uc x:=λd hd=>by
   rw[qQ]at hd;obtain⟨p,hp,rfl⟩:=aG.mp hd;exact⟨p.1,p.2,rfl,hp,hok _ (qd hp).2⟩
  by_cases hl:ws.length=oG.length
  ·have yC:∀b,((oG.zip ws).all λp=>kT p.1 p.2)=b->pM ((oG.zip ws).map λp=>kT p.1 p.2)=b:=λb hb=>by
    unfold pM;rw[Di];exact hb
   by_cases ha:((oG.zip ws).all λp=>kT p.1 p.2)=true
   ·have ev:ji oG ws=.tuple (nE oG ws):=by unfold ji qP;rw[ha,decide_eq_true hl];rfl
    rw[ev];refine aL (b0 (VT.to (jx (k1:=false) (k2:=false) (VT.to (qD hr (cx 20 _) (cx 20 _) (jz (ae 1 rfl) n.len) (jU (ae 0 rfl) n.len)) (by rw[hlen true (decide_eq_true hl)];rfl)) (λ_=>VT.to (qF (jy (iU (oy rfl) zp (aq (VO.ve (VO.to (fe (own:=["shape","word"]) (cap:=[]) (N:=["shape","word"]) (cl:=[]) (tgt:=.tup [0,1]) (F:=Qj) rfl ⟨rfl,by decide +kernel,by decide +kernel,rfl,rfl,by simp⟩ (Av .tup .lst (ae 0 rfl) (ae 1 rfl) mz) (λf s3 H3=>gf rfl (bU (bM (i:=0) nc rfl (bj rfl)) (bU (bM (i:=1) nc rfl (bj rfl)) eR))) rfl
     (small (by omega)) (λd hd=>?_)) (CF oG ws))) aQ) n.all rfl) (t:=true) (by show some _=some _;rw[yC true ha]))) rfl)) rfl) bL) ?_
    ·obtain⟨s,x,rfl,hp,ox⟩:=xh d hd
     refine⟨_,rfl,λf s3 H3=>fA,λr jo f s3 H3=>?_⟩
     have jo:some (kj (kT (CD s.tx) x))=some r:=jo;rw[ug]at jo;cases jo;exact bC C1 hr (aq (ae 0 rfl) (aq (ae 1 rfl) aQ)) ⟨s,x,rfl,ox,.inl rfl,rfl⟩
    refine bf (cg (ja jP tV (aq (VO.ve (VO.to (fe (own:=["shape","word"]) (cap:=[]) (N:=["shape","word"]) (cl:=[]) (tgt:=.tup [0,1]) (F:=T1) rfl ⟨rfl,by decide +kernel,by decide +kernel,rfl,rfl,by simp⟩ (Av .tup .lst (ae 0 rfl) (ae 1 rfl) mz) (λf s3 H3=>gf rfl (bU (bM (i:=0) nc rfl (bj rfl)) (bU (bM (i:=1) nc rfl (bj rfl)) eR))) rfl
     (small (by omega)) (λd hd=>?_)) (JC oG ws))) aQ) n.tup rfl))
    obtain⟨s,x,rfl,hp,ox⟩:=xh d hd;refine⟨_,rfl,λf s3 H3=>fA,λr jo f s3 H3=>?_⟩
    have jo:some (ia (CD s.tx) x)=some r:=jo;rw[ug]at jo;cases jo;exact bC C2 kF (aq (ae 0 rfl) (aq (ae 1 rfl) aQ)) ⟨s,x,rfl,ox,d_.mp ha (s,x) hp,rfl⟩
   ·have ha:=Bool.not_eq_true _▸ha
    have ev:ji oG ws=.none:=by unfold ji qP;rw[ha,Bool.and_false];rfl
    rw[ev];refine dH (dN (VT.to (jx (k1:=false) (k2:=true) (VT.to (qD hr (cx 20 _) (cx 20 _) (jz (ae 1 rfl) n.len) (jU (ae 0 rfl) n.len)) (by rw[hlen true (decide_eq_true hl)];rfl)) (λ_=>VT.to (qF (jy (iU (oy rfl) zp (aq (VO.ve (VO.to (fe (own:=["shape","word"]) (cap:=[]) (N:=["shape","word"]) (cl:=[]) (tgt:=.tup [0,1]) (F:=Qj) rfl ⟨rfl,by decide +kernel,by decide +kernel,rfl,rfl,by simp⟩ (Av .tup .lst (ae 0 rfl) (ae 1 rfl) mz) (λf s3 H3=>gf rfl (bU (bM (i:=0) nc rfl (bj rfl)) (bU (bM (i:=1) nc rfl (bj rfl)) eR))) rfl
     (small (by omega)) (λd hd=>?_)) (CF oG ws))) aQ) n.all rfl) (t:=false) (by show some _=some _;rw[yC false ha]))) rfl)) rfl) (bf (cg gk))) rfl
    obtain⟨s,x,rfl,hp,ox⟩:=xh d hd;refine⟨_,rfl,λf s3 H3=>fA,λr jo f s3 H3=>?_⟩
    have jo:some (kj (kT (CD s.tx) x))=some r:=jo;rw[ug]at jo;cases jo;exact bC C1 hr (aq (ae 0 rfl) (aq (ae 1 rfl) aQ)) ⟨s,x,rfl,ox,.inl rfl,rfl⟩
  ·have ev:ji oG ws=.none:=by unfold ji qP;rw[decide_eq_false hl];rfl
   rw[ev];exact dH (dN (VT.to (jx (k1:=true) (k2:=true) (VT.to (qD hr (cx 20 _) (cx 20 _) (jz (ae 1 rfl) n.len) (jU (ae 0 rfl) n.len)) (by rw[hlen false (decide_eq_false hl)];rfl)) (λz=>by cases z)) rfl) (bf (cg gk))) rfl
end
def nU:Rl->Nat->Prop
 | .meet,n=>2<=n
 | .gather m a,_=>1<=m/\dq m/\dq a
 | .many m,_=>1<=m/\dq m
 | .rank none,_=>True
 | .rank (some b),_=>dq b
 | .turns s,n=>s.length=n/\∀z∈s,1<=z/\z<=9
 | .eldest,_=>True
theorem Qk{n:Int}(h:dq n){x:Str}(hx:AZ x≠n):dv n≠x:=λz=>hx (by rw[<-z,Cz h])
theorem JD{n:Int}(h:dq n):dv n≠"-":=λz=>by
 have hd:45∈(dv n).cps.toList:=by rw[z];decide +kernel
 have:=k8 h.1 hd;omega
theorem mD{n:Int}(h:dq n)(h1:1<=n):jX (dv n)=true:=by
 unfold jX;rw[xU h.1 h.2,decide_eq_false (Qk h (by rw[show AZ "0"=0 from by decide +kernel];omega))]
 rfl
theorem GH{n:Int}(h1:1<=n)(h9:n<=9):kT .share (dv n)=true:=by
 have hs:dq n:=⟨by omega,by omega⟩
 show(jX (dv n)&&decide (((dv n).length:Int)=1))=true
 rw[mD hs h1];rcases(by omega:n=1\/n=2\/n=3\/n=4\/n=5\/n=6\/n=7\/n=8\/n=9)with rfl|rfl|rfl|rfl|rfl|rfl|rfl|rfl|rfl<;>decide +kernel
theorem lz{s:Sh}{n:Int}(h:dq n)(h1:s≠.name)(h2:s≠.lJ):ia s (dv n)=.int n:=by
 have e:ia s (dv n)=if dv n="-" then .none else .int (AZ (dv n)):=by cases s<;>first|exact absurd rfl h1|exact absurd rfl h2|rfl
 rw[e,if_neg (JD h),Cz h]
theorem uh:∀s:List Int,(∀z∈s,1<=z/\z<=9)->qP (a_ s.length .share) (s.map dv)=true/\nE (a_ s.length .share) (s.map dv)=s.map .int
 | [],_=>⟨rfl,rfl⟩
 |z::s,h=>by
  obtain⟨i1,i2⟩:=uh s λx hx=>h x (aT _ hx)
  obtain⟨z1,z9⟩:=h z aN;unfold qP at i1 ⊢;unfold nE at i2 ⊢;obtain⟨j1,j2⟩:=eG.mp i1;rw[bD,dO,aH,km,List.all_cons,aH,aH,i2];refine⟨?_,?_⟩
  ·rw[j2,show kT (Sh.share,dv z).1 (Sh.share,dv z).2=true from GH z1 z9]
   simp
  ·rw[show ia (Sh.share,dv z).1 (Sh.share,dv z).2=.int z from lz (s:=.share) ⟨by omega,by omega⟩ (by intro z;cases z) (by intro z;cases z)]
def qR:Rl->List Sh
 | .rank _=>[.ly]
 | .many _=>[.count]
 | .gather _ _=>[.count,.number]
 |_=>[]
theorem CG{r:Rl}{n:Nat}(h:nU r n)(ht:∀s,r≠.turns s):qP (qR r) ((p9 r).map ei)=true/\nE (qR r) ((p9 r).map ei)=p9 r:=by
 cases r with
 |meet=>exact⟨rfl,rfl⟩
 |eldest=>exact⟨rfl,rfl⟩
 |turns s=>exact absurd rfl (ht s)
 |many m=>
  obtain⟨h1,h2⟩:=h
  constructor
  ·show(true&&(jX (dv m)&&true))=true
   rw[mD h2 h1];rfl
  ·show [ia .count (dv m)]=[fj m]
   rw[lz h2 (by intro z;cases z) (by intro z;cases z)]
 |gather m a=>
  obtain⟨h1,h2,h3⟩:=h
  constructor
  ·show(true&&(jX (dv m)&&(isNumber (dv a)&&true)))=true
   rw[mD h2 h1,xU h3.1 h3.2];rfl
  ·show [ia .count (dv m),ia .number (dv a)]=[fj m,.int a]
   rw[lz h2 (by intro z;cases z) (by intro z;cases z),lz h3 (by intro z;cases z) (by intro z;cases z)]
 |rank b=>
  cases b with
  |none=>exact⟨by decide +kernel,rfl⟩
  |some b=>
   constructor
   ·show(true&&((decide (dv b="-")||isNumber (dv b))&&true))=true
    rw[xU h.1 h.2];simp
   ·show [ia .ly (dv b)]=[fj b]
    rw[lz h (by intro z;cases z) (by intro z;cases z)]
theorem nU.ok{r:Rl}{n:Nat}(hn:n<=60)(h:nU r n):xV r:=by
 cases r with
 |meet=>trivial
 |eldest=>trivial
 |gather m a=>exact h.2
 |many m=>exact h.2
 |rank b=>cases b with|none=>trivial|some b=>exact h
 |turns s=>exact⟨by have:=h.1;omega,λz hz=>by have:=h.2 z hz;exact⟨by omega,by omega⟩⟩
abbrev pD:List (Str×List Str):=[("kind",[("name":Str),"count or -"]),("gate",[("name":Str)]),("line",[("name":Str),"count"]),("time",[("name":Str),"name","count"]),("open",[("name":Str),"number","number"]),("pace",[("name":Str),"name","count","count"])]
abbrev ui:List (Str×List Str):=[("eldest",[]),("rank",[("number or -":Str)]),("many",[("count":Str)]),("gather",[("count":Str),"number"]),("meet",[])]
structure Np(mg:Str->Option av)(pr:wH)(K:ai):Prop extends Na mg where
 zip:mg "zip"=none
 set:mg "set"=none
 any:mg "any"=none
 mp:∃t,mg "MOST_PLACES"=some (.int 6 t)
 fo:∃g,mg "FORMS"=some (.ref g)/\GD pr K g pD
 ru:∃g,mg "RULES"=some (.ref g)/\GD pr K g ui
theorem CH{α:Type}(x:α):∀n,(a_ n [x]).flatten=a_ n x
 |0=>rfl
 |n+1=>by rw[dO,ft,CH x n];rfl
theorem xZ(x:aj)(l:List aj):L2.cutD (x::l) (some 1) none=l:=(jR (x::l) 1).trans rfl
section
variable{P:bo}{w:bX}{K:ai}{mg:Str->Option av}{base:cK}{f:aK}{k:Nat}
abbrev T2:List Str:=["words","many","shares","values"]
theorem JF:cH T2 ["words","many"] (bP (top 27)):=⟨rfl,rfl,rfl,by decide +kernel,rfl,by decide +kernel,by decide +kernel⟩
def T3(ds:List aj)(d:aj):Prop:=∃(r:Rl)(n:Nat),ds=[dz (cQ r),.int n]/\1<=n/\n<=6/\nU r n/\d=Dp r
theorem T4{fd:bS}(F:lg K "rule_of" "rule_of" (top 27) f fd)(n:Np mg w.params K)(C:bE P w K mg base 5 "values_of" Q9 (gW K U8)):eU P w K mg base ky 6 f fd ["words","many"] (gW K T3):=
 jA F JF (λ_ _ h=>by obtain⟨_,_,rfl,_⟩:=h;rfl) λ_ _ h=>by
  obtain⟨r,m,rfl,m1,m6,hg,rfl⟩:=h;intro ix A outer s H E hr;have nd:T2.Nodup:=JF.nd;have QZ:=hg.ok (by omega)
  by_cases ht:∃sh,r=.turns sh
  ·obtain⟨sh,rfl⟩:=ht
   obtain⟨hl,hz⟩:=hg;obtain⟨v1,v2⟩:=uh sh hz;have ev:ji (a_ m .share) (sh.map dv)=.tuple (sh.map .int):=by unfold ji;rw[<-hl,v1,v2];rfl
   refine dH (dN (VT.to (bQ hr aV aV (gY (ae 0 rfl) aA (bH (j:=0) rfl)) aO) (by rw[bO];exact decide_eq_true rfl)) (aL (cC 2 (d:=.tuple (sh.map .int)) (bC C hr (aq (VE.to (LN (eV (aq aO aQ)) (ae 1 rfl) (by omega) (by omega) (by show 1<=100;decide) (by simp)) (k:=CB (a_ m .share)) (by rw[CH];unfold CB;rw[List.map_replicate,fw];rfl)) (aq (VE.to (VO.ve (gM (ae 0 rfl) (.yes aA) .no)) (k:=dz (sh.map dv)) (by show vV (L2.cutD (_::_) _ _)=_;rw[xZ];rfl)) aQ)) ⟨a_ m .share,sh.map dv,rfl,by rw[dA];omega,by rw[ao];omega,λx hx=>?_,ev.symm⟩) nd) (bf (cg (An (k:=false) (VT.to (iE kY oC (ae 2 rfl) gk (fU _)) rfl) (λz=>by cases z) (λ_=>VE.to (eV (aq aO (aq (ae 2 rfl) aQ))) rfl)))))) rfl
   obtain⟨z,hz',rfl⟩:=aG.mp hx;have:=hz z hz';exact nT (by omega) (by omega)
  ·have AW:∀sh,r≠.turns sh:=λsh z=>ht ⟨sh,z⟩
   obtain⟨v1,v2⟩:=CG hg AW;have JA:cQ r=mV r::(p9 r).map ei:=by
    cases r with
    |turns sh=>exact absurd rfl (AW sh)
    |_=>rfl
   have hw:mV r≠"turns":=by
    cases r with
    |turns sh=>exact absurd rfl (AW sh)
    |_=>dsimp only[mV];decide +kernel
   have oR:nA (mV r):=by cases r<;>dsimp only[mV,nA]<;>decide +kernel
   have hk:jI ui (mV r)=some ((qR r).map Sh.tx):=by
    cases r with
    |turns sh=>exact absurd rfl (AW sh)
    |meet=>decide +kernel
    |eldest=>decide +kernel
    |rank b=>show jI ui "rank"=some ([Sh.ly].map Sh.tx);decide +kernel
    |many m=>show jI ui "many"=some ([Sh.count].map Sh.tx);decide +kernel
    |gather m a=>show jI ui "gather"=some ([Sh.count,Sh.number].map Sh.tx);decide +kernel
   have hme:decide (mV r="meet")=true->¬(m:Int)<2:=by
    cases r with
    |meet=>intro _;have:2<=m:=hg;omega
    |turns sh=>exact absurd rfl (AW sh)
    |eldest=>intro z;exact absurd z (by decide +kernel)
    |rank b=>intro z;exact absurd z (show ¬decide (("rank":Str)="meet")=true by decide +kernel)
    |many m=>intro z;exact absurd z (show ¬decide (("many":Str)="meet")=true by decide +kernel)
    |gather m a=>intro z;exact absurd z (show ¬decide (("gather":Str)="meet")=true by decide +kernel)
   have Q_:(p9 r).length<=2:=by cases r<;>simp[p9]
   have hok:=xW AW QZ;have hsl:(qR r).length<=2:=by cases r<;>simp[qR]
   have ev:ji (qR r) ((p9 r).map ei)=.tuple (p9 r):=by unfold ji;rw[v1,v2];rfl
   rw[JA];unfold Dp
   generalize hA:p9 r=ra at *
   generalize hW:mV r=oU at *
   obtain⟨g1,q1,q2⟩:=n.ru;have a0:oO ((oU::ra.map ei).map aP) 0=some (.str oU):=bH (j:=0) rfl;refine aL (b0 (VT.to (bQ hr (bJ oR) aV (gY (ae 0 rfl) aA a0) aO) (by rw[bO];exact decide_eq_false hw)) bL) ?_
   refine aL (b0 (VT.to (jx (k1:=false) (k2:=decide (oU="meet")&&decide ((m:Int)<2)) (VT.to (zq q1 q2 (gY (ae 0 rfl) aA a0)) (by rw[hk];rfl)) (λ_=>sA (VT.to (bQ hr (bJ oR) aV (gY (ae 0 rfl) aA a0) aO) (by rw[bO])) (λ_=>B3 (ae 1 rfl) aA))) ?_) bL) ?_
   ·cases hd:decide (oU="meet") with
    |false=>rfl
    |true=>rw[decide_eq_false (hme hd)];rfl
   refine aL (cC 3 (d:=.tuple ra) (bC C hr (aq (VE.to (Fi q1 q2 (gY (ae 0 rfl) aA a0) hk) (k:=CB (qR r)) (by unfold CB;rw[aS];rfl)) (aq (VE.to (VO.ve (gM (ae 0 rfl) (.yes aA) .no)) (k:=dz (ra.map ei)) (by show vV (L2.cutD (_::_) _ _)=_;rw[xZ];rfl)) aQ)) ⟨qR r,ra.map ei,rfl,by omega,by rw[ao];omega,λx hx=>?_,ev.symm⟩) nd) ?_
   ·obtain⟨z,hz,rfl⟩:=aG.mp hx
    have:=hok z hz;cases z with
    |none=>exact⟨by decide,by show cJ (.str ("-":Str))=true;decide +kernel⟩
    |int i=>exact nT this.1 this.2
    |str x=>
     show uc (if x="" then "-" else x)
     split
     ·exact⟨by decide,by show cJ (.str ("-":Str))=true;decide +kernel⟩
     ·rename_i hx
      exact(this.resolve_left hx).ok
    |_=>exact this.elim
   ·exact bf (cg (An (k:=false) (VT.to (iE kY oC (ae 3 rfl) gk (fU _)) rfl) (λz=>by cases z) (λ_=>VE.to (wz (eV (aq (gY (ae 0 rfl) aA a0) aQ)) (ae 3 rfl) (by simp) (small (by simp only[bD,cB];omega))) rfl)))
theorem T5:cH ["names"] ["names"] (bP (top 28)):=⟨rfl,rfl,rfl,by decide +kernel,rfl,by decide +kernel,by decide +kernel⟩
def JG(l:List Str):Prop:=1<=l.length/\l.length<=6/\l.Nodup/\∀x∈l,dB x
def Rap(ds:List aj)(d:aj):Prop:=∃l:List Str,ds=[.tuple (l.map .str)]/\JG l/\d=.bool true
def NS:aj->Option aj
 | .str x=>some (.bool (isName x))
 |_=>none
theorem GJ(l:List Str):(l.map aP).filterMap NS=(l.map isName).map .bool:=by
 rw[cL,aS];exact filterMap_some λk _=>rfl
theorem Xz{fd:bS}(F:lg K "are_places" "are_places" (top 28) f fd)(n:Np mg w.params K)(C:bE P w K mg base 2 "is_name" ["word"] (gW K Tz)):eU P w K mg base ky 3 f fd ["names"] (gW K Rap):=
 jA F T5 (λ_ _ h=>by obtain⟨_,rfl,_⟩:=h;rfl) λ_ _ h=>by
  obtain⟨l,rfl,⟨l1,l6,lnd,T6⟩,rfl⟩:=h;intro ix A outer s H E hr;obtain⟨t,m6⟩:=n.mp;have nc:(["name"]:List Str).Nodup:=by decide +kernel
  have hdd:dd [] l=l:=B5 (by simpa using lnd)
  have yC:pM (l.map isName)=true:=by
   unfold pM;rw[Di,d_];intro x hx;exact(T6 x hx).is
  refine bf (cg (VE.to (kA (k1:=true) (VE.to (Ci BJ BJ (yE 1 l.length) (yE l.length 6) aA (VE.to (jU (ae 0 rfl) n.len) (by rw[ao])) (λ_=>Fp m6)) (by rw[decide_eq_true (by omega),decide_eq_true (by omega)];rfl)) (λ_=>kA (k1:=true) (VE.to (iU (oy rfl) zp (aq (VO.ve (VO.to (fe (own:=["name"]) (cap:=[]) (N:=["name"]) (cl:=[]) (tgt:=.one 0) (F:=NS) (ds:=l.map aP) rfl ⟨rfl,by decide +kernel,by decide +kernel,rfl,rfl,by simp⟩ (xm (ae 0 rfl)) (λf s3 H3=>bM (i:=0) nc rfl (bj rfl)) rfl
   (small (by rw[ao];omega)) (λd hd=>?_)) (GJ _))) aQ) n.all rfl) (by rw[yC])) (λ_=>je (ow hr (cx 20 _) (cx 20 _) (B_ (ae 0 rfl) (by omega) rfl n.len n.set) (jU (ae 0 rfl) n.len))))) ?_))
  ·obtain⟨z,hz,rfl⟩:=aG.mp hd
   refine⟨_,rfl,λf s3 H3=>fA,λr jo f s3 H3=>?_⟩
   cases jo;exact bC C hr (aq (ae 0 rfl) aQ) ⟨z,rfl,(T6 z hz).ok.1,rfl⟩
  ·rw[jW,hdd,ao,decide_eq_true rfl];rfl
end
inductive Ent where
 |kind (n:Str) (k:Option Int)
 |gate (n:Str)
 |line (n:Str) (r:Int)
 |desk (d:Dk)
 |time (d k:Str) (w:Int)
 |hour (d:Str) (a b:Int)
def Ent.form:Ent->Str
 | .kind _ _=>"kind"
 | .gate _=>"gate"
 | .line _ _=>"line"
 | .desk _=>"desk"
 | .time _ _ _=>"time"
 | .hour _ _ _=>"open"
def Ent.rest:Ent->List aj
 | .kind n k=>[.str n,mj k]
 | .gate n=>[.str n]
 | .line n r=>[.str n,.int r]
 | .desk d=>[.str d.name,.str d.to,Dp d.rule,.tuple (d.places.map .str)]
 | .time d k w=>[.str d,.str k,.int w]
 | .hour d a b=>[.str d,.int a,.int b]
def Ee(e:Ent):aj:=.tuple (.str e.form::e.rest)
def jj(d:Dk):List Str:=[("desk":Str),d.name,"to",ei (.str d.to),"by"]++cQ d.rule ++ [("from":Str)]++d.places
def Ef:Ent->List Str
 | .kind n k=>[("kind":Str),n,ei (mj k)]
 | .gate n=>[("gate":Str),n]
 | .line n r=>[("line":Str),n,dv r]
 | .desk d=>jj d
 | .time d k w=>[("time":Str),d,k,dv w]
 | .hour d a b=>[("open":Str),d,dv a,dv b]
def Eg(d:Dk):Prop:=dB d.name/\(d.to=""\/dB d.to)/\nU d.rule d.places.length/\JG d.places
def rX:Ent->Prop
 | .kind n k=>dB n/\∀i,k=some i->1<=i/\dq i
 | .gate n=>dB n
 | .line n r=>dB n/\1<=r/\dq r
 | .desk d=>Eg d
 | .time d k w=>dB d/\dB k/\1<=w/\dq w
 | .hour d a b=>dB d/\dq a/\dq b/\a<b
theorem A0{x:Str}(h:dB x):x≠"-":=λz=>by
 have hd:45∈x.cps.toList:=by rw[z];decide +kernel
 have:=h.2.2 _ hd;omega
theorem GK{x:Str}(h:dB x):ei (.str x)=x:=by
 show(if x="" then("-":Str)else x)=x
 rw[if_neg (hC h).1]
theorem uj{d:aj}(h:Dq d):uc (ei d):=by
 have h0:uc "-":=⟨by decide,by show cJ (.str ("-":Str))=true;decide +kernel⟩
 cases d with
 |none=>exact h0
 |int i=>exact nT h.1 h.2
 |str x=>
  show uc (if x="" then "-" else x)
  split
  ·exact h0
  ·rename_i hx
   exact(h.resolve_left hx).ok
 |_=>exact h.elim
theorem CJ{r:Rl}(h:xV r):∀x∈cQ r,uc x:=by
 intro x hx;by_cases ht:∃sh,r=.turns sh
 ·obtain⟨sh,rfl⟩:=ht
  rcases aI.mp hx with rfl|hx
  ·exact⟨by decide,by show cJ (.str ("turns":Str))=true;decide +kernel⟩
  ·obtain⟨z,hz,rfl⟩:=aG.mp hx
   exact nT (h.2 z hz).1 (h.2 z hz).2
 ·have AW:∀sh,r≠.turns sh:=λsh z=>ht ⟨sh,z⟩
  have JA:cQ r=mV r::(p9 r).map ei:=by
   cases r with
   |turns sh=>exact absurd rfl (AW sh)
   |_=>rfl
  rw[JA]at hx;rcases aI.mp hx with rfl|hx
  ·cases r<;>(refine⟨?_,?_⟩<;>dsimp only[mV,nA]<;>decide +kernel)
  ·obtain⟨z,hz,rfl⟩:=aG.mp hx
   exact uj (xW AW h z hz)
theorem JH{r:Rl}{n:Nat}(hn:n<=6)(h:nU r n):1<=(cQ r).length/\(cQ r).length<=7:=by
 cases r with
 |turns s=>have:=h.1;simp[cQ];omega
 |_=>simp[cQ,p9]
theorem A1{r:Rl}(h:xV r):∀x∈(cQ r).drop 1,x≠"from":=by
 have hd:∀d,Dq d->(∀x,d≠.str x)->ei d≠"from":=by
  intro d hd hs;cases d with
  |none=>decide +kernel
  |int i=>
   intro z;have:102∈(dv i).cps.toList:=by
    have z:dv i="from":=z;rw[z];decide +kernel
   have:=k8 hd.1 this;omega
  |str x=>exact absurd rfl (hs x)
  |_=>exact hd.elim
 intro x hx;cases r with
 |turns s=>
  obtain⟨z,hz,rfl⟩:=aG.mp (show x∈s.map dv from hx)
  exact hd (.int z) (h.2 z hz) (by intro x z;cases z)
 |meet=>cases hx
 |eldest=>cases hx
 |gather m a=>
  simp only[cQ,p9,aH,fV,tf,kQ,aI,bG,or_false]at hx;rcases hx with rfl|rfl
  ·exact hd (.int m) h.1 (by intro x z;cases z)
  ·exact hd (.int a) h.2 (by intro x z;cases z)
 |many m=>
  simp only[cQ,p9,aH,fV,tf,kQ,aI,bG,or_false]at hx;rw[hx];exact hd (.int m) h (by intro x z;cases z)
 |rank b=>
  simp only[cQ,p9,aH,fV,tf,kQ,aI,bG,or_false]at hx;rw[hx];cases b with
  |none=>exact hd .none trivial (by intro x z;cases z)
  |some b=>exact hd (.int b) h (by intro x z;cases z)
section
variable{P:bo}{w:bX}{K:ai}{mg:Str->Option av}{base:cK}{f:aK}{k:Nat}
abbrev Nde:List Str:=["words","end","head","places","rule"]
theorem NT:cH Nde ["words"] (bP (top 26)):=⟨rfl,rfl,rfl,by decide +kernel,rfl,by decide +kernel,by decide +kernel⟩
def Rde(ds:List aj)(d:aj):Prop:=∃q:Dk,ds=[dz (jj q)]/\Eg q/\d=Ee (.desk q)
theorem XA{α:Type}(l:List α)(a b:Nat)(ha:a<=b)(hb:b<=l.length):L2.cutD l (some (a:Int)) (some (b:Int))=(l.drop a).take (b-a):=by
 unfold L2.cutD;rw[HT.oW,HT.oW,mI hb,mI (show a<=l.length by omega)]
theorem A2{l:List Str}(h:∀x∈l,uc x):Lay 20 (dz l):=Aq (n:=19) λd hd=>by
 obtain⟨x,hx,rfl⟩:=aG.mp hd;exact bJ (h x hx).2
theorem pE(x:Str)(l:List Str):tU (.str x) (.list (l.map aP))=decide (x∈l):=by
 show((l.map aP).any λy=>du y (.str x))=_
 rw[List.any_map]
 induction l with
 |nil=>rfl
 |cons y l ih=>
  rw[lQ,ih]
  show(du (.str y) (.str x)||decide (x∈l))=_
  rw[bO,gC];simp only[yp,decide_eq_true_eq,aI]
  constructor
  ·rintro(h|h)
   ·exact .inl h.symm
   ·exact .inr h
  ·rintro(h|h)
   ·exact .inl h.symm
   ·exact .inr h
theorem XB{fd:bS}(F:lg K "desk_entry" "desk_entry" (top 26) f fd)(n:Np mg w.params K)(C1:bE P w K mg base 5 "values_of" Q9 (gW K U8))(C2:bE P w K mg base 6 "rule_of" ["words","many"] (gW K T3))(C3:bE P w K mg base 3 "are_places" ["names"] (gW K Rap)):eU P w K mg base ky 7 f fd ["words"] (gW K Rde):=
 jA F NT (λ_ _ h=>by obtain⟨_,rfl,_⟩:=h;rfl) λ_ _ h=>by
  obtain⟨q,rfl,⟨hn,Q5,TK,Ni⟩,rfl⟩:=h;intro ix A outer s H E hr;have nd:Nde.Nodup:=NT.nd;have XC:=Ni;obtain⟨p1,p6,XD,pnm⟩:=XC;have QZ:=TK.ok (by omega)
  obtain⟨r1,r7⟩:=JH p6 TK;have rok:=CJ QZ;have rnf:=A1 QZ;have T7:uc (ei (.str q.to)):=uj (d:=.str q.to) Q5;obtain⟨XE,rest,Ra⟩:∃a l,cQ q.rule=a::l:=by
   cases e:cQ q.rule with
   |nil=>rw[e]at r1;simp at r1
   |cons a l=>exact⟨a,l,rfl⟩
  have T8:uc "from":=⟨by decide,by show cJ (.str ("from":Str))=true;decide +kernel⟩
  have hW:jj q=("desk":Str)::q.name::"to"::ei (.str q.to)::"by"::XE::(rest++("from":Str)::q.places):=by
   unfold jj;rw[Ra];simp
  have XF:∀x∈rest,uc x:=λx hx=>rok x (by rw[Ra];exact aT _ hx)
  have XG:∀x∈rest,x≠"from":=λx hx=>rnf x (by rw[Ra];exact hx)
  have zc0:rest.length<=6:=by rw[Ra]at r7;simp at r7;omega
  have lit:∀x:Str,cJ (.str x)=true->x.length<=100000->uc x:=λx h1 h2=>⟨h2,h1⟩
  have hok:∀x∈jj q,uc x:=by
   intro x hx;rw[hW]at hx;simp only[aI,bZ]at hx;rcases hx with rfl|rfl|rfl|rfl|rfl|rfl|hx|rfl|hx
   ·exact lit _ (by decide +kernel) (by decide)
   ·exact hn.ok
   ·exact lit _ (by decide +kernel) (by decide)
   ·exact T7
   ·exact lit _ (by decide +kernel) (by decide)
   ·exact rok _ (by rw[Ra];exact aN)
   ·exact XF x hx
   ·exact T8
   ·exact(pnm x hx).ok
  have hlay:=A2 hok;have hlen:(jj q).length=7+rest.length+q.places.length:=by rw[hW];simp;omega
  have T9:(jj q).drop 6=rest++("from":Str)::q.places:=by rw[hW];rfl
  have T_:L2.cutD ((jj q).map aP) (some 6) none=(rest++("from":Str)::q.places).map aP:=by rw[<-T9,oN];exact jR _ 6
  have Ua:Lay 20 (.list ((rest++("from":Str)::q.places).map aP)):=A2 λx hx=>by
   refine hok x ?_
   rw[<-T9]at hx;exact eE hx
  have NV:Lay 20 (.str "from"):=aV;have Mi:∀(j:Nat)(x:Str),(jj q)[j]?=some x->oO ((jj q).map aP) (j:Int)=some (.str x):=λj x h=>bH (by rw[aJ,h];rfl)
  have g1:(jj q)[1]?=some q.name:=by rw[hW];rfl
  have g2:(jj q)[2]?=some ("to":Str):=by rw[hW];rfl
  have g3:(jj q)[3]?=some (ei (.str q.to)):=by rw[hW];rfl
  have g4:(jj q)[4]?=some ("by":Str):=by rw[hW];rfl
  have Lv:(jj q)[6+rest.length]?=some ("from":Str):=by
   have:(jj q)[6+rest.length]?=((jj q).drop 6)[rest.length]?:=by rw[List.getElem?_drop]
   rw[this,T9,cA (aD _),Nat.sub_self];rfl
  have Ho:∀j (h:j<(jj q).length),6<=j->j<6+rest.length->(jj q)[j]≠"from":=by
   intro j h j6 jr;have:(jj q)[j]?=((jj q).drop 6)[j-6]?:=by rw[List.getElem?_drop];congr 1;omega
   rw[T9,cD (by omega),au h,au (by omega)]at this
   rw[cY this];exact XG _ (dG _)
  have Mj:L2.cutD ((jj q).map aP) (some ((6+rest.length:Nat)+1:Int)) none=q.places.map aP:=by
   rw[show((6+rest.length:Nat)+1:Int)=((6+rest.length+1:Nat):Int)from by omega,jR,<-oN]
   congr 1
   rw[show 6+rest.length+1=6+(rest.length+1)from by omega,<-List.drop_drop,T9,List.drop_append,pY (by omega),show rest.length+1-rest.length=1 from by omega]
   rfl
  have Ub:L2.cutD ((jj q).map aP) (some 5) (some ((6+rest.length:Nat):Int))=(cQ q.rule).map aP:=by
   rw[show(5:Int)=((5:Nat):Int)from rfl,XA _ 5 (6+rest.length) (by omega) (by rw[ao];omega),<-oN,<-Bt]
   congr 1
   rw[hW,Ra]
   show((XE::(rest++("from":Str)::q.places))).take (6+rest.length-5)=XE::rest
   rw[show 6+rest.length-5=rest.length+1 from by omega,List.take_succ_cons,List.take_left' rfl]
  refine aL (b0 (VT.to (Am (k1:=false) (k2:=false) (k3:=false) (VT.to (Io hr rfl NV Ua aO (VE.to (VO.ve (gM (ae 0 rfl) (.yes aA) .no)) (by rw[T_]))) (by rw[pE,decide_eq_true (by simp)];rfl)) (λ_=>VT.to (qD hr aV aV (gY (ae 0 rfl) aA (Mi 2 _ g2)) aO) (by rw[bO,decide_eq_true rfl];rfl)) (λ_ _=>VT.to (qD hr aV aV (gY (ae 0 rfl) aA (Mi 4 _ g4)) aO) (by rw[bO,decide_eq_true rfl];rfl))) rfl) bL) ?_
  refine aL (cC 1 (d:=.int ((6+rest.length:Nat):Int)) (Gm (i:=6) (j:=6+rest.length) hr (ae 0 rfl) aO aA hlay NV (by omega) ⟨by rw[ao];omega,?_⟩ (λj h j6 jr=>?_)) nd) ?_
  ·have:(jj q)[6+rest.length]'(by omega)="from":=by
    rw[au (by omega)]at Lv
    exact cY Lv
   rw[List.getElem_map,bO,this];exact decide_eq_true rfl
  ·rw[ao]at h
   rw[List.getElem_map,bO];exact decide_eq_false (Ho j h j6 jr)
  have P0:ji [.name,.lJ] [q.name,ei (.str q.to)]=.tuple [.str q.name,.str q.to]:=by
   have f2:kT .lJ (ei (.str q.to))=true/\ia .lJ (ei (.str q.to))=.str q.to:=by
    rcases Q5 with h|h
    ·rw[h];exact⟨by decide +kernel,rfl⟩
    ·rw[GK h]
     refine⟨?_,?_⟩
     ·show(decide (q.to="-")||isName q.to)=true
      rw[h.is,Dj]
     ·show aP (if q.to="-" then "" else q.to)=_
      rw[if_neg (A0 h)]
   unfold ji qP nE
   show(if(true&&(isName q.name&&(kT .lJ (ei (.str q.to))&&true)))=true then fQ [.str q.name,ia .lJ (ei (.str q.to))]else .none)=_
   rw[hn.is,f2.1,f2.2];rfl
  refine aL (cC 2 (d:=.tuple [.str q.name,.str q.to]) (bC C1 (hr.mono (by omega)) (aq (VE.to (eV (aq aO (aq aO aQ))) (k:=CB [.name,.lJ]) rfl) (aq (VE.to (VO.ve (fG (aq (gY (ae 0 rfl) aA (Mi 1 _ g1)) (aq (gY (ae 0 rfl) aA (Mi 3 _ g3)) aQ)))) (k:=dz [q.name,ei (.str q.to)]) rfl) aQ)) ⟨_,_,rfl,by show 2<=1000;decide,by show 2<=100002;decide,λx hx=>?_,P0.symm⟩) nd) ?_
  ·simp only[aI,bG,or_false]at hx
   rcases hx with rfl|rfl
   ·exact hn.ok
   ·exact T7
  refine aL (cC 3 (d:=.tuple (q.places.map .str)) (ja jP tV (aq (VE.to (VO.ve (gM (ae 0 rfl) (.yes (cI (ae 1 rfl) aA)) .no)) (by rw[Mj])) aQ) n.tup rfl) nd) ?_
  refine aL (cC 4 (d:=Dp q.rule) (bC C2 hr (aq (VE.to (VO.ve (gM (ae 0 rfl) (.yes aA) (.yes (ae 1 rfl)))) (k:=dz (cQ q.rule)) (by rw[Ub];rfl)) (aq (VE.to (jU (ae 3 rfl) n.len) (by rw[ao])) aQ)) ⟨q.rule,q.places.length,rfl,p1,p6,TK,rfl⟩) nd) ?_
  refine aL (b0 (VT.to (Am (k1:=false) (k2:=false) (k3:=false) (VT.to (iE kY oC (ae 2 rfl) gk (fU _)) rfl) (λ_=>VT.to (iE kY oC (ae 4 rfl) gk (fU _)) rfl) (λ_ _=>VT.to (qF (jy (bC C3 (hr.mono (by omega)) (aq (ae 3 rfl) aQ) ⟨q.places,rfl,Ni,rfl⟩) rfl)) rfl)) rfl) bL) ?_
  exact bf (cg (VE.to (eV (aq aO (aq (bW (ae 2 rfl) aA (bH (j:=0) rfl)) (aq (bW (ae 2 rfl) aA (bH (j:=1) rfl)) (aq (ae 4 rfl) (aq (ae 3 rfl) aQ)))))) rfl))
abbrev Neo:List Str:=["words","form","values"]
theorem NW:cH Neo ["words"] (bP (top 25)):=⟨rfl,rfl,rfl,by decide +kernel,rfl,by decide +kernel,by decide +kernel⟩
def Reo(ds:List aj)(d:aj):Prop:=∃e:Ent,ds=[dz (Ef e)]/\rX e/\d=Ee e
def zB:Ent->List Sh
 | .kind _ _=>[.name,.k9]
 | .gate _=>[.name]
 | .line _ _=>[.name,.count]
 | .desk _=>[]
 | .time _ _ _=>[.name,.name,.count]
 | .hour _ _ _=>[.name,.number,.number]
theorem Eh{e:Ent}(h:rX e)(hd:∀q,e≠.desk q):∃ws,Ef e=e.form::ws/\ws.length<=3/\(∀x∈ws,uc x)/\ji (zB e) ws=.tuple e.rest/\jI pD e.form=some ((zB e).map Sh.tx)/\e.form≠"desk"/\nA e.form:=by
 cases e with
 |desk q=>exact absurd rfl (hd q)
 |kind n k=>
  obtain⟨hn,hk⟩:=h;have XH:uc (ei (mj k))/\kT .k9 (ei (mj k))=true/\ia .k9 (ei (mj k))=mj k:=by
   cases k with
   |none=>exact⟨uj (d:=.none) trivial,by decide +kernel,rfl⟩
   |some i=>
    obtain⟨h1,h2⟩:=hk i rfl;refine⟨nT h2.1 h2.2,?_,lz h2 (by intro z;cases z) (by intro z;cases z)⟩
    show(decide (dv i="-")||jX (dv i))=true
    rw[mD h2 h1,Dj]
  refine⟨[n,ei (mj k)],rfl,by show 2<=3;decide,λx hx=>?_,?_,(show jI pD "kind"=some ([Sh.name,Sh.k9].map Sh.tx) by decide +kernel),(show("kind":Str)≠"desk" by decide +kernel),(show cJ (.str ("kind":Str))=true by decide +kernel)⟩
  ·simp only[aI,bG,or_false]at hx
   rcases hx with rfl|rfl
   ·exact hn.ok
   ·exact XH.1
  ·show(if(true&&(isName n&&(kT .k9 (ei (mj k))&&true)))=true then fQ [.str n,ia .k9 (ei (mj k))]else .none)=_
   rw[hn.is,XH.2.1,XH.2.2];rfl
 |gate n=>
  refine⟨[n],rfl,by show 1<=3;decide,λx hx=>?_,?_,(show jI pD "gate"=some ([Sh.name].map Sh.tx) by decide +kernel),(show("gate":Str)≠"desk" by decide +kernel),(show cJ (.str ("gate":Str))=true by decide +kernel)⟩
  ·rw[bh.mp hx];exact(show dB n from h).ok
  ·show(if(true&&(isName n&&true))=true then fQ [.str n]else .none)=_
   rw[(show dB n from h).is];rfl
 |line n r=>
  obtain⟨hn,h1,h2⟩:=h;refine⟨[n,dv r],rfl,by show 2<=3;decide,λx hx=>?_,?_,(show jI pD "line"=some ([Sh.name,Sh.count].map Sh.tx) by decide +kernel),(show("line":Str)≠"desk" by decide +kernel),(show cJ (.str ("line":Str))=true by decide +kernel)⟩
  ·simp only[aI,bG,or_false]at hx
   rcases hx with rfl|rfl
   ·exact hn.ok
   ·exact nT h2.1 h2.2
  ·show(if(true&&(isName n&&(jX (dv r)&&true)))=true then fQ [.str n,ia .count (dv r)]else .none)=_
   rw[hn.is,mD h2 h1,lz h2 (by intro z;cases z) (by intro z;cases z)];rfl
 |time d k w=>
  obtain⟨hn,hk,h1,h2⟩:=h;refine⟨[d,k,dv w],rfl,by show 3<=3;decide,λx hx=>?_,?_,(show jI pD "time"=some ([Sh.name,Sh.name,Sh.count].map Sh.tx) by decide +kernel),(show("time":Str)≠"desk" by decide +kernel),(show cJ (.str ("time":Str))=true by decide +kernel)⟩
  ·simp only[aI,bG,or_false]at hx
   rcases hx with rfl|rfl|rfl
   ·exact hn.ok
   ·exact hk.ok
   ·exact nT h2.1 h2.2
  ·show(if(true&&(isName d&&(isName k&&(jX (dv w)&&true))))=true then fQ [.str d,.str k,ia .count (dv w)]else .none)=_
   rw[hn.is,hk.is,mD h2 h1,lz h2 (by intro z;cases z) (by intro z;cases z)];rfl
 |hour d a b=>
  obtain⟨hn,h1,h2,_⟩:=h;refine⟨[d,dv a,dv b],rfl,by show 3<=3;decide,λx hx=>?_,?_,(show jI pD "open"=some ([Sh.name,Sh.number,Sh.number].map Sh.tx) by decide +kernel),(show("open":Str)≠"desk" by decide +kernel),(show cJ (.str ("open":Str))=true by decide +kernel)⟩
  ·simp only[aI,bG,or_false]at hx
   rcases hx with rfl|rfl|rfl
   ·exact hn.ok
   ·exact nT h1.1 h1.2
   ·exact nT h2.1 h2.2
  ·show(if(true&&(isName d&&(isNumber (dv a)&&(isNumber (dv b)&&true))))=true then fQ [.str d,ia .number (dv a),ia .number (dv b)]else .none)=_
   rw[hn.is,xU h1.1 h1.2,xU h2.1 h2.2,lz h1 (by intro z;cases z) (by intro z;cases z),lz h2 (by intro z;cases z) (by intro z;cases z)];rfl
theorem XI{fd:bS}(F:lg K "entry_of" "entry_of" (top 25) f fd)(n:Np mg w.params K)(C1:bE P w K mg base 5 "values_of" Q9 (gW K U8))(C2:bE P w K mg base 7 "desk_entry" ["words"] (gW K Rde)):eU P w K mg base ky 8 f fd ["words"] (gW K Reo):=
 jA F NW (λ_ _ h=>by obtain⟨_,rfl,_⟩:=h;rfl) λ_ _ h=>by
  obtain⟨e,rfl,ok,rfl⟩:=h;intro ix A outer s H E hr;have nd:Neo.Nodup:=NW.nd;by_cases hd:∃q,e=.desk q
  ·obtain⟨q,rfl⟩:=hd
   refine aL (cC 1 (d:=.str "desk") (gY (ae 0 rfl) aA (bH (j:=0) rfl)) nd) ?_
   exact dH (dN (VT.to (bQ hr aV aV (ae 1 rfl) aO) (by rw[bO];exact decide_eq_true rfl)) (bf (cg (bC C2 hr (aq (ae 0 rfl) aQ) ⟨q,rfl,ok,rfl⟩)))) rfl
  ·have Iw:∀q,e≠.desk q:=λq z=>hd ⟨q,z⟩
   obtain⟨ws,w1,w2,w3,w4,w5,w6,w7⟩:=Eh ok Iw;obtain⟨g1,q1,q2⟩:=n.fo;rw[w1];have hsl:(zB e).length<=3:=by cases e<;>simp[zB]
   refine aL (cC 1 (d:=.str e.form) (gY (ae 0 rfl) aA (bH (j:=0) rfl)) nd) ?_
   refine aL (b0 (VT.to (bQ hr (bJ w7) aV (ae 1 rfl) aO) (by rw[bO];exact decide_eq_false w6)) bL) ?_
   refine aL (b0 (VT.to (zq q1 q2 (ae 1 rfl)) (by rw[w5];rfl)) bL) ?_
   refine aL (cC 2 (d:=.tuple e.rest) (bC C1 (hr.mono (by omega)) (aq (VE.to (Fi q1 q2 (ae 1 rfl) w5) (k:=CB (zB e)) (by unfold CB;rw[aS];rfl)) (aq (VE.to (VO.ve (gM (ae 0 rfl) (.yes aA) .no)) (k:=dz ws) (by show vV (L2.cutD (_::_) _ _)=_;rw[xZ];rfl)) aQ)) ⟨zB e,ws,rfl,by omega,by omega,w3,w4.symm⟩) nd) ?_
   have TK:e.rest.length<=4:=by cases e<;>simp[Ent.rest]
   refine aL (b0 ?_ bL) (bf (cg (VE.to (wz (eV (aq (ae 1 rfl) aQ)) (ae 2 rfl) (by simp) (small (by simp only[bD,cB];omega))) rfl)))
   cases e with
   |hour d a b=>
    exact VT.to (jx (k1:=false) (k2:=false) (VT.to (iE kY oC (ae 2 rfl) gk (fU _)) rfl) (λ_=>VT.to (sA (k1:=true) (k2:=false) (VT.to (bQ hr (bJ w7) aV (ae 1 rfl) aO) (by rw[bO];exact decide_eq_true rfl)) (λ_=>VT.to (Nb (bW (ae 2 rfl) aA (bH (j:=1) rfl)) (bW (ae 2 rfl) aA (bH (j:=2) rfl))) (decide_eq_false (by have:=ok.2.2.2;omega)))) rfl)) rfl
   |_=>
    exact VT.to (jx (k1:=false) (k2:=false) (VT.to (iE kY oC (ae 2 rfl) gk (fU _)) rfl) (λ_=>VT.to (sA (k1:=false) (k2:=false) (VT.to (bQ hr (bJ w7) aV (ae 1 rfl) aO) (by rw[bO];dsimp only[Ent.form];exact decide_eq_false (by decide +kernel))) (λz=>by cases z)) rfl)) rfl
end
def pU:List (Str×List (Int×Int))->Str->Int×Int->List (Str×List (Int×Int))
 | [],n,z=>[(n,[z])]
 |q::l,n,z=>if q.1=n then(q.1,q.2 ++ [z])::l else q::pU l n z
def fK(l:List (Str×Int×Int)):List (Str×List (Int×Int)):=l.foldl (λacc q=>pU acc q.1 q.2) []
def pairD(z:Int×Int):aj:=.tuple [.int z.1,.int z.2]
def rA(p:Pl):List (Str×aj):=p.kinds.map λq=>(q.1,mj q.2)
def iR(p:Pl):List (Str×aj):=p.lines.map λq=>(q.1,.int q.2)
def rB(p:Pl):List ((Str×Str)×aj):=p.times.map λq=>((q.1,q.2.1),.int q.2.2)
def wC(p:Pl):List (Str×aj):=(fK p.hours).map λq=>(q.1,.list (q.2.map pairD))
def rC(p:Pl):List (Str×aj):=[("kinds",eQ (rA p)),("gates",dz p.gates),("lines",eQ (iR p)),("desks",.list (p.desks.map df)),("times",IC (rB p)),("hours",eQ (wC p)),("paces",eQ [])]
def j5(p:Pl):aj:=Lq (rC p)
theorem CK(p:Pl):gE (rC p) "kinds"=some (eQ (rA p)):=fE rfl
theorem JK(p:Pl):gE (rC p) "gates"=some (dz p.gates):=(cR (show ¬(("kinds":Str)="gates") by decide +kernel)).trans (fE rfl)
theorem uk(p:Pl):gE (rC p) "lines"=some (eQ (iR p)):=(cR (show ¬(("kinds":Str)="lines") by decide +kernel)).trans ((cR (show ¬(("gates":Str)="lines") by decide +kernel)).trans (fE rfl))
theorem x3(p:Pl):gE (rC p) "desks"=some (.list (p.desks.map df)):=(cR (show ¬(("kinds":Str)="desks") by decide +kernel)).trans ((cR (show ¬(("gates":Str)="desks") by decide +kernel)).trans ((cR (show ¬(("lines":Str)="desks") by decide +kernel)).trans (fE rfl)))
theorem JL(p:Pl):gE (rC p) "times"=some (IC (rB p)):=(cR (show ¬(("kinds":Str)="times") by decide +kernel)).trans ((cR (show ¬(("gates":Str)="times") by decide +kernel)).trans ((cR (show ¬(("lines":Str)="times") by decide +kernel)).trans ((cR (show ¬(("desks":Str)="times") by decide +kernel)).trans (fE rfl))))
theorem jB{κ:Type}[DecidableEq κ]:∀(kvs:List (κ×aj))(x:κ),(gE kvs x).isSome=decide (x∈kvs.map (·.1))
 | [],x=>by simp[gE]
 |q::l,x=>by
  by_cases h:q.1=x
  ·rw[fE h,decide_eq_true (by simp[h])];rfl
  ·rw[cR h,jB l x,gC,decide_eq_true_iff,decide_eq_true_iff,aH,aI]
   exact⟨.inr,λz=>z.resolve_left λe=>h e.symm⟩
theorem um(p:Pl):(rA p).map (·.1)=p.kinds.map (·.1):=by unfold rA;rw[aS];rfl
theorem jG(p:Pl):(iR p).map (·.1)=p.lines.map (·.1):=by unfold iR;rw[aS];rfl
theorem A3(p:Pl):(rB p).map (·.1)=p.times.map λq=>(q.1,q.2.1):=by unfold rB;rw[aS];rfl
def oH(p:Pl)(x:Str):Prop:=x∈p.gates\/x∈p.lines.map (·.1)
instance (p : Pl) (x : Str) : Decidable (oH p x) := by unfold oH; infer_instance
def pF(p:Pl)(x:Str):Prop:=x∈p.desks.map (·.name)
instance (p : Pl) (x : Str) : Decidable (pF p x) := by unfold pF; infer_instance
def CL(p:Pl)(x:Str):Prop:=∃q∈p.desks,x∈q.places
def x4(p:Pl):Ent->Prop
 | .kind n _=>n∉p.kinds.map (·.1)
 | .gate n=>¬oH p n
 | .line n _=>¬oH p n
 | .desk d=>¬pF p d.name/\(∀x∈d.places,¬CL p x)/\(∀x∈d.places,oH p x)/\(d.to=""\/∃r:Int,gE (iR p) d.to=some (.int r)/\cq d.rule d.places.length<=r)
 | .time d k _=>(d,k)∉p.times.map (λq=>(q.1,q.2.1))/\pF p d/\k∈p.kinds.map (·.1)
 | .hour d _ _=>pF p d
section
variable{P:bo}{w:bX}{K:ai}{mg:Str->Option av}{base:cK}{f:aK}{k:Nat}
abbrev Ko:List Str:=["plant","name"]
abbrev U9:List Str:=["plant","place"]
theorem Uc:cH Ko Ko (bP (top 33)):=⟨rfl,rfl,rfl,by decide +kernel,rfl,by decide +kernel,by decide +kernel⟩
theorem Ud:cH Ko Ko (bP (top 34)):=⟨rfl,rfl,rfl,by decide +kernel,rfl,by decide +kernel,by decide +kernel⟩
theorem Ue:cH U9 U9 (bP (top 35)):=⟨rfl,rfl,rfl,by decide +kernel,rfl,by decide +kernel,by decide +kernel⟩
def XJ(ds:List aj)(d:aj):Prop:=∃(p:Pl)(x:Str),ds=[j5 p,.str x]/\j3 p/\nA x/\d=.bool (decide (oH p x))
def XM(ds:List aj)(d:aj):Prop:=∃(p:Pl)(x:Str),ds=[j5 p,.str x]/\j3 p/\nA x/\d=.bool (decide (pF p x))
def x5(p:Pl)(x:Str):List Dk:=p.desks.filter λq=>decide (x∈q.places)
def Rit(ds es:List aj):Prop:=∃(p:Pl)(x:Str),ds=[j5 p,.str x]/\j3 p/\nA x/\es=(x5 p x).map df
theorem Ei{p:Pl}{x:Str}(h:¬CL p x):x5 p x=[]:=by
 unfold x5;rw[List.filter_eq_nil_iff];intro q hq z;exact h ⟨q,hq,of_decide_eq_true z⟩
theorem zC{l:List Str}(h:∀x∈l,dB x):Lay 20 (.list (l.map aP)):=A2 λx hx=>(h x hx).ok
theorem XO{fd:bS}(F:lg K "is_place" "is_place" (top 33) f fd):eU P w K mg base ky 1 f fd Ko (gW K XJ):=
 jA F Uc (λ_ _ h=>by obtain⟨_,_,rfl,_⟩:=h;rfl) λ_ _ h=>by
  obtain⟨p,x,rfl,ok,ox,rfl⟩:=h;intro ix A outer s H E hr;refine bf (cg (VE.to (qI (Nj hr rfl (bJ ox) (zC ok.gates) (ae 1 rfl) (mQ (ae 0 rfl) (JK p))) (λ_=>je (DY hr (ae 1 rfl) (mQ (ae 0 rfl) (uk p))))) ?_))
  rw[pE,jB,jG]
  congr 1
  rw[gC];simp only[yp,decide_eq_true_eq];exact Iff.rfl
def Fdn:aj->Option aj
 | .tuple (x::_)=>some x
 |_=>none
theorem Ml(l:List Dk):(l.map df).filterMap Fdn=(l.map (·.name)).map .str:=by
 rw[cL,aS];exact filterMap_some λk _=>rfl
theorem XQ{fd:bS}(F:lg K "is_desk" "is_desk" (top 34) f fd):eU P w K mg base ky 1 f fd Ko (gW K XM):=
 jA F Ud (λ_ _ h=>by obtain⟨_,_,rfl,_⟩:=h;rfl) λ_ _ h=>by
  obtain⟨p,x,rfl,ok,ox,rfl⟩:=h;intro ix A outer s H E hr;have nc:(["desk"]:List Str).Nodup:=by decide +kernel
  have hn:=ok.dn;refine bf (cg (VE.to (Nj hr rfl (bJ ox) (zC (l:=p.desks.map (·.name)) λy hy=>?_) (ae 1 rfl) (VO.ve (VO.to (fe (own:=["desk"]) (cap:=[]) (N:=["desk"]) (cl:=[]) (tgt:=.one 0) (F:=Fdn) (ds:=p.desks.map df) rfl ⟨rfl,by decide +kernel,by decide +kernel,rfl,rfl,by simp⟩ (iQ (mQ (ae 0 rfl) (x3 p))) (λf s3 H3=>bM (i:=0) nc rfl (bj rfl)) rfl
   (small (by rw[ao];omega)) (λd hd=>?_)) (Ml _)))) ?_))
  ·obtain⟨q,hq,rfl⟩:=aG.mp hy
   exact(ok.desks q hq).1
  ·obtain⟨z,hz,rfl⟩:=aG.mp hd
   refine⟨_,rfl,λf s3 H3=>fA,λr jo f s3 H3=>?_⟩
   cases jo;exact bW (ae 0 rfl) aA (bH (j:=0) rfl)
  ·rw[pE];rfl
theorem vF(x:Str)(l:List Str):tU (.str x) (.tuple (l.map aP))=decide (x∈l):=pE x l
def JM(x:Str):aj->Bool
 | .tuple [_,_,_,.tuple l]=>l.any λy=>du y (.str x)
 |_=>false
def Fin(x:Str)(d:aj):Option aj:=if JM x d=true then some d else none
theorem qS(x:Str)(q:Dk):JM x (df q)=decide (x∈q.places):=vF x q.places
theorem Mm(x:Str)(l:List Dk):(l.map df).filterMap (Fin x)=(l.filter λq=>decide (x∈q.places)).map df:=by
 induction l with
 |nil=>rfl
 |cons q l ih=>
  rw[aH,lM];by_cases h:x∈q.places
  ·rw[c9 (f:=Fin x) (b:=df q) (by unfold Fin;rw[qS,if_pos (decide_eq_true h)]),ih,if_pos (decide_eq_true h),aH]
  ·rw[fX (f:=Fin x) (by unfold Fin;rw[qS,if_neg (by rw[decide_eq_false h];decide)]),ih,if_neg (by rw[decide_eq_false h];decide)]
theorem XR{fd:bS}(F:lg K "takers_of" "takers_of" (top 35) f fd):eU P w K mg base ky 1 f fd U9 (Bv K Rit):=
 DW F Ue (λ_ _ h=>by obtain⟨_,_,rfl,_⟩:=h;rfl) λ_ _ h=>by
  obtain⟨p,x,rfl,ok,ox,rfl⟩:=h;intro ix A outer s H E hr;have nc:(["desk","place"]:List Str).Nodup:=by decide +kernel
  have hn:=ok.dn;refine bf (ri (VO.to (fe (own:=["desk"]) (cap:=[1]) (N:=["desk","place"]) (tgt:=.one 0) (F:=Fin x) (ds:=p.desks.map df) rfl ⟨rfl,by decide +kernel,by decide +kernel,rfl,rfl,?_⟩ (iQ (mQ (ae 0 rfl) (x3 p))) (λf s3 H3=>bM (i:=0) nc rfl (bj rfl)) rfl
   (small (by rw[ao];omega)) (λd hd=>?_)) (Mm x _)))
  ·intro j hj
   rcases aI.mp hj with rfl|hj
   ·exact⟨(by show(1:Nat)<2;decide),bj rfl,rfl⟩
   ·cases hj
  ·obtain⟨z,hz,rfl⟩:=aG.mp hd
   refine⟨_,rfl,λf s3 H3=>?_,λr jo f s3 H3=>?_⟩
   ·refine tX (VT.to (SQ hr rfl (bJ ox) (Ar (n:=19) λd hd=>by obtain⟨y,hy,rfl⟩:=aG.mp hd;exact bJ ((ok.desks z hz).2.2.2.2 y hy).ok.2) (ae 1 rfl) (bW (d:=.tuple (z.places.map .str)) (ae 0 rfl) aA (bH (j:=3) rfl))) ?_)
    unfold Fin;rw[qS,vF];by_cases h:x∈z.places
    ·rw[decide_eq_true h];rfl
    ·rw[decide_eq_false h];rfl
   ·unfold Fin at jo
    split at jo
    ·cases jo;exact ae 0 rfl
    ·cases jo
def Ug:Rl->Bool
 | .many _=>true
 | .gather _ _=>true
 |_=>false
theorem Uh:cH ["rule","many"] ["rule","many"] (bP (top 4)):=⟨rfl,rfl,rfl,by decide +kernel,rfl,by decide +kernel,by decide +kernel⟩
theorem XS{fd:bS}(F:lg K "greatest_load" "greatest_load" (top 4) f fd):eU P w K mg base ky 1 f fd ["rule","many"] (gW K Q0):=
 jA F Uh (λ_ _ h=>by obtain⟨_,_,rfl,_⟩:=h;rfl) λ_ _ h=>by
  obtain⟨r,m,rfl,rfl⟩:=h;intro ix A outer s H E hr;have oR:nA (mV r):=by cases r<;>dsimp only[mV,nA]<;>decide +kernel
  have h0:oO (aP (mV r)::p9 r) 0=some (.str (mV r)):=bH (j:=0) rfl;have Kj:(decide (mV r="many")||decide (mV r="gather"))=Ug r:=by
   cases r with
   |meet=>decide +kernel
   |eldest=>decide +kernel
   |many m=>exact(show(decide (("many":Str)="many")||decide (("many":Str)="gather"))=true by decide +kernel)
   |gather m a=>exact(show(decide (("gather":Str)="many")||decide (("gather":Str)="gather"))=true by decide +kernel)
   |rank b=>exact(show(decide (("rank":Str)="many")||decide (("rank":Str)="gather"))=false by decide +kernel)
   |turns l=>exact(show(decide (("turns":Str)="many")||decide (("turns":Str)="gather"))=false by decide +kernel)
  by_cases h1:Ug r=true
  ·refine dH (dN (VT.to (jx (bQ hr (bJ oR) aV (bW (ae 0 rfl) aA h0) aO) (λ_=>bQ hr (bJ oR) aV (bW (ae 0 rfl) aA h0) aO)) (by rw[bO,bO,Kj,h1])) (bf (cg (bW (ae 0 rfl) aA ?_)))) rfl
   cases r with
   |many m=>exact bH (j:=1) rfl
   |gather m a=>exact bH (j:=1) rfl
   |_=>cases h1
  ·have h1:=Bool.not_eq_true _▸h1
   refine aL (b0 (VT.to (jx (bQ hr (bJ oR) aV (bW (ae 0 rfl) aA h0) aO) (λ_=>bQ hr (bJ oR) aV (bW (ae 0 rfl) aA h0) aO)) (by rw[bO,bO,Kj,h1])) bL) ?_
   by_cases h2:mV r="meet"
   ·refine dH (dN (VT.to (bQ hr (bJ oR) aV (bW (ae 0 rfl) aA h0) aO) (by rw[bO];exact decide_eq_true h2)) (bf (cg (VE.to (ae 1 rfl) ?_)))) rfl
    cases r with
    |meet=>rfl
    |many m=>cases h1
    |gather m a=>cases h1
    |eldest=>exact absurd h2 (by decide +kernel)
    |rank b=>exact absurd h2 (show ¬(("rank":Str)="meet") by decide +kernel)
    |turns l=>exact absurd h2 (show ¬(("turns":Str)="meet") by decide +kernel)
   ·refine aL (b0 (VT.to (bQ hr (bJ oR) aV (bW (ae 0 rfl) aA h0) aO) (by rw[bO];exact decide_eq_false h2)) bL) ?_
    refine bf (cg (VE.to aA ?_))
    cases r with
    |meet=>exact absurd rfl h2
    |many m=>cases h1
    |gather m a=>cases h1
    |_=>rfl
end
theorem dC(e:Ent):nA e.form:=by cases e<;>(dsimp only[Ent.form,nA];decide +kernel)
theorem rD(e:Ent):oO (aP e.form::e.rest) 0=some (.str e.form):=bH (j:=0) rfl
def Ent.name:Ent->Str
 | .kind n _=>n
 | .gate n=>n
 | .line n _=>n
 | .desk d=>d.name
 | .time d _ _=>d
 | .hour d _ _=>d
theorem Fx(e:Ent):oO (aP e.form::e.rest) 1=some (.str e.name):=by cases e<;>exact bH (j:=1) rfl
theorem Fy{e:Ent}(h:rX e):dB e.name:=by
 cases e with
 |gate n=>exact h
 |_=>exact h.1
theorem f9{a b:Str}(h:a≠b):du (.str a) (.str b)=false:=by rw[bO];exact decide_eq_false h
theorem jC(a:Str):du (.str a) (.str a)=true:=by rw[bO];exact decide_eq_true rfl
section
variable{P:bo}{w:bX}{K:ai}{mg:Str->Option av}{base:cK}{f:aK}{k:Nat}
abbrev CM:List Str:=["plant","entry"]
def Rb(ds:List aj)(d:aj):Prop:=∃(p:Pl)(e:Ent),ds=[j5 p,Ee e]/\j3 p/\rX e/\x4 p e/\d=.bool false
def Ej:aj->Option aj:=λ_=>some (.bool false)
theorem x6:∀l:List aj,l.filterMap Ej=(a_ l.length false).map .bool
 | []=>rfl
 |d::l=>by rw[c9 (f:=Ej) (b:=.bool false) rfl,x6 l];rfl
theorem GL(n:Nat):xA (a_ n false)=false:=by
 unfold xA;rw[Bool.eq_false_iff];intro z;obtain⟨b,hb,h⟩:=lL.mp z;rw[(iZ.mp hb).2]at h;cases h
abbrev Ntt:List Str:=["plant","entry","form","name"]
theorem NX:cH Ntt CM (bP (top 30)):=⟨rfl,rfl,rfl,by decide +kernel,rfl,by decide +kernel,by decide +kernel⟩
theorem XT{fd:bS}(F:lg K "tells_twice" "tells_twice" (top 30) f fd)(n:Np mg w.params K)(C1:bE P w K mg base 1 "is_place" Ko (gW K XJ))(C2:bE P w K mg base 1 "is_desk" Ko (gW K XM))(C3:bE P w K mg base 1 "takers_of" U9 (Bv K Rit)):eU P w K mg base ky 2 f fd CM (gW K Rb):=
 jA F NX (λ_ _ h=>by obtain⟨_,_,rfl,_⟩:=h;rfl) λ_ _ h=>by
  obtain⟨p,e,rfl,ok,oe,oa,rfl⟩:=h;intro ix A outer s H E hr;have nd:Ntt.Nodup:=NX.nd;have Rc:=(Fy oe).ok.2;have ofm:=dC e;refine aL (cC 2 (d:=.str e.form) (bW (ae 1 rfl) aA (rD e)) nd) ?_
  refine aL (cC 3 (d:=.str e.name) (bW (ae 1 rfl) aA (Fx e)) nd) ?_
  cases e with
  |kind m k=>
   refine dH (dN (VT.to (bQ hr (bJ (dC _)) aV (ae 2 rfl) aO) (jC _)) (bf (cg (VE.to (DY hr (ae 3 rfl) (mQ (ae 0 rfl) (CK p))) ?_)))) rfl
   rw[jB,um];exact congrArg kj (decide_eq_false oa)
  |gate m=>
   refine aL (b0 (VT.to (bQ hr (bJ (dC _)) aV (ae 2 rfl) aO) (f9 (show("gate":Str)≠"kind" by decide +kernel))) bL) ?_
   exact dH (dN (VT.to (jx (k1:=true) (k2:=true) (VT.to (bQ hr (bJ (dC _)) aV (ae 2 rfl) aO) (jC _)) (λz=>by cases z)) rfl) (bf (cg (bC C1 hr (aq (ae 0 rfl) (aq (ae 3 rfl) aQ)) ⟨p,m,rfl,ok,Rc,by rw[decide_eq_false oa]⟩)))) rfl
  |line m r=>
   refine aL (b0 (VT.to (bQ hr (bJ (dC _)) aV (ae 2 rfl) aO) (f9 (show("line":Str)≠"kind" by decide +kernel))) bL) ?_
   exact dH (dN (VT.to (jx (k1:=false) (k2:=true) (VT.to (bQ hr (bJ (dC _)) aV (ae 2 rfl) aO) (f9 (show("line":Str)≠"gate" by decide +kernel))) (λ_=>VT.to (bQ hr (bJ (dC _)) aV (ae 2 rfl) aO) (jC _))) rfl) (bf (cg (bC C1 hr (aq (ae 0 rfl) (aq (ae 3 rfl) aQ)) ⟨p,m,rfl,ok,Rc,by rw[decide_eq_false oa]⟩)))) rfl
  |desk q=>
   refine aL (b0 (VT.to (bQ hr (bJ (dC _)) aV (ae 2 rfl) aO) (f9 (show("desk":Str)≠"kind" by decide +kernel))) bL) ?_
   refine aL (b0 (VT.to (jx (k1:=false) (k2:=false) (VT.to (bQ hr (bJ (dC _)) aV (ae 2 rfl) aO) (f9 (show("desk":Str)≠"gate" by decide +kernel))) (λ_=>VT.to (bQ hr (bJ (dC _)) aV (ae 2 rfl) aO) (f9 (show("desk":Str)≠"line" by decide +kernel)))) rfl) bL) ?_
   have nc:(["place","plant"]:List Str).Nodup:=by decide +kernel
   obtain⟨a1,a2,a3,a4⟩:=oa;have l6:=oe.2.2.2.2.1;refine dH (dN (VT.to (bQ hr (bJ (dC _)) aV (ae 2 rfl) aO) (jC _)) (bf (cg (VE.to (qI (bC C2 hr (aq (ae 0 rfl) (aq (ae 3 rfl) aQ)) ⟨p,q.name,rfl,ok,Rc,rfl⟩) (λ_=>je (iU (Ja rfl) Tb (aq (VO.ve (VO.to (fe (own:=["place"]) (cap:=[0]) (N:=["place","plant"]) (tgt:=.one 0) (F:=Ej) (ds:=q.places.map .str) rfl ⟨rfl,by decide +kernel,by decide +kernel,rfl,rfl,?_⟩ (xm (bW (d:=.tuple (q.places.map .str)) (ae 1 rfl) aA (bH (j:=4) rfl))) (λf s3 H3=>bM (i:=0) nc rfl (bj rfl)) rfl
    (small (by rw[ao];omega)) (λd hd=>?_)) (x6 _))) aQ) n.any rfl))) ?_)))) rfl
   ·intro j hj
    rcases aI.mp hj with rfl|hj
    ·exact⟨(by show(0:Nat)<4;decide),bj rfl,rfl⟩
    ·cases hj
   ·obtain⟨z,hz,rfl⟩:=aG.mp hd
    refine⟨_,rfl,λf s3 H3=>fA,λr jo f s3 H3=>?_⟩
    cases jo;exact VE.to (Iz hr E_ E_ (VE.to (VO.ve (jV C3 hr (aq (ae 1 rfl) (aq (ae 0 rfl) aQ)) ⟨p,z,rfl,ok,(oe.2.2.2.2.2.2 z hz).ok.2,rfl⟩)) (by rw[Ei (a2 z hz)];rfl)) (VO.ve (fG (ds:=[]) aQ))) rfl
   ·rw[decide_eq_false a1,GL];rfl
  |time d k wk=>
   refine aL (b0 (VT.to (bQ hr (bJ (dC _)) aV (ae 2 rfl) aO) (f9 (show("time":Str)≠"kind" by decide +kernel))) bL) ?_
   refine aL (b0 (VT.to (jx (k1:=false) (k2:=false) (VT.to (bQ hr (bJ (dC _)) aV (ae 2 rfl) aO) (f9 (show("time":Str)≠"gate" by decide +kernel))) (λ_=>VT.to (bQ hr (bJ (dC _)) aV (ae 2 rfl) aO) (f9 (show("time":Str)≠"line" by decide +kernel)))) rfl) bL) ?_
   refine aL (b0 (VT.to (bQ hr (bJ (dC _)) aV (ae 2 rfl) aO) (f9 (show("time":Str)≠"desk" by decide +kernel))) bL) ?_
   refine dH (dN (VT.to (bQ hr (bJ (dC _)) aV (ae 2 rfl) aO) (jC _)) (bf (cg (VE.to (Ls hr (ae 3 rfl) (bW (ae 1 rfl) aA (bH (j:=2) rfl)) (mQ (ae 0 rfl) (JL p))) ?_)))) rfl
   refine congrArg kj ?_
   rw[jB,A3];rw[Bool.eq_false_iff];intro z;exact oa.1 (@of_decide_eq_true _ (_) z)
  |hour d a b=>
   refine aL (b0 (VT.to (bQ hr (bJ (dC _)) aV (ae 2 rfl) aO) (f9 (show("open":Str)≠"kind" by decide +kernel))) bL) ?_
   refine aL (b0 (VT.to (jx (k1:=false) (k2:=false) (VT.to (bQ hr (bJ (dC _)) aV (ae 2 rfl) aO) (f9 (show("open":Str)≠"gate" by decide +kernel))) (λ_=>VT.to (bQ hr (bJ (dC _)) aV (ae 2 rfl) aO) (f9 (show("open":Str)≠"line" by decide +kernel)))) rfl) bL) ?_
   refine aL (b0 (VT.to (bQ hr (bJ (dC _)) aV (ae 2 rfl) aO) (f9 (show("open":Str)≠"desk" by decide +kernel))) bL) ?_
   refine aL (b0 (VT.to (bQ hr (bJ (dC _)) aV (ae 2 rfl) aO) (f9 (show("open":Str)≠"time" by decide +kernel))) bL) ?_
   exact bf (cg (VE.to (kA (k1:=false) (k2:=false) (VE.to (ow hr (bJ (dC _)) aV (ae 2 rfl) aO) (congrArg kj (f9 (show("open":Str)≠"pace" by decide +kernel)))) (λz=>by cases z)) rfl))
abbrev Nln:List Str:=["plant","entry","form","into_line"]
theorem NZ:cH Nln CM (bP (top 31)):=⟨rfl,rfl,rfl,by decide +kernel,rfl,by decide +kernel,by decide +kernel⟩
theorem XU{fd:bS}(F:lg K "lacks_name" "lacks_name" (top 31) f fd)(n:Np mg w.params K)(C1:bE P w K mg base 1 "is_place" Ko (gW K XJ))(C2:bE P w K mg base 1 "is_desk" Ko (gW K XM)):eU P w K mg base ky 2 f fd CM (gW K Rb):=
 jA F NZ (λ_ _ h=>by obtain⟨_,_,rfl,_⟩:=h;rfl) λ_ _ h=>by
  obtain⟨p,e,rfl,ok,oe,oa,rfl⟩:=h;intro ix A outer s H E hr;have nd:Nln.Nodup:=NZ.nd;have Rc:=(Fy oe).ok.2;refine aL (cC 2 (d:=.str e.form) (bW (ae 1 rfl) aA (rD e)) nd) ?_
  have pac:∀(e:Ent),e.form≠"pace":=λe=>by cases e<;>(dsimp only[Ent.form];decide +kernel)
  cases e with
  |desk q=>
   obtain⟨a1,a2,a3,a4⟩:=oa;have nc:(["place","plant"]:List Str).Nodup:=by decide +kernel
   have U_:nA q.to:=by
    rcases oe.2.1 with h|h
    ·rw[h];show cJ (.str ("":Str))=true;decide +kernel
    ·exact h.ok.2
   have l6:=oe.2.2.2.2.1;refine dH (dN (VT.to (bQ hr (bJ (dC _)) aV (ae 2 rfl) aO) (jC _)) (aL (cC 3 (d:=.bool true) (VE.to (qI (ow hr (bJ U_) aV (bW (ae 1 rfl) aA (bH (j:=2) rfl)) aO) (λ_=>je (DY hr (bW (ae 1 rfl) aA (bH (j:=2) rfl)) (mQ (ae 0 rfl) (uk p))))) ?_) nd) (bf (cg (VE.to (qI (k1:=false) (k2:=false) (VE.to (t_ (ae 3 rfl)) rfl) (λ_=>je (VE.to (t_ (iU (oy rfl) zp (aq (VO.ve (VO.to (fe (own:=["place"]) (cap:=[0]) (N:=["place","plant"]) (tgt:=.one 0) (F:=U6) (ds:=q.places.map .str) rfl ⟨rfl,by decide +kernel,by decide +kernel,rfl,rfl,?_⟩ (xm (bW (d:=.tuple (q.places.map .str)) (ae 1 rfl) aA (bH (j:=4) rfl))) (λf s3 H3=>bM (i:=0) nc rfl (bj rfl)) rfl
    (small (by rw[ao];omega)) (λd hd=>?_)) (AU _))) aQ) n.all rfl)) (by rw[zy];rfl)))) rfl))))) rfl
   ·rw[bO,jB,jG]
    congr 1
    rcases a4 with h|⟨r,h,_⟩
    ·rw[decide_eq_true h];rfl
    ·have:(gE (iR p) q.to).isSome=true:=by rw[h];rfl
     rw[jB,jG]at this;rw[this,Dj]
   ·intro j hj
    rcases aI.mp hj with rfl|hj
    ·exact⟨(by show(0:Nat)<4;decide),bj rfl,rfl⟩
    ·cases hj
   ·obtain⟨z,hz,rfl⟩:=aG.mp hd
    refine⟨_,rfl,λf s3 H3=>fA,λr jo f s3 H3=>?_⟩
    cases jo;exact bC C1 hr (aq (ae 1 rfl) (aq (ae 0 rfl) aQ)) ⟨p,z,rfl,ok,(oe.2.2.2.2.2.2 z hz).ok.2,by rw[decide_eq_true (a3 z hz)]⟩
  |time d k wk=>
   refine aL (b0 (VT.to (bQ hr (bJ (dC _)) aV (ae 2 rfl) aO) (f9 (show("time":Str)≠"desk" by decide +kernel))) bL) ?_
   refine dH (dN (VT.to (bQ hr (bJ (dC _)) aV (ae 2 rfl) aO) (jC _)) (bf (cg (VE.to (qI (k1:=false) (VE.to (t_ (bC C2 hr (aq (ae 0 rfl) (aq (bW (ae 1 rfl) aA (bH (j:=1) rfl)) aQ)) ⟨p,d,rfl,ok,Rc,rfl⟩)) (by rw[decide_eq_true oa.2.1];rfl)) (λ_=>je (Gf hr (bW (ae 1 rfl) aA (bH (j:=2) rfl)) (mQ (ae 0 rfl) (CK p))))) ?_)))) rfl
   rw[jB,um,decide_eq_true oa.2.2];rfl
  |hour d a b=>
   refine aL (b0 (VT.to (bQ hr (bJ (dC _)) aV (ae 2 rfl) aO) (f9 (show("open":Str)≠"desk" by decide +kernel))) bL) ?_
   refine aL (b0 (VT.to (bQ hr (bJ (dC _)) aV (ae 2 rfl) aO) (f9 (show("open":Str)≠"time" by decide +kernel))) bL) ?_
   exact dH (dN (VT.to (bQ hr (bJ (dC _)) aV (ae 2 rfl) aO) (jC _)) (bf (cg (VE.to (t_ (bC C2 hr (aq (ae 0 rfl) (aq (bW (ae 1 rfl) aA (bH (j:=1) rfl)) aQ)) ⟨p,d,rfl,ok,Rc,rfl⟩)) (by rw[decide_eq_true (show pF p d from oa)];rfl))))) rfl
  |_=>
   refine aL (b0 (VT.to (bQ hr (bJ (dC _)) aV (ae 2 rfl) aO) (by rw[bO];dsimp only[Ent.form];exact decide_eq_false (by decide +kernel))) bL) ?_
   refine aL (b0 (VT.to (bQ hr (bJ (dC _)) aV (ae 2 rfl) aO) (by rw[bO];dsimp only[Ent.form];exact decide_eq_false (by decide +kernel))) bL) ?_
   refine aL (b0 (VT.to (bQ hr (bJ (dC _)) aV (ae 2 rfl) aO) (by rw[bO];dsimp only[Ent.form];exact decide_eq_false (by decide +kernel))) bL) ?_
   exact bf (cg (VE.to (kA (k1:=false) (k2:=false) (VE.to (ow hr (bJ (dC _)) aV (ae 2 rfl) aO) (by rw[bO];exact congrArg kj (decide_eq_false (pac _)))) (λz=>by cases z)) rfl))
theorem Ql:cH CM CM (bP (top 32)):=⟨rfl,rfl,rfl,by decide +kernel,rfl,by decide +kernel,by decide +kernel⟩
theorem Ui{fd:bS}(F:lg K "lacks_room" "lacks_room" (top 32) f fd)(n:Np mg w.params K)(C1:bE P w K mg base 1 "greatest_load" ["rule","many"] (gW K Q0)):eU P w K mg base ky 2 f fd CM (gW K Rb):=
 jA F Ql (λ_ _ h=>by obtain⟨_,_,rfl,_⟩:=h;rfl) λ_ _ h=>by
  obtain⟨p,e,rfl,ok,oe,oa,rfl⟩:=h;intro ix A outer s H E hr;by_cases hd:∃q,e=.desk q
  ·obtain⟨q,rfl⟩:=hd
   obtain⟨a1,a2,a3,a4⟩:=oa;have U_:nA q.to:=by
    rcases oe.2.1 with h|h
    ·rw[h];show cJ (.str ("":Str))=true;decide +kernel
    ·exact h.ok.2
   by_cases ht:q.to=""
   ·exact dH (dN (VT.to (jx (k1:=false) (k2:=true) (VT.to (qD hr (bJ (dC _)) aV (bW (ae 1 rfl) aA (rD _)) aO) (congrArg (λb=>!b) (jC _))) (λ_=>VT.to (bQ hr (bJ U_) aV (bW (ae 1 rfl) aA (bH (j:=2) rfl)) aO) (by rw[bO];exact decide_eq_true ht))) rfl) (bf (cg B1))) rfl
   ·obtain⟨r,h1,h2⟩:=a4.resolve_left ht
    refine aL (b0 (VT.to (jx (k1:=false) (k2:=false) (VT.to (qD hr (bJ (dC _)) aV (bW (ae 1 rfl) aA (rD _)) aO) (congrArg (λb=>!b) (jC _))) (λ_=>VT.to (bQ hr (bJ U_) aV (bW (ae 1 rfl) aA (bH (j:=2) rfl)) aO) (by rw[bO];exact decide_eq_false ht))) rfl) bL) ?_
    exact bf (cg (VE.to (M_ (bC C1 hr (aq (bW (d:=Dp q.rule) (ae 1 rfl) aA (bH (j:=3) rfl)) (aq (VE.to (jU (ds:=q.places.map .str) (bW (ae 1 rfl) aA (bH (j:=4) rfl)) n.len) (by rw[ao])) aQ)) ⟨q.rule,q.places.length,rfl,rfl⟩) (gF hr (mQ (ae 0 rfl) (uk p)) (bW (ae 1 rfl) aA (bH (j:=2) rfl)) h1)) (congrArg kj (decide_eq_false (by omega)))))
  ·have hf:e.form≠"desk":=by
    cases e with
    |desk q=>exact absurd ⟨q,rfl⟩ hd
    |_=>dsimp only[Ent.form];decide +kernel
   exact dH (dN (VT.to (jx (k1:=true) (k2:=true) (VT.to (qD hr (bJ (dC e)) aV (bW (ae 1 rfl) aA (rD _)) aO) (by rw[bO,decide_eq_false hf];rfl)) (λz=>by cases z)) rfl) (bf (cg B1))) rfl
theorem Uj:cH CM CM (bP (top 29)):=⟨rfl,rfl,rfl,by decide +kernel,rfl,by decide +kernel,by decide +kernel⟩
def Rfo(ds:List aj)(d:aj):Prop:=∃(p:Pl)(e:Ent),ds=[j5 p,Ee e]/\j3 p/\rX e/\x4 p e/\d=.str ""
theorem XW{fd:bS}(F:lg K "fault_of" "fault_of" (top 29) f fd)(C1:bE P w K mg base 2 "tells_twice" CM (gW K Rb))(C2:bE P w K mg base 2 "lacks_name" CM (gW K Rb))(C3:bE P w K mg base 2 "lacks_room" CM (gW K Rb)):eU P w K mg base ky 3 f fd CM (gW K Rfo):=
 jA F Uj (λ_ _ h=>by obtain⟨_,_,rfl,_⟩:=h;rfl) λ_ _ h=>by
  obtain⟨p,e,rfl,ok,oe,oa,rfl⟩:=h;intro ix A outer s H E hr;refine aL (b0 (VT.to (iE kY oC (ae 1 rfl) gk (fU _)) rfl) bL) ?_
  refine aL (b0 (jy (bC C1 hr (aq (ae 0 rfl) (aq (ae 1 rfl) aQ)) ⟨p,e,rfl,ok,oe,oa,rfl⟩) rfl) bL) ?_
  refine aL (b0 (jy (bC C2 hr (aq (ae 0 rfl) (aq (ae 1 rfl) aQ)) ⟨p,e,rfl,ok,oe,oa,rfl⟩) rfl) bL) ?_
  refine aL (b0 (jy (bC C3 hr (aq (ae 0 rfl) (aq (ae 1 rfl) aQ)) ⟨p,e,rfl,ok,oe,oa,rfl⟩) rfl) bL) ?_
  exact bf (cg aO)
end
def Mp:Option Int->V
 |none=>.non
 |some i=>.int i
theorem JN{K:ai}{H:Hp}(o:Option Int):Rep K H (Mp o) (mj o):=by
 cases o with
 |none=>exact .non
 |some i=>exact .int i
theorem Rep.Mq{K:ai}{H:Hp}{v:V}{o:Option Int}(r:Rep K H v (mj o)):v=Mp o:=by
 cases o with
 |none=>cases r;rfl
 |some i=>cases r;rfl
def sO(p:Pl):List (Key×V):=p.kinds.map λq=>(bF q.1,Mp q.2)
def sP(p:Pl):List (Key×V):=p.lines.map λq=>(bF q.1,V.int q.2)
def sQ(p:Pl):List (List Key×V):=p.times.map λq=>(uV (q.1,q.2.1),V.int q.2.2)
def gI(h:List (Str×List (Int×Int)))(cs:List aK):List (Key×V):=(h.zip cs).map λz=>(bF z.1.1,V.ref z.2)
abbrev Va:List Str:=["kinds","gates","lines","desks","times","hours","paces"]
def Mr(ak ag al ad at_ ah ap:aK):List (Str×V):=[("kinds",.ref ak),("gates",.ref ag),("lines",.ref al),("desks",.ref ad),("times",.ref at_),("hours",.ref ah),("paces",.ref ap)]
structure PlW(K:ai)(p:aK)(st:Pl)(H0 H:Hp)(C dx ak ag al ad at_ ah ap:aK)(cs:List aK)(xd:List V):Prop where
 ins:H p=some (.ins C dx (Mr ak ag al ad at_ ah ap))
 cls:BL K C
 rN:∀f∈Va,jK K C f
 ki:H ak=some (.dK (sO st))
 ga:H ag=some (.lst (st.gates.map V.str))
 li:H al=some (.dK (sP st))
 de:H ad=some (.lst xd)
 dr:cO K H0 xd (st.desks.map df)
 ti:H at_=some (.dT (sQ st))
 ho:H ah=some (.dK (gI (fK st.hours) cs))
 hl:cs.length=(fK st.hours).length
 pa:H ap=some (.dK [])
 ce:∀(i:Nat)c q,cs[i]?=some c->(fK st.hours)[i]?=some q->∃xs,H c=some (.lst xs)/\cO K H0 xs (q.2.map pairD)
def A4(K:ai)(p:aK)(st:Pl):OR:=λH0 H as=>∃C dx ak ag al ad at_ ah ap cs xd,as=p::ak::ag::al::ad::at_::ah::ap::cs/\as.Nodup/\PlW K p st H0 H C dx ak ag al ad at_ ah ap cs xd
theorem A4.mono{K:ai}{p:aK}{st:Pl}:ub (A4 K p st):=by
 rintro H0 H Ha Hb as ⟨C,dx,ak,ag,al,ad,at_,ah,ap,cs,xd,rfl,nd,W⟩ s e
 refine⟨C,dx,ak,ag,al,ad,at_,ah,ap,cs,xd,rfl,nd,?_⟩
 exact⟨by rw[e p (by simp)];exact W.ins,W.cls,W.rN,by rw[e ak (by simp)];exact W.ki,by rw[e ag (by simp)];exact W.ga,by rw[e al (by simp)];exact W.li,by rw[e ad (by simp)];exact W.de,W.dr.mono s,by rw[e at_ (by simp)];exact W.ti,by rw[e ah (by simp)];exact W.ho,W.hl,by rw[e ap (by simp)];exact W.pa,λi c q e1 e2=>by
  obtain⟨xs,h1,h2⟩:=W.ce i c q e1 e2;refine⟨xs,?_,h2.mono s⟩
  rw[e c (by simp[bA e1])]
  exact h1⟩
theorem uo{K:ai}{H:Hp}{α:Type}{f:α->V}{g:α->aj}:∀{l:List α},(∀x∈l,Rep K H (f x) (g x))->cO K H (l.map f) (l.map g)
 | [],_=>.nil
 |x::l,h=>.cons (h x aN) (uo λy hy=>h y (aT _ hy))
theorem CN{K:ai}{H:Hp}{α:Type}{g:α->aj}:∀{l:List α}{cs:List aK},cs.length=l.length->(∀(i:Nat)c q,cs[i]?=some c->l[i]?=some q->Rep K H (.ref c) (g q))->cO K H (cs.map V.ref) (l.map g)
 | [],[],_,_=>.nil
 | [],_::_,h,_=>by cases h
 |_::_,[],h,_=>by cases h
 |q::l,c::cs,h,k=>.cons (k 0 c q rfl rfl) (CN (by simpa using h) λi c' q' e1 e2=>k (i+1) c' q' (by simpa using e1) (by simpa using e2))
theorem vG:∀{h:List (Str×List (Int×Int))}{cs:List aK},cs.length=h.length->(gI h cs).map (·.1)=h.map λq=>(bF q.1:Key)
 | [],[],_=>rfl
 | [],_::_,e=>by cases e
 |_::_,[],e=>by cases e
 |q::h,c::cs,e=>by
  have:=vG (h:=h) (cs:=cs) (by simpa using e)
  unfold gI at this ⊢;rw[km,aH,aH,this];rfl
theorem vH:∀{h:List (Str×List (Int×Int))}{cs:List aK},cs.length=h.length->(gI h cs).map (·.2)=cs.map V.ref
 | [],[],_=>rfl
 | [],_::_,e=>by cases e
 |_::_,[],e=>by cases e
 |q::h,c::cs,e=>by
  have:=vH (h:=h) (cs:=cs) (by simpa using e)
  unfold gI at this ⊢;rw[km,aH,aH,this];rfl
theorem A4.rep{K:ai}{p:aK}{st:Pl}(Ha Hb:Hp)(as:List aK)(sb:dJ Ha Hb)(h:A4 K p st Ha Hb as):Rep K (rL as Hb Ha) (.ref p) (j5 st):=by
 obtain⟨C,dx,ak,ag,al,ad,at_,ah,ap,cs,xd,rfl,nd,W⟩:=h;have sm:=qL (as:=p::ak::ag::al::ad::at_::ah::ap::cs) sb
 generalize hM:rL (p::ak::ag::al::ad::at_::ah::ap::cs) Hb Ha=M at *
 have mm:∀a∈p::ak::ag::al::ad::at_::ah::ap::cs,M a=Hb a:=λa ha=>by rw[<-hM];exact wA ha
 refine Rep.obj (fs:=Mr ak ag al ad at_ ah ap) (by rw[mm p (by simp)];exact W.ins) W.cls W.rN rfl ?_
 refine .cons ?_ (.cons ?_ (.cons ?_ (.cons ?_ (.cons ?_ (.cons ?_ (.cons ?_ .nil))))))
 ·refine .dct (by rw[mm ak (by simp)];exact W.ki) ?_ ?_
  ·unfold rA sO;simp only[aS];rfl
  ·unfold rA sO;simp only[aS];exact uo λq _=>JN q.2
 ·exact .lst (kO.of (by rw[mm ag (by simp)];exact W.ga)) (uW _)
 ·refine .dct (by rw[mm al (by simp)];exact W.li) ?_ ?_
  ·unfold iR sP;simp only[aS];rfl
  ·unfold iR sP;simp only[aS];exact uo λq _=>.int q.2
 ·exact .lst (kO.of (by rw[mm ad (by simp)];exact W.de)) (W.dr.mono sm)
 ·refine .QO (by rw[mm at_ (by simp)];exact W.ti) ?_ ?_
  ·unfold rB sQ;simp only[aS];rfl
  ·unfold rB sQ;simp only[aS];exact uo λq _=>.int q.2.2
 ·refine .dct (by rw[mm ah (by simp)];exact W.ho) ?_ ?_
  ·have:=vG W.hl
   have e:(gI (fK st.hours) cs).map (λq=>sx q.1)=((gI (fK st.hours) cs).map (·.1)).map sx:=by rw[aS];rfl
   rw[e,this];unfold wC;simp only[aS];rfl
  ·rw[vH W.hl]
   have e:((wC st).map λq=>(aP q.1,q.2)).map (·.2)=(fK st.hours).map λq=>vV (q.2.map pairD):=by
    unfold wC;simp only[aS];rfl
   rw[e];exact CN W.hl λi c q e1 e2=>by
    obtain⟨xs,h1,h2⟩:=W.ce i c q e1 e2;exact .lst (kO.of (by rw[mm c (by simp[bA e1])];exact h1)) (h2.mono sm)
 ·exact .dct (kvs:=[]) (by rw[mm ap (by simp)];exact W.pa) rfl .nil
structure Uk(H H1:Hp)(p C dx:aK)(fs:List (Str×V))(os:List (aK×HO)):Prop where
 ins:H1 p=some (.ins C dx fs)
 ob:∀q∈os,H1 q.1=some q.2
 nd:(p::os.map (·.1)).Nodup
 fresh:∀q∈os,H q.1=none
 old:∀b o,H b=some o->b≠p->H1 b=some o
theorem Uk.step{H H1:Hp}{p C dx d:aK}{fs fs':List (Str×V)}{os:List (aK×HO)}{o:HO}(m:Uk H H1 p C dx fs os)(hd:H1 d=none):Uk H (upd (upd H1 d o) p (.ins C dx fs')) p C dx fs' (os ++ [(d,o)]):=by
 have Vb:d≠p:=λz=>by subst z;rw[m.ins]at hd;cases hd
 have OZ:d∉os.map (·.1):=λz=>by
  obtain⟨q,hq,rfl⟩:=aG.mp z;rw[m.ob q hq]at hd;cases hd
 have Ni:p∉os.map (·.1):=(fB.mp m.nd).1
 refine⟨bB,λq hq=>?_,?_,λq hq=>?_,λb o' e hb=>?_⟩
 ·rcases bZ.mp hq with hq|hq
  ·have h1:q.1≠p:=λz=>Ni (by rw[<-z];exact aG.mpr ⟨q,hq,rfl⟩)
   have h2:q.1≠d:=λz=>OZ (by rw[<-z];exact aG.mpr ⟨q,hq,rfl⟩)
   rw[aR h1,aR h2];exact m.ob q hq
  ·rw[bh.mp hq,aR Vb];exact bB
 ·rw[aU,<-List.cons_append,cZ]
  refine⟨m.nd,by simp,λx hx y hy=>?_⟩
  rw[i_,bh]at hy;subst hy;rcases aI.mp hx with rfl|hx
  ·exact bY Vb
  ·exact λz=>OZ (by rw[<-z];exact hx)
 ·rcases bZ.mp hq with hq|hq
  ·exact m.fresh q hq
  ·rw[bh.mp hq]
   cases e:H d with
   |none=>rfl
   |some o'=>have:=m.old d o' e Vb;rw[hd]at this;cases this
 ·have h2:b≠d:=λz=>by subst z;have:=m.old b o' e hb;rw[hd]at this;cases this
  rw[aR hb,aR h2];exact m.old b o' e hb
theorem lK{f:Str}{v:V}:∀{fs:List (Str×V)},f∉fs.map (·.1)->lV f v fs=fs ++ [(f,v)]
 | [],_=>rfl
 |(g,x)::fs,h=>by
  have h1:g≠f:=λz=>h (by rw[z];simp)
  show(if g=f then(g,v)::fs else(g,x)::lV f v fs)=_
  rw[if_neg h1,lK λz=>h (by simp[z])]
  rfl
abbrev x8:gZ:=inClass (top 19) 0
def JQ(C:aK):Sp:=λvs H Q _=>∃p dx,vs=[.ref p]/\H p=some (.ins C dx [])/\∀ak ag al ad at_ ah ap H',Uk H H' p C dx (Mr ak ag al ad at_ ah ap) [(ak,.dK []),(ag,.lst []),(al,.dK []),(ad,.lst []),(at_,.dT []),(ah,.dK []),(ap,.dK [])]->Q .non H'
section
variable{P:bo}{w:bX}{K:ai}{mg:Str->Option av}{base:cK}{f:aK}{k:Nat}
theorem Ul:cH ["self"] ["self"] (bP x8):=⟨rfl,rfl,rfl,by decide +kernel,rfl,by decide +kernel,by decide +kernel⟩
theorem XX{C:aK}{fd:bS}(F:lg K "__init__" "Plant.__init__" x8 f fd)(cl:BL K C)(na:∀f∈Va,jK K C f):eU P w K mg base ky 1 f fd ["self"] (JQ C):=by
 refine F.ok Ul (λvs H Q E h=>?_) (λix A outer s H vs Q E hr h=>?_)
 ·obtain⟨p,dx,rfl,_⟩:=h
  rfl
 ·obtain⟨p,dx,rfl,hp,q⟩:=h
  refine⟨_,ku (su (pv 0) qB rfl) (ku (su (pv 0) (z8 gi) rfl) (ku (su (pv 0) qB rfl) (ku (su (pv 0) (z8 gi) rfl) (ku (su (pv 0) HW rfl) (ku (su (pv 0) qB rfl) (zX (su (pv 0) qB rfl))))))),?_⟩
  have m0:Uk H H p C dx [] []:=⟨hp,λq hq=>(by cases hq),by simp,λq hq=>(by cases hq),λb o e _=>e⟩
  intro ak hak;have p1:(upd H ak (.dK [])) p=some (.ins C dx []):=by rw[aR (bT hp hak)];exact hp
  refine⟨_,rfl,p,C,dx,_,rfl,p1,cl,na _ (by decide +kernel),by show 0<1000;decide,?_⟩
  have e1:lV "kinds" (.ref ak) ([]:List (Str×V))=[(("kinds":Str),V.ref ak)]:=lK (show("kinds":Str)∉([]:List Str) by decide +kernel)
  have m1:=m0.step (o:=.dK []) (fs':=[(("kinds":Str),V.ref ak)]) hak;rw[e1];refine⟨bx _,λag hag=>?_⟩
  refine⟨_,rfl,p,C,dx,_,rfl,by rw[aR (bT m1.ins hag)];exact m1.ins,cl,na _ (by decide +kernel),by show 1<1000;decide,?_⟩
  have e2:lV "gates" (.ref ag) ([(("kinds":Str),V.ref ak)]:List (Str×V))=[(("kinds":Str),V.ref ak),("gates",V.ref ag)]:=lK (show("gates":Str)∉(["kinds"]:List Str) by decide +kernel)
  have m2:=m1.step (o:=.lst []) (fs':=[(("kinds":Str),V.ref ak),("gates",V.ref ag)]) hag;rw[e2];intro al Q_;refine⟨_,rfl,p,C,dx,_,rfl,by rw[aR (bT m2.ins Q_)];exact m2.ins,cl,na _ (by decide +kernel),by show 2<1000;decide,?_⟩
  have e3:lV "lines" (.ref al) ([(("kinds":Str),V.ref ak),("gates",V.ref ag)]:List (Str×V))=[(("kinds":Str),V.ref ak),("gates",V.ref ag),("lines",V.ref al)]:=lK (show("lines":Str)∉(["kinds","gates"]:List Str) by decide +kernel)
  have m3:=m2.step (o:=.dK []) (fs':=[(("kinds":Str),V.ref ak),("gates",V.ref ag),("lines",V.ref al)]) Q_;rw[e3];refine⟨bx _,λad had=>?_⟩
  refine⟨_,rfl,p,C,dx,_,rfl,by rw[aR (bT m3.ins had)];exact m3.ins,cl,na _ (by decide +kernel),by show 3<1000;decide,?_⟩
  have e4:lV "desks" (.ref ad) ([(("kinds":Str),V.ref ak),("gates",V.ref ag),("lines",V.ref al)]:List (Str×V))=[(("kinds":Str),V.ref ak),("gates",V.ref ag),("lines",V.ref al),("desks",V.ref ad)]:=lK (show("desks":Str)∉(["kinds","gates","lines"]:List Str) by decide +kernel)
  have m4:=m3.step (o:=.lst []) (fs':=[(("kinds":Str),V.ref ak),("gates",V.ref ag),("lines",V.ref al),("desks",V.ref ad)]) had;rw[e4];intro at_ hat;refine⟨_,rfl,p,C,dx,_,rfl,by rw[aR (bT m4.ins hat)];exact m4.ins,cl,na _ (by decide +kernel),by show 4<1000;decide,?_⟩
  have e5:lV "times" (.ref at_) ([(("kinds":Str),V.ref ak),("gates",V.ref ag),("lines",V.ref al),("desks",V.ref ad)]:List (Str×V))=[(("kinds":Str),V.ref ak),("gates",V.ref ag),("lines",V.ref al),("desks",V.ref ad),("times",V.ref at_)]:=lK (show("times":Str)∉(["kinds","gates","lines","desks"]:List Str) by decide +kernel)
  have m5:=m4.step (o:=.dT []) (fs':=[(("kinds":Str),V.ref ak),("gates",V.ref ag),("lines",V.ref al),("desks",V.ref ad),("times",V.ref at_)]) hat;rw[e5];intro ah hah;refine⟨_,rfl,p,C,dx,_,rfl,by rw[aR (bT m5.ins hah)];exact m5.ins,cl,na _ (by decide +kernel),by show 5<1000;decide,?_⟩
  have e6:lV "hours" (.ref ah) ([(("kinds":Str),V.ref ak),("gates",V.ref ag),("lines",V.ref al),("desks",V.ref ad),("times",V.ref at_)]:List (Str×V))=[(("kinds":Str),V.ref ak),("gates",V.ref ag),("lines",V.ref al),("desks",V.ref ad),("times",V.ref at_),("hours",V.ref ah)]:=lK (show("hours":Str)∉(["kinds","gates","lines","desks","times"]:List Str) by decide +kernel)
  have m6:=m5.step (o:=.dK []) (fs':=[(("kinds":Str),V.ref ak),("gates",V.ref ag),("lines",V.ref al),("desks",V.ref ad),("times",V.ref at_),("hours",V.ref ah)]) hah;rw[e6];intro ap hap;refine⟨_,rfl,p,C,dx,_,rfl,by rw[aR (bT m6.ins hap)];exact m6.ins,cl,na _ (by decide +kernel),by show 6<1000;decide,?_⟩
  have e7:lV "paces" (.ref ap) ([(("kinds":Str),V.ref ak),("gates",V.ref ag),("lines",V.ref al),("desks",V.ref ad),("times",V.ref at_),("hours",V.ref ah)]:List (Str×V))=[(("kinds":Str),V.ref ak),("gates",V.ref ag),("lines",V.ref al),("desks",V.ref ad),("times",V.ref at_),("hours",V.ref ah),("paces",V.ref ap)]:=lK (show("paces":Str)∉(["kinds","gates","lines","desks","times","hours"]:List Str) by decide +kernel)
  have m7:=m6.step (o:=.dK []) (fs':=[(("kinds":Str),V.ref ak),("gates",V.ref ag),("lines",V.ref al),("desks",V.ref ad),("times",V.ref at_),("hours",V.ref ah),("paces",V.ref ap)]) hap;rw[e7];exact q ak ag al ad at_ ah ap _ m7
end
def qT(p:Pl):Ent->Pl
 | .kind n k=>{ p with kinds:=p.kinds ++ [(n,k)] }
 | .gate n=>{ p with gates:=p.gates ++ [n] }
 | .line n r=>{ p with lines:=p.lines ++ [(n,r)] }
 | .desk d=>{ p with desks:=p.desks ++ [d] }
 | .time d k w=>{ p with times:=p.times ++ [(d,k,w)] }
 | .hour d a b=>{ p with hours:=p.hours ++ [(d,a,b)] }
def N0(st:Pl)(d:aj)(wq:Pl):Prop:=∃e,d=Ee e/\j3 st/\rX e/\x4 st e/\wq=qT st e
theorem uq{κ:Type}[DecidableEq κ]:∀{kvs:List (κ×V)}{k:κ},(∀q∈kvs,q.1≠k)->jd kvs k=none
 | [],_,_=>rfl
 |q::l,k,h=>by rw[lB (h q aN)];exact uq λx hx=>h x (aT _ hx)
theorem x9(z:Int×Int)(n:Str):∀{h:List (Str×List (Int×Int))}{cs:List aK},cs.length=h.length->
  (jd (gI h cs) (bF n)=none/\pU h n z=h ++ [(n,[z])])\/∃i c q,h[i]?=some q/\cs[i]?=some c/\jd (gI h cs) (bF n)=some (.ref c)/\pU h n z=h.set i (q.1,q.2 ++ [z])
 | [],[],_=>.inl ⟨rfl,rfl⟩
 | [],_::_,e=>by cases e
 |_::_,[],e=>by cases e
 |q::h,c::cs,e=>by
  have hv:gI (q::h) (c::cs)=(bF q.1,V.ref c)::gI h cs:=rfl;by_cases hn:q.1=n
  ·refine .inr ⟨0,c,q,rfl,rfl,?_,?_⟩
   ·rw[hv];exact oi (by show(bF q.1:Key)=bF n;rw[hn])
   ·show(if q.1=n then(q.1,q.2 ++ [z])::h else q::pU h n z)=_
    rw[if_pos hn];rfl
  ·have ne:¬(bF q.1:Key)=bF n:=λw=>hn (by injection w)
   have ea:pU (q::h) n z=q::pU h n z:=by
    show(if q.1=n then(q.1,q.2 ++ [z])::h else q::pU h n z)=_
    rw[if_neg hn]
   rcases x9 z n (h:=h) (cs:=cs) (by simpa using e) with⟨h1,h2⟩|⟨i,c',q',h1,h2,h3,h4⟩
   ·exact .inl ⟨by rw[hv,lB ne];exact h1,by rw[ea,h2];rfl⟩
   ·exact .inr ⟨i+1,c',q',by simpa using h1,by simpa using h2,by rw[hv,lB ne];exact h3,by rw[ea,h4];rfl⟩
theorem vI:∀{h h':List (Str×List (Int×Int))}{cs:List aK},h'.map (·.1)=h.map (·.1)->gI h' cs=gI h cs
 | [],[],_,_=>rfl
 | [],_::_,_,e=>by cases e
 |_::_,[],_,e=>by cases e
 |q::h,q'::h',cs,e=>by
  obtain⟨e1,e2⟩:=jJ e;cases cs with
  |nil=>rfl
  |cons c cs=>
   show(bF q'.1,V.ref c)::gI h' cs=(bF q.1,V.ref c)::gI h cs
   rw[show q'.1=q.1 from e1,vI e2]
theorem Ek{h:List (Str×List (Int×Int))}{cs:List aK}(e:cs.length=h.length)(q:Str×List (Int×Int))(c:aK):gI (h ++ [q]) (cs ++ [c])=gI h cs ++ [(bF q.1,V.ref c)]:=by
 unfold gI;rw[List.zip_append (by omega),aU]
 rfl
theorem El(l:List (Str×Int×Int))(q:Str×Int×Int):fK (l ++ [q])=pU (fK l) q.1 q.2:=by
 unfold fK;rw[gv];rfl
theorem CP(z:Int×Int)(n:Str):∀h,(pU h n z).length<=h.length+1
 | []=>aD _
 |q::h=>by
  show(if q.1=n then(q.1,q.2 ++ [z])::h else q::pU h n z).length<=_
  split
  ·simp
  ·have:=CP z n h
   simp only[bD];omega
theorem Em(l:List (Str×Int×Int)):(fK l).length<=l.length:=by
 have go:∀(l:List (Str×Int×Int))(acc:List (Str×List (Int×Int))),(l.foldl (λacc q=>pU acc q.1 q.2) acc).length<=acc.length+l.length:=by
  intro l
  induction l with
  |nil=>intro acc;exact aD _
  |cons q l ih=>
   intro acc;have h1:=ih (pU acc q.1 q.2);have h2:=CP q.2 q.1 acc;rw[my,bD];omega
 have:=go l [];rw[cB,iu]at this;exact this
theorem yb(z:Int×Int)(n:Str):∀(h:List (Str×List (Int×Int)))(b:Nat),(∀q∈h,q.2.length<=b)->∀q∈pU h n z,q.2.length<=b+1
 | [],b,_,q,hq=>by rw[bh.mp hq];simp
 |p::h,b,hb,q,hq=>by
  have hq:q∈(if p.1=n then(p.1,p.2 ++ [z])::h else p::pU h n z):=hq
  split at hq
  ·rcases aI.mp hq with rfl|hq
   ·have:=hb p aN
    rw[a7];simp;omega
   ·have:=hb q (aT _ hq);omega
  ·rcases aI.mp hq with rfl|hq
   ·have:=hb q aN;omega
   ·exact yb z n h b (λx hx=>hb x (aT _ hx)) q hq
theorem CQ(l:List (Str×Int×Int)):∀q∈fK l,q.2.length<=l.length:=by
 have go:∀(l:List (Str×Int×Int))(acc:List (Str×List (Int×Int)))(b:Nat),(∀q∈acc,q.2.length<=b)->∀q∈l.foldl (λacc q=>pU acc q.1 q.2) acc,q.2.length<=b+l.length:=by
  intro l
  induction l with
  |nil=>intro acc b hb q hq;exact hb q hq
  |cons q0 l ih=>
   intro acc b hb q hq;have:=ih (pU acc q0.1 q0.2) (b+1) (yb q0.2 q0.1 acc b hb) q hq;rw[bD];omega
 intro q hq;have:=go l [] 0 (λq hq=>by cases hq) q hq
 omega
section
variable{P:bo}{w:bX}{K:ai}{mg:Str->Option av}{base:cK}{f:aK}{k:Nat}
abbrev XY:List Str:=["plant","entry","form","name"]
theorem N1:cH XY CM (bP (top 36)):=⟨rfl,rfl,rfl,by decide +kernel,rfl,by decide +kernel,by decide +kernel⟩
theorem Um{ak ag al ad at_ ah ap:aK}:(Mr ak ag al ad at_ ah ap).lookup ("kinds":Str)=some (.ref ak)/\(Mr ak ag al ad at_ ah ap).lookup ("gates":Str)=some (.ref ag)/\(Mr ak ag al ad at_ ah ap).lookup ("lines":Str)=some (.ref al)/\(Mr ak ag al ad at_ ah ap).lookup ("desks":Str)=some (.ref ad)/\(Mr ak ag al ad at_ ah ap).lookup ("times":Str)=some (.ref at_)/\(Mr ak ag al ad at_ ah ap).lookup ("hours":Str)=some (.ref ah):=⟨rfl,rfl,rfl,rfl,rfl,rfl⟩
theorem XZ{fd:bS}(F:lg K "add_entry" "add_entry" (top 36) f fd):eU P w K mg base ky 1 f fd CM (Jb K Pl (A4 K) N0):=by
 refine F.ok N1 (λvs H Q E h=>?_) (λix A outer s H vs Q E hr h=>?_)
 ·obtain⟨_,_,_,_,_,_,_,rfl,_⟩:=h
  rfl
 ·obtain⟨H0,p,v,as,st,wq,d,rfl,sm,rv,own,W0,⟨e,rfl,ok,oe,oa,rfl⟩,q⟩:=h
  refine⟨_,ou,?_⟩
  have nd:XY.Nodup:=N1.nd;have f0:hV K H0 H H0 H (start XY [.ref p,v]) [.ref p,.val (Ee e),.un,.un]:=by
   refine⟨.refl sm,rfl,λi sl hi=>?_,λi j a b p' _ h1=>?_⟩
   ·match i,hi with
    |0,hi=>cases hi;exact rfl
    |1,hi=>cases hi;exact⟨v,rfl,rv⟩
    |2,hi=>cases hi;exact trivial
    |3,hi=>cases hi;exact trivial
    |i+4,hi=>simp at hi
   ·match i,h1 with
    |0,h1=>cases h1
    |1,h1=>cases h1
    |2,h1=>cases h1
    |3,h1=>cases h1
    |i+4,h1=>simp at h1
  refine dE (P7 f0 (cC 2 (d:=.str e.form) (bW (ae 1 rfl) aA (rD e)) nd) λσ1 H1 dU s1 f1=>?_)
  refine dE (P7 f1 (cC 3 (d:=.str e.name) (bW (ae 1 rfl) aA (Fx e)) nd) λσ2 H2 iS s2 f2=>?_)
  have W2:=A4.mono _ _ _ _ _ W0 f2.ent.gx (λa ha=>f2.ent.big.eq (own a ha).2)
  obtain⟨C,dx,ak,ag,al,ad,at_,ah,ap,cs,xd,rfl,Ms,W⟩:=W2;have o2:∀a∈p::ak::ag::al::ad::at_::ah::ap::cs,∃o,H a=some o/\H0 a=none:=λa ha=>by
   obtain⟨z1,z2⟩:=own a ha;cases e:H a with
   |none=>exact absurd e z2
   |some o=>exact⟨o,rfl,z1⟩
  have Uo:=Ms;simp only[fB,aI,not_or]at Uo;obtain⟨⟨pk,pg,pl,pd,pt,ph,pp,pc⟩,⟨kg,kl,kd,kt,kh,kp,kc⟩,⟨gl,gd,gt,gh,gp,gc⟩,⟨ld,lt,lh,lp,lc⟩,⟨dt,dh,dp,dc⟩,⟨th,tp,tc⟩,⟨hp,hc⟩,apc,ncs⟩:=Uo;have fin:∀(Ha Hb:Hp)(a:aK)(o:HO),eA H0 H Ha Hb->a∈p::ak::ag::al::ad::at_::ah::ap::cs->(∀xd',xd'=xd->A4 K p (qT st e) Ha (upd Hb a o) (p::ak::ag::al::ad::at_::ah::ap::cs))->Q .non (upd Hb a o):=λHa Hb a o g ha hW=>by
   have fr:∀b∈p::ak::ag::al::ad::at_::ah::ap::cs,Ha b=none/\Hb b≠none:=λb hb=>by
    obtain⟨ob,e1,e2⟩:=o2 b hb;exact⟨g.still e2 e1,by rw[g.big _ _ e1];simp⟩
   refine q Ha (upd Hb a o) _ g.gx (λb u e=>?_) g.new (λb hb=>⟨(fr b hb).1,?_,.inl hb⟩) (λb u e hb=>?_) (hW xd rfl)
   ·rw[aR (bT e (fr a ha).1)];exact g.sub b u e
   ·by_cases hba:b=a
    ·subst hba;rw[bB];simp
    ·rw[aR hba];exact(fr b hb).2
   ·rw[aR (λz=>hb (by rw[z];exact ha))];exact g.big b u e
  have Wg:∀Ha Hb,eA H2 iS Ha Hb->PlW K p st Ha Hb C dx ak ag al ad at_ ah ap cs xd:=λHa Hb g=>by
   have M:=A4.mono (K:=K) (p:=p) (st:=st) H2 iS Ha Hb (p::ak::ag::al::ad::at_::ah::ap::cs) ⟨C,dx,ak,ag,al,ad,at_,ah,ap,cs,xd,rfl,Ms,W⟩ g.gx (λa ha=>by
    obtain⟨o,e1,_⟩:=o2 a ha;exact g.big.eq (by rw[f2.ent.big _ _ e1];simp))
   exact⟨g.big _ _ W.ins,W.cls,W.rN,g.big _ _ W.ki,g.big _ _ W.ga,g.big _ _ W.li,g.big _ _ W.de,W.dr.mono g.gx,g.big _ _ W.ti,g.big _ _ W.ho,W.hl,g.big _ _ W.pa,λi c q e1 e2=>by
    obtain⟨xs,h1,h2⟩:=W.ce i c q e1 e2;exact⟨xs,g.big _ _ h1,h2.mono g.gx⟩⟩
  obtain⟨lk1,lk2,lk3,lk4,lk5,lk6⟩:=Um (ak:=ak) (ag:=ag) (al:=al) (ad:=ad) (at_:=at_) (ah:=ah) (ap:=ap);have lf:=bJ (n:=20) (dC e);cases e with
  |kind m kk=>
   refine dF (xD f2 (VT.to (bQ hr lf aV (ae 2 rfl) aO) (jC _)) λHa Hb g=>?_)
   have Wa:=Wg Ha Hb g;have hz:(sO st).length<sizeLine:=gN (by unfold sO;rw[ao];have:=ok.kn;omega)
   refine dF (Nu (f2.grow g) hr 0 rfl Wa.ins Wa.cls (Wa.rN _ (by decide +kernel)) lk1 Wa.ki (ae 3 rfl) (bW (ae 1 rfl) aA (bH (j:=2) rfl)) hz λv Hc Hd g2 r=>?_)
   have Wd:=Wg Hc Hd (g.trans g2);have hv:=Rep.Mq r;subst hv;refine fin Hc Hd ak _ (f2.ent.trans (g.trans g2)) (by simp) λ_ _=>⟨C,dx,ak,ag,al,ad,at_,ah,ap,cs,xd,rfl,Ms,?_⟩
   have hn:jd (sO st) (bF m)=none:=uq λq' FZ=>by
    obtain⟨q0,h0,rfl⟩:=aG.mp FZ;intro z
    injection z with z
    exact oa (by rw[<-z];exact aG.mpr ⟨q0,h0,rfl⟩)
   refine⟨by rw[aR pk];exact Wd.ins,Wd.cls,Wd.rN,?_,by rw[aR (bY kg)];exact Wd.ga,by rw[aR (bY kl)];exact Wd.li,by rw[aR (bY kd)];exact Wd.de,Wd.dr,by rw[aR (bY kt)];exact Wd.ti,by rw[aR (bY kh)];exact Wd.ho,Wd.hl,by rw[aR (bY kp)];exact Wd.pa,λi c q' e1 e2=>?_⟩
   ·rw[bB]
    show some (HO.dK (putK (sO st) (bF m) (Mp kk)))=some (.dK ((st.kinds ++ [(m,kk)]).map _));rw[tQ _ hn,aU];rfl
   ·obtain⟨xs,h1,h2⟩:=Wd.ce i c q' e1 e2
    exact⟨xs,by rw[aR (λz=>kc (by rw[<-z];exact bA e1))];exact h1,h2⟩
  |gate m=>
   refine dF (mR f2 (VT.to (bQ hr lf aV (ae 2 rfl) aO) (f9 (show("gate":Str)≠"kind" by decide +kernel))) λRf Rg g1=>?_)
   have Fz:=f2.grow g1;have Mt:=g1;refine dF (xD Fz (VT.to (bQ hr lf aV (ae 2 rfl) aO) (jC _)) λRh Ri g2=>?_)
   have GN:=Fz.grow g2;have JR:=Mt.trans g2;have Wa:=Wg Rh Ri JR;have hz:(st.gates.map V.str).length<sizeLine:=gN (by rw[ao];have:=ok.gn;omega)
   refine dF (Ca GN 0 rfl Wa.ins Wa.cls (Wa.rN _ (by decide +kernel)) lk2 Wa.ga (ae 3 rfl) hz λv Hc Hd g9 r=>?_)
   have Wd:=Wg Hc Hd (JR.trans g9);cases r;refine fin Hc Hd ag _ (f2.ent.trans (JR.trans g9)) (by simp) λ_ _=>⟨C,dx,ak,ag,al,ad,at_,ah,ap,cs,xd,rfl,Ms,?_⟩
   refine⟨by rw[aR (pg)];exact Wd.ins,Wd.cls,Wd.rN,by rw[aR (kg)];exact Wd.ki,?_,by rw[aR (bY gl)];exact Wd.li,by rw[aR (bY gd)];exact Wd.de,Wd.dr,by rw[aR (bY gt)];exact Wd.ti,by rw[aR (bY gh)];exact Wd.ho,Wd.hl,by rw[aR (bY gp)];exact Wd.pa,λi c q' e1 e2=>?_⟩
   ·rw[bB]
    show some (HO.lst (st.gates.map V.str ++ [V.str m]))=some (.lst ((st.gates ++ [m]).map V.str));rw[aU];rfl
   ·obtain⟨xs,h1,h2⟩:=Wd.ce i c q' e1 e2
    exact⟨xs,by rw[aR (λz=>gc (by rw[<-z];exact bA e1))];exact h1,h2⟩
  |line m rr=>
   refine dF (mR f2 (VT.to (bQ hr lf aV (ae 2 rfl) aO) (f9 (show("line":Str)≠"kind" by decide +kernel))) λRf Rg g1=>?_)
   have Fz:=f2.grow g1;have Mt:=g1;refine dF (mR Fz (VT.to (bQ hr lf aV (ae 2 rfl) aO) (f9 (show("line":Str)≠"gate" by decide +kernel))) λRh Ri g2=>?_)
   have GN:=Fz.grow g2;have JR:=Mt.trans g2;refine dF (xD GN (VT.to (bQ hr lf aV (ae 2 rfl) aO) (jC _)) λQm Qn g3=>?_)
   have Kq:=GN.grow g3;have Mu:=JR.trans g3;have Wa:=Wg Qm Qn Mu;have hz:(sP st).length<sizeLine:=gN (by unfold sP;rw[ao];have:=ok.ln;omega)
   refine dF (Nu Kq hr 0 rfl Wa.ins Wa.cls (Wa.rN _ (by decide +kernel)) lk3 Wa.li (ae 3 rfl) (bW (ae 1 rfl) aA (bH (j:=2) rfl)) hz λv Hc Hd g9 r=>?_)
   have Wd:=Wg Hc Hd (Mu.trans g9);cases r;refine fin Hc Hd al _ (f2.ent.trans (Mu.trans g9)) (by simp) λ_ _=>⟨C,dx,ak,ag,al,ad,at_,ah,ap,cs,xd,rfl,Ms,?_⟩
   have hn:jd (sP st) (bF m)=none:=uq λq' FZ=>by
    obtain⟨q0,h0,rfl⟩:=aG.mp FZ;intro z
    injection z with z
    exact oa (.inr (by rw[<-z];exact aG.mpr ⟨q0,h0,rfl⟩))
   refine⟨by rw[aR (pl)];exact Wd.ins,Wd.cls,Wd.rN,by rw[aR (kl)];exact Wd.ki,by rw[aR (gl)];exact Wd.ga,?_,by rw[aR (bY ld)];exact Wd.de,Wd.dr,by rw[aR (bY lt)];exact Wd.ti,by rw[aR (bY lh)];exact Wd.ho,Wd.hl,by rw[aR (bY lp)];exact Wd.pa,λi c q' e1 e2=>?_⟩
   ·rw[bB]
    show some (HO.dK (putK (sP st) (bF m) (V.int rr)))=some (.dK ((st.lines ++ [(m,rr)]).map _));rw[tQ _ hn,aU];rfl
   ·obtain⟨xs,h1,h2⟩:=Wd.ce i c q' e1 e2
    exact⟨xs,by rw[aR (λz=>lc (by rw[<-z];exact bA e1))];exact h1,h2⟩
  |desk q0=>
   refine dF (mR f2 (VT.to (bQ hr lf aV (ae 2 rfl) aO) (f9 (show("desk":Str)≠"kind" by decide +kernel))) λRf Rg g1=>?_)
   have Fz:=f2.grow g1;have Mt:=g1;refine dF (mR Fz (VT.to (bQ hr lf aV (ae 2 rfl) aO) (f9 (show("desk":Str)≠"gate" by decide +kernel))) λRh Ri g2=>?_)
   have GN:=Fz.grow g2;have JR:=Mt.trans g2;refine dF (mR GN (VT.to (bQ hr lf aV (ae 2 rfl) aO) (f9 (show("desk":Str)≠"line" by decide +kernel))) λQm Qn g3=>?_)
   have Kq:=GN.grow g3;have Mu:=JR.trans g3;refine dF (xD Kq (VT.to (bQ hr lf aV (ae 2 rfl) aO) (jC _)) λFC Dr g4=>?_)
   have Qo:=Kq.grow g4;have Qp:=Mu.trans g4;have Wa:=Wg FC Dr Qp;have Tn:=Wa.dr.length;rw[ao]at Tn;have hz:xd.length<sizeLine:=gN (by have:=ok.dn;omega)
   have JB:L2.cutD (aP "desk"::Ent.rest (.desk q0)) (some 1) none=Ent.rest (.desk q0):=(jR (aP "desk"::Ent.rest (.desk q0)) 1).trans rfl;refine dF (Ca (d:=df q0) Qo 0 rfl Wa.ins Wa.cls (Wa.rN _ (by decide +kernel)) lk4 Wa.de (VE.to (uS (ae 1 rfl) (.yes aA) .no ?_) (by show fQ (L2.cutD (aP "desk"::Ent.rest (.desk q0)) (some 1) none)=_;rw[JB];rfl)) hz λv Hc Hd g9 r=>?_)
   ·intro z
    have:=z.1;rw[show(1:Int)=((1:Nat):Int)from rfl,HT.oW]at this
    exact absurd this (by show ¬(min 1 5=0);decide)
   have Wd:=Wg Hc Hd (Qp.trans g9);refine fin Hc Hd ad _ (f2.ent.trans (Qp.trans g9)) (by simp) λ_ _=>⟨C,dx,ak,ag,al,ad,at_,ah,ap,cs,xd ++ [v],rfl,Ms,?_⟩
   refine⟨by rw[aR (pd)];exact Wd.ins,Wd.cls,Wd.rN,by rw[aR (kd)];exact Wd.ki,by rw[aR (gd)];exact Wd.ga,by rw[aR (ld)];exact Wd.li,bB,?_,by rw[aR (bY dt)];exact Wd.ti,by rw[aR (bY dh)];exact Wd.ho,Wd.hl,by rw[aR (bY dp)];exact Wd.pa,λi c q' e1 e2=>?_⟩
   ·show cO K Hc (xd ++ [v]) ((st.desks ++ [q0]).map df)
    rw[aU];exact Wd.dr.append (.cons r .nil)
   ·obtain⟨xs,h1,h2⟩:=Wd.ce i c q' e1 e2
    exact⟨xs,by rw[aR (λz=>dc (by rw[<-z];exact bA e1))];exact h1,h2⟩
  |time dk Vc wk=>
   refine dF (mR f2 (VT.to (bQ hr lf aV (ae 2 rfl) aO) (f9 (show("time":Str)≠"kind" by decide +kernel))) λRf Rg g1=>?_)
   have Fz:=f2.grow g1;have Mt:=g1;refine dF (mR Fz (VT.to (bQ hr lf aV (ae 2 rfl) aO) (f9 (show("time":Str)≠"gate" by decide +kernel))) λRh Ri g2=>?_)
   have GN:=Fz.grow g2;have JR:=Mt.trans g2;refine dF (mR GN (VT.to (bQ hr lf aV (ae 2 rfl) aO) (f9 (show("time":Str)≠"line" by decide +kernel))) λQm Qn g3=>?_)
   have Kq:=GN.grow g3;have Mu:=JR.trans g3;refine dF (mR Kq (VT.to (bQ hr lf aV (ae 2 rfl) aO) (f9 (show("time":Str)≠"desk" by decide +kernel))) λFC Dr g4=>?_)
   have Qo:=Kq.grow g4;have Qp:=Mu.trans g4;refine dF (xD Qo (VT.to (bQ hr lf aV (ae 2 rfl) aO) (jC _)) λMv Mw g5=>?_)
   have Vd:=Qo.grow g5;have Ve:=Qp.trans g5;have Wa:=Wg Mv Mw Ve;have hz:(sQ st).length<sizeLine:=gN (by unfold sQ;rw[ao];have:=ok.tn;omega)
   refine dF (P9 Vd hr 0 rfl Wa.ins Wa.cls (Wa.rN _ (by decide +kernel)) lk5 Wa.ti (ae 3 rfl) (bW (ae 1 rfl) aA (bH (j:=2) rfl)) (bW (ae 1 rfl) aA (bH (j:=3) rfl)) hz λv t Hc Hd g9 ht r=>?_)
   have gt9:eA H2 iS Hc (upd Hd t (.tup [.str dk,.str Vc])):=(Ve.trans g9).trans (.loose g9.sub ht);have Wd:=Wg Hc _ gt9;cases r;refine fin Hc _ at_ _ (f2.ent.trans gt9) (by simp) λ_ _=>⟨C,dx,ak,ag,al,ad,at_,ah,ap,cs,xd,rfl,Ms,?_⟩
   have hn:jd (sQ st) (uV (dk,Vc))=none:=uq λq' FZ=>by
    obtain⟨q0,h0,rfl⟩:=aG.mp FZ;intro z;have:=B7 z;exact oa.1 (by rw[<-this];exact aG.mpr ⟨q0,h0,rfl⟩)
   refine⟨by rw[aR (pt)];exact Wd.ins,Wd.cls,Wd.rN,by rw[aR (kt)];exact Wd.ki,by rw[aR (gt)];exact Wd.ga,by rw[aR (lt)];exact Wd.li,by rw[aR (dt)];exact Wd.de,Wd.dr,?_,by rw[aR (bY th)];exact Wd.ho,Wd.hl,by rw[aR (bY tp)];exact Wd.pa,λi c q' e1 e2=>?_⟩
   ·rw[bB]
    show some (HO.dT (putK (sQ st) (uV (dk,Vc)) (V.int wk)))=some (.dT ((st.times ++ [(dk,Vc,wk)]).map _));rw[tQ _ hn,aU];rfl
   ·obtain⟨xs,h1,h2⟩:=Wd.ce i c q' e1 e2
    exact⟨xs,by rw[aR (λz=>tc (by rw[<-z];exact bA e1))];exact h1,h2⟩
  |hour dk ha hb=>
   refine dF (mR f2 (VT.to (bQ hr lf aV (ae 2 rfl) aO) (f9 (show("open":Str)≠"kind" by decide +kernel))) λRf Rg g1=>?_)
   have Fz:=f2.grow g1;have Mt:=g1;refine dF (mR Fz (VT.to (bQ hr lf aV (ae 2 rfl) aO) (f9 (show("open":Str)≠"gate" by decide +kernel))) λRh Ri g2=>?_)
   have GN:=Fz.grow g2;have JR:=Mt.trans g2;refine dF (mR GN (VT.to (bQ hr lf aV (ae 2 rfl) aO) (f9 (show("open":Str)≠"line" by decide +kernel))) λQm Qn g3=>?_)
   have Kq:=GN.grow g3;have Mu:=JR.trans g3;refine dF (mR Kq (VT.to (bQ hr lf aV (ae 2 rfl) aO) (f9 (show("open":Str)≠"desk" by decide +kernel))) λFC Dr g4=>?_)
   have Qo:=Kq.grow g4;have Qp:=Mu.trans g4;refine dF (mR Qo (VT.to (bQ hr lf aV (ae 2 rfl) aO) (f9 (show("open":Str)≠"time" by decide +kernel))) λMv Mw g5=>?_)
   have Vd:=Qo.grow g5;have Ve:=Qp.trans g5;refine dF (xD Vd (VT.to (bQ hr lf aV (ae 2 rfl) aO) (jC _)) λKr Mx g6=>?_)
   have ff6:=Vd.grow g6;have Up:=Ve.trans g6;have Wa:=Wg Kr Mx Up;have Z':=Em st.hours;have IL:=CQ st.hours;have okh:=ok.hn;have hz:(gI (fK st.hours) cs).length<sizeLine:=gN (by unfold gI;rw[ao,List.length_zip];omega)
   have JB:L2.cutD (aP "open"::Ent.rest (.hour dk ha hb)) (some 2) none=[.int ha,.int hb]:=(jR (aP "open"::Ent.rest (.hour dk ha hb)) 2).trans rfl;have W5:Kr ah=none:=by
    obtain⟨o,e1,e2⟩:=o2 ah (by simp)
    exact(f2.ent.trans Up).still e2 e1
   have My:fK (st.hours ++ [(dk,ha,hb)])=pU (fK st.hours) dk (ha,hb):=El _ _;have JT:=x9 (ha,hb) dk W.hl;refine dF (Jd (d:=pairD (ha,hb)) ff6 0 rfl Wa.ins Wa.cls (Wa.rN _ (by decide +kernel)) lk6 Wa.ho (ae 3 rfl) (VE.to (uS (ae 1 rfl) (.yes aA) .no ?_) (by show fQ (L2.cutD (aP "open"::Ent.rest (.hour dk ha hb)) (some 2) none)=_;rw[JB];rfl)) hz rfl W5 (λv hv=>?_) (λc xs v t Hc Hd Cb UI htt g9 ht0 r=>?_) (λv c Hc Hd Cb hcn s9 Wm nw old Nv hdc U1 ha9 r=>?_))
   ·intro z
    have:=z.1;rw[show(2:Int)=((2:Nat):Int)from rfl,HT.oW]at this
    exact absurd this (by show ¬(min 2 4=0);decide)
   ·rcases JT with⟨h1,_⟩|⟨i,c,q',h1,h2,h3,h4⟩
    ·have hv:jd (gI (fK st.hours) cs) (bF dk)=some v:=hv
     rw[h1]at hv;cases hv
    ·have hv:some v=some (V.ref c):=hv.symm.trans h3
     cases hv;obtain⟨xs,x1,x2⟩:=Wa.ce i c q' h2 h1;refine⟨c,xs,rfl,x1,gN ?_⟩
     have:=x2.length;rw[ao]at this;have:=IL q' (bA h1);omega
   ·rcases JT with⟨h1,_⟩|⟨i,c',q',h1,h2,h3,h4⟩
    ·have Cb:jd (gI (fK st.hours) cs) (bF dk)=some (V.ref c):=Cb
     rw[h1]at Cb;cases Cb
    ·have Cb:some (V.ref c')=some (V.ref c):=h3.symm.trans Cb
     cases Cb;have Wd:=Wg Hc Hd (Up.trans g9);have R6:c∈cs:=bA h2;obtain⟨xs',x1,x2⟩:=Wd.ce i c q' h2 h1;have ex:xs'=xs:=by
      have:=g9.big _ _ UI;rw[this]at x1;cases x1;rfl
     subst ex;have X1:i<(fK st.hours).length:=(aM.mp h1).1;have En:fK (qT st (.hour dk ha hb)).hours=(fK st.hours).set i (q'.1,q'.2 ++ [(ha,hb)]):=by
      show fK (st.hours ++ [(dk,ha,hb)])=_;rw[My,h4]
     refine fin Hc Hd c _ (f2.ent.trans (Up.trans g9)) (by simp[R6]) λ_ _=>⟨C,dx,ak,ag,al,ad,at_,ah,ap,cs,xd,rfl,Ms,?_⟩
     have nc:∀x,x∉cs->x≠c:=λx hx z=>hx (by rw[z];exact R6)
     refine⟨by rw[aR (nc _ pc)];exact Wd.ins,Wd.cls,Wd.rN,by rw[aR (nc _ kc)];exact Wd.ki,by rw[aR (nc _ gc)];exact Wd.ga,by rw[aR (nc _ lc)];exact Wd.li,by rw[aR (nc _ dc)];exact Wd.de,Wd.dr,by rw[aR (nc _ tc)];exact Wd.ti,?_,?_,by rw[aR (nc _ apc)];exact Wd.pa,λj c2 q2 e1 e2=>?_⟩
     ·rw[aR (nc _ hc),Wd.ho,En]
      congr 2
      refine(vI ?_).symm
      rw[List.map_set];refine il λn=>?_
      by_cases hn:n=i
      ·subst hn;rw[bq (by rw[ao];exact X1),aJ,h1];rfl
      ·rw[a9 (bY hn)]
     ·rw[En,yq];exact Wd.hl
     ·rw[En]at e2
      by_cases hj:j=i
      ·subst hj
       rw[h2]at e1;cases e1;rw[bq X1]at e2;cases e2;refine⟨xs' ++ [v],bB,?_⟩
       show cO K Hc (xs' ++ [v]) ((q'.2 ++ [(ha,hb)]).map pairD);rw[aU];exact x2.append (.cons r .nil)
      ·rw[a9 (bY hj)]at e2
       obtain⟨ys,y1,y2⟩:=Wd.ce j c2 q2 e1 e2;have Ao:c2≠c:=λz=>by
        subst z;have l1:=aM.mp e1;have l2:=aM.mp h2;obtain⟨l1a,l1b⟩:=l1;obtain⟨l2a,l2b⟩:=l2;rcases Nat.lt_or_gt_of_ne hj with om|om
        ·exact h7.mp ncs j i l1a l2a om (by rw[l1b,l2b])
        ·exact h7.mp ncs i j l2a l1a om (by rw[l1b,l2b])
       exact⟨ys,by rw[aR Ao];exact y1,y2⟩
   ·rcases JT with⟨h1,h4⟩|⟨i,c',q',h1,h2,h3,h4⟩
    ·have gH:=f2.ent.trans Up
     have X2:H c=none:=gH.big.free hcn;have Mz:c∉p::ak::ag::al::ad::at_::ah::ap::cs:=λz=>by
      obtain⟨o,e1,_⟩:=o2 c z;rw[X2]at e1;cases e1
     have En:fK (qT st (.hour dk ha hb)).hours=fK st.hours ++ [(dk,[(ha,hb)])]:=by
      show fK (st.hours ++ [(dk,ha,hb)])=_;rw[My,h4]
     have X3:∀x∈p::ak::ag::al::ad::at_::ah::ap::cs,Hc x=none:=λx hx=>by
      obtain⟨o,e1,e2⟩:=o2 x hx;have:Kr x=none:=gH.still e2 e1;cases e:Hc x with
      |none=>rfl
      |some u=>
       rcases nw x (by rw[e];simp)with z|z
       ·exact absurd this z
       ·rw[gH.big _ _ e1]at z;cases z
     have N2:∀x∈p::ak::ag::al::ad::at_::ah::ap::cs,x≠ah->∀u,Mx x=some u->(upd Hd c (.lst [v])) x=some u:=λx hx Vf u e=>by
      rw[aR (λz=>Mz (by rw[<-z];exact hx))];exact old x u e Vf
     refine q Hc (upd Hd c (.lst [v])) (p::ak::ag::al::ad::at_::ah::ap::(cs ++ [c])) (gH.gx.trans s9) (λb u e=>?_) (λb z=>?_) (λx hx=>?_) (λb u e S_=>?_) ⟨C,dx,ak,ag,al,ad,at_,ah,ap,cs ++ [c],xd,rfl,?_,?_⟩
     ·rw[aR (bT e U1)];exact Wm b u e
     ·rcases nw b z with z|z
      ·exact gH.new b z
      ·exact .inr (gH.big.free z)
     ·have hx:x∈(p::ak::ag::al::ad::at_::ah::ap::cs) ++ [c]:=by simpa using hx
      rcases bZ.mp hx with hx|hx
      ·refine⟨X3 x hx,?_,.inl hx⟩
       rw[aR (λz=>Mz (by rw[<-z];exact hx))]
       obtain⟨o,e1,_⟩:=o2 x hx;by_cases Vf:x=ah
       ·rw[Vf,Nv];simp
       ·rw[old x o (gH.big _ _ e1) Vf];simp
      ·rw[bh.mp hx]
       exact⟨U1,by rw[bB];simp,.inr X2⟩
     ·have hbc:b≠c:=λz=>by rw[z,X2]at e;cases e
      rw[aR hbc];exact old b u (gH.big _ _ e) (λz=>S_ (by rw[z];simp))
     ·have:(p::ak::ag::al::ad::at_::ah::ap::(cs ++ [c]))=(p::ak::ag::al::ad::at_::ah::ap::cs) ++ [c]:=by simp
      rw[this,cZ];exact⟨Ms,by simp,λx hx y hy z=>Mz (by rw[<-bh.mp hy,<-z];exact hx)⟩
     ·refine⟨N2 p (by simp) ph _ Wa.ins,Wa.cls,Wa.rN,N2 ak (by simp) kh _ Wa.ki,N2 ag (by simp) gh _ Wa.ga,N2 al (by simp) lh _ Wa.li,N2 ad (by simp) dh _ Wa.de,Wa.dr.mono s9,N2 at_ (by simp) th _ Wa.ti,?_,?_,N2 ap (by simp) (bY hp) _ Wa.pa,λj c2 q2 e1 e2=>?_⟩
      ·have Nv:Hd ah=some (.dK (putK (gI (fK st.hours) cs) (bF dk) (.ref c))):=Nv
       rw[aR (λz=>Mz (by rw[<-z];simp)),Nv,En,tQ _ h1,Ek W.hl]
      ·rw[En,a7,a7,W.hl];rfl
      ·rw[En]at e2
       by_cases hj:j<cs.length
       ·rw[cD hj]at e1
        rw[cD (by rw[<-W.hl];exact hj)]at e2
        obtain⟨ys,y1,y2⟩:=Wa.ce j c2 q2 e1 e2;have hm:c2∈cs:=bA e1;exact⟨ys,N2 c2 (by simp[hm]) (λz=>hc (by rw[<-z];exact hm)) _ y1,y2.mono s9⟩
       ·have hl:=W.hl
        have hj2:j=cs.length:=by
         have:=(aM.mp e1).1;rw[a7,jt]at this;omega
        subst hj2;rw[cA (aD _),Nat.sub_self]at e1;rw[cA (by omega),show cs.length-(fK st.hours).length=0 from by omega]at e2
        cases e1;cases e2;exact⟨[v],bB,.cons r .nil⟩
    ·have Cb:jd (gI (fK st.hours) cs) (bF dk)=none:=Cb
     rw[h3]at Cb;cases Cb
end
def Eo:Pl:=⟨[],[],[],[],[],[]⟩
def vf(es:List Ent)(i:Nat):Pl:=(es.take i).foldl qT Eo
theorem GO{es:List Ent}{i:Nat}{e:Ent}(h:es[i]?=some e):vf es (i+1)=qT (vf es i) e:=by
 unfold vf;rw[dm,h,gv];rfl
theorem JV(es:List Ent):vf es es.length=es.foldl qT Eo:=by unfold vf;rw[iM]
structure Uq(es:List Ent):Prop where
 ent:∀e∈es,rX e
 pl:∀i,i<=es.length->j3 (vf es i)
 add:∀(i:Nat)e,es[i]?=some e->x4 (vf es i) e
section
variable{P:bo}{w:bX}{K:ai}{mg:Str->Option av}{base:cK}{f:aK}{k:Nat}
structure PlC(P:bo)(w:bX)(K:ai)(mg:Str->Option av)(base:cK):Prop where
 ex:∃C fi fd,mg "Plant"=some (.ref C)/\BL K C/\(∀f∈Va,jK K C f)/\Mk K C fi/\eU P w K mg base ky 1 fi fd ["self"] (JQ C)/\Binds K fd ["self"] []
abbrev Nrp:List Str:=["text","plant","number","words","entry","word"]
theorem N3:cH Nrp ["text"] (bP (top 20)):=⟨rfl,rfl,rfl,by decide +kernel,rfl,by decide +kernel,by decide +kernel⟩
def Rrp(ds:List aj)(d:aj):Prop:=∃(x:Str)(es:List Ent),ds=[.str x]/\uc x/\(rowsOf x).map (·.2)=es.map Ef/\Uq es/\d=j5 (es.foldl qT Eo)
theorem X4{fd:bS}(F:lg K "read_plant" "read_plant" (top 20) f fd)(n:Np mg w.params K)(T:PlC P w K mg base)(C1:bE P w K mg base 2 "rows_of" ["text"] (Bv K ZZ))(C2:bE P w K mg base 8 "entry_of" ["words"] (gW K Reo))(C3:bE P w K mg base 3 "fault_of" CM (gW K Rfo))(C4:bE P w K mg base 1 "add_entry" CM (Jb K Pl (A4 K) N0)):eU P w K mg base ky 9 f fd ["text"] (gW K Rrp):=
 jA F N3 (λ_ _ h=>by obtain⟨_,_,rfl,_⟩:=h;rfl) λ_ _ h=>by
  obtain⟨x,es,rfl,ox,N4,Qq,rfl⟩:=h;intro ix A outer s H E hr;have nd:Nrp.Nodup:=N3.nd;obtain⟨C,fi,fdi,mC,cl,na,M,FI,bI⟩:=T.ex;have hlen:(rowsOf x).length=es.length:=by have:=congrArg fD N4;simpa using this
  refine xu λB0 B σ H0 Hh D fr Vg=>?_
  refine dE (P8 1 M FI (hr.mono (by omega)) mC bI (λp dx E' hp hdx Vb=>?_) nd)
  refine⟨p,dx,rfl,bB,λak ag al ad at_ ah ap H' mid=>⟨rfl,?_⟩⟩
  have Hz:∀b,(upd (upd Hh dx (.own p)) p (.ins C dx [])) b=none->Hh b=none:=λb hb=>by
   have h1:b≠p:=λz=>by rw[z,bB]at hb;cases hb
   rw[aR h1]at hb;have h2:b≠dx:=λz=>by rw[z,bB]at hb;cases hb
   rw[aR h2]at hb;exact hb
  have N5:∀b o,Hh b=some o->H' b=some o:=λb o e=>by
   have h1:b≠p:=bT e hp;refine mid.old b o ?_ h1
   rw[aR h1,aR (bT e hdx)];exact e
  have G0:OF K B0 B (A4 K p (vf es 0)) H0 H' (σ.set 1 (some (.ref p))) [.val (.str x),.ref p,.un,.un,.un,.un]:=by
   have g:eA H0 Hh H0 H':=⟨N5,dJ.refl _,λb u e=>N5 b u (fr.sub b u e),λ_ z=>.inl z⟩
   refine⟨(fr.grow g).sC (i:=1) (v:=.ref p) (sl:=.ref p) rfl rfl,rfl,[p,ak,ag,al,ad,at_,ah,ap],λa ha=>?_,C,dx,ak,ag,al,ad,at_,ah,ap,[],[],rfl,by simpa using mid.nd,?_⟩
   ·have JW:Hh a=none/\H' a≠none:=by
     rcases aI.mp ha with rfl|ha
     ·exact⟨hp,by rw[mid.ins];simp⟩
     ·have ha':∃q∈[(ak,HO.dK []),(ag,.lst []),(al,.dK []),(ad,.lst []),(at_,.dT []),(ah,.dK []),(ap,.dK [])],q.1=a:=by
       simp only[aI,bG,or_false]at ha;rcases ha with rfl|rfl|rfl|rfl|rfl|rfl|rfl<;>simp
      obtain⟨q,hq,rfl⟩:=ha';exact⟨Hz _ (mid.fresh q hq),by rw[mid.ob q hq];simp⟩
    exact⟨fr.sub.free JW.1,fr.ent.big.free JW.1,JW.2⟩
   ·exact⟨mid.ins,cl,na,mid.ob (ak,.dK []) (by simp),mid.ob (ag,.lst []) (by simp),mid.ob (al,.dK []) (by simp),mid.ob (ad,.lst []) (by simp),.nil,mid.ob (at_,.dT []) (by simp),mid.ob (ah,.dK []) (by simp),rfl,mid.ob (ap,.dK []) (by simp),λi c q e1=>by simp at e1⟩
  refine dE (Tf (tgt:=.tup [2,3]) (ds:=(rowsOf x).map xJ) (λi=>A4 K p (vf es i)) (λi=>A4.mono) G0 c7 rfl (iQ (VO.ve (jV C1 (hr.mono (by omega)) (aq (ae 0 rfl) aQ) ⟨x,rfl,ox,rfl⟩)))
   (gf rfl (bU (bM (i:=2) nd rfl (bj rfl)) (bU (bM (i:=3) nd rfl (bj rfl)) eR))) (λi d hd=>?_) (λσ2 Ha Hb G=>?_))
  ·obtain⟨r,hri,rfl⟩:∃r,(rowsOf x)[i]?=some r/\d=xJ r:=by
    rw[aJ]at hd;cases e:(rowsOf x)[i]? with
    |none=>rw[e]at hd;cases hd
    |some r=>rw[e]at hd;cases hd;exact⟨r,rfl,rfl⟩
   have X1:i<(rowsOf x).length:=(aM.mp hri).1;have QM:es[i]?=some es[i]:=au (by omega)
   have hw:r.2=Ef es[i]:=by
    have h1:((rowsOf x).map (·.2))[i]?=some r.2:=by rw[aJ,hri];rfl
    rw[N4,aJ,QM]at h1;exact(cY h1).symm
   have oe:=Qq.ent _ (dG (by omega:i<es.length))
   have oa:=Qq.add i _ QM;have op:=Qq.pl i (by omega)
   have Ur:=GO QM
   generalize es[i]=e at *
   refine⟨[.val (.str x),.ref p,.val (.int (r.1:Nat)),.val (.list (r.2.map .str)),.un,.un],rfl,rfl,λD C0 σ' ef dU G q=>?_⟩
   refine dE (kB A4.mono G (cC 4 (d:=Ee e) (bC C2 hr (aq (ae 3 rfl) aQ) ⟨e,by rw[hw];rfl,oe,rfl⟩) nd) rfl λσ1 Rf Rg G1=>?_)
   refine dE (P6 A4.mono G1 1 5 (d:=.str "") rfl A4.rep (bC C3 (hr.mono (by omega)) (aq (ae 1 rfl) (aq (ae 4 rfl) aQ)) ⟨vf es i,e,rfl,op,oe,oa,rfl⟩) rfl rfl (λσ2 Rh Ri G2=>?_) nd)
   refine dE (kB A4.mono G2 (b0 (VT.to (qD hr aV aV (ae 5 rfl) aO) (congrArg (λb=>!b) (jC _))) bL) rfl λσ3 Qm Qn G3=>?_)
   refine dF (Ti (s:=vf es i) (s':=vf es (i+1)) C4 (hr.mono (by omega)) G3 A4.mono 1 rfl (ae 4 rfl) ⟨e,rfl,op,oe,oa,Ur⟩ λFC Dr G4=>?_)
   exact q _ _ _ (G4.forget A4.mono ⟨.inr rfl,.inr rfl,.inl rfl,.inl rfl,.inl rfl,.inl rfl,trivial⟩ rfl)
  ·have e:vf es ((rowsOf x).map xJ).length=es.foldl qT Eo:=by rw[ao,hlen,JV]
   rw[e]at G;exact dF (Tg G 1 rfl A4.rep Vg)
end
end Mg
namespace Mg
open L2 PySem PyProof.Rows
structure sS(p:Pl):Prop where
 kn:(p.kinds.map (·.1)).Nodup
 pn:(p.gates++p.lines.map (·.1)).Nodup
 dn:(p.desks.map (·.name)).Nodup
 dk:∀d∈p.desks,Eg d/\(∀x∈d.places,x∈p.gates++p.lines.map (·.1))/\(d.to=""\/∃r,(d.to,r)∈p.lines/\cq d.rule d.places.length<=r)
 dj:(p.desks.map (·.places)).flatten.Nodup
 tn:(p.times.map λq=>(q.1,q.2.1)).Nodup
 tm:∀q∈p.times,q.1∈p.desks.map (·.name)/\q.2.1∈p.kinds.map (·.1)/\1<=q.2.2
 hr:∀q∈p.hours,q.1∈p.desks.map (·.name)/\q.2.1<q.2.2
 kk:∀q∈p.kinds,∀i,q.2=some i->1<=i/\dq i
 ll:∀q∈p.lines,1<=q.2
def CT(p:Pl):List Ent:=p.kinds.map (λq=>Ent.kind q.1 q.2)++p.gates.map Ent.gate++p.lines.map (λq=>Ent.line q.1 q.2)++p.desks.map Ent.desk++p.times.map (λq=>Ent.time q.1 q.2.1 q.2.2)++p.hours.map (λq=>Ent.hour q.1 q.2.1 q.2.2)
def rY:Pl->List Ent->Prop
 |st,[]=>j3 st
 |st,e::es=>j3 st/\rX e/\x4 st e/\rY (qT st e) es
theorem rY.app:∀{A B:List Ent}{st:Pl},rY st A->rY (A.foldl qT st) B->rY st (A++B)
 | [],_,_,_,h=>h
 |_::_,_,_,⟨h1,h2,h3,h4⟩,h=>⟨h1,h2,h3,h4.app h⟩
theorem rY.es:∀{es:List Ent}{st:Pl},rY st es->(∀e∈es,rX e)/\(∀i,i<=es.length->j3 ((es.take i).foldl qT st))/\∀(i:Nat)e,es[i]?=some e->x4 ((es.take i).foldl qT st) e
 | [],st,h=>⟨λe he=>(by cases he),λi hi=>by rw[List.take_nil];exact h,λi e he=>by simp at he⟩
 |e::es,st,⟨h1,h2,h3,h4⟩=>by
  obtain⟨a,b,c⟩:=h4.es;refine⟨λx hx=>?_,λi hi=>?_,λi x hx=>?_⟩
  ·rcases aI.mp hx with rfl|hx
   ·exact h2
   ·exact a x hx
  ·cases i with
   |zero=>exact h1
   |succ i=>exact b i (by simpa using hi)
  ·cases i with
   |zero=>cases hx;exact h3
   |succ i=>exact c i x (by simpa using hx)
theorem seg{α:Type}(mk:α->Ent)(put:List α->Pl)(h1:∀l x,qT (put l) (mk x)=put (l ++ [x]))(l:List α)(hok:∀pre x post,l=pre++x::post->j3 (put pre)/\rX (mk x)/\x4 (put pre) (mk x))(X5:j3 (put l)):
  rY (put []) (l.map mk)/\(l.map mk).foldl qT (put [])=put l:=by
 have go:∀(rest pre:List α),l=pre++rest->rY (put pre) (rest.map mk)/\(rest.map mk).foldl qT (put pre)=put l:=by
  intro rest
  induction rest with
  |nil=>intro pre e;rw[eI]at e;subst e;exact⟨X5,rfl⟩
  |cons x rest ih=>
   intro pre e;obtain⟨a,b,c⟩:=hok pre x rest e;obtain⟨i1,i2⟩:=ih (pre ++ [x]) (by rw[e];simp)
   rw[aH];refine⟨⟨a,b,c,?_⟩,?_⟩
   ·rw[h1];exact i1
   ·rw[my,h1];exact i2
 exact go l [] rfl
theorem kJ{p q:Pl}(h:j3 p)(k1:q.kinds.length<=p.kinds.length)(k2:∀x∈q.kinds,x∈p.kinds)(g1:q.gates.length<=p.gates.length)(g2:∀x∈q.gates,x∈p.gates)(l1:q.lines.length<=p.lines.length)(l2:∀x∈q.lines,x∈p.lines)(d1:q.desks.length<=p.desks.length)(d2:∀x∈q.desks,x∈p.desks)(t1:q.times.length<=p.times.length)(t2:∀x∈q.times,x∈p.times)(h1:q.hours.length<=p.hours.length)(h2:∀x∈q.hours,x∈p.hours):j3 q:=
 ⟨b_ k1 h.kn,b_ g1 h.gn,b_ l1 h.ln,b_ d1 h.dn,b_ t1 h.tn,b_ h1 h.hn,λx hx=>h.kinds x (k2 x hx),λx hx=>h.gates x (g2 x hx),λx hx=>h.lines x (l2 x hx),λx hx=>h.desks x (d2 x hx),λx hx=>h.times x (t2 x hx),λx hx=>h.hours x (h2 x hx)⟩
theorem kE{κ:Type}[DecidableEq κ]:∀{kvs:List (κ×aj)}{k:κ}{v:aj},(kvs.map (·.1)).Nodup->(k,v)∈kvs->gE kvs k=some v
 | [],_,_,_,h=>by cases h
 |q::l,k,v,nd,h=>by
  rw[aH,fB]at nd;rcases aI.mp h with rfl|h
  ·exact fE rfl
  ·rw[cR (λe=>nd.1 (by rw[e];exact aG.mpr ⟨(k,v),h,rfl⟩))]
   exact kE nd.2 h
theorem vg{α:Type}{l pre post:List α}{x:α}(e:l=pre++x::post):pre.length<=l.length/\∀y∈pre,y∈l:=by
 subst e;exact⟨by rw[a7];omega,λy hy=>dX _ hy⟩
theorem k_{α β:Type}{f:α->β}{l pre post:List α}{x:α}(nd:(l.map f).Nodup)(e:l=pre++x::post):f x∉pre.map f:=by
 subst e;rw[aU,aH,cZ]at nd;intro z;exact nd.2.2 _ z _ aN rfl
theorem JX{p:Pl}(ok:j3 p)(g:sS p):rY Eo (CT p)/\(CT p).foldl qT Eo=p:=by
 have n0:∀{α:Type}(x:α),x∈([]:List α)->False:=λx h=>by cases h
 have s1:=seg (λq:Str×Option Int=>Ent.kind q.1 q.2) (λl=>⟨l,[],[],[],[],[]⟩) (λ_ _=>rfl) p.kinds (λpre x post e=>by
  obtain⟨e1,e2⟩:=vg e;have hx:x∈p.kinds:=by rw[e];simp
  exact⟨kJ ok e1 e2 (bx _) (λx h=>(n0 x h).elim) (bx _) (λx h=>(n0 x h).elim) (bx _) (λx h=>(n0 x h).elim) (bx _) (λx h=>(n0 x h).elim) (bx _) (λx h=>(n0 x h).elim),⟨(ok.kinds x hx).1,g.kk x hx⟩,k_ g.kn e⟩)
  (kJ ok (aD _) (λ_ h=>h) (bx _) (λx h=>(n0 x h).elim) (bx _) (λx h=>(n0 x h).elim) (bx _) (λx h=>(n0 x h).elim) (bx _) (λx h=>(n0 x h).elim) (bx _) (λx h=>(n0 x h).elim))
 have pn:=g.pn;rw[cZ]at pn;have s2:=seg Ent.gate (λl=>⟨p.kinds,l,[],[],[],[]⟩) (λ_ _=>rfl) p.gates (λpre x post e=>by
  obtain⟨e1,e2⟩:=vg e;have hx:x∈p.gates:=by rw[e];simp
  refine⟨kJ ok (aD _) (λ_ h=>h) e1 e2 (bx _) (λx h=>(n0 x h).elim) (bx _) (λx h=>(n0 x h).elim) (bx _) (λx h=>(n0 x h).elim) (bx _) (λx h=>(n0 x h).elim),ok.gates x hx,?_⟩
  rintro(h|h)
  ·have:=k_ (f:=id) (by simpa using pn.1) e
   exact this (by simpa using h)
  ·cases h)
  (kJ ok (aD _) (λ_ h=>h) (aD _) (λ_ h=>h) (bx _) (λx h=>(n0 x h).elim) (bx _) (λx h=>(n0 x h).elim) (bx _) (λx h=>(n0 x h).elim) (bx _) (λx h=>(n0 x h).elim))
 have s3:=seg (λq:Str×Int=>Ent.line q.1 q.2) (λl=>⟨p.kinds,p.gates,l,[],[],[]⟩) (λ_ _=>rfl) p.lines (λpre x post e=>by
  obtain⟨e1,e2⟩:=vg e;have hx:x∈p.lines:=by rw[e];simp
  refine⟨kJ ok (aD _) (λ_ h=>h) (aD _) (λ_ h=>h) e1 e2 (bx _) (λx h=>(n0 x h).elim) (bx _) (λx h=>(n0 x h).elim) (bx _) (λx h=>(n0 x h).elim),⟨(ok.lines x hx).1,g.ll x hx,(ok.lines x hx).2⟩,?_⟩
  rintro(h|h)
  ·exact pn.2.2 _ h _ (aG.mpr ⟨x,hx,rfl⟩) rfl
  ·exact k_ pn.2.1 e h)
  (kJ ok (aD _) (λ_ h=>h) (aD _) (λ_ h=>h) (aD _) (λ_ h=>h) (bx _) (λx h=>(n0 x h).elim) (bx _) (λx h=>(n0 x h).elim) (bx _) (λx h=>(n0 x h).elim))
 have s4:=seg Ent.desk (λl=>⟨p.kinds,p.gates,p.lines,l,[],[]⟩) (λ_ _=>rfl) p.desks (λpre x post e=>by
  obtain⟨e1,e2⟩:=vg e;have hx:x∈p.desks:=by rw[e];simp
  obtain⟨q1,q2,q3⟩:=g.dk x hx;refine⟨kJ ok (aD _) (λ_ h=>h) (aD _) (λ_ h=>h) (aD _) (λ_ h=>h) e1 e2 (bx _) (λx h=>(n0 x h).elim) (bx _) (λx h=>(n0 x h).elim),q1,k_ g.dn e,λy hy hz=>?_,λy hy=>bZ.mp (q2 y hy),?_⟩
  ·obtain⟨d,hd,hyd⟩:=hz
   have dj:=g.dj;rw[e,aU,List.flatten_append,cZ]at dj;exact dj.2.2 y (List.mem_flatten.mpr ⟨d.places,aG.mpr ⟨d,hd,rfl⟩,hyd⟩) y (List.mem_flatten.mpr ⟨x.places,by simp,hy⟩) rfl
  ·rcases q3 with h|⟨r,h,hr⟩
   ·exact .inl h
   ·refine .inr ⟨r,kE ?_ (aG.mpr ⟨(x.to,r),h,rfl⟩),hr⟩
    rw[jG];exact pn.2.1)
  (kJ ok (aD _) (λ_ h=>h) (aD _) (λ_ h=>h) (aD _) (λ_ h=>h) (aD _) (λ_ h=>h) (bx _) (λx h=>(n0 x h).elim) (bx _) (λx h=>(n0 x h).elim))
 have s5:=seg (λq:Str×Str×Int=>Ent.time q.1 q.2.1 q.2.2) (λl=>⟨p.kinds,p.gates,p.lines,p.desks,l,[]⟩) (λ_ _=>rfl) p.times (λpre x post e=>by
  obtain⟨e1,e2⟩:=vg e;have hx:x∈p.times:=by rw[e];simp
  obtain⟨q1,q2,q3⟩:=g.tm x hx;obtain⟨r1,r2,r3⟩:=ok.times x hx;exact⟨kJ ok (aD _) (λ_ h=>h) (aD _) (λ_ h=>h) (aD _) (λ_ h=>h) (aD _) (λ_ h=>h) e1 e2 (bx _) (λx h=>(n0 x h).elim),⟨r1,r2,q3,r3⟩,k_ (f:=λq:Str×Str×Int=>(q.1,q.2.1)) g.tn e,q1,q2⟩)
  (kJ ok (aD _) (λ_ h=>h) (aD _) (λ_ h=>h) (aD _) (λ_ h=>h) (aD _) (λ_ h=>h) (aD _) (λ_ h=>h) (bx _) (λx h=>(n0 x h).elim))
 have s6:=seg (λq:Str×Int×Int=>Ent.hour q.1 q.2.1 q.2.2) (λl=>⟨p.kinds,p.gates,p.lines,p.desks,p.times,l⟩) (λ_ _=>rfl) p.hours (λpre x post e=>by
  obtain⟨e1,e2⟩:=vg e;have hx:x∈p.hours:=by rw[e];simp
  obtain⟨q1,q2⟩:=g.hr x hx;obtain⟨r1,r2,r3⟩:=ok.hours x hx;exact⟨kJ ok (aD _) (λ_ h=>h) (aD _) (λ_ h=>h) (aD _) (λ_ h=>h) (aD _) (λ_ h=>h) (aD _) (λ_ h=>h) e1 e2,⟨r1,r2,r3,q2⟩,q1⟩)
  ok
 unfold CT;simp only[cV];refine⟨s1.1.app ?_,?_⟩
 ·rw[s1.2]
  refine s2.1.app ?_
  rw[s2.2];refine s3.1.app ?_
  rw[s3.2];refine s4.1.app ?_
  rw[s4.2];refine s5.1.app ?_
  rw[s5.2];exact s6.1
 ·rw[gv,show Eo=⟨[],[],[],[],[],[]⟩from rfl,s1.2,gv,s2.2,gv,s3.2,gv,s4.2,gv,s5.2,s6.2]
theorem Us{p:Pl}(ok:j3 p)(g:sS p):Uq (CT p):=by
 obtain⟨a,b,c⟩:=(JX ok g).1.es;exact⟨a,b,c⟩
theorem gB{x y:Str}{c:Nat}(h1:c∉x.cps.toList)(h2:c∉y.cps.toList):c∉(x++y).cps.toList:=by rw[add_list,bZ];exact λz=>z.elim h1 h2
theorem ur{c:Nat}{y:Str}(hy:c∉y.cps.toList):∀{l:List Str},(∀x∈l,c∉x.cps.toList)->c∉(cW y l).cps.toList
 | [],_=>by show c∉([]:List Nat);simp
 | [x],h=>h x aN
 |x::z::l,h=>by
  show c∉(x++y++cW y (z::l)).cps.toList;exact gB (gB (h x aN) hy) (ur hy λu hu=>h u (aT _ hu))
theorem Ep{p:Pl}(ok:j3 p):(∀r∈dD p,10∉r.cps.toList)/\(dD p).map wordsOf=(CT p).map Ef:=by
 have nn:∀{x:Str},dB x->10∉x.cps.toList:=λh=>(hC h).2.2
 have dn:∀{d:aj},Dq d->10∉(ei d).cps.toList:=λh=>(rq h).2.2
 have nm:∀{i:Int},dq i->10∉(dv i).cps.toList:=λh=>(mX h.1 h.2).2.2
 constructor
 ·intro r hr
  unfold dD lZ at hr;simp only[bZ,aG]at hr;rcases hr with((((⟨q,hq,rfl⟩|⟨q,hq,rfl⟩)|⟨q,hq,rfl⟩)|⟨q,hq,rfl⟩)|⟨q,hq,rfl⟩)|⟨q,hq,rfl⟩
  ·obtain⟨h1,h2⟩:=ok.kinds q hq
   exact gB (gB (gB (by decide +kernel) (nn h1)) (by decide +kernel)) (dn h2)
  ·exact gB (by decide +kernel) (nn (ok.gates q hq))
  ·obtain⟨h1,h2⟩:=ok.lines q hq
   exact gB (gB (gB (by decide +kernel) (nn h1)) (by decide +kernel)) (nm h2)
  ·obtain⟨h1,h2,h3,h4,h5⟩:=ok.desks q hq
   refine gB (gB (gB (gB (gB (gB (gB (by decide +kernel) (nn h1)) (by decide +kernel)) (dn (d:=.str q.to) h2)) (by decide +kernel)) (ur (by decide +kernel) λx hx=>(sN h3 x hx).2.2)) (by decide +kernel)) (ur (by decide +kernel) λx hx=>nn (h5 x hx))
  ·obtain⟨h1,h2,h3⟩:=ok.times q hq
   refine ur (by decide +kernel) λx hx=>?_
   simp only[aI,bG,or_false]at hx;rcases hx with rfl|rfl|rfl|rfl
   ·decide +kernel
   ·exact nn h1
   ·exact nn h2
   ·exact nm h3
  ·obtain⟨h1,h2,h3⟩:=ok.hours q hq
   refine ur (by decide +kernel) λx hx=>?_
   simp only[aI,bG,or_false]at hx;rcases hx with rfl|rfl|rfl|rfl
   ·decide +kernel
   ·exact nn h1
   ·exact nm h2
   ·exact nm h3
 ·unfold dD lZ CT
  simp only[aU,aS]
  congr 1
  congr 1
  congr 1
  congr 1
  congr 1
  ·exact gK λq hq=>D9 (ok.kinds q hq)
  ·exact gK λq hq=>D_ (ok.gates q hq)
  ·exact gK λq hq=>Ea (ok.lines q hq)
  ·exact gK λq hq=>Eb (ok.desks q hq)
  ·exact gK λq hq=>Ec (ok.times q hq)
  ·exact gK λq hq=>Ed (ok.hours q hq)
theorem MA(e:Ent):(Ef e).isEmpty=false:=by cases e<;>rfl
theorem GP(l:List Str):∀k,((l.zipIdx k).filterMap λp=>if(wordsOf p.1).isEmpty then none else some (p.2,wordsOf p.1)).map (·.2)=(l.map wordsOf).filter λws=>!ws.isEmpty:=by
 induction l with
 |nil=>intro k;rfl
 |cons x l ih=>
  intro k;rw[wg,aH,lM];cases hx:(wordsOf x).isEmpty with
  |true=>rw[fX (by simp only[hx];rfl),ih];rfl
  |false=>rw[c9 (b:=(k,wordsOf x)) (by simp only[hx];rfl),aH,ih];rfl
theorem CV{p:Pl}(ok:j3 p)(hk:p.kinds≠[]):(rowsOf (lu p)).map (·.2)=(CT p).map Ef:=by
 obtain⟨h1,h2⟩:=Ep ok;unfold lu;rw[GC (λz=>?_) h1,GP,h2,List.filter_eq_self.mpr]
 ·intro ws JA
  obtain⟨e,_,rfl⟩:=aG.mp JA;rw[MA];rfl
 ·unfold dD lZ at z
  cases hkk:p.kinds with
  |nil=>exact hk hkk
  |cons q l=>rw[hkk]at z;simp at z
theorem Es(m:Int)(k:Nat):(rV m k).cps.toList=(stemOf m).cps.toList.take (m/624%(1+m/78%8)).toNat++(97+((m/3+5*k)%26).toNat)::(stemOf m).cps.toList.drop (m/624%(1+m/78%8)+1).toNat:=by
 have hs:=u6 m;have hl:(stemOf m).cps.toList.length=(1+m/78%8).toNat:=by rw[hs,dA]
 have b1:0<=m/78%8:=aZ _ (by decide)
 have b2:m/78%8<8:=bw _ (by decide)
 have p1:0<=m/624%(1+m/78%8):=aZ _ (by omega)
 have p2:m/624%(1+m/78%8)<1+m/78%8:=bw _ (by omega)
 have e1:lR (stemOf m) none (some (m/624%(1+m/78%8)))=_:=BF (x:=stemOf m) ⟨p1,by rw[hl];omega⟩
 have e2:lR (stemOf m) (some (m/624%(1+m/78%8)+1)) none=_:=zR (x:=stemOf m) ⟨by omega,by rw[hl];omega⟩
 unfold rV;rw[e1,e2]
 show((_++_++_:Array Nat)).toList=_
 simp only[EG,kQ,Int.sub_zero,Cp,one];rw[cM (l:=List.drop _ _) (by rw[cG];omega),cV]
 rfl
theorem qU{β:Type}{f:Nat->β}:∀{n:Nat},(∀i j,i<n->j<n->f i=f j->i=j)->((aW n).map f).Nodup:=by
 intro n h;rw[List.Nodup,List.pairwise_map,h7];intro i j hi hj yZ e;rw[cp]at hi hj;rw[List.getElem_range,List.getElem_range]at e;exact absurd (h i j hi hj e) (by omega)
theorem jS(cell:Int){many:Nat}(hm:many<=26):(namesOf cell many).Nodup:=by
 unfold namesOf
 split
 ·refine qU λi j hi hj e=>?_
  have e1:∀k,(nameA (cn cell 3) many k).cps.toList=a_ (many-k) (97+(cn cell 3/3%26).toNat):=λk=>AJ _ _
  have:=congrArg (λx:Str=>x.cps.toList.length) e
  simp only[e1,dA]at this;omega
 ·refine qU λi j hi hj e=>?_
  have:=congrArg (λx:Str=>x.cps.toList) e
  simp only[Es]at this;have:=List.append_cancel_left this;have:=(jJ this).1
  generalize cn cell 3/3=a at *
  omega
theorem m9(l:List Str):(aW l.length).map (λk=>l.getD k "")=l:=by
 refine il λi=>?_
 rw[aJ];by_cases h:i<l.length
 ·rw[gJ h,au h]
  show some (l.getD i "")=_;rw[ax,au h];rfl
 ·rw[eu (by simpa using h),eu (by simpa using h)];rfl
theorem vJ{α:Type}:∀(L:List (List α))(i:Nat)(j:Nat)(y:α),i<L.length->(L.set i (nq (L.getD i []) j y)).flatten.Perm (y::L.flatten)
 | [],i,_,_,h=>by simp at h
 |r::L,0,j,y,_=>by
  show(nq r j y++L.flatten).Perm (y::(r++L.flatten))
  have:(nq r j y).Perm (y::r):=by
   unfold nq;exact List.perm_middle.trans (by rw[fL])
  exact this.append_right _
 |r::L,i+1,j,y,h=>by
  have ih:=vJ L i j y (by simpa using h)
  show(r++(L.set i (nq (L.getD i []) j y)).flatten).Perm (y::(r++L.flatten))
  exact(ih.append_left r).trans List.perm_middle
theorem yc(cell:Int){nn:Nat}(h1:1<=nn)(places:List Str):∀k,k<=places.length->(dM cell nn places k).flatten.Perm (places.take k)
 |0,_=>by
  show(a_ nn ([]:List Str)).flatten.Perm []
  rw[List.flatten_replicate_nil]
 |k+1,hk=>by
  have ih:=yc cell h1 places k (by omega)
  have hl:fy cell nn k<(dM cell nn places k).length:=by rw[gO];exact zx cell h1 k
  have e:places.take (k+1)=places.take k ++ [places.getD k ""]:=by
   rw[dm,au (by omega),ax,au (by omega)];rfl
  rw[e];refine(vJ _ _ _ _ hl).trans ?_
  refine(ih.cons _).trans ?_
  exact(List.perm_append_singleton _ _).symm
theorem uv(cell:Int){nn:Nat}(h1:1<=nn)(places:List Str):∀k,∀j,j<k->j<nn->(dM cell nn places k).getD j []≠[]
 |0,_,h,_=>by omega
 |k+1,j,hj,hn=>by
  have hl:=gO cell nn places k;have ex:∀(L:List (List Str))(i:Nat)(r:List Str),L.length=nn->(L.set i r).getD j []=if i=j then r else L.getD j []:=λL i r e=>by
   rw[ax,List.getElem?_set]
   by_cases yZ:i=j
   ·subst yZ;rw[if_pos rfl,if_pos (by omega),if_pos rfl];rfl
   ·rw[if_neg yZ,if_neg yZ,ax]
  show((dM cell nn places k).set (fy cell nn k) (nq _ _ _)).getD j []≠[]
  rw[ex _ _ _ hl]
  split
  ·intro z
   have:=congrArg fD z;rw[vD]at this;simp at this
  ·rename_i Ao
   by_cases DN:j<k
   ·exact uv cell h1 places k j DN hn
   ·exfalso
    apply Ao;have:j=k:=by omega
    subst this;unfold fy;rw[if_pos hn]
theorem zD(m:Int){many:Nat}:nU (iG m many) many:=by
 unfold iG
 split
 ·rename_i h;exact h.2
 ·split
  ·exact⟨by omega,eY _ 1 (by decide) (by decide) (by decide),m8 _ (by decide) (by decide)⟩
  ·split
   ·exact⟨by omega,eY _ 1 (by decide) (by decide) (by decide)⟩
   ·split
    ·split
     ·trivial
     ·exact m8 _ (by decide) (by decide)
    ·split
     ·refine⟨by simp,λz hz=>?_⟩
      obtain⟨k,_,rfl⟩:=aG.mp hz;unfold AK;omega
     ·trivial
theorem CW(cell:Int)(places lines:List Str):(bN cell places lines).map (·.name)=namesOf (cn cell 31) (j_ cell places.length):=by
 unfold bN;rw[aS];have:=m9 (namesOf (cn cell 31) (j_ cell places.length));rw[fh]at this;exact this
theorem A5(cell:Int)(places lines:List Str):(bN cell places lines).map (·.places)=dM cell (j_ cell places.length) places places.length:=by
 unfold bN;rw[aS];have hl:=gO cell (j_ cell places.length) places places.length;refine il λi=>?_
 rw[aJ];by_cases h:i<j_ cell places.length
 ·rw[gJ h]
  show some ((dM cell (j_ cell places.length) places places.length).getD i [])=_;rw[ax,au (by omega)];rfl
 ·rw[eu (by simpa using h),eu (by omega)];rfl
theorem yd(c:Int)(g8:List Dk)(kinds:List (Str×Option Int))(hk:(kinds.map (·.1)).Nodup)(hd:(g8.map (·.name)).Nodup):∀i,i<=g8.length->((f7 c g8 kinds i).map λq=>(q.1,q.2.1)).Nodup/\∀q∈f7 c g8 kinds i,q.1∈(g8.take i).map (·.name)/\q.2.1∈kinds.map (·.1)/\1<=q.2.2
 |0,_=>⟨by simp[f7],λq hq=>by simp[f7]at hq⟩
 |i+1,hi=>by
  obtain⟨a,b⟩:=yd c g8 kinds hk hd i (by omega)
  have hg:g8[i]?=some g8[i]:=au (by omega)
  rw[o9 hg,dm,hg];have row:∀j,((fF (cn c (110+i)) g8[i].name kinds j).map λq=>(q.1,q.2.1)).Nodup/\∀q∈fF (cn c (110+i)) g8[i].name kinds j,q.1=g8[i].name/\q.2.1∈(kinds.take j).map (·.1)/\1<=q.2.2:=by
   intro j
   induction j with
   |zero=>exact⟨by simp[fF],λq hq=>by simp[fF]at hq⟩
   |succ j ih=>
    by_cases hj:j<kinds.length
    ·have hkj:kinds[j]?=some kinds[j]:=au hj
     rw[rW hkj,dm,hkj];unfold sI
     split
     ·rw[aU]
      refine⟨?_,λq hq=>?_⟩
      ·rw[cZ]
       refine⟨ih.1,by simp,λx hx y hy z=>?_⟩
       obtain⟨q,hq,rfl⟩:=aG.mp hx;have h2:=(ih.2 q hq).2.1;have hy:y=(g8[i].name,kinds[j].1):=by simpa using hy
       rw[hy]at z;have z2:q.2.1=kinds[j].1:=congrArg (λw:Str×Str=>w.2) z
       rw[z2]at h2;have:kinds=kinds.take j++kinds[j]::kinds.drop (j+1):=by rw[Dl,fL]
       exact k_ hk this h2
      ·rcases bZ.mp hq with hq|hq
       ·obtain⟨h1,h2,h3⟩:=ih.2 q hq
        exact⟨h1,by rw[aU];exact dX _ h2,h3⟩
       ·have hq:q=(g8[i].name,kinds[j].1,1+cn c (110+i)/((j:Int)*j+2)%6):=by simpa using hq
        rw[hq];refine⟨rfl,by rw[aU];exact b9 _ (aG.mpr ⟨kinds[j],bh.mpr rfl,rfl⟩),?_⟩
        have:=aZ (cn c (110+i)/((j:Int)*j+2)) (b:=6) (by decide)
        show 1<=1+cn c (110+i)/((j:Int)*j+2)%6;omega
     ·refine⟨by simpa using ih.1,λq hq=>?_⟩
      obtain⟨h1,h2,h3⟩:=ih.2 q (by simpa using hq)
      exact⟨h1,by rw[aU];exact dX _ h2,h3⟩
    ·have e1:fF (cn c (110+i)) g8[i].name kinds (j+1)=fF (cn c (110+i)) g8[i].name kinds j:=by
      unfold fF;rw[cM (by simp;omega),cM (by simp;omega)]
     rw[e1,cM (by omega)]
     rw[cM (by omega)]at ih
     exact ih
  obtain⟨r1,r2⟩:=row kinds.length;rw[iM]at r2;have My:g8[i].name∉(g8.take i).map (·.name):=by
   have:g8=g8.take i++g8[i]::g8.drop (i+1):=by rw[Dl,fL]
   exact k_ hd this
  refine⟨?_,λq hq=>?_⟩
  ·rw[aU,cZ]
   refine⟨a,r1,λx hx y hy z=>?_⟩
   obtain⟨q,hq,rfl⟩:=aG.mp hx;obtain⟨q2,DS,rfl⟩:=aG.mp hy;have z1:q.1=q2.1:=congrArg (λw:Str×Str=>w.1) z
   have:=(b q hq).1;rw[z1,(r2 q2 DS).1]at this;exact My this
  ·rcases bZ.mp hq with hq|hq
   ·obtain⟨h1,h2,h3⟩:=b q hq
    exact⟨by rw[aU];exact dX _ h1,h2,h3⟩
   ·obtain⟨h1,h2,h3⟩:=r2 q hq
    exact⟨by rw[h1,aU];exact b9 _ (aG.mpr ⟨g8[i],bh.mpr rfl,rfl⟩),h2,h3⟩
theorem sU{α:Type}:∀{L:List (List α)},L.flatten.Nodup->∀r∈L,r.Nodup
 | [],_,r,h=>by cases h
 |x::L,nd,r,h=>by
  rw[ft,cZ]at nd;rcases aI.mp h with rfl|h
  ·exact nd.1
  ·exact sU nd.2.1 r h
theorem GQ(ns:List Int):sS (eX ns):=by
 obtain⟨k1,k4⟩:=lI (gy ns);obtain⟨g1,g3⟩:=iN (bK ns);obtain⟨p1,p6⟩:=jF (bK ns);have IK:(orderOf (bK ns)).length=(placesOf (bK ns)).length:=by
  unfold orderOf;rw[a7,cG,cj];have:=oB (bK ns) (n:=(placesOf (bK ns)).length) (by omega)
  omega
 have qy:=nS (bK ns);have XD:(placesOf (bK ns)).Nodup:=jS _ (by omega)
 have hpm:(orderOf (bK ns)).Perm (placesOf (bK ns)):=by
  unfold orderOf;exact qZ.trans (by rw[fL])
 have Qr:(cy (gy ns)).map (·.1)=namesOf (gy ns) (iW (gy ns)):=by
  unfold cy;rw[aS];have:=m9 (namesOf (gy ns) (iW (gy ns)));rw[fh]at this;exact this
 have knd:((cy (gy ns)).map (·.1)).Nodup:=by rw[Qr];exact jS _ (by omega)
 obtain⟨m1,m4,mp⟩:=lG (eZ ns) (n:=(orderOf (bK ns)).length) (by omega)
 have dnm:=CW (eZ ns) (orderOf (bK ns)) (linesOf (bK ns));have dpl:=A5 (eZ ns) (orderOf (bK ns)) (linesOf (bK ns));have dnd:((bN (eZ ns) (orderOf (bK ns)) (linesOf (bK ns))).map (·.name)).Nodup:=by rw[dnm];exact jS _ (by omega)
 have tp:=yc (eZ ns) m1 (orderOf (bK ns)) _ (aD _);rw[iM]at tp;have dj:((bN (eZ ns) (orderOf (bK ns)) (linesOf (bK ns))).map (·.places)).flatten.Nodup:=by
  rw[dpl];exact(tp.trans hpm).nodup_iff.mpr XD
 have Ct:∀d∈bN (eZ ns) (orderOf (bK ns)) (linesOf (bK ns)),_:=λd hd=>AX (by omega) (by omega) hd
 have Ut:∀d∈bN (eZ ns) (orderOf (bK ns)) (linesOf (bK ns)),d.places≠[]/\d.places.Nodup/\nU d.rule d.places.length:=λd hd=>by
  refine⟨?_,?_,?_⟩
  ·obtain⟨k,hk,rfl⟩:=aG.mp hd
   have hk:=cF.mp hk;exact uv (eZ ns) m1 (orderOf (bK ns)) _ k (by omega) hk
  ·exact sU dj _ (aG.mpr ⟨d,hd,rfl⟩)
  ·obtain⟨k,hk,rfl⟩:=aG.mp hd
   exact zD _
 have Gw:∀x∈linesOf (bK ns),dB x:=λx hx=>gq (eE (show x∈(placesOf (bK ns)).drop _ from hx))
 have tk:=yd (eZ ns) (bN (eZ ns) (orderOf (bK ns)) (linesOf (bK ns))) (cy (gy ns)) knd dnd _ (aD _)
 generalize hD:bN (eZ ns) (orderOf (bK ns)) (linesOf (bK ns))=g8 at *
 have e0:eX ns=⟨cy (gy ns),kG (bK ns),(aW (linesOf (bK ns)).length).map (roomAt (bK ns) g8 (linesOf (bK ns))),g8,f7 (eZ ns) g8 (cy (gy ns)) g8.length,iA (eZ ns) g8 g8.length⟩:=by rw[<-hD];rfl
 have T6:((aW (linesOf (bK ns)).length).map (roomAt (bK ns) g8 (linesOf (bK ns)))).map (·.1)=linesOf (bK ns):=by
  rw[aS];exact m9 _
 have gl:kG (bK ns)++linesOf (bK ns)=placesOf (bK ns):=fL _ _;rw[e0];rw[iM]at tk;refine⟨knd,by rw[T6,gl];exact XD,dnd,λd hd=>?_,dj,tk.1,tk.2,λq hq=>?_,λq hq i hi=>?_,λq hq=>?_⟩
 ·obtain⟨a1,a2,a3,a4,a5,a6⟩:=Ct d hd
  obtain⟨f1,f2,f3⟩:=Ut d hd;have hpx:∀x∈d.places,x∈placesOf (bK ns):=λx hx=>hpm.mem_iff.mp (a5 x hx)
  refine⟨⟨a1,?_,f3,?_,by omega,f2,λx hx=>gq (hpx x hx)⟩,λx hx=>by rw[T6,gl];exact hpx x hx,?_⟩
  ·rcases bZ.mp a2 with h|h
   ·exact .inr (Gw _ h)
   ·exact .inl (bh.mp h)
  ·cases hp:d.places with
   |nil=>exact absurd hp f1
   |cons _ _=>simp
  ·rcases bZ.mp a2 with h|h
   ·obtain⟨k,hk,he⟩:=rQ.mp h
    have hgd:(linesOf (bK ns)).getD k ""=d.to:=by rw[ax,au hk,he];rfl
    refine .inr ⟨(roomAt (bK ns) g8 (linesOf (bK ns)) k).2,aG.mpr ⟨k,cF.mpr hk,?_⟩,?_⟩
    ·show roomAt (bK ns) g8 (linesOf (bK ns)) k=(d.to,_)
     rw[<-hgd];rfl
    ·show _<=maxOf (gA g8 ((linesOf (bK ns)).getD k ""))+cn (bK ns) (20+k)%3
     have:=(mW (gA g8 ((linesOf (bK ns)).getD k ""))).2 (cq d.rule d.places.length) (aT _ (iX.mpr ⟨d,hd,by rw[hgd,decide_eq_true rfl];rfl⟩))
     have h2:=aZ (cn (bK ns) (20+k)) (b:=3) (by decide)
     omega
   ·exact .inl (bh.mp h)
 ·obtain⟨⟨d,i⟩,hd,hq⟩:=wm.mp hq
  have Q7:d∈g8:=jH (eC hd);unfold jQ at hq
  split at hq
  ·rcases aI.mp hq with rfl|hq
   ·exact⟨aG.mpr ⟨d,Q7,rfl⟩,by show _%9<9+_%20;omega⟩
   ·rw[bh.mp hq]
    exact⟨aG.mpr ⟨d,Q7,rfl⟩,by show 25+_%20<50+_%40;omega⟩
  ·cases hq
 ·obtain⟨k,hk,rfl⟩:=aG.mp hq
  have hi:sH (cn (gy ns) (10+k))=some i:=hi;unfold sH at hi
  split at hi
  ·cases hi
   exact⟨by omega,eY _ 1 (by decide) (by decide) (by decide)⟩
  ·cases hi
 ·obtain⟨k,hk,rfl⟩:=aG.mp hq
  show 1<=maxOf _+_%3;have:=(mW (gA g8 ((linesOf (bK ns)).getD k ""))).2 1 aN;have h2:=aZ (cn (bK ns) (20+k)) (b:=3) (by decide)
  omega
theorem Et(ns:List Int):(eX ns).kinds≠[]/\(eX ns).gates≠[]:=by
 obtain⟨k1,k4⟩:=lI (gy ns);obtain⟨g1,g3⟩:=iN (bK ns);obtain⟨p1,p6⟩:=jF (bK ns);refine⟨λz=>?_,λz=>?_⟩
 ·have:=congrArg fD z
  have:(cy (gy ns)).length=0:=this;simp only[cy,ao,cp]at this;omega
 ·have:=congrArg fD z
  have:(kG (bK ns)).length=0:=this;unfold kG at this;rw[cj]at this;omega
end Mg
namespace Mg
open L2 PySem PyProof.Rows
seal L2.VE L2.VS L2.uT L2.VT L2.VO L2.Pu
theorem hX(x y:Str):(x++y).length=x.length+y.length:=by simp only[cw]
theorem iB{x y:Str}(h1:nA x)(h2:nA y):nA (x++y):=(mh _).mpr λc hc=>by
 rw[add_list]at hc;rcases bZ.mp hc with hc|hc
 ·exact(mh _).mp h1 c hc
 ·exact(mh _).mp h2 c hc
theorem m_{y:Str}(hy:nA y):∀{l:List Str},(∀x∈l,nA x)->nA (cW y l)
 | [],_=>(mh _).mpr λc hc=>by cases hc
 | [x],h=>h x aN
 |x::z::l,h=>iB (iB (h x aN) hy) (m_ hy λu hu=>h u (aT _ hu))
theorem hZ{x:Str}(h:cJ (.str x)=true:=by decide +kernel):nA x:=h
theorem zE{p:Pl}(ok:j3 p):∀r∈dD p,nA r/\r.length<=1400:=by
 intro r hr;have nn:∀{x:Str},dB x->nA x/\x.length<=8:=λh=>⟨h.ok.2,h.short⟩
 have dn:∀{d:aj},Dq d->nA (ei d)/\(ei d).length<=8:=λh=>⟨(uj h).2,j0 h⟩
 have nm:∀{i:Int},dq i->nA (dv i)/\(dv i).length<=6:=λh=>⟨(nT h.1 h.2).2,hG h⟩
 unfold dD lZ at hr;simp only[bZ,aG]at hr;rcases hr with((((⟨q,hq,rfl⟩|⟨q,hq,rfl⟩)|⟨q,hq,rfl⟩)|⟨q,hq,rfl⟩)|⟨q,hq,rfl⟩)|⟨q,hq,rfl⟩
 ·obtain⟨h1,h2⟩:=ok.kinds q hq
  refine⟨iB (iB (iB hZ (nn h1).1) hZ) (dn h2).1,?_⟩
  have a:=(nn h1).2;have b:=(dn h2).2;unfold pw;rw[hX,hX,hX,show("kind ":Str).length=5 from by decide,show(" ":Str).length=1 from by decide]
  omega
 ·have h1:=ok.gates q hq
  refine⟨iB hZ (nn h1).1,?_⟩
  have a:=(nn h1).2;unfold mq;rw[hX,show("gate ":Str).length=5 from by decide]
  omega
 ·obtain⟨h1,h2⟩:=ok.lines q hq
  refine⟨iB (iB (iB hZ (nn h1).1) hZ) (nm h2).1,?_⟩
  have a:=(nn h1).2;have b:=(nm h2).2;unfold mr;rw[hX,hX,hX,show("line ":Str).length=5 from by decide,show(" ":Str).length=1 from by decide]
  omega
 ·obtain⟨h1,h2,h3,h4,h5⟩:=ok.desks q hq
  refine⟨iB (iB (iB (iB (iB (iB (iB hZ (nn h1).1) hZ) (dn (d:=.str q.to) h2).1) hZ) (m_ hZ λx hx=>(CJ h3 x hx).2)) hZ) (m_ hZ λx hx=>(nn (h5 x hx)).1),?_⟩
  have a:=(nn h1).2;have b:=(dn (d:=.str q.to) h2).2;have c:=mZ h3;have d:=gQ (y:=(" ":Str)) (by decide) (l:=q.places) (b:=8) λx hx=>(nn (h5 x hx)).2
  unfold lq mY;rw[hX,hX,hX,hX,hX,hX,hX,show("desk ":Str).length=5 from by decide,show(" to ":Str).length=4 from by decide,show(" by ":Str).length=4 from by decide,show(" from ":Str).length=6 from by decide]
  omega
 ·obtain⟨h1,h2,h3⟩:=ok.times q hq
  have Uu:∀x∈[("time":Str),q.1,q.2.1,dv q.2.2],nA x/\x.length<=8:=λx hx=>by
   simp only[aI,bG,or_false]at hx;rcases hx with rfl|rfl|rfl|rfl
   ·exact⟨hZ,by decide⟩
   ·exact nn h1
   ·exact nn h2
   ·exact⟨(nm h3).1,by have:=(nm h3).2;omega⟩
  refine⟨m_ hZ λx hx=>(Uu x hx).1,?_⟩
  have:=gQ (y:=(" ":Str)) (by decide) λx hx=>(Uu x hx).2
  unfold mw;simp only[bD,cB]at this;omega
 ·obtain⟨h1,h2,h3⟩:=ok.hours q hq
  have Uu:∀x∈[("open":Str),q.1,dv q.2.1,dv q.2.2],nA x/\x.length<=8:=λx hx=>by
   simp only[aI,bG,or_false]at hx;rcases hx with rfl|rfl|rfl|rfl
   ·exact⟨hZ,by decide⟩
   ·exact nn h1
   ·exact⟨(nm h2).1,by have:=(nm h2).2;omega⟩
   ·exact⟨(nm h3).1,by have:=(nm h3).2;omega⟩
  refine⟨m_ hZ λx hx=>(Uu x hx).1,?_⟩
  have:=gQ (y:=(" ":Str)) (by decide) λx hx=>(Uu x hx).2
  unfold nD;simp only[bD,cB]at this;omega
theorem GR(ns:List Int):(dD (eX ns)).length<=44:=by
 obtain⟨k1,k4⟩:=lI (gy ns);obtain⟨p1,p6⟩:=jF (bK ns);have IK:(orderOf (bK ns)).length=(placesOf (bK ns)).length:=by
  unfold orderOf;rw[a7,cG,cj];have:=oB (bK ns) (n:=(placesOf (bK ns)).length) (by have:=(iN (bK ns)).1;omega)
  omega
 have g1:=(iN (bK ns)).1;have Z_:(cy (gy ns)).length=iW (gy ns):=by simp[cy]
 have Hq:(bN (eZ ns) (orderOf (bK ns)) (linesOf (bK ns))).length<=4:=by rw[pq];exact(lG (eZ ns) (by omega)).2.1
 have htl:=o_ (eZ ns) (bN (eZ ns) (orderOf (bK ns)) (linesOf (bK ns))) (cy (gy ns)) (by omega) _ (aD _)
 have hhl:=pj (eZ ns) (bN (eZ ns) (orderOf (bK ns)) (linesOf (bK ns))) _ (aD _)
 generalize hD:bN (eZ ns) (orderOf (bK ns)) (linesOf (bK ns))=g8 at *
 have e0:eX ns=⟨cy (gy ns),kG (bK ns),(aW (linesOf (bK ns)).length).map (roomAt (bK ns) g8 (linesOf (bK ns))),g8,f7 (eZ ns) g8 (cy (gy ns)) g8.length,iA (eZ ns) g8 g8.length⟩:=by rw[<-hD];rfl
 have hg:(kG (bK ns)).length+(linesOf (bK ns)).length<=6:=by unfold kG linesOf;rw[cj,cG];omega
 rw[e0];unfold dD lZ;simp only[a7,ao,cp];omega
theorem GU(ns:List Int):uc (lu (eX ns)):=by
 have hr:=zE (AY ns);refine⟨?_,m_ hZ λx hx=>(hr x hx).1⟩
 have:=gQ (y:=("\n":Str)) (by decide) λx hx=>(hr x hx).2
 have h2:=GR ns;unfold lu;have:(dD (eX ns)).length*(1400+1)<=44*1401:=g7 h2 (aD _);omega
theorem zF{x:Str}(h:(decide (1<=x.cps.toList.length)&&decide (x.cps.toList.length<=8)&&x.cps.toList.all λc=>decide (97<=c)&&decide (c<123))=true):dB x:=by
 obtain⟨h1,h2⟩:=eG.mp h;obtain⟨h3,h4⟩:=eG.mp h1;refine⟨of_decide_eq_true h3,of_decide_eq_true h4,λc hc=>?_⟩
 obtain⟨h5,h6⟩:=eG.mp (d_.mp h2 c hc);exact⟨of_decide_eq_true h5,of_decide_eq_true h6⟩
theorem FD:dB "x":=zF (by decide +kernel)
theorem MB:dB "y":=zF (by decide +kernel)
def uH(cell:Int):Int:=cn cell 5
def fu(cell:Int):Nat:=(1+uH cell%4).toNat
def la(cell:Int):List Str:=namesOf (cn cell 6) (2*fu cell)
def dW(cell:Int):List Str:=(la cell).take (fu cell)
def dw(cell:Int):List Str:=(la cell).drop (fu cell)
def c6(cell:Int):List Str:=namesOf (cn cell 7) (fu cell)
def gR(cell:Int)(k:Nat):List Str:=if uH cell/4/((k:Int)+1)%2=1 then [(dw cell).getD k "",(dW cell).getD k ""]else [(dW cell).getD k "",(dw cell).getD k ""]
def pG:List Int:=[0,0,1,2,2,3,4]
def pH(cell:Int)(k:Nat):Int:=cn cell (8+(k:Int))/6*6+pickOf pG 0 (cn cell (8+(k:Int)))
def j7(cell:Int)(k:Nat):Rl:=iG (pH cell k) 2
def ic(cell:Int)(k:Nat):Dk:=⟨(c6 cell).getD k "",(dw cell).getD ((k+1)%fu cell) "",j7 cell k,gR cell k⟩
def gS(cell:Int):List Dk:=(aW (fu cell)).map (ic cell)
def sV(cell:Int)(k:Nat):Str×Int:=((dw cell).getD k "",cq (j7 cell ((k+(fu cell-1))%fu cell)) 2+uH cell/64/((k:Int)+1)%2)
def sW(m:Int):Option Int:=if m/8%3=2 then some (3+m/128%40)else none
def rE(cell:Int):List (Str×Option Int):=[("x",none),("y",sW (uH cell))]
def A6(cell:Int):List (Str×Str×Int):=(aW (fu cell)).map λk=>((c6 cell).getD k "","x",1+cn cell (20+(k:Int))%4)
def j8(cell:Int):Nat:=(uH cell/16%(fu cell:Int)).toNat
def gu(cell:Int):Pl:=⟨rE cell,dW cell,(aW (fu cell)).map (sV cell),(gS cell).drop (j8 cell)++(gS cell).take (j8 cell),A6 cell,[]⟩
theorem oI(cell:Int):1<=fu cell/\fu cell<=4/\(1+uH cell%4:Int)=(fu cell:Nat):=by unfold fu;omega
theorem nV(cell:Int):(la cell).length=2*fu cell/\(dW cell).length=fu cell/\(dw cell).length=fu cell/\(c6 cell).length=fu cell:=by
 have h:(la cell).length=2*fu cell:=fh _ _;refine⟨h,?_,?_,fh _ _⟩
 ·unfold dW;rw[cj];omega
 ·unfold dw;rw[cG];omega
theorem A7{cell:Int}{x:Str}(h:x∈dW cell):dB x:=gq (eC h)
theorem uw{cell:Int}{x:Str}(h:x∈dw cell):dB x:=gq (eE h)
theorem vh{cell:Int}{k:Nat}(h:k<fu cell):(dW cell).getD k ""∈dW cell:=getD_mem (by rw[(nV cell).2.1];exact h)
theorem mE{cell:Int}{k:Nat}(h:k<fu cell):(dw cell).getD k ""∈dw cell:=getD_mem (by rw[(nV cell).2.2.1];exact h)
theorem rF{cell:Int}{k:Nat}(h:k<fu cell):(c6 cell).getD k ""∈c6 cell:=getD_mem (by rw[(nV cell).2.2.2];exact h)
theorem CY(cell:Int)(k:Nat):0<=pH cell k/\pH cell k<1999999973/\pH cell k%6≠5:=by
 have h1:=o8 cell (8+(k:Int));have h2:=Fs cell (8+(k:Int));have h3:0<=pickOf pG 0 (cn cell (8+(k:Int)))/\pickOf pG 0 (cn cell (8+(k:Int)))<=4:=by
  have:=(Fu (l:=pG) (d:=0) (F:=fj) (by decide) (cn cell (8+(k:Int)))).2
  generalize pickOf pG 0 (cn cell (8+(k:Int)))=z at *
  simp only[pG,aI,bG,or_false]at this;omega
 unfold pH;omega
theorem ux(cell:Int)(k:Nat):1<=cq (j7 cell k) 2/\cq (j7 cell k) 2<=4:=by
 unfold j7 iG;obtain⟨_,_,h5⟩:=CY cell k
 generalize pH cell k=m at *
 rw[if_neg λz=>h5 z.1]
 split
 ·show 1<=1+m/6%4/\1+m/6%4<=4;omega
 split
 ·show 1<=1+m/6%4/\1+m/6%4<=4;omega
 split
 ·show(1:Int)<=1/\(1:Int)<=4;omega
 split
 ·show(1:Int)<=1/\(1:Int)<=4;omega
 ·show(1:Int)<=1/\(1:Int)<=4;omega
theorem zG(cell:Int)(k:Nat):(gR cell k).length=2/\(gR cell k).Perm [(dW cell).getD k "",(dw cell).getD k ""]:=by
 unfold gR
 split
 ·exact⟨rfl,List.Perm.swap _ _ _⟩
 ·exact⟨rfl,List.Perm.refl _⟩
theorem ye{cell:Int}{k:Nat}{x:Str}(h:x∈gR cell k):x=(dW cell).getD k ""\/x=(dw cell).getD k "":=by
 have:=(zG cell k).2.mem_iff.mp h;simpa using this
theorem Qs(cell:Int):dW cell++dw cell=la cell:=fL _ _
theorem JY(cell:Int):(dW cell++dw cell).Nodup:=by
 rw[Qs];exact jS _ (by have:=(oI cell).2.1;omega)
theorem uy{α:Type}(l:List α)(n:Nat):(l.drop n++l.take n).Perm l:=by
 have:=qZ (l₁:=l.drop n) (l₂:=l.take n);rw[fL]at this;exact this
theorem A8{cell:Int}{d:Dk}(h:d∈(gu cell).desks):∃k,k<fu cell/\d=ic cell k:=by
 have:=(uy (gS cell) (j8 cell)).mem_iff.mp h;obtain⟨k,hk,rfl⟩:=aG.mp this;exact⟨k,cF.mp hk,rfl⟩
theorem CZ(cell:Int):(gu cell).lines.map (·.1)=dw cell:=by
 show((aW (fu cell)).map (sV cell)).map (·.1)=_
 rw[aS];have e:=m9 (dw cell);rw[(nV cell).2.2.1]at e;exact e
theorem JZ(cell:Int):j3 (gu cell):=by
 obtain⟨n1,n4,_⟩:=oI cell;obtain⟨l0,l1,l2,l3⟩:=nV cell;have Hq:(gu cell).desks.length=fu cell:=by
  show((gS cell).drop (j8 cell)++(gS cell).take (j8 cell)).length=_
  rw[(uy (gS cell) (j8 cell)).length_eq]
  show((aW (fu cell)).map (ic cell)).length=_
  rw[ao,cp]
 refine⟨by show 2<=60;decide,by show(dW cell).length<=60;omega,by show((aW (fu cell)).map (sV cell)).length<=60;rw[ao,cp];omega,by omega,by show((aW (fu cell)).map _).length<=600;rw[ao,cp];omega,by show 0<=600;decide,λq hq=>?_,λg hg=>A7 hg,λq hq=>?_,λd hd=>?_,λq hq=>?_,λq hq=>by cases hq⟩
 ·simp only[gu,rE,aI,bG,or_false]at hq
  rcases hq with rfl|rfl
  ·exact⟨FD,trivial⟩
  ·refine⟨MB,?_⟩
   show Dq (mj (sW _));unfold sW
   split
   ·exact eY _ 3 (by decide) (by decide) (by decide)
   ·trivial
 ·obtain⟨k,hk,rfl⟩:=aG.mp hq
  have hk:=cF.mp hk;obtain⟨g1,g2⟩:=ux cell ((k+(fu cell-1))%fu cell);exact⟨uw (mE hk),eY _ _ (by decide) (by omega) (by omega)⟩
 ·obtain⟨k,hk,rfl⟩:=A8 hd
  refine⟨gq (rF hk),.inr (uw (mE (qp _ (by omega)))),Fw _ (by decide),by show(gR cell k).length<=60;rw[(zG cell k).1];decide,λx hx=>?_⟩
  rcases ye hx with rfl|rfl
  ·exact A7 (vh hk)
  ·exact uw (mE hk)
 ·obtain⟨k,hk,rfl⟩:=aG.mp hq
  have hk:=cF.mp hk;exact⟨gq (rF hk),FD,eY _ 1 (by decide) (by decide) (by decide)⟩
theorem FE(cell:Int):∀n,n<=fu cell->(((aW n).map (gR cell)).flatten).Perm ((dW cell).take n++(dw cell).take n)
 |0,_=>List.Perm.refl _
 |n+1,h=>by
  obtain⟨l0,l1,l2,l3⟩:=nV cell;have ih:=FE cell n (by omega)
  rw[jg,aU,List.flatten_append,i_,List.flatten_singleton];have eg:(dW cell)[n]?=some ((dW cell).getD n ""):=by rw[ax,au (by omega)];rfl
  have el:(dw cell)[n]?=some ((dw cell).getD n ""):=by rw[ax,au (by omega)];rfl
  rw[dm,dm,eg,el];refine(ih.append (zG cell n).2).trans ?_
  generalize(dW cell).take n=A
  generalize(dw cell).take n=B
  generalize(dW cell).getD n ""=x
  generalize(dw cell).getD n ""=y
  show(A++B ++ [x,y]).Perm (A ++ [x]++(B ++ [y]))
  rw[cV,cV];refine List.Perm.append_left A ?_
  show(B++([x] ++ [y])).Perm ([x]++(B ++ [y]))
  rw[<-cV,<-cV];exact List.Perm.append_right [y] qZ
theorem MC(cell:Int):sS (gu cell):=by
 obtain⟨n1,n4,_⟩:=oI cell;obtain⟨l0,l1,l2,l3⟩:=nV cell;have Iw:=JY cell;have Tq:(c6 cell).Nodup:=jS _ (by omega)
 have Qt:(gS cell).map (·.name)=c6 cell:=by
  show((aW (fu cell)).map (ic cell)).map (·.name)=_
  rw[aS];have e:=m9 (c6 cell);rw[l3]at e;exact e
 have N6:=uy (gS cell) (j8 cell);have Je:((gu cell).desks.map (·.name)).Perm (c6 cell):=by rw[<-Qt];exact N6.map _
 have hfl:=FE cell (fu cell) (aD _);have tg:(dW cell).take (fu cell)=dW cell:=cM (by omega)
 have tl:(dw cell).take (fu cell)=dw cell:=cM (by omega)
 rw[tg,tl]at hfl;have hdj:((gu cell).desks.map (·.places)).flatten.Nodup:=by
  have e:((gS cell).map (·.places))=(aW (fu cell)).map (gR cell):=by
   show((aW (fu cell)).map (ic cell)).map (·.places)=_
   rw[aS];rfl
  have p1:((gu cell).desks.map (·.places)).flatten.Perm ((gS cell).map (·.places)).flatten:=(N6.map _).flatten
  rw[e]at p1;exact(p1.trans hfl).nodup_iff.mpr Iw
 refine⟨?_,?_,?_,λd hd=>?_,hdj,?_,λq hq=>?_,λq hq=>(by cases hq),λq hq i hi=>?_,λq hq=>?_⟩
 ·show([("x":Str),"y"]).Nodup
  decide +kernel
 ·rw[CZ];exact Iw
 ·exact Je.nodup_iff.mpr Tq
 ·obtain⟨k,hk,rfl⟩:=A8 hd
  have hr:nU (j7 cell k) 2:=zD _;have UU:=(zG cell k).1;refine⟨⟨gq (rF hk),.inr (uw (mE (qp _ (by omega)))),by show nU (j7 cell k) (gR cell k).length;rw[UU];exact hr,?_⟩,λx hx=>?_,.inr ?_⟩
  ·refine⟨by show 1<=(gR cell k).length;omega,by show(gR cell k).length<=6;omega,sU hdj _ (aG.mpr ⟨_,hd,rfl⟩),λx hx=>?_⟩
   rcases ye hx with rfl|rfl
   ·exact A7 (vh hk)
   ·exact uw (mE hk)
  ·rw[CZ]
   rcases ye hx with rfl|rfl
   ·exact dX _ (vh hk)
   ·exact b9 _ (mE hk)
  ·refine⟨(sV cell ((k+1)%fu cell)).2,aG.mpr ⟨(k+1)%fu cell,cF.mpr (qp _ (by omega)),rfl⟩,?_⟩
   show cq (j7 cell k) (gR cell k).length<=cq (j7 cell (((k+1)%fu cell+(fu cell-1))%fu cell)) 2+_;have e:((k+1)%fu cell+(fu cell-1))%fu cell=k:=by
    by_cases h:k+1=fu cell
    ·rw[h,Nat.mod_self,iu,lS (by omega)];omega
    ·rw[lS (show k+1<fu cell by omega),show k+1+(fu cell-1)=k+fu cell by omega,Nat.add_mod_right,lS hk]
   rw[e,UU];have:0<=uH cell/64/((((k+1)%fu cell:Nat):Int)+1)%2:=aZ _ (by decide)
   omega
 ·show(((aW (fu cell)).map λk=>((c6 cell).getD k "",("x":Str),1+cn cell (20+(k:Int))%4)).map λq=>(q.1,q.2.1)).Nodup
  rw[aS];refine qU λi j hi hj e=>?_
  have e1:(c6 cell).getD i ""=(c6 cell).getD j "":=congrArg Prod.fst e;rw[ax,au (show i<(c6 cell).length by omega),ax,au (show j<(c6 cell).length by omega)]at e1
  rcases Nat.lt_trichotomy i j with h|h|h
  ·exact absurd e1 (h7.mp Tq i j _ _ h)
  ·exact h
  ·exact absurd e1.symm (h7.mp Tq j i _ _ h)
 ·obtain⟨k,hk,rfl⟩:=aG.mp hq
  have hk:=cF.mp hk;refine⟨Je.mem_iff.mpr (rF hk),by show("x":Str)∈[("x":Str),"y"];simp,?_⟩
  show 1<=1+cn cell (20+(k:Int))%4;omega
 ·simp only[gu,rE,aI,bG,or_false]at hq
  rcases hq with rfl|rfl
  ·cases hi
  ·have hi:sW (uH cell)=some i:=hi
   unfold sW at hi
   split at hi
   ·cases hi
    exact⟨by omega,eY _ 3 (by decide) (by decide) (by decide)⟩
   ·cases hi
 ·obtain⟨k,hk,rfl⟩:=aG.mp hq
  have:=ux cell ((k+(fu cell-1))%fu cell);have h2:0<=uH cell/64/((k:Int)+1)%2:=aZ _ (by decide)
  show 1<=cq _ 2+_;omega
theorem GV(cell:Int):(dD (gu cell)).length<=44:=by
 obtain⟨n1,n4,_⟩:=oI cell;obtain⟨l0,l1,l2,l3⟩:=nV cell;have Hq:(gu cell).desks.length=fu cell:=by
  show((gS cell).drop (j8 cell)++(gS cell).take (j8 cell)).length=_
  rw[(uy (gS cell) (j8 cell)).length_eq]
  show((aW (fu cell)).map (ic cell)).length=_
  rw[ao,cp]
 unfold dD lZ;simp only[a7,ao];have e1:(gu cell).kinds.length=2:=rfl;have e2:(gu cell).gates.length=fu cell:=l1;have e3:(gu cell).lines.length=fu cell:=by show((aW (fu cell)).map _).length=_;rw[ao,cp]
 have e4:(gu cell).times.length=fu cell:=by show((aW (fu cell)).map _).length=_;rw[ao,cp]
 have e5:(gu cell).hours.length=0:=rfl;omega
theorem GW{p:Pl}(ok:j3 p)(h:(dD p).length<=60):uc (lu p):=by
 have hr:=zE ok;refine⟨?_,m_ hZ λx hx=>(hr x hx).1⟩
 have:=gQ (y:=("\n":Str)) (by decide) λx hx=>(hr x hx).2
 unfold lu;have:(dD p).length*(1400+1)<=60*1401:=g7 h (aD _);omega
theorem MD(cell:Int):uc (lu (gu cell)):=GW (JZ cell) (b_ (GV cell) (by decide))
def Vh(cell:Int):aj->Option aj
 | .tuple [.int k,.str x]=>some (.tuple [.str x,.str "x",.int (1+cn cell (20+k)%4)])
 |_=>none
theorem MF(cell:Int):(mO ((c6 cell).map aP)).filterMap (Vh cell)=(A6 cell).map pO:=by
 obtain⟨l0,l1,l2,l3⟩:=nV cell;refine il λi=>?_
 have yC:∀d∈mO ((c6 cell).map aP),∃(k:Nat)(x:Str),d=.tuple [.int k,.str x]:=λd hd=>by
  obtain⟨j,hj,e⟩:=List.getElem_of_mem hd;have e':(mO ((c6 cell).map aP))[j]?=some d:=by rw[au hj,e]
  obtain⟨y,hy,rfl⟩:=fH e';rw[aJ]at hy;cases hx:(c6 cell)[j]? with
  |none=>rw[hx]at hy;cases hy
  |some x=>rw[hx]at hy;cases hy;exact⟨j,x,rfl⟩
 rw[filterMap_some (F:=Vh cell) (g:=λd=>(Vh cell d).getD .none) (l:=mO ((c6 cell).map aP)) λd hd=>by obtain⟨k,x,rfl⟩:=yC d hd;rfl]
 rw[aJ,aJ];by_cases hi:i<fu cell
 ·have e1:((c6 cell).map aP)[i]?=some (.str ((c6 cell).getD i "")):=by
   rw[aJ,ax,au (by omega)];rfl
  rw[Iy e1];show _=((aW (fu cell)).map _)[i]?.map pO;rw[aJ,gJ hi];rfl
 ·have e1:(mO ((c6 cell).map aP))[i]?=none:=eu (by rw[ck,ao];omega)
  have e2:(A6 cell)[i]?=none:=eu (by show((aW (fu cell)).map _).length<=i;rw[ao,cp];omega)
  rw[e1,e2];rfl
section
variable{P:bo}{w:bX}{K:ai}{mg:Str->Option av}{base:cK}{f:aK}{k:Nat}
abbrev Nrg:List Str:=["_law_cell","_law_m","_law_many","_law_some","_law_gates","_law_lines","_law_names_here","_law_desks_here","_law_k","_law_name","_law_places","_law_rule_here","_law_rooms","_law_line","_law_kinds","_law_times","_law_turned"]
theorem N7:cH Nrg ["_law_cell"] (bP (top 51)):=⟨rfl,rfl,rfl,by decide +kernel,rfl,by decide +kernel,by decide +kernel⟩
def Rrg(ds:List aj)(d:aj):Prop:=∃cell:Int,ds=[.int cell]/\d=gP (gu cell)
theorem X6{fd:bS}(F:lg K "_law_ring_plant" "_law_ring_plant" (top 51) f fd)(n:Ng mg)(C1:bE P w K mg base 1 "_law_mix" ["_law_cell","_law_k"] (gW K yM))(C2:bE P w K mg base 2 "_law_names" ["_law_cell","_law_many"] (Bv K U5))(C3:bE P w K mg base 1 "_law_rule" ["_law_m","_law_many"] (gW K Xk))(C4:bE P w K mg base 1 "_law_greatest" ["_law_rule_here","_law_many"] (gW K Q0)):eU P w K mg base ky 3 f fd ["_law_cell"] (gW K Rrg):=
 jA F N7 (λ_ _ h=>by obtain⟨_,rfl,_⟩:=h;rfl) λ_ _ h=>by
  obtain⟨cell,rfl,rfl⟩:=h;intro ix A outer s H E hr;have nd:Nrg.Nodup:=N7.nd;have nc:(["_law_k","_law_name","_law_cell"]:List Str).Nodup:=by decide +kernel
  have kF:fc 1 _:=hr.mono (by omega)
  obtain⟨n1,n4,eN⟩:=oI cell;obtain⟨l0,l1,l2,l3⟩:=nV cell;have mx:∀j:Int,0<=j->j<=60->yM [.int cell,.int j] (.int (cn cell j)):=λj h1 h2=>⟨cell,j,rfl,by omega,by omega,rfl⟩
  have gat:∀{k:Nat},k<fu cell->oO ((dW cell).map aP) (k:Int)=some (.str ((dW cell).getD k "")):=λ{k}hk=>bH (by rw[aJ,ax,au (show k<(dW cell).length by omega)];rfl)
  have X7:∀{k:Nat},k<fu cell->oO ((dw cell).map aP) (k:Int)=some (.str ((dw cell).getD k "")):=λ{k}hk=>bH (by rw[aJ,ax,au (show k<(dw cell).length by omega)];rfl)
  refine aL (cC 1 (d:=.int (uH cell)) (bC C1 kF (aq (ae 0 rfl) (aq aA aQ)) (mx 5 (by decide) (by decide))) nd) ?_
  refine aL (cC 2 (d:=.int (fu cell:Nat)) (VE.to (cI aA (cv (ae 1 rfl) aA (by decide))) (by rw[eN])) nd) ?_
  refine aL (cC 3 (d:=dz (la cell)) (VO.ve (jV C2 (hr.mono (by omega)) (aq (bC C1 kF (aq (ae 0 rfl) (aq aA aQ)) (mx 6 (by decide) (by decide))) (aq (VE.to (nO aA (ae 2 rfl) (.inl ⟨by decide,by decide⟩)) (k:=.int ((2*fu cell:Nat):Int)) (by congr 1)) aQ)) ⟨_,2*fu cell,rfl,by omega,rfl⟩)) nd) ?_
  refine aL (Iu 4 5 (d1:=dz (dW cell)) (d2:=dz (dw cell)) (VE.to (VO.ve (gM (ds:=(la cell).map .str) (ae 3 rfl) .no (.yes (ae 2 rfl)))) (by rw[mn,tY];rfl)) (VE.to (VO.ve (gM (ds:=(la cell).map .str) (ae 3 rfl) (.yes (ae 2 rfl)) .no)) (by rw[mn,jR];rfl)) rfl nd (by decide)) ?_
  refine aL (cC 6 (d:=dz (c6 cell)) (VO.ve (jV C2 (hr.mono (by omega)) (aq (bC C1 kF (aq (ae 0 rfl) (aq aA aQ)) (mx 7 (by decide) (by decide))) (aq (ae 2 rfl) aQ)) ⟨_,fu cell,rfl,by omega,rfl⟩)) nd) ?_
  refine aL (kz 7 (fG aQ) nd) ?_
  have eD:gS cell=(aW (fu cell)).map (ic cell):=rfl;refine aL (mP (tgt:=.tup [8,9]) (o:=.nx [.val (.int cell),.val (.int (uH cell)),.val (.int (fu cell:Nat)),.val (dz (la cell)),.val (dz (dW cell)),.val (dz (dw cell)),.val (dz (c6 cell)),.own (((aW (fu cell)).map (ic cell)).map df),.un,.un,.un,.un,.un,.un,.un,.un,.un]) c7 rfl (jD (ds:=(c6 cell).map .str) (ae 6 rfl) n.Fb)
   (gf rfl (bU (bM (i:=8) nd rfl (bj rfl)) (bU (bM (i:=9) nd rfl (bj rfl)) eR))) (λi=>[.val (.int cell),.val (.int (uH cell)),.val (.int (fu cell:Nat)),.val (dz (la cell)),.val (dz (dW cell)),.val (dz (dw cell)),.val (dz (c6 cell)),.own (((aW i).map (ic cell)).map df),.un,.un,.un,.un,.un,.un,.un,.un,.un]) (fu cell) rfl (by rw[ck,ao,l3];exact aD _) (λi d hi hd=>?_) (.inl ⟨by rw[ck,ao,l3],rfl⟩)) ?_
  ·obtain⟨x,hx,rfl⟩:=fH hd
   obtain rfl:x=.str ((c6 cell).getD i ""):=by
    rw[aJ,au (show i<(c6 cell).length by omega)]at hx
    cases hx;rw[ax,au (show i<(c6 cell).length by omega)];rfl
   obtain⟨m0,m1,_⟩:=CY cell i;have M7:=o8 cell (8+(i:Int));have pk:=(Fu (l:=pG) (d:=0) (F:=fj) (by decide) (cn cell (8+(i:Int)))).1
   refine⟨_,rfl,?_⟩
   refine aL (cC 10 (d:=dz [(dW cell).getD i "",(dw cell).getD i ""]) (VE.to (VO.ve (fG (aq (gY (ae 4 rfl) (ae 8 rfl) (gat hi)) (aq (gY (ae 5 rfl) (ae 8 rfl) (X7 hi)) aQ)))) rfl) nd) ?_
   refine aL (δ':=[.val (.int cell),.val (.int (uH cell)),.val (.int (fu cell:Nat)),.val (dz (la cell)),.val (dz (dW cell)),.val (dz (dw cell)),.val (dz (c6 cell)),.own (((aW i).map (ic cell)).map df),.val (.int i),.val (.str ((c6 cell).getD i "")),.val (dz (gR cell i)),.un,.un,.un,.un,.un,.un]) ?_ ?_
   ·unfold gR
    by_cases hp:uH cell/4/((i:Int)+1)%2=1
    ·rw[if_pos hp]
     exact dN (VT.to (bQ hr (cx 20 _) (cx 20 _) (cv (eP (eP (ae 1 rfl) aA ⟨by decide,by decide⟩) (cI (ae 8 rfl) aA) ⟨by omega,by omega⟩) aA (by decide)) aA) (by rw[jW];exact decide_eq_true hp)) (bf (cC 10 (d:=dz [(dw cell).getD i "",(dW cell).getD i ""]) (VE.to (VO.ve (fG (aq (gY (ae 5 rfl) (ae 8 rfl) (X7 hi)) (aq (gY (ae 4 rfl) (ae 8 rfl) (gat hi)) aQ)))) rfl) nd))
    ·rw[if_neg hp]
     exact b0 (VT.to (bQ hr (cx 20 _) (cx 20 _) (cv (eP (eP (ae 1 rfl) aA ⟨by decide,by decide⟩) (cI (ae 8 rfl) aA) ⟨by omega,by omega⟩) aA (by decide)) aA) (by rw[jW];exact decide_eq_false hp)) bL
   refine aL (cC 11 (d:=Dp (j7 cell i)) (bC C3 kF (aq (cI (nO (eP (bC C1 kF (aq (ae 0 rfl) (aq (cI aA (ae 8 rfl)) aQ)) (mx (8+i) (by omega) (by omega))) aA ⟨by decide,by decide⟩) aA (.inr ⟨by decide,by decide⟩)) (gY (VO.ve (fG (aq aA (aq aA (aq aA (aq aA (aq aA (aq aA (aq aA aQ))))))))) (cv (bC C1 kF (aq (ae 0 rfl) (aq (cI aA (ae 8 rfl)) aQ)) (mx (8+i) (by omega) (by omega))) aA (by decide)) pk)) (aq aA aQ)) ⟨pH cell i,2,rfl,m0,m1,by decide,rfl⟩) nd) ?_
   have e1:((i:Int)+1)%(fu cell:Int)=((i+1)%fu cell:Nat):=by
    have e0:((i+1:Nat):Int)=(i:Int)+1:=by omega
    rw[<-e0,Int.natCast_emod]
   have om:(i+1)%fu cell<fu cell:=qp _ (by omega)
   rw[jg,aU,aU,i_,i_];exact jE (bf (iF 7 rfl (d:=df (ic cell i)) (VE.to (eV (aq (ae 9 rfl) (aq (gY (ae 5 rfl) (VE.to (cv (cI (ae 8 rfl) aA) (ae 2 rfl) (by omega)) (by rw[e1])) (X7 om)) (aq (ae 11 rfl) (aq (ja jP tV (aq (ae 10 rfl) aQ) n.tup rfl) aQ))))) rfl) (gN (by simp only[ao,cp];omega)))) ⟨.inr rfl,.inr rfl,.inr rfl,.inr rfl,.inr rfl,.inr rfl,.inr rfl,.inr rfl,.inl rfl,.inl rfl,.inl rfl,.inl rfl,.inr rfl,.inr rfl,.inr rfl,.inr rfl,.inr rfl,trivial⟩
  refine fJ 7 rfl ?_
  refine aL (kz 12 (fG aQ) nd) ?_
  have dat:∀{j:Nat},j<fu cell->(((aW (fu cell)).map (ic cell)).map df)[j]?=some (df (ic cell j)):=λ{j}hj=>by rw[aJ,aJ,gJ hj];rfl
  have ej0:∀n,1<=n->oO (((aW n).map (ic cell)).map df) (-1)=some (df (ic cell (n-1))):=by
   intro n hn;obtain⟨m,rfl⟩:∃m,n=m+1:=⟨n-1,by omega⟩
   rw[jg,aU,aU];exact HN _ _
  have Pk:(((aW (fu cell)).map (ic cell)).map df).length=fu cell:=by simp
  refine aL (mP (tgt:=.tup [8,13]) (o:=.nx [.val (.int cell),.val (.int (uH cell)),.val (.int (fu cell:Nat)),.val (dz (la cell)),.val (dz (dW cell)),.val (dz (dw cell)),.val (dz (c6 cell)),.val (.list (((aW (fu cell)).map (ic cell)).map df)),.un,.un,.un,.un,.own (((aW (fu cell)).map (sV cell)).map kH),.un,.un,.un,.un]) c7 rfl (jD (ds:=(dw cell).map .str) (ae 5 rfl) n.Fb)
   (gf rfl (bU (bM (i:=8) nd rfl (bj rfl)) (bU (bM (i:=13) nd rfl (bj rfl)) eR))) (λi=>[.val (.int cell),.val (.int (uH cell)),.val (.int (fu cell:Nat)),.val (dz (la cell)),.val (dz (dW cell)),.val (dz (dw cell)),.val (dz (c6 cell)),.val (.list (((aW (fu cell)).map (ic cell)).map df)),.un,.un,.un,.un,.own (((aW i).map (sV cell)).map kH),.un,.un,.un,.un]) (fu cell) rfl (by rw[ck,ao,l2];exact aD _) (λi d hi hd=>?_) (.inl ⟨by rw[ck,ao,l2],rfl⟩)) ?_
  ·obtain⟨x,hx,rfl⟩:=fH hd
   obtain rfl:x=.str ((dw cell).getD i ""):=by
    rw[aJ,au (show i<(dw cell).length by omega)]at hx
    cases hx;rw[ax,au (show i<(dw cell).length by omega)];rfl
   have hj:(i+(fu cell-1))%fu cell<fu cell:=qp _ (by omega)
   have ej:oO (((aW (fu cell)).map (ic cell)).map df) ((i:Int)-1)=some (df (ic cell ((i+(fu cell-1))%fu cell))):=by
    cases i with
    |zero=>
     have e:(0+(fu cell-1))%fu cell=fu cell-1:=by rw[iu,lS (by omega)]
     rw[e];exact ej0 _ n1
    |succ i=>
     have e:(i+1+(fu cell-1))%fu cell=i:=by rw[show i+1+(fu cell-1)=i+fu cell by omega,Nat.add_mod_right,lS (by omega)]
     rw[e,show(((i+1:Nat):Int)-1)=(i:Nat) by omega]
     exact bH (dat (by omega))
   have e2:(gR cell ((i+(fu cell-1))%fu cell)).length=2:=(zG _ _).1;refine⟨_,rfl,?_⟩
   rw[jg,aU,aU,i_,i_];exact jE (bf (iF 12 rfl (d:=kH (sV cell i)) (VE.to (eV (aq (ae 13 rfl) (aq (cI (bC C4 kF (aq (bW (gY (ae 7 rfl) (Im (ae 8 rfl) aA) ej) aA (bH (j:=2) rfl)) (aq aA aQ)) ⟨j7 cell ((i+(fu cell-1))%fu cell),2,rfl,rfl⟩) (cv (eP (eP (ae 1 rfl) aA ⟨by decide,by decide⟩) (cI (ae 8 rfl) aA) ⟨by omega,by omega⟩) aA (by decide))) aQ))) rfl) (gN (by simp only[ao,cp];omega)))) ⟨.inr rfl,.inr rfl,.inr rfl,.inr rfl,.inr rfl,.inr rfl,.inr rfl,.inr rfl,.inl rfl,.inl rfl,.inl rfl,.inl rfl,.inr rfl,.inl rfl,.inr rfl,.inr rfl,.inr rfl,trivial⟩
  refine fJ 12 rfl ?_
  have ak:oO [aj.none,.none,.int (3+uH cell/128%40)] (uH cell/8%3)=some (mj (sW (uH cell))):=by
   unfold sW;rcases(by omega:uH cell/8%3=0\/uH cell/8%3=1\/uH cell/8%3=2)with e|e|e<;>rw[e]<;>rfl
  refine aL (cC 14 (d:=.list ((rE cell).map lH)) (VE.to (VO.ve (fG (aq (eV (aq aO (aq gk aQ))) (aq (eV (aq aO (aq (gY (VO.ve (fG (aq gk (aq gk (aq (cI aA (cv (eP (ae 1 rfl) aA ⟨by decide,by decide⟩) aA (by decide))) aQ))))) (cv (eP (ae 1 rfl) aA ⟨by decide,by decide⟩) aA (by decide)) ak) aQ))) aQ)))) rfl) nd) ?_
  refine aL (Ap 15 (own:=["_law_k","_law_name"]) (cap:=[0]) (N:=["_law_k","_law_name","_law_cell"]) (tgt:=.tup [0,1]) (F:=Vh cell) (ds:=mO ((c6 cell).map aP)) rfl ⟨rfl,by decide +kernel,by decide +kernel,rfl,rfl,?_⟩ (jD (ds:=(c6 cell).map aP) (ae 6 rfl) n.Fb) (λf s3 H3=>gf rfl (bU (bM (i:=0) nc rfl (bj rfl)) (bU (bM (i:=1) nc rfl (bj rfl)) eR))) rfl
   (small (by rw[ck,ao];omega)) (λd hd=>?_) nd) ?_
  ·intro j hj
   rcases aI.mp hj with rfl|hj
   ·exact⟨(by show(0:Nat)<17;decide),bj rfl,rfl⟩
   ·cases hj
  ·obtain⟨j,hj,e⟩:=List.getElem_of_mem hd
   have hj':j<fu cell:=by rw[ck,ao]at hj;omega
   have e':(mO ((c6 cell).map aP))[j]?=some d:=by rw[au hj,e]
   obtain⟨y,hy,rfl⟩:=fH e';obtain rfl:y=.str ((c6 cell).getD j ""):=by
    rw[aJ,au (show j<(c6 cell).length by omega)]at hy
    cases hy;rw[ax,au (show j<(c6 cell).length by omega)];rfl
   refine⟨_,rfl,λf s3 H3=>fA,λr jo f s3 H3=>?_⟩
   cases jo;exact eV (aq (ae 1 rfl) (aq aO (aq (cI aA (cv (bC C1 kF (aq (ae 2 rfl) (aq (cI aA (ae 0 rfl)) aQ)) (mx (20+j) (by omega) (by omega))) aA (by decide))) aQ)))
  rw[MF];refine fJ 15 rfl ?_
  have eT:uH cell/16%(fu cell:Int)=(j8 cell:Nat):=by
   have a1:0<=uH cell/16%(fu cell:Int):=aZ _ (by omega)
   unfold j8;omega
  refine aL (cC 16 (d:=.int (j8 cell:Nat)) (VE.to (cv (eP (ae 1 rfl) aA ⟨by decide,by decide⟩) (ae 2 rfl) (by omega)) (by rw[eT])) nd) ?_
  refine aL (cC 7 (d:=.list ((gu cell).desks.map df)) (VE.to (VO.ve (nP (d1:=((gS cell).drop (j8 cell)).map df) (d2:=((gS cell).take (j8 cell)).map df) (VE.to (VO.ve (gM (ds:=(gS cell).map df) (ae 7 rfl) (.yes (ae 16 rfl)) .no)) (by rw[mn,jR])) (VE.to (VO.ve (gM (ds:=(gS cell).map df) (ae 7 rfl) .no (.yes (ae 16 rfl)))) (by rw[mn,tY])) (small (by rw[ao,ao,cG,cj,eD,ao,cp];omega)))) (by rw[<-aU];rfl)) nd) ?_
  refine bf (cg (VE.to (Aw (kvs:=kI (gu cell)) (.cons aO (ae 14 rfl) (.cons aO (ae 4 rfl) (.cons aO (ae 12 rfl) (.cons aO (ae 7 rfl) (.cons aO (ae 15 rfl) (.cons aO (VE.to (VO.ve (fG aQ)) rfl) (.cons aO (VO.ve (fG aQ)) .nil))))))) (show([("kinds":Str),"gates","lines","desks","times","hours","paces"]).Nodup by decide +kernel) (by simp[kI]) (by show 7<=15;decide)) rfl))
end
abbrev FG:=Int×List (Str×aj)
def Eu(st:FG)(name:Str)(sz:Nat):FG:=(st.1+sz,mS st.2 name (.list (mU st.1 sz)))
def vK(cells:List Int)(k:Nat):Nat:=(cn (cells.getD k 0) (k:Int)%4).toNat
def sX(cells:List Int)(gates:List Str):Nat->FG
 |0=>(0,[])
 |k+1=>Eu (sX cells gates k) (gates.getD k "") (vK cells k)
def FH:Str×Int:=("",0)
def uz(cells:List Int)(full:Bool)(q:Str×Int)(k:Nat):Nat:=(if full=true then q.2 else cn (cells.getD (9+k) 0) (9+(k:Int))%(q.2+1)).toNat
def pV(cells:List Int)(full:Bool)(lines:List (Str×Int))(st:FG):Nat->FG
 |0=>st
 |k+1=>Eu (pV cells full lines st k) (lines.getD k FH).1 (uz cells full (lines.getD k FH) k)
def Bw:Dk:=⟨"","",.eldest,[]⟩
def GX(cells:List Int)(k:Nat):Int:=cn (cells.getD (18+k) 0) (18+(k:Int))
def nF(m:Int)(d:Dk):Nat:=if mV d.rule="meet" then d.places.length else(1+m/4%cq d.rule d.places.length).toNat
def lA(st:FG)(full:Bool)(m:Int)(d:Dk):FG:=
 if(full||decide (0<m%4))=true then(st.1+nF m d,mS (mS st.2 d.name .none) d.name (.tuple [.tuple (mU st.1 (nF m d)),.int (m/64%12)])) else(st.1,mS st.2 d.name .none)
def nW(cells:List Int)(full:Bool)(desks:List Dk)(n:Int):Nat->FG
 |0=>(n,[])
 |k+1=>lA (nW cells full desks n k) full (GX cells k) (desks.getD k Bw)
structure MG(p:Pl):Prop where
 gn:p.gates.length<=60
 ln:p.lines.length<=60
 dn:p.desks.length<=60
 lr:∀q∈p.lines,0<=q.2/\q.2<=100
 dr:∀d∈p.desks,1<=cq d.rule d.places.length/\cq d.rule d.places.length<=100/\d.places.length<=60
def uA(p:Pl)(cells:List Int):FG:=sX cells p.gates p.gates.length
def pW(p:Pl)(cells:List Int)(full:Bool):FG:=pV cells full p.lines (uA p cells) p.lines.length
def C5(p:Pl)(cells:List Int)(full:Bool):FG:=nW cells full p.desks (pW p cells full).1 p.desks.length
theorem pI(kv:List (Str×aj))(y:Str)(d:aj):(mS kv y d).length<=kv.length+1:=by
 unfold mS sC
 split
 ·rw[ao];omega
 ·rw[a7,jt];exact aD _
theorem J0(cells:List Int)(k:Nat):vK cells k<=3/\cn (cells.getD k 0) (k:Int)%4=(vK cells k:Nat):=by unfold vK;omega
theorem yf(cells:List Int)(gates:List Str):∀k,0<=(sX cells gates k).1/\(sX cells gates k).1<=3*k/\(sX cells gates k).2.length<=k
 |0=>⟨Int.le_refl 0,Int.le_refl 0,aD 0⟩
 |k+1=>by
  obtain⟨h1,h2,h3⟩:=yf cells gates k;have h4:=(J0 cells k).1;have h5:=pI (sX cells gates k).2 (gates.getD k "") (.list (mU (sX cells gates k).1 (vK cells k)));refine⟨?_,?_,?_⟩
  ·show 0<=(sX cells gates k).1+(vK cells k:Nat);omega
  ·show(sX cells gates k).1+(vK cells k:Nat)<=3*((k+1:Nat):Int);omega
  ·show(mS _ _ _).length<=k+1;omega
theorem J1(cells:List Int)(full:Bool){q:Str×Int}(h:0<=q.2/\q.2<=100)(k:Nat):uz cells full q k<=100/\(if full=true then q.2 else cn (cells.getD (9+k) 0) (9+(k:Int))%(q.2+1))=(uz cells full q k:Nat):=by
 unfold uz;have a1:0<=cn (cells.getD (9+k) 0) (9+(k:Int))%(q.2+1):=aZ _ (by omega)
 have a2:cn (cells.getD (9+k) 0) (9+(k:Int))%(q.2+1)<q.2+1:=bw _ (by omega)
 split<;>omega
theorem yg(cells:List Int)(full:Bool){lines:List (Str×Int)}(hl:∀q∈lines,0<=q.2/\q.2<=100){st:FG}(h0:0<=st.1):∀k,k<=lines.length->0<=(pV cells full lines st k).1/\(pV cells full lines st k).1<=st.1+100*k/\(pV cells full lines st k).2.length<=st.2.length+k
 |0,_=>⟨h0,by show st.1<=_;omega,by show st.2.length<=_;omega⟩
 |k+1,hk=>by
  obtain⟨h1,h2,h3⟩:=yg cells full hl h0 k (by omega)
  have hm:lines.getD k FH∈lines:=by rw[ax,au (by omega)];exact dG _
  have h4:=(J1 cells full (hl _ hm) k).1;have h5:=pI (pV cells full lines st k).2 (lines.getD k FH).1 (.list (mU (pV cells full lines st k).1 (uz cells full (lines.getD k FH) k)));refine⟨?_,?_,?_⟩
  ·show 0<=(pV cells full lines st k).1+(uz cells full (lines.getD k FH) k:Nat);omega
  ·show(pV cells full lines st k).1+(uz cells full (lines.getD k FH) k:Nat)<=st.1+100*((k+1:Nat):Int);omega
  ·show(mS _ _ _).length<=_;omega
theorem J2(m:Int){d:Dk}(h:1<=cq d.rule d.places.length/\cq d.rule d.places.length<=100/\d.places.length<=60):nF m d<=100:=by
 unfold nF;obtain⟨h1,h2,h3⟩:=h;have a2:m/4%cq d.rule d.places.length<cq d.rule d.places.length:=bw _ (by omega)
 split<;>omega
theorem C6(cells:List Int)(full:Bool){desks:List Dk}(hd:∀d∈desks,1<=cq d.rule d.places.length/\cq d.rule d.places.length<=100/\d.places.length<=60){n:Int}(h0:0<=n):∀k,k<=desks.length->0<=(nW cells full desks n k).1/\(nW cells full desks n k).1<=n+100*k/\(nW cells full desks n k).2.length<=2*k
 |0,_=>⟨h0,by show n<=_;omega,aD 0⟩
 |k+1,hk=>by
  obtain⟨h1,h2,h3⟩:=C6 cells full hd h0 k (by omega)
  have hm:desks.getD k Bw∈desks:=by rw[ax,au (by omega)];exact dG _
  have h4:=J2 (GX cells k) (hd _ hm);have h5:=pI (nW cells full desks n k).2 (desks.getD k Bw).name .none;have h6:=pI (mS (nW cells full desks n k).2 (desks.getD k Bw).name .none) (desks.getD k Bw).name (.tuple [.tuple (mU (nW cells full desks n k).1 (nF (GX cells k) (desks.getD k Bw))),.int (GX cells k/64%12)]);show 0<=(lA _ _ _ _).1/\(lA _ _ _ _).1<=_/\(lA _ _ _ _).2.length<=_;unfold lA
  split
  ·refine⟨?_,?_,?_⟩
   ·show 0<=(nW cells full desks n k).1+(nF (GX cells k) (desks.getD k Bw):Nat);omega
   ·show(nW cells full desks n k).1+(nF (GX cells k) (desks.getD k Bw):Nat)<=n+100*((k+1:Nat):Int);omega
   ·show(mS _ _ _).length<=_;omega
  ·refine⟨h1,?_,?_⟩
   ·show(nW cells full desks n k).1<=n+100*((k+1:Nat):Int);omega
   ·show(mS _ _ _).length<=_;omega
theorem A9{l:List Dk}{k:Nat}(h:k<l.length):l[k]?=some (l.getD k Bw):=by rw[ax,au h];rfl
theorem FJ{l:List (Str×Int)}{k:Nat}(h:k<l.length):l[k]?=some (l.getD k FH):=by rw[ax,au h];rfl
theorem MH{l:List Str}{k:Nat}(h:k<l.length):l[k]?=some (l.getD k ""):=by rw[ax,au h];rfl
section
variable{P:bo}{w:bX}{K:ai}{mg:Str->Option av}{base:cK}{f:aK}{k:Nat}
abbrev Vi:List Str:=["_law_h","_law_cells","_law_full","_law_number","_law_places","_law_k","_law_name","_law_size","_law_line","_law_loads","_law_desk","_law_m"]
theorem N8:cH Vi ["_law_h","_law_cells","_law_full"] (bP (top 52)):=⟨rfl,rfl,rfl,by decide +kernel,rfl,by decide +kernel,by decide +kernel⟩
def Rfl(ds:List aj)(d:aj):Prop:=∃(p:Pl)(cells:List Int)(full:Bool),ds=[gP p,iV cells,.bool full]/\MG p/\j3 p/\d=.tuple [eQ (pW p cells full).2,eQ (C5 p cells full).2]
theorem X8{fd:bS}(F:lg K "_law_floor_drawn" "_law_floor_drawn" (top 52) f fd)(n:Ng mg)(C0:bE P w K mg base 1 "_law_cell_at" ["_law_script","_law_k"] (gW K zu))(C1:bE P w K mg base 1 "_law_mix" ["_law_cell","_law_k"] (gW K yM))(C4:bE P w K mg base 1 "_law_greatest" ["_law_rule_here","_law_many"] (gW K Q0)):eU P w K mg base ky 3 f fd ["_law_h","_law_cells","_law_full"] (gW K Rfl):=
 jA F N8 (λ_ _ h=>by obtain⟨_,_,_,rfl,_⟩:=h;rfl) λ_ _ h=>by
  obtain⟨p,cells,full,rfl,hF,hP,rfl⟩:=h;intro ix A outer s H E hr;have nd:Vi.Nodup:=N8.nd;have kF:fc 1 _:=hr.mono (by omega)
  obtain⟨hgn,Gw,Je,X9,hdr⟩:=hF;have X_:∀j:Nat,zu [iV cells,.int (j:Nat)] (.int (cells.getD j 0)):=λj=>⟨cells,j,rfl,rfl⟩
  have X':∀(c:Int)(j:Nat),j<=200->yM [.int c,.int (j:Nat)] (.int (cn c (j:Nat))):=λc j hj=>⟨c,(j:Nat),rfl,by omega,by omega,rfl⟩
  refine xu λB0 B σ H0 Hh D fr Vg=>?_
  refine dE (P7 fr (cC 3 (d:=.int 0) aA nd) λσ1 Rf Rg _ f1=>?_)
  refine dE (Jg f1 4 nd (λq=>rfl) λq σ2 H2 G2=>?_)
  refine dE (D2 (tgt:=.tup [5,6]) (λi=>DR K q (sX cells p.gates i).2) (λi=>[.val (gP p),.val (iV cells),.val (.bool full),.val (.int (sX cells p.gates i).1),.ref q,.un,.un,.un,.un,.un,.un,.un]) (λ_=>DR.mono) G2 c7 rfl (jD (ds:=p.gates.map .str) (gF hr (ae 0 rfl) aO (Cu p)) n.Fb)
   (gf rfl (bU (bM (i:=5) nd rfl (bj rfl)) (bU (bM (i:=6) nd rfl (bj rfl)) eR))) (λi d hd=>?_) λσ3 Qm Qn G3=>?_)
  ·obtain⟨x,hx,rfl⟩:=fH hd
   have hi:i<p.gates.length:=by
    have:=(aM.mp hd).1;rw[ck,ao]at this;exact this
   obtain rfl:x=.str (p.gates.getD i ""):=by rw[aJ,MH hi]at hx;cases hx;rfl
   obtain⟨b1,b2,b3⟩:=yf cells p.gates i;obtain⟨z1,z2⟩:=J0 cells i;refine⟨_,rfl,rfl,λD' Vj σ' ef H' G qq=>?_⟩
   refine dE (kB DR.mono G (cC 7 (d:=.int (vK cells i:Nat)) (VE.to (cv (bC C1 kF (aq (bC C0 kF (aq (ae 1 rfl) (aq (ae 5 rfl) aQ)) (X_ i)) (aq (ae 5 rfl) aQ)) (X' _ i (by omega))) aA (by decide)) (by rw[z2])) nd) rfl λσ4 FC Dr G4=>?_)
   refine dE (AG G4 hr 4 rfl (ae 6 rfl) (VO.ve (rU (ae 3 rfl) (cI (ae 3 rfl) (ae 7 rfl)) b1 (by omega) (by omega) rfl n.lst n.rng)) (gN (by omega)) λMv Mw G5=>?_)
   exact dF (kB DR.mono G5 (cC 3 (cI (ae 3 rfl) (ae 7 rfl)) nd) rfl λσ6 Kr Mx G6=>qq σ6 Kr Mx (G6.forget DR.mono ⟨.inr rfl,.inr rfl,.inr rfl,.inr rfl,.inr rfl,.inl rfl,.inl rfl,.inl rfl,.inl rfl,.inl rfl,.inl rfl,.inl rfl,trivial⟩ rfl))
  rw[ck,ao]at G3;have G3:OF K B0 B (DR K q (uA p cells).2) Qm Qn σ3 [.val (gP p),.val (iV cells),.val (.bool full),.val (.int (uA p cells).1),.ref q,.un,.un,.un,.un,.un,.un,.un]:=G3;obtain⟨p1a,p1b,p1c⟩:0<=(uA p cells).1/\(uA p cells).1<=180/\(uA p cells).2.length<=60:=by
   obtain⟨b1,b2,b3⟩:=yf cells p.gates p.gates.length;exact⟨b1,by show(sX cells p.gates p.gates.length).1<=180;omega,by show(sX cells p.gates p.gates.length).2.length<=60;omega⟩
  refine dE (D2 (tgt:=.tup [5,8]) (λi=>DR K q (pV cells full p.lines (uA p cells) i).2) (λi=>[.val (gP p),.val (iV cells),.val (.bool full),.val (.int (pV cells full p.lines (uA p cells) i).1),.ref q,.un,.un,.un,.un,.un,.un,.un]) (λ_=>DR.mono) G3 c7 rfl (jD (ds:=p.lines.map kH) (gF hr (ae 0 rfl) aO (xO p)) n.Fb)
   (gf rfl (bU (bM (i:=5) nd rfl (bj rfl)) (bU (bM (i:=8) nd rfl (bj rfl)) eR))) (λi d hd=>?_) λσ4 FC Dr G4=>?_)
  ·obtain⟨x,hx,rfl⟩:=fH hd
   have hi:i<p.lines.length:=by
    have:=(aM.mp hd).1;rw[ck,ao]at this;exact this
   obtain rfl:x=kH (p.lines.getD i FH):=by rw[aJ,FJ hi]at hx;cases hx;rfl
   have hq:=X9 _ (bA (FJ hi));obtain⟨b1,b2,b3⟩:=yg cells full X9 p1a i (by omega)
   obtain⟨z1,z2⟩:=J1 cells full hq i;have e9:((9:Int)+(i:Int))=((9+i:Nat):Int):=by omega
   have eS:pV cells full p.lines (uA p cells) (i+1)=Eu (pV cells full p.lines (uA p cells) i) (p.lines.getD i FH).1 (uz cells full (p.lines.getD i FH) i):=rfl;rw[eS]
   generalize pV cells full p.lines (uA p cells) i=st at *
   generalize p.lines.getD i FH=ql at *
   generalize hsz:uz cells full ql i=sz at *
   refine⟨_,rfl,rfl,λD' Vj σ' ef H' G qq=>?_⟩
   have rest:∀σ4 FC Dr,OF K Vj B (DR K q st.2) FC Dr σ4 [.val (gP p),.val (iV cells),.val (.bool full),.val (.int st.1),.ref q,.val (.int i),.un,.val (.int (sz:Nat)),.val (kH ql),.un,.un,.un]->DP (Aa ky P w K mg base Vi "_law_floor_drawn" (bP (top 52)) f ix A outer s H E).Oy ((suite (kx (top 52)) 3).drop 2) D' σ4 Dr:=λσ4 FC Dr G4=>by
    refine dE (AG G4 hr 4 rfl (bW (ae 8 rfl) aA (bH (j:=0) rfl)) (VO.ve (rU (ae 3 rfl) (cI (ae 3 rfl) (ae 7 rfl)) b1 (by omega) (by omega) rfl n.lst n.rng)) (gN (by omega)) λMv Mw G5=>?_)
    exact dF (kB DR.mono G5 (cC 3 (cI (ae 3 rfl) (ae 7 rfl)) nd) rfl λσ6 Kr Mx G6=>qq σ6 Kr Mx (G6.forget DR.mono ⟨.inr rfl,.inr rfl,.inr rfl,.inr rfl,.inr rfl,.inl rfl,.inl rfl,.inl rfl,.inl rfl,.inl rfl,.inl rfl,.inl rfl,trivial⟩ rfl))
   refine dE (kB DR.mono G (cC 7 (d:=.int ql.2) (bW (ae 8 rfl) aA (bH (j:=1) rfl)) nd) rfl λσ4 FC Dr G4=>?_)
   cases full with
   |true=>
    have z2:ql.2=(sz:Nat):=z2;refine dE (kB DR.mono G4 (b0 (VT.to (qF (jy (ae 2 rfl) rfl)) rfl) bL) rfl λσ5 Mv Mw G5=>rest σ5 Mv Mw ?_)
    rw[<-z2];exact G5
   |false=>
    have z2:cn (cells.getD (9+i) 0) (9+(i:Int))%(ql.2+1)=(sz:Nat):=z2;exact dE (kB DR.mono G4 (dN (VT.to (qF (jy (ae 2 rfl) rfl)) rfl) (bf (cC 7 (d:=.int (sz:Nat)) (VE.to (cv (bC C1 kF (aq (bC C0 kF (aq (ae 1 rfl) (aq (VE.to (cI aA (ae 5 rfl)) (by rw[e9])) aQ)) (X_ (9+i))) (aq (VE.to (cI aA (ae 5 rfl)) (by rw[e9])) aQ)) (X' _ (9+i) (by omega))) (cI (bW (ae 8 rfl) aA (bH (j:=1) rfl)) aA) (by omega)) (by rw[<-e9,z2])) nd))) rfl λσ5 Mv Mw G5=>rest σ5 Mv Mw G5)
  rw[ck,ao]at G4;have G4:OF K B0 B (DR K q (pW p cells full).2) FC Dr σ4 [.val (gP p),.val (iV cells),.val (.bool full),.val (.int (pW p cells full).1),.ref q,.un,.un,.un,.un,.un,.un,.un]:=G4;obtain⟨p2a,p2b⟩:0<=(pW p cells full).1/\(pW p cells full).1<=6180:=by
   obtain⟨b1,b2,b3⟩:=yg cells full X9 p1a p.lines.length (aD _);exact⟨b1,by show(pV cells full p.lines (uA p cells) p.lines.length).1<=6180;omega⟩
  obtain⟨Hc4,_,f4⟩:=G4.done (i:=4) rfl DR.rep;refine dE (Jg f4 9 nd (λq=>rfl) λq5 σ5 H5 G5=>?_)
  have eP3:C5 p cells full=nW cells full p.desks (pW p cells full).1 p.desks.length:=rfl;rw[eP3]at Vg
  generalize QJ:(pW p cells full).1=n2 at *
  refine dE (D2 (tgt:=.tup [5,10]) (λi=>DR K q5 (nW cells full p.desks n2 i).2) (λi=>[.val (gP p),.val (iV cells),.val (.bool full),.val (.int (nW cells full p.desks n2 i).1),.val (eQ (pW p cells full).2),.un,.un,.un,.un,.ref q5,.un,.un]) (λ_=>DR.mono) G5 c7 rfl (jD (ds:=p.desks.map df) (gF hr (ae 0 rfl) aO (xP p)) n.Fb)
   (gf rfl (bU (bM (i:=5) nd rfl (bj rfl)) (bU (bM (i:=10) nd rfl (bj rfl)) eR))) (λi d hd=>?_) λσ6 Kr Mx G6=>?_)
  ·obtain⟨x,hx,rfl⟩:=fH hd
   have hi:i<p.desks.length:=by
    have:=(aM.mp hd).1;rw[ck,ao]at this;exact this
   obtain rfl:x=df (p.desks.getD i Bw):=by rw[aJ,A9 hi]at hx;cases hx;rfl
   have hq:=hdr _ (bA (A9 hi));have hok:=(hP.desks _ (bA (A9 hi))).2.2.1;obtain⟨b1,b2,b3⟩:=C6 cells full hdr p2a i (by omega)
   have z1:=J2 (GX cells i) hq;have Ya:((18:Int)+(i:Int))=((18+i:Nat):Int):=by omega
   have eS:nW cells full p.desks n2 (i+1)=lA (nW cells full p.desks n2 i) full (GX cells i) (p.desks.getD i Bw):=rfl;rw[eS];have eM:GX cells i=cn (cells.getD (18+i) 0) ((18+i:Nat):Int):=by unfold GX;rw[Ya]
   have hml:0<=GX cells i:=o8 _ _
   generalize nW cells full p.desks n2 i=st at *
   generalize p.desks.getD i Bw=dk at *
   generalize hm:GX cells i=m at *
   refine⟨_,rfl,rfl,λD' Vj σ' ef H' G qq=>?_⟩
   refine dE (kB DR.mono G (cC 11 (d:=.int m) (VE.to (bC C1 kF (aq (bC C0 kF (aq (ae 1 rfl) (aq (VE.to (cI aA (ae 5 rfl)) (by rw[Ya])) aQ)) (X_ (18+i))) (aq (VE.to (cI aA (ae 5 rfl)) (by rw[Ya])) aQ)) (X' _ (18+i) (by omega))) (by rw[eM])) nd) rfl λσ7 Ha7 Hb7 G7=>?_)
   refine dE (AG G7 hr 9 rfl (bW (ae 10 rfl) aA (bH (j:=0) rfl)) gk (gN (by omega)) λHa8 Hb8 G8=>?_)
   unfold lA at qq;have qy:=pI st.2 dk.name .none;by_cases hc:(full||decide (0<m%4))=true
   ·rw[if_pos hc]at qq
    refine dF (xD G8.own (VT.to (jx (jy (ae 2 rfl) rfl) (λ_=>xl (cv (ae 11 rfl) aA (by decide)) aA)) hc) λHa9 Hb9 g9=>?_)
    have G9:=G8.go DR.mono (G8.own.grow g9) G8.no;have a1:0<=m/4%cq dk.rule dk.places.length:=aZ _ (by omega)
    refine dE (kB DR.mono G9 (cC 7 (d:=.int (1+m/4%cq dk.rule dk.places.length)) (cI aA (cv (eP (ae 11 rfl) aA ⟨by decide,by decide⟩) (bC C4 kF (aq (bW (ae 10 rfl) aA (bH (j:=2) rfl)) (aq (VE.to (jU (ds:=dk.places.map .str) (bW (ae 10 rfl) aA (bH (j:=3) rfl)) n.len) (by rw[ao])) aQ)) ⟨dk.rule,dk.places.length,rfl,rfl⟩) (by omega))) nd) rfl λσ10 zdm zdn G10=>?_)
    have rest:∀σ4 FC Dr,OF K Vj B (DR K q5 (mS st.2 dk.name .none)) FC Dr σ4 [.val (gP p),.val (iV cells),.val (.bool full),.val (.int st.1),.val (eQ (pW p cells full).2),.val (.int i),.un,.val (.int (nF m dk:Nat)),.un,.ref q5,.val (df dk),.val (.int m)]->DP (Aa ky P w K mg base Vi "_law_floor_drawn" (bP (top 52)) f ix A outer s H E).Oy ((suite (suite (kx (top 52)) 5) 2).drop 2) D' σ4 Dr:=λσ4 FC Dr G4=>by
     refine dE (AG G4 hr 9 rfl (bW (ae 10 rfl) aA (bH (j:=0) rfl)) (d:=.tuple [.tuple (mU st.1 (nF m dk)),.int (m/64%12)]) (VE.to (eV (aq (xH (ae 3 rfl) (cI (ae 3 rfl) (ae 7 rfl)) b1 (by omega) (by omega) rfl n.tup n.rng) (aq (cv (eP (ae 11 rfl) aA ⟨by decide,by decide⟩) aA (by decide)) aQ))) rfl) (gN (by omega)) λMv Mw G5=>?_)
     exact dF (kB DR.mono G5 (cC 3 (cI (ae 3 rfl) (ae 7 rfl)) nd) rfl λσ6 Kr Mx G6=>qq σ6 Kr Mx (G6.forget DR.mono ⟨.inr rfl,.inr rfl,.inr rfl,.inr rfl,.inr rfl,.inl rfl,.inl rfl,.inl rfl,.inl rfl,.inr rfl,.inl rfl,.inl rfl,trivial⟩ rfl))
    have lw:Lay 20 (.str (mV dk.rule)):=by
     cases dk.rule with
     |meet=>exact aV (x:="meet")
     |gather _ _=>exact aV (x:="gather")
     |many _=>exact aV (x:="many")
     |rank _=>exact aV (x:="rank")
     |turns _=>exact aV (x:="turns")
     |eldest=>exact aV (x:="eldest")
    have aw:oO (aP (mV dk.rule)::p9 dk.rule) 0=some (.str (mV dk.rule)):=bH (j:=0) rfl;by_cases hw:mV dk.rule="meet"
    ·have ez:nF m dk=dk.places.length:=by unfold nF;rw[if_pos hw]
     refine dE (kB DR.mono G10 (dN (VT.to (bQ hr lw aV (bW (bW (d:=Dp dk.rule) (ae 10 rfl) aA (bH (j:=2) rfl)) aA aw) aO) (by rw[bO];exact decide_eq_true hw)) (bf (cC 7 (d:=.int (dk.places.length:Nat)) (VE.to (jU (ds:=dk.places.map .str) (bW (ae 10 rfl) aA (bH (j:=3) rfl)) n.len) (by rw[ao])) nd))) rfl λσ11 Qu Qv Yb=>rest σ11 Qu Qv ?_)
     rw[ez];exact Yb
    ·have ez:(1+m/4%cq dk.rule dk.places.length:Int)=(nF m dk:Nat):=by unfold nF;rw[if_neg hw];omega
     refine dE (kB DR.mono G10 (b0 (VT.to (bQ hr lw aV (bW (bW (d:=Dp dk.rule) (ae 10 rfl) aA (bH (j:=2) rfl)) aA aw) aO) (by rw[bO];exact decide_eq_false hw)) bL) rfl λσ11 Qu Qv Yb=>rest σ11 Qu Qv ?_)
     rw[<-ez];exact Yb
   ·rw[if_neg hc]at qq
    have hc:(full||decide (0<m%4))=false:=by simpa using hc
    refine dF (kB DR.mono G8 (b0 (VT.to (jx (jy (ae 2 rfl) rfl) (λ_=>xl (cv (ae 11 rfl) aA (by decide)) aA)) hc) bL) rfl λσ9 Ha9 Hb9 G9=>qq σ9 Ha9 Hb9 (G9.forget DR.mono ⟨.inr rfl,.inr rfl,.inr rfl,.inr rfl,.inr rfl,.inl rfl,.inl rfl,.inl rfl,.inl rfl,.inr rfl,.inl rfl,.inl rfl,trivial⟩ rfl))
  rw[ck,ao]at G6;obtain⟨Hc6,_,f6⟩:=G6.done (i:=9) rfl DR.rep;exact P_ (bf (cg (eV (aq (ae 4 rfl) (aq (ae 9 rfl) aQ))))) f6 Vg
end
def MJ(pk:List (Str×aj))(to:Str):Int:=match gE pk to with
 |some (.list xs)=>xs.length
 |_=>0
def C7(p:Pl)(to:Str):Int:=match gE (iR p) to with
 |some (.int r)=>r
 |_=>0
abbrev Ld:=Option (List aj×Int)
def Rj:Ld->aj
 |none=>.none
 |some q=>.tuple [.tuple q.1,.int q.2]
def J3(p:Pl)(pk:List (Str×aj))(to:Str)(gs:List aj):Bool:=decide (to="")||decide (MJ pk to+gs.length<=C7 p to)
def uB(p:Pl)(pk:List (Str×aj))(time:Int)(to:Str):Ld->Bool
 |none=>false
 |some q=>decide (q.2<=time) && !J3 p pk to q.1
def GY(p:Pl)(pk:List (Str×aj))(to:Str):Prop:=to≠""->∃xs r,gE pk to=some (.list xs)/\gE (iR p) to=some (.int r)
theorem GY.at{p:Pl}{pk:List (Str×aj)}{to:Str}(h:GY p pk to)(hn:to≠""):∃xs:List aj,gE pk to=some (.list xs)/\gE (iR p) to=some (.int (C7 p to))/\MJ pk to=xs.length:=by
 obtain⟨xs,r,h1,h2⟩:=h hn;refine⟨xs,h1,?_,?_⟩
 ·unfold C7;rw[h2]
 ·unfold MJ;rw[h1]
section
open L2
theorem J4{X:Cx}{δ:List Slot}{pos:Pos}{c:bR}{k:Bool}{body rest:List gZ}{o:Out}(h:VT X c δ k)(hr:E8 o=true)(h1:k=true->uT X body δ o)(h2:k=false->uT X rest δ o):uT X (.If c body [] pos::rest) δ o:=by
 cases k with
 |true=>exact dH (dN h (h1 rfl)) hr
 |false=>exact aL (b0 h bL) (h2 rfl)
end
section
variable{P:bo}{w:bX}{K:ai}{mg:Str->Option av}{base:cK}{f:aK}{k:Nat}
abbrev Vk:List Str:=["plant","places","to","goods"]
theorem Uv:cH Vk Vk (bP (top 21)):=⟨rfl,rfl,rfl,by decide +kernel,rfl,by decide +kernel,by decide +kernel⟩
def Rfr(ds:List aj)(d:aj):Prop:=∃(p:Pl)(pk:List (Str×aj))(to:Str)(gs:List aj),ds=[j5 p,eQ pk,.str to,.tuple gs]/\nA to/\GY p pk to/\d=.bool (J3 p pk to gs)
theorem Yc{fd:bS}(F:lg K "finds_room" "finds_room" (top 21) f fd)(n:Na mg):eU P w K mg base ky 1 f fd Vk (gW K Rfr):=
 jA F Uv (λ_ _ h=>by obtain⟨_,_,_,_,rfl,_⟩:=h;rfl) λ_ _ h=>by
  obtain⟨p,pk,to,gs,rfl,ot,ok,rfl⟩:=h;intro ix A outer s H E hr;unfold J3;by_cases ht:to=""
  ·refine bf (cg (VE.to (qI (k1:=true) (k2:=false) (VE.to (ow hr (bJ ot) aV (ae 2 rfl) aO) (by rw[bO,decide_eq_true ht])) (λz=>by cases z)) ?_))
   rw[decide_eq_true ht];rfl
  ·obtain⟨xs,h1,h2,h3⟩:=ok.at ht
   refine bf (cg (VE.to (qI (k1:=false) (VE.to (ow hr (bJ ot) aV (ae 2 rfl) aO) (by rw[bO,decide_eq_false ht])) (λ_=>je (SM (cI (jz (ds:=xs) (gF hr (ae 1 rfl) (ae 2 rfl) h1) n.len) (jU (ae 3 rfl) n.len)) (gF hr (mQ (ae 0 rfl) (uk p)) (ae 2 rfl) h2)))) ?_))
   rw[decide_eq_false ht,h3]
abbrev Vl:List Str:=["plant","places","load","time","to"]
theorem Uw:cH Vl Vl (bP (top 39)):=⟨rfl,rfl,rfl,by decide +kernel,rfl,by decide +kernel,by decide +kernel⟩
def Ris(ds:List aj)(d:aj):Prop:=∃(p:Pl)(pk:List (Str×aj))(ld:Ld)(time:Int)(to:Str),ds=[j5 p,eQ pk,Rj ld,.int time,.str to]/\nA to/\GY p pk to/\d=.bool (uB p pk time to ld)
theorem Yd{fd:bS}(F:lg K "is_stopped" "is_stopped" (top 39) f fd)(C1:bE P w K mg base 1 "finds_room" Vk (gW K Rfr)):eU P w K mg base ky 2 f fd Vl (gW K Ris):=
 jA F Uw (λ_ _ h=>by obtain⟨_,_,_,_,_,rfl,_⟩:=h;rfl) λ_ _ h=>by
  obtain⟨p,pk,ld,time,to,rfl,ot,ok,rfl⟩:=h;intro ix A outer s H E hr;cases ld with
  |none=>exact bf (cg (VE.to (kA (k1:=false) (k2:=false) (nM EV (Fj rfl) (ae 2 rfl) gk (fU _)) (λz=>by cases z)) rfl))
  |some q=>
   exact bf (cg (VE.to (kA (k1:=true) (nM EV (Fj rfl) (ae 2 rfl) gk (fU _)) (λ_=>kA (SN (ae 3 rfl) (bW (d:=.int q.2) (ae 2 rfl) aA (bH (j:=1) rfl))) (λ_=>je (t_ (bC C1 hr (aq (ae 0 rfl) (aq (ae 1 rfl) (aq (ae 4 rfl) (aq (bW (d:=.tuple q.1) (ae 2 rfl) aA (bH (j:=0) rfl)) aQ)))) ⟨p,pk,to,q.1,rfl,ot,ok,rfl⟩))))) rfl))
structure Qw(p:Pl)(pk lk:List (Str×aj))(L:Str->Ld):Prop where
 at_:∀d∈p.desks,gE lk d.name=some (Rj (L d.name))
 to:∀d∈p.desks,GY p pk d.to
def pJ(p:Pl)(pk:List (Str×aj))(L:Str->Ld)(time:Int):List Str:=(p.desks.filter λd=>uB p pk time d.to (L d.name)).map (·.name)
def Rk(p:Pl)(pk:List (Str×aj))(L:Str->Ld)(time:Int):aj->Option aj
 | .tuple (.str nm :: .str to::_)=>if uB p pk time to (L nm)=true then some (.str nm)else none
 |_=>none
theorem vi(p:Pl)(pk:List (Str×aj))(L:Str->Ld)(time:Int)(d:Dk):Rk p pk L time (df d)=if uB p pk time d.to (L d.name)=true then some (.str d.name)else none:=rfl
theorem A_(p:Pl)(pk:List (Str×aj))(L:Str->Ld)(time:Int):∀l:List Dk,(l.map df).filterMap (Rk p pk L time)=((l.filter λd=>uB p pk time d.to (L d.name)).map (·.name)).map .str
 | []=>rfl
 |d::l=>by
  rw[aH,lM];cases h:uB p pk time d.to (L d.name) with
  |true=>rw[c9 (f:=Rk p pk L time) (b:=.str d.name) (by rw[vi,h,if_pos rfl]),A_ p pk L time l];rfl
  |false=>rw[fX (f:=Rk p pk L time) (by rw[vi,h,if_neg cu]),A_ p pk L time l];rfl
abbrev Vm:List Str:=["plant","places","loads","time"]
theorem Ux:cH Vm Vm (bP (top 38)):=⟨rfl,rfl,rfl,by decide +kernel,rfl,by decide +kernel,by decide +kernel⟩
def Ye(ds es:List aj):Prop:=∃(p:Pl)(pk lk:List (Str×aj))(L:Str->Ld)(time:Int),ds=[j5 p,eQ pk,eQ lk,.int time]/\j3 p/\Qw p pk lk L/\es=(pJ p pk L time).map .str
theorem N9{p:Pl}(hp:j3 p){d:Dk}(hd:d∈p.desks):nA d.to:=by
 rcases(hp.desks d hd).2.1 with e|e
 ·rw[e];show cJ _=true;decide +kernel
 ·exact e.ok.2
theorem Yf{fd:bS}(F:lg K "stopped" "stopped" (top 38) f fd)(C1:bE P w K mg base 2 "is_stopped" Vl (gW K Ris)):eU P w K mg base ky 3 f fd Vm (Bv K Ye):=
 DW F Ux (λ_ _ h=>by obtain⟨_,_,_,_,_,rfl,_⟩:=h;rfl) λ_ _ h=>by
  obtain⟨p,pk,lk,L,time,rfl,hp,hL,rfl⟩:=h;intro ix A outer s H E hr;have nc:(["desk","plant","places","loads","time"]:List Str).Nodup:=by decide +kernel
  have Je:=hp.dn;refine bf (ri (VO.to (fe (own:=["desk"]) (cap:=[0,1,2,3]) (N:=["desk","plant","places","loads","time"]) (tgt:=.one 0) (F:=Rk p pk L time) (ds:=p.desks.map df) rfl ⟨rfl,by decide +kernel,by decide +kernel,rfl,rfl,?_⟩ (iQ (mQ (ae 0 rfl) (x3 p))) (λf s3 H3=>bM (i:=0) nc rfl (bj rfl)) rfl
   (small (by rw[ao];omega)) (λd hd=>?_)) (A_ p pk L time p.desks)))
  ·intro j hj
   simp only[aI,bG,or_false]at hj;rcases hj with rfl|rfl|rfl|rfl
   ·exact⟨(by show(0:Nat)<4;decide),bj rfl,rfl⟩
   ·exact⟨(by show(1:Nat)<4;decide),bj rfl,rfl⟩
   ·exact⟨(by show(2:Nat)<4;decide),bj rfl,rfl⟩
   ·exact⟨(by show(3:Nat)<4;decide),bj rfl,rfl⟩
  ·obtain⟨z,hz,rfl⟩:=aG.mp hd
   refine⟨_,rfl,λf s3 H3=>?_,λr jo f s3 H3=>?_⟩
   ·refine tX (VT.to (jy (bC C1 hr (aq (ae 1 rfl) (aq (ae 2 rfl) (aq (gF (x:=z.name) (d:=Rj (L z.name)) hr (ae 3 rfl) (bW (d:=.str z.name) (ae 0 rfl) aA (bH (j:=0) rfl)) (hL.at_ z hz)) (aq (ae 4 rfl) (aq (bW (d:=.str z.to) (ae 0 rfl) aA (bH (j:=1) rfl)) aQ))))) ⟨p,pk,L z.name,time,z.to,rfl,N9 hp hz,hL.to z hz,rfl⟩) rfl) ?_)
    rw[vi];cases uB p pk time z.to (L z.name)<;>rfl
   ·rw[vi]at jo
    split at jo
    ·cases jo;exact bW (ae 0 rfl) aA (bH (j:=0) rfl)
    ·cases jo
abbrev Nsh:List Str:=["_law_h","_law_places","_law_loads","_law_time","_law_desk","_law_load"]
theorem N_:cH Nsh ["_law_h","_law_places","_law_loads","_law_time","_law_desk"] (bP (top 53)):=⟨rfl,rfl,rfl,by decide +kernel,rfl,by decide +kernel,by decide +kernel⟩
def Rsh(ds:List aj)(d:aj):Prop:=∃(p:Pl)(pk lk:List (Str×aj))(L:Str->Ld)(time:Int)(dk:Dk),ds=[gP p,eQ pk,eQ lk,.int time,df dk]/\(p.lines.map (·.1)).Nodup/\nA dk.to/\GY p pk dk.to/\gE lk dk.name=some (Rj (L dk.name))/\d=.bool (uB p pk time dk.to (L dk.name))
theorem C8(p:Pl):p.lines.map kH=(iR p).map L2.pairD:=by unfold iR;rw[aS];rfl
theorem Yg{fd:bS}(F:lg K "_law_is_shut" "_law_is_shut" (top 53) f fd)(n:Na mg)(md:mg "dict"=none):eU P w K mg base ky 1 f fd ["_law_h","_law_places","_law_loads","_law_time","_law_desk"] (gW K Rsh):=
 jA F N_ (λ_ _ h=>by obtain⟨_,_,_,_,_,_,rfl,_⟩:=h;rfl) λ_ _ h=>by
  obtain⟨p,pk,lk,L,time,dk,rfl,Iw,ot,ok,hl,rfl⟩:=h;intro ix A outer s H E hr;have nd:Nsh.Nodup:=N_.nd;refine aL (cC 5 (d:=Rj (L dk.name)) (gF hr (ae 2 rfl) (bW (d:=.str dk.name) (ae 4 rfl) aA (bH (j:=0) rfl)) hl) nd) ?_
  generalize L dk.name=ld at *
  cases ld with
  |none=>exact dH (dN (VT.to (Am (k1:=true) (k2:=true) (k3:=true) (VT.to (iE kY oC (ae 5 rfl) gk (fU _)) rfl) (λz=>by cases z) (λz=>by cases z)) rfl) (bf (cg B1))) rfl
  |some q=>
   show uT _ _ _ (.rt (.bool (decide (q.2<=time) && !(decide (dk.to="")||decide (MJ pk dk.to+q.1.length<=C7 p dk.to)))))
   refine J4 (k:=decide (time<q.2)||decide (dk.to="")) (VT.to (Am (k1:=false) (k2:=decide (time<q.2)) (k3:=decide (dk.to="")) (VT.to (iE kY oC (ae 5 rfl) gk (fU _)) rfl) (λ_=>xl (bW (d:=.int q.2) (ae 5 rfl) aA (bH (j:=1) rfl)) (ae 3 rfl)) (λ_ _=>VT.to (bQ hr (bJ ot) aV (bW (d:=.str dk.to) (ae 4 rfl) aA (bH (j:=1) rfl)) aO) (by rw[bO]))) rfl) rfl (λhk=>?_) λhk=>?_
   ·refine bf (cg (VE.to B1 ?_))
    congr 1
    by_cases h1:time<q.2
    ·rw[decide_eq_false (show ¬q.2<=time by omega)];rfl
    ·rw[decide_eq_false h1,Bo]at hk
     rw[hk];simp
   ·obtain⟨h1,h2⟩:=Bool.or_eq_false_iff.mp hk
    have h1:=of_decide_eq_false h1;have h2:=of_decide_eq_false h2;obtain⟨xs,e1,e2,e3⟩:=ok.at h2;refine bf (cg (VE.to (M_ (cI (jz (ds:=xs) (gF hr (ae 1 rfl) (bW (d:=.str dk.to) (ae 4 rfl) aA (bH (j:=1) rfl)) e1) n.len) (jU (ds:=q.1) (bW (d:=.tuple q.1) (ae 5 rfl) aA (bH (j:=0) rfl)) n.len)) (gF hr (Ce (l:=iR p) (VE.to (gF hr (ae 0 rfl) aO (xO p)) (by rw[C8])) (by rw[jG];exact Iw) rfl md) (bW (d:=.str dk.to) (ae 4 rfl) aA (bH (j:=1) rfl)) e2)) ?_))
    rw[decide_eq_true (show q.2<=time by omega),decide_eq_false h2,e3,jl,Bo]
    congr 1
    by_cases h3:(xs.length:Int)+q.1.length<=C7 p dk.to
    ·rw[decide_eq_true h3,decide_eq_false (by omega)];rfl
    ·rw[decide_eq_false h3,decide_eq_true (by omega)];rfl
end
theorem MK{kv:List (Str×aj)}{y:Str}{d:aj}{q:Str×aj}(h:q∈mS kv y d):q∈kv\/q=(y,d):=by
 unfold mS at h
 split at h
 ·unfold sC at h
  obtain⟨z,hz,rfl⟩:=aG.mp h;by_cases e:z.1=y
  ·rw[if_pos e,e];exact .inr rfl
  ·rw[if_neg e];exact .inl hz
 ·rcases bZ.mp h with h|h
  ·exact .inl h
  ·exact .inr (by simpa using h)
theorem C9{kv:List (Str×aj)}{y:Str}{d:aj}:(mS kv y d).map (·.1)=if(kv.any λq=>decide (q.1=y))=true then kv.map (·.1)else kv.map (·.1) ++ [y]:=by
 unfold mS
 split
 ·unfold sC
  rw[aS];refine gK λz _=>?_
  by_cases e:z.1=y
  ·simp only[Function.comp,if_pos e]
  ·simp only[Function.comp,if_neg e]
 ·rw[aU];rfl
theorem wD{kv:List (Str×aj)}{y x:Str}{d:aj}(h:x∈kv.map (·.1)\/x=y):x∈(mS kv y d).map (·.1):=by
 rw[C9]
 split
 ·rename_i e
  rcases h with h|rfl
  ·exact h
  ·obtain⟨z,hz,e⟩:=lL.mp e
   exact aG.mpr ⟨z,hz,of_decide_eq_true e⟩
 ·rcases h with h|rfl
  ·exact dX _ h
  ·exact b9 _ (by simp)
theorem GZ{kv:List (Str×aj)}{y:Str}{d:aj}(h:(kv.map (·.1)).Nodup):((mS kv y d).map (·.1)).Nodup:=by
 rw[C9]
 split
 ·exact h
 ·rename_i e
  refine cZ.mpr ⟨h,by simp,λa ha b hb z=>?_⟩
  obtain rfl:b=y:=by simpa using hb
  obtain⟨q,hq,rfl⟩:=aG.mp ha;exact e (lL.mpr ⟨q,hq,decide_eq_true z⟩)
def Ba(d:aj):Prop:=∃ns:List Int,d=.list (ns.map .int)
def G_(d:aj):Prop:=d=.none\/∃(ns:List Int)(t:Int),d=.tuple [.tuple (ns.map .int),.int t]
theorem vL(lo:Int)(n:Nat):∃ns:List Int,mU lo n=ns.map .int:=⟨(aW n).map λ(i:Nat)=>lo+(i:Int),by unfold mU;rw[aS];rfl⟩
structure Tab(φ:aj->Prop)(kv:List (Str×aj)):Prop where
 nd:(kv.map (·.1)).Nodup
 all:∀q∈kv,φ q.2
theorem Tab.put{φ:aj->Prop}{kv:List (Str×aj)}{y:Str}{d:aj}(h:Tab φ kv)(hd:φ d):Tab φ (mS kv y d):=⟨GZ h.nd,λq hq=>by
 rcases MK hq with z|rfl
 ·exact h.all q z
 ·exact hd⟩
theorem Tab.at{φ:aj->Prop}{kv:List (Str×aj)}(h:Tab φ kv){x:Str}(hx:x∈kv.map (·.1)):∃d,gE kv x=some d/\φ d:=by
 obtain⟨q,hq,rfl⟩:=aG.mp hx;exact⟨q.2,L2.kE h.nd q hq,h.all q hq⟩
theorem yh(lo:Int)(n:Nat):Ba (.list (mU lo n)):=by
 obtain⟨ns,e⟩:=vL lo n;exact⟨ns,by rw[e]⟩
theorem J5(cells:List Int)(gates:List Str):∀k,Tab Ba (sX cells gates k).2
 |0=>⟨kP,λq h=>by cases h⟩
 |k+1=>(J5 cells gates k).put (yh _ _)
theorem J6(cells:List Int)(full:Bool)(lines:List (Str×Int)){st:FG}(h:Tab Ba st.2):∀k,Tab Ba (pV cells full lines st k).2/\∀j,j<k->(lines.getD j FH).1∈(pV cells full lines st k).2.map (·.1)
 |0=>⟨h,λj hj=>absurd hj (Nat.not_lt_zero _)⟩
 |k+1=>by
  obtain⟨h1,h2⟩:=J6 cells full lines h k;refine⟨h1.put (yh _ _),λj hj=>wD ?_⟩
  by_cases e:j=k
  ·subst e;exact .inr rfl
  ·exact .inl (h2 j (by omega))
theorem J7(cells:List Int)(full:Bool)(desks:List Dk)(n:Int):∀k,Tab G_ (nW cells full desks n k).2/\∀j,j<k->(desks.getD j Bw).name∈(nW cells full desks n k).2.map (·.1)
 |0=>⟨⟨kP,λq h=>by cases h⟩,λj hj=>absurd hj (Nat.not_lt_zero _)⟩
 |k+1=>by
  obtain⟨h1,h2⟩:=J7 cells full desks n k;have hk:∀j,j<k+1->(desks.getD j Bw).name∈(nW cells full desks n k).2.map (·.1)\/(desks.getD j Bw).name=(desks.getD k Bw).name:=λj hj=>by
   by_cases e:j=k
   ·subst e;exact .inr rfl
   ·exact .inl (h2 j (by omega))
  show Tab G_ (lA _ _ _ _).2/\∀j,j<k+1->_∈(lA _ _ _ _).2.map (·.1)
  unfold lA
  split
  ·obtain⟨ns,e⟩:=vL (nW cells full desks n k).1 (nF (GX cells k) (desks.getD k Bw))
   exact⟨(h1.put (.inl rfl)).put (.inr ⟨ns,_,by rw[e]⟩),λj hj=>wD (.inl (wD (hk j hj)))⟩
  ·exact⟨h1.put (.inl rfl),λj hj=>wD (hk j hj)⟩
def Bb(lk:List (Str×aj))(nm:Str):Ld:=match gE lk nm with
 |some (.tuple [.tuple gs,.int t])=>some (gs,t)
 |_=>none
theorem ML{lk:List (Str×aj)}{nm:Str}{d:aj}(h:gE lk nm=some d)(hd:G_ d):gE lk nm=some (Rj (Bb lk nm)):=by
 unfold Bb;rw[h];rcases hd with rfl|⟨ns,t,rfl⟩<;>rfl
theorem Uy{p:Pl}(g:sS p)(cells:List Int)(full:Bool):Tab Ba (pW p cells full).2/\Tab G_ (C5 p cells full).2/\Qw p (pW p cells full).2 (C5 p cells full).2 (Bb (C5 p cells full).2):=by
 obtain⟨a1,a2⟩:=J6 cells full p.lines (J5 cells p.gates p.gates.length) p.lines.length;obtain⟨b1,b2⟩:=J7 cells full p.desks (pW p cells full).1 p.desks.length;refine⟨a1,b1,⟨λd hd=>?_,λd hd hn=>?_⟩⟩
 ·obtain⟨j,hj,rfl⟩:=rQ.mp hd
  have:=b2 j hj;rw[show p.desks.getD j Bw=p.desks[j]from by rw[ax,au hj];rfl]at this
  obtain⟨z,hz,iz⟩:=b1.at this;exact ML hz iz
 ·obtain⟨_,_,Q5⟩:=g.dk d hd
  rcases Q5 with e|⟨r,hr,_⟩
  ·exact absurd e hn
  ·obtain⟨j,hj,ej⟩:=rQ.mp hr
   have:=a2 j hj;rw[show p.lines.getD j FH=p.lines[j]from by rw[ax,au hj];rfl,ej]at this
   obtain⟨z,hz,ns,rfl⟩:=a1.at this;have Gw:((iR p).map (·.1)).Nodup:=by rw[jG];exact(cZ.mp g.pn).2.1
   exact⟨_,r,hz,L2.kE Gw (d.to,fj r) (aG.mpr ⟨_,hr,rfl⟩)⟩
theorem J8(ns:List Int):∀d∈ns.map fj,Dn d:=λd hd=>by
 obtain⟨i,_,rfl⟩:=aG.mp hd;exact .int i
theorem Ba.SX{d:aj}(h:Ba d):Dn d:=by
 obtain⟨ns,rfl⟩:=h;exact .lst (J8 ns)
theorem Ba.lay{d:aj}(h:Ba d):Lay 20 d:=by
 obtain⟨ns,rfl⟩:=h;exact Aq (n:=19) λd hd=>by obtain⟨i,_,rfl⟩:=aG.mp hd;exact cx _ i
theorem G_.lay{d:aj}(h:G_ d):Lay 20 d:=by
 rcases h with rfl|⟨ns,t,rfl⟩
 ·exact Li _
 ·refine Ar (n:=19) λd hd=>?_
  rcases aI.mp hd with rfl|hd
  ·exact Ar (n:=18) λd hd=>by obtain⟨i,_,rfl⟩:=aG.mp hd;exact cx _ i
  ·obtain rfl:d=.int t:=by simpa using hd
   exact cx _ t
theorem J9(cells:List Int)(gates:List Str):∀k,(sX cells gates k).2.length<=k
 |0=>aD _
 |k+1=>b_ (pI _ _ _) (pR (J9 cells gates k))
theorem J_(cells:List Int)(full:Bool)(lines:List (Str×Int))(st:FG):∀k,(pV cells full lines st k).2.length<=st.2.length+k
 |0=>aD _
 |k+1=>b_ (pI _ _ _) (pR (J_ cells full lines st k))
theorem Qx{p:Pl}(hp:j3 p)(cells:List Int)(full:Bool):(pW p cells full).2.length<=120:=by
 have h1:=J_ cells full p.lines (uA p cells) p.lines.length;have h2:=J9 cells p.gates p.gates.length;have h3:=hp.gn;have h4:=hp.ln;unfold pW;have h5:(uA p cells).2.length<=p.gates.length:=h2;omega
theorem G'(p:Pl)(pk:List (Str×aj))(L:Str->Ld)(time:Int):(pJ p pk L time).length<=p.desks.length:=by
 unfold pJ;rw[ao];exact List.length_filter_le _ _
theorem J'{p:Pl}(hp:j3 p)(pk:List (Str×aj))(L:Str->Ld)(time:Int):∀x∈pJ p pk L time,nA x:=λx hx=>by
 obtain⟨d,hd,rfl⟩:=aG.mp hx;exact(hp.desks d (ym.mp hd).1).1.ok.2
def Vn(pk:List (Str×aj)):aj->Option aj
 | .str x=>(gE pk x).map λv=>.tuple [.str x,v]
 |_=>none
theorem Kc{pk:List (Str×aj)}(h:(pk.map (·.1)).Nodup):∀l:List (Str×aj),(∀q∈l,q∈pk)->(l.map λq=>aP q.1).filterMap (Vn pk)=l.map L2.pairD
 | [],_=>rfl
 |q::l,hl=>by
  rw[aH,c9 (f:=Vn pk) (b:=L2.pairD q) (by show(gE pk q.1).map _=_;rw[L2.kE h q (hl q aN)];rfl),Kc h l (λz hz=>hl z (aT _ hz))]
  rfl
section
variable{P:bo}{w:bX}{K:ai}{mg:Str->Option av}{base:cK}{f:aK}{k:Nat}
abbrev Vo:List Str:=["_law_h","_law_places","_law_loads","_law_time"]
theorem Uz:cH Vo Vo (bP (top 54)):=⟨rfl,rfl,rfl,by decide +kernel,rfl,by decide +kernel,by decide +kernel⟩
def Rsu(ds es:List aj):Prop:=∃(p:Pl)(pk lk:List (Str×aj))(L:Str->Ld)(time:Int),ds=[gP p,eQ pk,eQ lk,.int time]/\j3 p/\(p.lines.map (·.1)).Nodup/\Qw p pk lk L/\es=(pJ p pk L time).map .str
theorem Yh{fd:bS}(F:lg K "_law_shut" "_law_shut" (top 54) f fd)(C1:bE P w K mg base 1 "_law_is_shut" ["_law_h","_law_places","_law_loads","_law_time","_law_desk"] (gW K Rsh)):eU P w K mg base ky 2 f fd Vo (Bv K Rsu):=
 DW F Uz (λ_ _ h=>by obtain⟨_,_,_,_,_,rfl,_⟩:=h;rfl) λ_ _ h=>by
  obtain⟨p,pk,lk,L,time,rfl,hp,Gw,hL,rfl⟩:=h;intro ix A outer s H E hr;have nc:(["_law_desk","_law_h","_law_places","_law_loads","_law_time"]:List Str).Nodup:=by decide +kernel
  have Je:=hp.dn;refine bf (ri (VO.to (fe (own:=["_law_desk"]) (cap:=[0,1,2,3]) (N:=["_law_desk","_law_h","_law_places","_law_loads","_law_time"]) (tgt:=.one 0) (F:=Rk p pk L time) (ds:=p.desks.map df) rfl ⟨rfl,by decide +kernel,by decide +kernel,rfl,rfl,?_⟩ (iQ (gF hr (ae 0 rfl) aO (xP p))) (λf s3 H3=>bM (i:=0) nc rfl (bj rfl)) rfl
   (small (by rw[ao];omega)) (λd hd=>?_)) (A_ p pk L time p.desks)))
  ·intro j hj
   simp only[aI,bG,or_false]at hj;rcases hj with rfl|rfl|rfl|rfl
   ·exact⟨(by show(0:Nat)<4;decide),bj rfl,rfl⟩
   ·exact⟨(by show(1:Nat)<4;decide),bj rfl,rfl⟩
   ·exact⟨(by show(2:Nat)<4;decide),bj rfl,rfl⟩
   ·exact⟨(by show(3:Nat)<4;decide),bj rfl,rfl⟩
  ·obtain⟨z,hz,rfl⟩:=aG.mp hd
   refine⟨_,rfl,λf s3 H3=>?_,λr jo f s3 H3=>?_⟩
   ·refine tX (VT.to (jy (bC C1 hr (aq (ae 1 rfl) (aq (ae 2 rfl) (aq (ae 3 rfl) (aq (ae 4 rfl) (aq (ae 0 rfl) aQ))))) ⟨p,pk,lk,L,time,z,rfl,Gw,N9 hp hz,hL.to z hz,hL.at_ z hz,rfl⟩) rfl) ?_)
    rw[vi];cases uB p pk time z.to (L z.name)<;>rfl
   ·rw[vi]at jo
    split at jo
    ·cases jo;exact bW (ae 0 rfl) aA (bH (j:=0) rfl)
    ·cases jo
abbrev Vp:List Str:=["_law_found","_law_due"]
theorem UA:cH Vp Vp (bP (top 55)):=⟨rfl,rfl,rfl,by decide +kernel,rfl,by decide +kernel,by decide +kernel⟩
def Yi(ds:List aj)(d:aj):Prop:=∃ts:List Str,ds=[dz ts,dz ts]/\ts.length<=1000/\(∀x∈ts,nA x)/\d=.bool true
theorem Yj{fd:bS}(F:lg K "_law_texts" "_law_texts" (top 55) f fd)(n:Na mg)(kt:Ka K)(mz:mg "zip"=none):eU P w K mg base ky 1 f fd Vp (gW K Yi):=
 jA F UA (λ_ _ h=>by obtain⟨_,rfl,_⟩:=h;rfl) λ_ _ h=>by
  obtain⟨ts,rfl,hl,ho,rfl⟩:=h;intro ix A outer s H E hr;have nc:(["_law_one","_law_other"]:List Str).Nodup:=by decide +kernel
  refine aL (b0 (VT.to (jx (k1:=false) (k2:=false) (VT.to (qF (jy (Ir (tn:="list") (ae 0 rfl) rfl kt.ll rfl n.Zo n.lst rfl) rfl)) rfl) (λ_=>VT.to (qD hr (cx 20 _) (cx 20 _) (jz (ds:=ts.map .str) (ae 0 rfl) n.len) (jz (ds:=ts.map .str) (ae 1 rfl) n.len)) (by rw[jW,decide_eq_true rfl];rfl))) rfl) bL) ?_
  refine bf (cg (VE.to (iU (oy rfl) zp (aq (VO.ve (VO.to (fe (own:=["_law_one","_law_other"]) (cap:=[]) (N:=["_law_one","_law_other"]) (cl:=[]) (tgt:=.tup [0,1]) (F:=U6) (ds:=vY (ts.map .str) (ts.map .str)) rfl ⟨rfl,by decide +kernel,by decide +kernel,rfl,rfl,by simp⟩ (Av .lst .lst (ae 0 rfl) (ae 1 rfl) mz) (λf s3 H3=>gf rfl (bU (bM (i:=0) nc rfl (bj rfl)) (bU (bM (i:=1) nc rfl (bj rfl)) eR))) rfl
   (small (by rw[qK];simp only[ao];omega)) (λd hd=>?_)) (AU _))) aQ) n.all rfl) (by rw[zy])))
  obtain⟨i,hi⟩:=List.getElem?_of_mem hd
  obtain⟨x,y,h1,h2,rfl⟩:=B9 hi;rw[h1]at h2;cases h2;rw[aJ]at h1;cases hx:ts[i]? with
  |none=>rw[hx]at h1;cases h1
  |some t=>
   rw[hx]at h1;cases h1;have ot:=ho t (bA hx);refine⟨_,rfl,λf s3 H3=>fA,λr jo f s3 H3=>?_⟩
   cases jo;exact VE.to (kA (k1:=true) (Ir (tn:="str") (ae 0 rfl) rfl kt.ss rfl n.Zo n.str rfl) (λ_=>je (VE.to (ow hr (bJ ot) (bJ ot) (ae 0 rfl) (ae 1 rfl)) (by rw[bO,decide_eq_true rfl])))) rfl
end
section
variable{P:bo}{w:bX}{K:ai}{mg:Str->Option av}{base:cK}{f:aK}{k:Nat}
abbrev Nas:List Str:=["_law_plant_here","_law_h","_law_drawn","_law_time","_law_places","_law_loads","_law_due","_law_handed","_law_found"]
theorem Oa:cH Nas ["_law_plant_here","_law_h","_law_drawn","_law_time"] (bP (top 56)):=⟨rfl,rfl,rfl,by decide +kernel,rfl,by decide +kernel,by decide +kernel⟩
def Ras(ds:List aj)(d:aj):Prop:=∃(p:Pl)(cells:List Int)(full:Bool)(time:Int),ds=[j5 p,gP p,.tuple [eQ (pW p cells full).2,eQ (C5 p cells full).2],.int time]/\j3 p/\sS p/\d=.bool true
theorem Yk{fd:bS}(F:lg K "_law_asked" "_law_asked" (top 56) f fd)(n:Na mg)(md:mg "dict"=none)(C1:bE P w K mg base 2 "_law_shut" Vo (Bv K Rsu))(C2:bE P w K mg base 3 "stopped" Vm (Bv K Ye))(C3:bE P w K mg base 1 "_law_texts" Vp (gW K Yi)):eU P w K mg base ky 4 f fd ["_law_plant_here","_law_h","_law_drawn","_law_time"] (gW K Ras):=
 jA F Oa (λ_ _ h=>by obtain⟨_,_,_,_,rfl,_⟩:=h;rfl) λ_ _ h=>by
  obtain⟨p,cells,full,time,rfl,hp,hg,rfl⟩:=h;intro ix A outer s H E hr;have nd:Nas.Nodup:=Oa.nd;have kF:fc 1 _:=hr.mono (by omega)
  have NM:fc 2 _:=hr.mono (by omega)
  have Rm:fc 3 _:=hr.mono (by omega)
  obtain⟨Qy,tb2,hL⟩:=Uy hg cells full;have Gw:=Qx hp cells full;have Wr:(p.lines.map (·.1)).Nodup:=(cZ.mp hg.pn).2.1
  generalize hpk:(pW p cells full).2=pk at *
  generalize zdp:(C5 p cells full).2=lk at *
  have Je:=hp.dn;have hsl:=G' p pk (Bb lk) time;have hso:=J' hp pk (Bb lk) time;have Q_:Ye [j5 p,eQ pk,eQ lk,.int time] ((pJ p pk (Bb lk) time).map .str):=⟨p,pk,lk,Bb lk,time,rfl,hp,hL,rfl⟩
  generalize hts:pJ p pk (Bb lk) time=ts at *
  have htx:Yi [dz ts,dz ts] (.bool true):=⟨ts,rfl,by omega,hso,rfl⟩
  refine aL (Px (.tup [4,5]) (ae 2 rfl) (gf rfl (bU (bM (i:=4) nd rfl (cP rfl)) (bU (bM (i:=5) nd rfl (bj rfl)) eR))) rfl) ?_
  refine aL (cC 6 (d:=dz ts) (VO.ve (jV C1 NM (aq (ae 1 rfl) (aq (ae 4 rfl) (aq (ae 5 rfl) (aq (ae 3 rfl) aQ)))) ⟨p,pk,lk,Bb lk,time,rfl,hp,Wr,hL,by rw[hts]⟩)) nd) ?_
  have nc:(["_law_name","_law_places"]:List Str).Nodup:=by decide +kernel
  refine aL (cC 7 (d:=.tuple [eQ pk,eQ lk]) (eV (aq (Ce (l:=pk) (VO.ve (Gr (kvs:=pk) (δ':=[.un,.un,.un,.un,.val (Gq pk),.un,.un,.un,.un]) 4 rfl rfl (λj sl e=>?_) (λq hq=>(Qy.all q hq).SX) (λd hd=>?_)
   (VO.to (fe (own:=["_law_name"]) (cap:=[4]) (N:=["_law_name","_law_places"]) (tgt:=.one 0) (F:=Vn pk) (ds:=pk.map λq=>.str q.1) rfl ⟨rfl,by decide +kernel,by decide +kernel,rfl,rfl,?_⟩ (Jk (ae 4 rfl)) (λf s3 H3=>bM (i:=0) nc rfl (bj rfl)) rfl
    (small (by rw[ao];omega)) (λd hd=>?_)) (Kc Qy.nd pk λq hq=>hq)))) Qy.nd rfl md) (aq (Jm (ae 5 rfl) md) aQ))) nd) ?_
  ·match j,e with
   |0,e=>cases e;exact .inl rfl
   |1,e=>cases e;exact .inl rfl
   |2,e=>cases e;exact .inl rfl
   |3,e=>cases e;exact .inl rfl
   |4,e=>cases e;exact .inr ⟨rfl,rfl⟩
   |5,e=>cases e;exact .inl rfl
   |6,e=>cases e;exact .inl rfl
   |7,e=>cases e;exact .inl rfl
   |8,e=>cases e;exact .inl rfl
   |m+9,e=>simp at e
  ·obtain⟨q,hq,rfl⟩:=aG.mp hd
   refine .tup λz hz=>?_
   rcases aI.mp hz with rfl|hz
   ·exact .str _
   ·obtain rfl:z=q.2:=by simpa using hz
    exact(Qy.all q hq).SX
  ·intro j hj
   obtain rfl:j=4:=by simpa using hj
   exact⟨(by show(4:Nat)<9;decide),bj rfl,rfl⟩
  ·obtain⟨q,hq,rfl⟩:=aG.mp hd
   have hv:=L2.kE Qy.nd q hq;have er:Vn pk (.str q.1)=some (.tuple [.str q.1,q.2]):=by show(gE pk q.1).map _=_;rw[hv];rfl
   refine⟨_,rfl,λf s3 H3=>by rw[er];exact fA,λr jo f s3 H3=>?_⟩
   rw[er]at jo;cases jo;obtain⟨ns,F4⟩:=Qy.all q hq;refine VE.to (eV (aq (ae 0 rfl) (aq (VO.ve (zh tP Pt (aq (Jl hr (ae 1 rfl) (ae 0 rfl) (d:=.list (ns.map .int)) (by rw[hv,F4])) aQ) n.lst rfl)) aQ))) ?_
   rw[F4]
  have g0:oO [eQ pk,eQ lk] 0=some (eQ pk):=bH (j:=0) rfl;have g1:oO [eQ pk,eQ lk] 1=some (eQ lk):=bH (j:=1) rfl;refine aL (kz 8 (ds:=ts.map .str) (jV C2 Rm (aq (ae 0 rfl) (aq (bW (ae 7 rfl) aA g0) (aq (bW (ae 7 rfl) aA g1) (aq (ae 3 rfl) aQ)))) Q_) nd) ?_
  refine aL (b0 (VT.to (qF (jy (Lh 8 (ds:=ts.map .str) rfl (bC C3 kF (aq (ae 8 rfl) (aq (ae 6 rfl) aQ)) htx) rfl) rfl)) rfl) bL) ?_
  refine aL (iF 8 (ds:=ts.map .str) rfl aO (gN (by rw[ao];omega))) ?_
  refine bf (cg (VE.to (kA (k1:=true) (bC C3 kF (aq (VO.ve (jV C2 Rm (aq (ae 0 rfl) (aq (bW (ae 7 rfl) aA g0) (aq (bW (ae 7 rfl) aA g1) (aq (ae 3 rfl) aQ)))) Q_)) (aq (ae 6 rfl) aQ)) htx) (λ_=>je (L6 hr (λq hq=>(Qy.all q hq).lay) (λq hq=>(tb2.all q hq).lay) (ae 7 rfl) (eV (aq (ae 4 rfl) (aq (ae 5 rfl) aQ)))))) rfl))
end
theorem Bc(m:Int)(many:Nat):1<=cq (iG m many) many:=by
 have a1:0<=m/6%4:=aZ _ (by decide)
 unfold iG
 split
 ·rename_i h;show(1:Int)<=many;omega
 split
 ·show 1<=1+m/6%4;omega
 split
 ·show 1<=1+m/6%4;omega
 split
 ·show(1:Int)<=1;omega
 split
 ·show(1:Int)<=1;omega
 ·show(1:Int)<=1;omega
theorem MN(ns:List Int):MG (eX ns):=by
 have ok:=AY ns;obtain⟨g1,g3⟩:=iN (bK ns);obtain⟨p1,p6⟩:=jF (bK ns);have IK:(orderOf (bK ns)).length=(placesOf (bK ns)).length:=by
  unfold orderOf;rw[a7,cG,cj];have:=oB (bK ns) (n:=(placesOf (bK ns)).length) (by omega)
  omega
 have Ct:∀d∈bN (eZ ns) (orderOf (bK ns)) (linesOf (bK ns)),_:=λd hd=>AX (by omega) (by omega) hd
 have M7:∀d∈bN (eZ ns) (orderOf (bK ns)) (linesOf (bK ns)),1<=cq d.rule d.places.length:=λd hd=>by
  obtain⟨k,hk,rfl⟩:=aG.mp hd;exact Bc _ _
 refine⟨ok.gn,ok.ln,ok.dn,λq hq=>?_,λd hd=>?_⟩
 ·obtain⟨k,hk,rfl⟩:=aG.mp hq
  have mo:=mW (gA (bN (eZ ns) (orderOf (bK ns)) (linesOf (bK ns))) ((linesOf (bK ns)).getD k ""));have mb:maxOf (gA (bN (eZ ns) (orderOf (bK ns)) (linesOf (bK ns))) ((linesOf (bK ns)).getD k ""))<=12:=by
   rcases aI.mp mo.1 with h|h
   ·rw[h];decide
   ·obtain⟨d,hd,he⟩:=iX.mp h
    split at he
    ·rw[<-cY he];exact(Ct d hd).2.2.2.2.2
    ·cases he
  have ml:=mo.2 1 aN;have a1:0<=cn (bK ns) (20+k)%3:=aZ _ (by decide)
  have a2:cn (bK ns) (20+k)%3<3:=bw _ (by decide)
  show 0<=maxOf (gA _ _)+cn (bK ns) (20+k)%3/\maxOf (gA _ _)+cn (bK ns) (20+k)%3<=100;omega
 ·have h1:=M7 d hd
  obtain⟨_,_,_,h2,_,h3⟩:=Ct d hd;exact⟨h1,by omega,by omega⟩
theorem UB(cell:Int):MG (gu cell):=by
 have ok:=JZ cell;refine⟨ok.gn,ok.ln,ok.dn,λq hq=>?_,λd hd=>?_⟩
 ·obtain⟨k,hk,rfl⟩:=aG.mp hq
  have g:=ux cell ((k+(fu cell-1))%fu cell);show 0<=cq (j7 cell ((k+(fu cell-1))%fu cell)) 2+uH cell/64/((k:Int)+1)%2/\cq (j7 cell ((k+(fu cell-1))%fu cell)) 2+uH cell/64/((k:Int)+1)%2<=100;have a1:0<=uH cell/64/((k:Int)+1)%2:=aZ _ (by decide)
  have a2:uH cell/64/((k:Int)+1)%2<2:=bw _ (by decide)
  omega
 ·obtain⟨k,hk,rfl⟩:=A8 hd
  have g:=ux cell k;have l:(ic cell k).places.length=2:=(zG cell k).1;rw[l];show 1<=cq (j7 cell k) 2/\cq (j7 cell k) 2<=100/\2<=60;omega
structure Qz(p:Pl):Prop where
 ok:j3 p
 gd:sS p
 fl:MG p
 kn:p.kinds≠[]
 tx:uc (lu p)
theorem QB(ns:List Int):Qz (eX ns):=⟨AY ns,GQ ns,MN ns,(Et ns).1,GU ns⟩
theorem QC(cell:Int):Qz (gu cell):=⟨JZ cell,MC cell,UB cell,by show rE cell≠[];unfold rE;simp,MD cell⟩
def zH(ns:List Int)(m:Int):Pl:=if m%3=0 then gu m else eX ns
theorem Kd(ns:List Int)(m:Int):Qz (zH ns m):=by
 unfold zH
 split
 ·exact QC m
 ·exact QB ns
structure LawC(P:bo)(w:bX)(K:ai)(mg:Str->Option av)(base:cK):Prop where
 n:Na mg
 ca:bE P w K mg base 1 "_law_cell_at" ["_law_script","_law_k"] (gW K zu)
 mx:bE P w K mg base 1 "_law_mix" ["_law_cell","_law_k"] (gW K yM)
 pl:bE P w K mg base 4 "_law_plant" ["_law_script"] (gW K Z8)
 rg:bE P w K mg base 3 "_law_ring_plant" ["_law_cell"] (gW K Rrg)
 pt:bE P w K mg base 3 "_law_plant_text" ["_law_h"] (gW K Rpt)
 rp:bE P w K mg base 9 "read_plant" ["text"] (gW K Rrp)
 fl:bE P w K mg base 3 "_law_floor_drawn" ["_law_h","_law_cells","_law_full"] (gW K Rfl)
 as:bE P w K mg base 4 "_law_asked" ["_law_plant_here","_law_h","_law_drawn","_law_time"] (gW K Ras)
section
variable{P:bo}{w:bX}{K:ai}{mg:Str->Option av}{base:cK}{f:aK}{k:Nat}
abbrev QD:List Str:=["_law_script","_law_m","_law_h","_law_plant_here","_law_turn","_law_drawn"]
theorem Ke:cH QD ["_law_script"] (bP (top 57)):=⟨rfl,rfl,rfl,by decide +kernel,rfl,by decide +kernel,by decide +kernel⟩
def UC(ds:List aj)(d:aj):Prop:=∃ns:List Int,ds=[iV ns]/\ns.length<=63/\d=.bool true
theorem UD(C:LawC P w K mg base){ds:List aj}{d:aj}(h:UC ds d):zl P w K mg base QD "law" (top 57) f 9 ds (.rt d):=by
 obtain⟨ns,rfl,hn,rfl⟩:=h;intro ix A outer s H E hr;have n:=C.n;have nd:QD.Nodup:=Ke.nd;have kF:fc 1 _:=hr.mono (by omega)
 have Rm:fc 3 _:=hr.mono (by omega)
 have hr4:fc 4 _:=hr.mono (by omega)
 refine aL (cC 1 (d:=.int (cn (ns.getD 0 0) 90)) (bC C.mx kF (aq (bC C.ca kF (aq (ae 0 rfl) (aq aA aQ)) ⟨ns,0,rfl,rfl⟩) (aq aA aQ)) ⟨ns.getD 0 0,90,rfl,by decide,by decide,rfl⟩) nd) ?_
 refine aL (cC 2 (d:=gP (eX ns)) (bC C.pl hr4 (aq (ae 0 rfl) aQ) ⟨ns,rfl,rfl⟩) nd) ?_
 have hm0:=o8 (ns.getD 0 0) 90
 generalize cn (ns.getD 0 0) 90=m at *
 refine aL (δ':=[.val (iV ns),.val (.int m),.val (gP (zH ns m)),.un,.un,.un]) (Nc (k:=decide (m%3=0)) (VT.to (bQ hr (cx 20 _) (cx 20 _) (cv (ae 1 rfl) aA (by decide)) aA) (by rw[jW])) (λhk=>?_) λhk=>?_) ?_
 ·have e:zH ns m=gu m:=if_pos (of_decide_eq_true hk)
  rw[e];exact bf (cC 2 (bC C.rg Rm (aq (ae 1 rfl) aQ) ⟨m,rfl,rfl⟩) nd)
 ·have e:zH ns m=eX ns:=if_neg (of_decide_eq_false hk)
  rw[e];exact bL
 obtain⟨Ny,Yl,flp,Wf,otx⟩:=Kd ns m
 generalize zH ns m=p at *
 refine aL (cC 3 (d:=j5 p) (bC C.rp hr (aq (bC C.pt Rm (aq (ae 2 rfl) aQ) ⟨p,rfl,Ny,rfl⟩) aQ) ⟨lu p,CT p,rfl,otx,CV Ny Wf,Us Ny Yl,by rw[(JX Ny Yl).2]⟩) nd) ?_
 refine aL (mP (tgt:=.one 4) (o:=.nx [.val (iV ns),.val (.int m),.val (gP p),.val (j5 p),.un,.un]) c7 rfl (tW (n:=3) aA n.rng (by decide) (by decide)) (bM (i:=4) nd rfl (bj rfl)) (λ_=>[.val (iV ns),.val (.int m),.val (gP p),.val (j5 p),.un,.un]) 3 rfl (aD _) (λt d ht hd=>?_) (.inl ⟨rfl,rfl⟩)) (bf (cg B1))
 obtain rfl:d=.int (t:Int):=by
  unfold jL at hd;rw[aJ,gJ (by exact ht)]at hd
  cases hd;rfl
 refine⟨_,rfl,?_⟩
 refine aL (cC 5 (d:=.tuple [eQ (pW p (L2.cutD ns (some (3+18*(t:Int))) none) (decide (m/3%3=(t:Int)))).2,eQ (C5 p (L2.cutD ns (some (3+18*(t:Int))) none) (decide (m/3%3=(t:Int)))).2]) (bC C.fl Rm (aq (ae 2 rfl) (aq (VO.ve (VO.to (gM (ds:=ns.map fj) (ae 0 rfl) (.yes (cI aA (nO aA (ae 4 rfl) (.inl ⟨by decide,by decide⟩)))) .no) (mn _ _ _ _))) (aq (VE.to (ow hr (cx 20 _) (cx 20 _) (cv (eP (ae 1 rfl) aA ⟨by decide,by decide⟩) aA (by decide)) (ae 4 rfl)) (by rw[jW])) aQ))) ⟨p,_,_,rfl,flp,Ny,rfl⟩) nd) ?_
 refine jE (bf (b0 (VT.to (qF (jy (bC C.as hr4 (aq (ae 3 rfl) (aq (ae 2 rfl) (aq (ae 5 rfl) (aq (cv (eP (ae 1 rfl) (cI (ae 4 rfl) aA) ⟨by omega,by omega⟩) aA (by decide)) aQ)))) ⟨p,_,_,_,rfl,Ny,Yl,rfl⟩) rfl)) rfl) bL)) ⟨.inr rfl,.inr rfl,.inr rfl,.inr rfl,.inl rfl,.inl rfl,trivial⟩
end
end Mg
namespace Mg
open L2 PySem PyProof.Rows
structure eL(K:ai)(mg:Str->Option av)(g x:Str)(st:gZ)(ps:List Str):Prop where
 ex:∃f fd,lg K x x st f fd/\mg g=some (.ref f)/\∀us:List av,us.length=ps.length->bindArgs fd ⟨us,[]⟩=pure (ps.zip us)
theorem yi{K:ai}{h:cK}{mg:Str->Option av}{g x:Str}{st:gZ}{ps:List Str}{f:aK}{oc:av}{od an:Option aK}{Hn:Array (Option av)}{kV doc pm ix ct:av}(X:K.In h)(G:h.Ns mainGlobals mg)
  (hb:∀(kV doc pm:av)(an:Option aK)(ix ct:av)(us:List av),us.length=ps.length->bindArgs (iP x x (oY st) (kx st) (bP st) .none kV doc pm an ix ct) ⟨us,[]⟩=pure (ps.zip us))
  (a:PySem.W.nsIn K mainGlobals g=some (some (.ref f)))(l:K.lookup f=some ⟨oc,od,.func (iP x x (oY st) (kx st) (bP st) .none kV doc pm an ix ct),Hn⟩)
  (c:mH K ix x=true)(k:iC K (.ref f)=true):eL K mg g x st ps:=
 ⟨f,_,HQ l c k,nL X G a,hb kV doc pm an ix ct⟩
section
variable{P:bo}{w:bX}{K:ai}{mg:Str->Option av}{base:cK}{f:aK}{k:Nat}
theorem eL.call{g x:Str}{st:gZ}{ps:List Str}{sp:Sp}(D:eL K mg g x st ps)(h:∀f fd,lg K x x st f fd->eU P w K mg base ky k f fd ps sp):bE P w K mg base k g ps sp:=by
 obtain⟨f,fd,F,hm,hb⟩:=D.ex;exact⟨f,fd,h f fd F,hm,F.kp,.all hb⟩
theorem kK{g:aK}{ws:List Str}{od:Option aK}{its:Array av}{n:Nat}{sl:Array (Option av)}(l:K.lookup g=some ⟨.type "tuple",od,.seq its n,sl⟩)(hs:its.size<=100)(hv:dS (ws.map V.str) its.toList):IX K g ws:=
 ⟨_,_,_,l,rfl,rfl,small (by omega),hv⟩
theorem Ob{pr:wH}{g:aK}{kvs:List (Str×List Str)}{es:Array vn}{ep:Nat}(nm:(g==sysModules)=false)(nd:(kvs.map (·.1)).Nodup)(l:K.lookup g=some ⟨.type "dict",none,.dict es ep,#[]⟩)(ge:GE pr K es.toList kvs):GD pr K g kvs:=
 ⟨nm,nd,_,es,ep,l,⟨rfl,rfl,rfl⟩,rfl,ge⟩
structure MP(K:ai)(mg:Str->Option av):Prop where
 ex:∃C fi fd,mg "Plant"=some (.ref C)/\BL K C/\(∀f∈Va,jK K C f)/\Mk K C fi/\lg K "__init__" "Plant.__init__" x8 fi fd/\Binds K fd ["self"] []
theorem UE{h:cK}{C f:aK}{oc:av}{od an:Option aK}{Hn:Array (Option av)}{kV doc pm ix ct:av}(X:K.In h)(G:h.Ns mainGlobals mg)(aC:PySem.W.nsIn K mainGlobals "Plant"=some (some (.ref C)))
  (a1:di K (.ref C) "__init__"=some (some (.ref f)))(i1:PySem.W.isFn K (.ref f)=true)(l:K.lookup f=some ⟨oc,od,.func (iP "__init__" "Plant.__init__" (oY x8) (kx x8) (bP x8) .none kV doc pm an ix ct),Hn⟩)(c:mH K ix "Plant.__init__"=true)(k:iC K (.ref f)=true)
  (pg:nY K C fz=true)(hd:nr K C=true)(po:tF K C=true)(sa:di K (.ref C) "__setattr__"=some (some (.builtin "object.__setattr__")))(mk:vP K C=true)(kc:iC K (.ref C)=true)
  (z1:di K (.ref C) "kinds"=some none)(z2:di K (.ref C) "gates"=some none)(z3:di K (.ref C) "lines"=some none)(z4:di K (.ref C) "desks"=some none)(z5:di K (.ref C) "times"=some none)(z6:di K (.ref C) "hours"=some none)(z7:di K (.ref C) "paces"=some none):MP K mg:=by
 have F:=HQ (st:=x8) l c k;refine⟨C,f,_,nL X G aC,⟨pg,hd,po,sa⟩,λf hf=>?_,⟨mk,a1,i1,kc⟩,F,F.binds (ps:=["self"]) λ_ _ _ _ _ _ us hl=>match us,hl with | [_],_=>rfl⟩
 simp only[aI,bG,or_false]at hf;rcases hf with rfl|rfl|rfl|rfl|rfl|rfl|rfl
 ·exact z1
 ·exact z2
 ·exact z3
 ·exact z4
 ·exact z5
 ·exact z6
 ·exact z7
theorem MP.pc(T:MP K mg):PlC P w K mg base:=by
 obtain⟨C,fi,fd,h1,h2,h3,h4,h5,h6⟩:=T.ex;exact⟨C,fi,fd,h1,h2,h3,h4,XX h5 h2 h3,h6⟩
structure Defs(K:ai)(mg:Str->Option av)(pr:wH):Prop where
 n:Np mg pr K
 nw:Nw mg
 kt:Ka K
 pa:MP K mg
 md:mg "dict"=none
 d0:eL K mg "is_made_of" "is_made_of" (top 10) ["signs","longest","word"]
 d1:eL K mg "is_name" "is_name" (top 11) ["word"]
 d2:eL K mg "is_number" "is_number" (top 12) ["word"]
 d3:eL K mg "words_of" "words_of" (top 13) ["row"]
 d4:eL K mg "rows_of" "rows_of" (top 14) ["text"]
 d5:eL K mg "greatest_load" "greatest_load" (top 4) ["rule","many"]
 d6:eL K mg "read_plant" "read_plant" (top 20) ["text"]
 d7:eL K mg "fits" "fits" (top 22) ["shape","word"]
 d8:eL K mg "value_of" "value_of" (top 23) ["shape","word"]
 d9:eL K mg "values_of" "values_of" (top 24) ["shapes","words"]
 Ym:eL K mg "entry_of" "entry_of" (top 25) ["words"]
 Yn:eL K mg "desk_entry" "desk_entry" (top 26) ["words"]
 Yo:eL K mg "rule_of" "rule_of" (top 27) ["words","many"]
 Yp:eL K mg "are_places" "are_places" (top 28) ["names"]
 Yq:eL K mg "fault_of" "fault_of" (top 29) ["plant","entry"]
 Yr:eL K mg "tells_twice" "tells_twice" (top 30) ["plant","entry"]
 Ys:eL K mg "lacks_name" "lacks_name" (top 31) ["plant","entry"]
 Yt:eL K mg "lacks_room" "lacks_room" (top 32) ["plant","entry"]
 Yu:eL K mg "is_place" "is_place" (top 33) ["plant","name"]
 Yv:eL K mg "is_desk" "is_desk" (top 34) ["plant","name"]
 Yw:eL K mg "takers_of" "takers_of" (top 35) ["plant","place"]
 Yx:eL K mg "add_entry" "add_entry" (top 36) ["plant","entry"]
 Yy:eL K mg "finds_room" "finds_room" (top 21) ["plant","places","to","goods"]
 Yz:eL K mg "is_stopped" "is_stopped" (top 39) ["plant","places","load","time","to"]
 YB:eL K mg "stopped" "stopped" (top 38) ["plant","places","loads","time"]
 YC:eL K mg "_law_cell_at" "_law_cell_at" (top 41) ["_law_script","_law_k"]
 YD:eL K mg "_law_mix" "_law_mix" (top 42) ["_law_cell","_law_k"]
 YF:eL K mg "_law_names" "_law_names" (top 43) ["_law_cell","_law_many"]
 YG:eL K mg "_law_rule" "_law_rule" (top 44) ["_law_m","_law_many"]
 YH:eL K mg "_law_greatest" "_law_greatest" (top 45) ["_law_rule_here","_law_many"]
 YJ:eL K mg "_law_desks" "_law_desks" (top 46) ["_law_cell","_law_places","_law_lines"]
 YK:eL K mg "_law_plant" "_law_plant" (top 47) ["_law_script"]
 YL:eL K mg "_law_dash" "_law_dash" (top 48) ["_law_thing"]
 YM:eL K mg "_law_rule_text" "_law_rule_text" (top 49) ["_law_rule_here"]
 YN:eL K mg "_law_plant_text" "_law_plant_text" (top 50) ["_law_h"]
 YQ:eL K mg "_law_ring_plant" "_law_ring_plant" (top 51) ["_law_cell"]
 YR:eL K mg "_law_floor_drawn" "_law_floor_drawn" (top 52) ["_law_h","_law_cells","_law_full"]
 YS:eL K mg "_law_is_shut" "_law_is_shut" (top 53) ["_law_h","_law_places","_law_loads","_law_time","_law_desk"]
 YT:eL K mg "_law_shut" "_law_shut" (top 54) ["_law_h","_law_places","_law_loads","_law_time"]
 YV:eL K mg "_law_texts" "_law_texts" (top 55) ["_law_found","_law_due"]
 YW:eL K mg "_law_asked" "_law_asked" (top 56) ["_law_plant_here","_law_h","_law_drawn","_law_time"]
theorem Defs.all(D:Defs K mg w.params):LawC P w K mg base:=by
 have n:=D.n;have nw:=D.nw;have pc:=D.pa.pc (P:=P) (w:=w) (base:=base);have uC:=D.d0.call (P:=P) (w:=w) (base:=base) λ_ _ F=>Xe F nw
 have vj:=D.d1.call (P:=P) (w:=w) (base:=base) λ_ _ F=>Xf F nw uC
 have vM:=D.d2.call (P:=P) (w:=w) (base:=base) λ_ _ F=>Xg F nw uC
 have Ew:=D.d3.call (P:=P) (w:=w) (base:=base) λ_ _ F=>Xh F
 have He:=D.d4.call (P:=P) (w:=w) (base:=base) λ_ _ F=>Xi F nw Ew
 have v9:=D.d5.call (P:=P) (w:=w) (base:=base) λ_ _ F=>XS F
 have MQ:=D.d7.call (P:=P) (w:=w) (base:=base) λ_ _ F=>TV F n.toNa vj vM
 have QF:=D.d7.call (P:=P) (w:=w) (base:=base) λ_ _ F=>Xw F n.toNa vj vM MQ
 have Ey:=D.d8.call (P:=P) (w:=w) (base:=base) λ_ _ F=>Xx F n.toNa
 have qV:=D.d9.call (P:=P) (w:=w) (base:=base) λ_ _ F=>Xy F n.toNa n.zip QF Ey
 have Hf:=D.Yo.call (P:=P) (w:=w) (base:=base) λ_ _ F=>T4 F n qV
 have Bd:=D.Yp.call (P:=P) (w:=w) (base:=base) λ_ _ F=>Xz F n vj
 have Be:=D.Yn.call (P:=P) (w:=w) (base:=base) λ_ _ F=>XB F n qV Hf Bd
 have Ez:=D.Ym.call (P:=P) (w:=w) (base:=base) λ_ _ F=>XI F n qV Be
 have yj:=D.Yu.call (P:=P) (w:=w) (base:=base) λ_ _ F=>XO F
 have zI:=D.Yv.call (P:=P) (w:=w) (base:=base) λ_ _ F=>XQ F
 have C_:=D.Yw.call (P:=P) (w:=w) (base:=base) λ_ _ F=>XR F
 have yO:=D.Yr.call (P:=P) (w:=w) (base:=base) λ_ _ F=>XT F n yj zI C_
 have Bf:=D.Ys.call (P:=P) (w:=w) (base:=base) λ_ _ F=>XU F n yj zI
 have Bg:=D.Yt.call (P:=P) (w:=w) (base:=base) λ_ _ F=>Ui F n v9
 have EA:=D.Yq.call (P:=P) (w:=w) (base:=base) λ_ _ F=>XW F yO Bf Bg
 have Dc:=D.Yx.call (P:=P) (w:=w) (base:=base) λ_ _ F=>XZ F
 have Bh:=D.d6.call (P:=P) (w:=w) (base:=base) λ_ _ F=>X4 F n pc He Ez EA Dc
 have Bi:=D.Yy.call (P:=P) (w:=w) (base:=base) λ_ _ F=>Yc F n.toNa
 have Bj:=D.Yz.call (P:=P) (w:=w) (base:=base) λ_ _ F=>Yd F Bi
 have Hg:=D.YB.call (P:=P) (w:=w) (base:=base) λ_ _ F=>Yf F Bj
 have nX:=D.YC.call (P:=P) (w:=w) (base:=base) λ_ _ F=>Qe F n.len
 have mF:=D.YD.call (P:=P) (w:=w) (base:=base) λ_ _ F=>TH F
 have qW:=D.YF.call (P:=P) (w:=w) (base:=base) λ_ _ F=>Xj F n.toNm mF
 have yk:=D.YG.call (P:=P) (w:=w) (base:=base) λ_ _ F=>Xl F n.toNm
 have ng:=D.YH.call (P:=P) (w:=w) (base:=base) λ_ _ F=>Xm F
 have Dd:=D.YJ.call (P:=P) (w:=w) (base:=base) λ_ _ F=>Xn F n.toNm mF qW yk
 have De:=D.YK.call (P:=P) (w:=w) (base:=base) λ_ _ F=>Xp F n.toNm nX mF qW ng Dd
 have yl:=D.YL.call (P:=P) (w:=w) (base:=base) λ_ _ F=>Xt F n.toNa
 have wa:=D.YM.call (P:=P) (w:=w) (base:=base) λ_ _ F=>Xu F n.toNa yl
 have vk:=D.YN.call (P:=P) (w:=w) (base:=base) λ_ _ F=>Xv F n.toNa yl wa
 have vm:=D.YQ.call (P:=P) (w:=w) (base:=base) λ_ _ F=>X6 F n.toNm mF qW yk ng
 have uD:=D.YR.call (P:=P) (w:=w) (base:=base) λ_ _ F=>X8 F n.toNm nX mF ng
 have yP:=D.YS.call (P:=P) (w:=w) (base:=base) λ_ _ F=>Yg F n.toNa D.md
 have EB:=D.YT.call (P:=P) (w:=w) (base:=base) λ_ _ F=>Yh F yP
 have Df:=D.YV.call (P:=P) (w:=w) (base:=base) λ_ _ F=>Yj F n.toNa D.kt n.zip
 have Dg:=D.YW.call (P:=P) (w:=w) (base:=base) λ_ _ F=>Yk F n.toNa D.md EB Hg Df
 exact⟨n.toNa,nX,mF,De,vm,vk,Bh,uD,Dg⟩
def Kf(K:ai):Sp:=λvs H Q _=>∃(a:aK)(ns:List Int),vs=[.ref a]/\kO K H a (ns.map V.int)/\ns.length<=63/\∀H',Q (.bl true) H'
theorem zJ{K:ai}{H:Hp}:∀ns:List Int,cO K H (ns.map V.int) (ns.map fj)
 | []=>.nil
 |n::ns=>.cons (.int n) (zJ ns)
theorem MR{fd:bS}{ps:List Str}(F:eU P w K mg base ky k f fd ps (gW K UC)):eU P w K mg base ky k f fd ps (Kf K):=F.imp λvs H Q E h=>by
 obtain⟨a,ns,rfl,hS,hn,q⟩:=h;exact⟨H,[iV ns],.bool true,dJ.refl _,.cons (.lst hS (zJ ns)) .nil,⟨ns,rfl,hn,rfl⟩,λv ef H' g r=>by cases r;exact q H'⟩
theorem UG{fd:bS}(F:lg K "law" "law" (top 57) f fd)(C:LawC P w K mg base):eU P w K mg base ky 10 f fd ["_law_script"] (Kf K):=
 MR (jA F Ke (λ_ _ h=>by obtain⟨_,rfl,_⟩:=h;rfl) λ_ _ h=>UD C h)
end
theorem walk{l:PySem.W.OpenLaw}{q:bo}{loose:List Str}{XP:(Str->Option av)->cK->Prop}{YP:bX->cK->Prop}{d:DefRec}{K:wH->ai}(hn:l.most=some 63)(Sg:d.params.defaults=[])(Je:d.name="law")
  (hY:∀(w:bX)(h:cK),YP w h->(K w.params).In h)
  (F:∀(w:bX)(mg:Str->Option av)(h:cK),(K w.params).In h->h.Ns mainGlobals mg->Defs (K w.params) mg w.params/\eL (K w.params) mg "law" "law" (top 57) ["_law_script"]):
  PySem.W.WalkO q loose XP YP l.row.toRowW d [] (λf vs=>PySem.call f vs):=
 L2.K2 (n:=63) (k:=10) (x:="_law_script") (CX:=λ_=>ky) (sp:=λw=>Kf (K w.params)) hn (by decide) Sg ⟨rfl,by decide,by decide⟩ hY (λw mg fa h X G Kj=>by
  obtain⟨D,L⟩:=F w mg h X G;obtain⟨f,fd,Fl,hm,hb⟩:=L.ex;rw[Je]at Kj;rw[hm]at Kj;cases Kj;exact⟨fd,λs v=>.of_eq (hb [v] rfl),λbase _ _=>UG Fl D.all⟩) (λ_ _ a ns hl _ hS=>⟨a,ns,rfl,hS,hl,λ_=>rfl⟩) λ_ _ _ _ _ z=>z
end Mg
namespace PySem.W.Fast
def tw10019576777641486081:=()
def tw10032985595109956879:=()
def tw10062649506990733943:=()
def tw10066978350929543115:=()
def tw1009680405195972862:=()
def tw10098271853365408632:=()
def tw1010926273171084087:=()
def tw10115318516671083214:=()
def tw10152381449171328739:=()
def tw10174717619202682742:=()
def tw10189495768244946007:=()
def tw10266707093203962395:=()
def tw10351516076881236775:=()
def tw10401600406427267219:=()
def tw10444217337466836902:=()
def tw10456405363237851580:=()
def tw10603898540769674221:=()
def tw1060727285905417306:=()
def tw10654445434584885206:=()
def tw10909215013719799473:=()
def tw11051550427170108360:=()
def tw1111187107460655320:=()
def tw11173323730690248628:=()
def tw11210758871381293773:=()
def tw11381797744921803322:=()
def tw11399313897233888076:=()
def tw11409360547271870160:=()
def tw11425402486929946930:=()
def tw11463221204456332795:=()
def tw11487610641643717102:=()
def tw11512933561749444779:=()
def tw11569373544494800662:=()
def tw11661241630581595873:=()
def tw11716635518780019753:=()
def tw1178056124009854776:=()
def tw118462988740066685:=()
def tw11848549969614254032:=()
def tw1189850171782804617:=()
def tw1199670629375325784:=()
def tw12021171008827107114:=()
def tw12104462160423962897:=()
def tw12122841922654799907:=()
def tw12181165239631935128:=()
def tw12203690396026729845:=()
def tw12221977857816495864:=()
def tw12235430429238823295:=()
def tw12247800222026914175:=()
def tw12292189747125250331:=()
def tw12355546925799251140:=()
def tw12411179435345319560:=()
def tw12536795600844611833:=()
def tw1254530874443932043:=()
def tw12551031982283992323:=()
def tw12553848400410604843:=()
def tw12555982686621299659:=()
def tw12604587676571857797:=()
def tw12709156810220770578:=()
def tw12771832904447969517:=()
def tw12772286262854398136:=()
def tw12852426377559793964:=()
def tw12856826376155192702:=()
def tw1289111153827527765:=()
def tw12987602909244028086:=()
def tw13125464637654715154:=()
def tw13136372694411645391:=()
def tw13157063326900381220:=()
def tw13185539037432238218:=()
def tw13197739836876284798:=()
def tw13234903077293936605:=()
def tw13248634103522296977:=()
def tw13266401517044442819:=()
def tw13315384802186945371:=()
def tw13317357794279891331:=()
def tw13397090670035508451:=()
def tw13470490301167512985:=()
def tw13480819809271366140:=()
def tw13502363193263235116:=()
def tw13591782427835216194:=()
def tw1360372790612513972:=()
def tw13679563584995784758:=()
def tw13696543423449645855:=()
def tw13785739183899922534:=()
def tw13787616729074272240:=()
def tw13815316472076310133:=()
def tw13846583418135082217:=()
def tw13881937067817932570:=()
def tw13893592872396378475:=()
def tw1389751981417591033:=()
def tw13905316781743056853:=()
def tw13962820802733026306:=()
def tw1400703168473907871:=()
def tw14252359109223653474:=()
def tw14294908066595987043:=()
def tw14374702976199618269:=()
def tw1443977285428098066:=()
def tw14562665702517898173:=()
def tw14581373310045976042:=()
def tw14583865725320153205:=()
def tw14724245425284902850:=()
def tw14729931612601523868:=()
def tw14742502579431761622:=()
def tw14792600404200723571:=()
def tw14874966212902869071:=()
def tw1489314101271187426:=()
def tw1491046798257635170:=()
def tw14965968164881307098:=()
def tw14991489739375879070:=()
def tw1507830572728646586:=()
def tw15101446818366155580:=()
def tw15156396248893649576:=()
def tw15161796997460172550:=()
def tw15189853515886584868:=()
def tw15380372236296926419:=()
def tw15390034175549019741:=()
def tw15437856542656504018:=()
def tw15451122026122011725:=()
def tw15483927540821856087:=()
def tw15526958727168842779:=()
def tw1555556782477373396:=()
def tw15582369824703416301:=()
def tw15637375816545501483:=()
def tw15669467783133950018:=()
def tw15725838592644833232:=()
def tw15793223072354756626:=()
def tw15931412833990827773:=()
def tw15939653265153930392:=()
def tw15975089074317349997:=()
def tw15990798103278393467:=()
def tw16278712228865035695:=()
def tw16296585095937650275:=()
def tw16360325433074871981:=()
def tw16430896037073324944:=()
def tw1647867289958010618:=()
def tw16527780065446320615:=()
def tw16530076541070320210:=()
def tw1658110651494650034:=()
def tw16585353461511202204:=()
def tw16594750976124138129:=()
def tw16659664815687417524:=()
def tw16825225124502430276:=()
def tw16846221421750773873:=()
def tw1691030187063253254:=()
def tw17059455299869938685:=()
def tw17087137054976418301:=()
def tw17127298692099385430:=()
def tw17194778950531326778:=()
def tw17195259806070336486:=()
def tw17209797026299014579:=()
def tw17296386591857842185:=()
def tw17616704853718157430:=()
def tw17662304311322197954:=()
def tw17745949571752351790:=()
def tw177808792920679774:=()
def tw17807166073679871937:=()
def tw17887543188087454336:=()
def tw17938391707938186841:=()
def tw17969326739137416637:=()
def tw18056267260052989380:=()
def tw18063987661182433194:=()
def tw18131397265418870008:=()
def tw18292460232955265680:=()
def tw18322366774192679869:=()
def tw18358630571854713015:=()
def tw18368615644741351027:=()
def tw2101471912956737459:=()
def tw2214247660918986880:=()
def tw2348766737922636889:=()
def tw2420725909878687749:=()
def tw2445947065070408439:=()
def tw2483311824796515947:=()
def tw2484964309240547115:=()
def tw2638049317415267073:=()
def tw265514869509059252:=()
def tw2663520928773898754:=()
def tw2695413642831517269:=()
def tw2746357752702085046:=()
def tw2750687490684085072:=()
def tw2752603903586134485:=()
def tw2789066569469977291:=()
def tw2807724869454880511:=()
def tw2829380605201056110:=()
def tw2887625960919894184:=()
def tw2914040093178241320:=()
def tw2988028416242485977:=()
def tw2995597016104972749:=()
def tw30755132826888882:=()
def tw3496461448888102844:=()
def tw3612791119819145514:=()
def tw361508119530467733:=()
def tw3669616936364750894:=()
def tw3747148035848140810:=()
def tw3768794589046172208:=()
def tw3875448193393914260:=()
def tw393560343275848253:=()
def tw396488616352832105:=()
def tw4009734769533568013:=()
def tw4028015294583726192:=()
def tw403580343195652654:=()
def tw4054434584388103628:=()
def tw4088683805960351066:=()
def tw4116719870869742793:=()
def tw420564078649174712:=()
def tw4256642819746464787:=()
def tw4311184120025133767:=()
def tw4370495725329032983:=()
def tw4389132126291638772:=()
def tw4422464691486458860:=()
def tw4443890933517831728:=()
def tw4446372082702630961:=()
def tw4491184930178934650:=()
def tw4541652281389506594:=()
def tw4545122873305908390:=()
def tw4574655441714554529:=()
def tw4586886771756728445:=()
def tw4608805093531641201:=()
def tw4634627909670677114:=()
def tw4645640594294019715:=()
def tw4656360781551745551:=()
def tw4661290208713704073:=()
def tw4692551689371338047:=()
def tw4768841319402616514:=()
def tw4850765339449671878:=()
def tw486704338744523819:=()
def tw4880427402972230778:=()
def tw48956608404755906:=()
def tw4968692576645692769:=()
def tw5011087220478919355:=()
def tw5029517141311623444:=()
def tw5071716220163796403:=()
def tw5123631768271123444:=()
def tw5153531557372436469:=()
def tw5190892796136415495:=()
def tw5209180470774275196:=()
def tw5251175077412688948:=()
def tw5382509353717127600:=()
def tw5390166460491386868:=()
def tw5450247590540907769:=()
def tw5614930212932384105:=()
def tw5616748836132587640:=()
def tw5626174642770483302:=()
def tw5653400158888127594:=()
def tw5790674514721210098:=()
def tw5931509855748463030:=()
def tw605417263419947611:=()
def tw6071928722543092159:=()
def tw6090904725487553381:=()
def tw6176534082750559415:=()
def tw6212647815452069192:=()
def tw6273002637345570088:=()
def tw6279485762547276746:=()
def tw6280197250813585434:=()
def tw6413866710462164811:=()
def tw6455477008611435080:=()
def tw6462105696914615056:=()
def tw6531336955130618630:=()
def tw670290737050967461:=()
def tw6704932292362117075:=()
def tw6773216407435298025:=()
def tw6781133738355250090:=()
def tw7078988631935117471:=()
def tw7123278726886572748:=()
def tw7257794096616353984:=()
def tw7366641237561765582:=()
def tw7378185920262367031:=()
def tw7381500210612363325:=()
def tw7509037044647393214:=()
def tw7686770901577671358:=()
def tw7690963473673621494:=()
def tw7815489981995739175:=()
def tw7837116003582318134:=()
def tw7850959012734176778:=()
def tw7880895470038150:=()
def tw798505918692523059:=()
def tw8010222592194344503:=()
def tw8047617288684655083:=()
def tw8078214332532248777:=()
def tw8135356609469860265:=()
def tw8264034749220986232:=()
def tw8303407749682142218:=()
def tw8370106253629513323:=()
def tw8421831400309742503:=()
def tw8487067749908307104:=()
def tw8534483378548356674:=()
def tw8542776164346017642:=()
def tw8557336548750805221:=()
def tw8686105921718788135:=()
def tw8724778887852063150:=()
def tw8795281442054558968:=()
def tw8824313800321357592:=()
def tw8840350134952366283:=()
def tw8859447966792968958:=()
def tw8863399469856288043:=()
def tw9047691388021950033:=()
def tw9116992030728250588:=()
def tw9165822383271457399:=()
def tw9392312174849477454:=()
def tw9411223087794133371:=()
def tw9432592003622716835:=()
def tw9531804882274480439:=()
def tw9581695481769302786:=()
def tw9616865190582777:=()
def tw9626308354549441378:=()
def tw9646880872027500730:=()
def tw9729122337751494632:=()
def tw9825719066370501937:=()
def tw9833749955192015465:=()
def tw9990390288270554389:=()
def tw9990794089207561496:=()
end PySem.W.Fast
open PySem PySem.W PyProof.Rows
theorem PySem.Challenge.cw_mergeline_k51_desks_that_are_stopped_holds : PySem.Challenge.rw_mergeline_k51_desks_that_are_stopped.Holds := by
 w_on;o_law;k_head;(case hw=>w_witness2)
 k_fill
 refine Mg.walk (l:=PySem.Challenge.rw_mergeline_k51_desks_that_are_stopped) rfl rfl rfl (λw h Y=>PySem.W.kIn_of Y) ?F
 case F=>
  intro w mg h KX G;refine⟨⟨⟨⟨⟨?n1,?n2,?n3,?n4,?n5,?n6,?n7,?n8,?n9,?n10,?n11,?n12⟩,?n13,?n14⟩,?y1,?y2,?y3,?ymp,?yfo,?yru⟩,⟨?w1,?w2,?w3,?xa,?xb,?xc,?xd⟩,⟨?t0,?t1,?t2,?t3,?t4,?t5,?t6,?t7,?t8,?t9,?t10,?t11⟩,?ypl,?md,?d0,?d1,?d2,?d3,?d4,?d5,?d6,?d7,?d8,?d9,?Ym,?Yn,?Yo,?Yp,?Yq,?Yr,?Ys,?Yt,?Yu,?Yv,?Yw,?Yx,?Yy,?Yz,?YB,?YC,?YD,?YF,?YG,?YH,?YJ,?YK,?YL,?YM,?YN,?YQ,?YR,?YS,?YT,?YV,?YW⟩,?law⟩
  case n1|n2|n3|n4|n5|n6|n7|n8|n9|n10|n11|n12|n13|n14|y1|y2|y3|w1|w2|w3|md=>exact PySem.W.mg_none_of KX G (by k_is)
  case ymp|xa|xb|xc|xd=>exact⟨_,nL KX G (by k_is)⟩
  case yfo=>refine⟨_,nL KX G (by k_is),Mg.Ob (by decide) (by decide +kernel) (by k_is) (.cons rfl (Mg.kK (by k_is) (by decide) (.cons ⟨_,rfl⟩ (.cons ⟨_,rfl⟩ .nil))) (.cons rfl (Mg.kK (by k_is) (by decide) (.cons ⟨_,rfl⟩ .nil)) (.cons rfl (Mg.kK (by k_is) (by decide) (.cons ⟨_,rfl⟩ (.cons ⟨_,rfl⟩ .nil))) (.cons rfl (Mg.kK (by k_is) (by decide) (.cons ⟨_,rfl⟩ (.cons ⟨_,rfl⟩ (.cons ⟨_,rfl⟩ .nil)))) (.cons rfl (Mg.kK (by k_is) (by decide) (.cons ⟨_,rfl⟩ (.cons ⟨_,rfl⟩ (.cons ⟨_,rfl⟩ .nil)))) (.cons rfl (Mg.kK (by k_is) (by decide) (.cons ⟨_,rfl⟩ (.cons ⟨_,rfl⟩ (.cons ⟨_,rfl⟩ (.cons ⟨_,rfl⟩ .nil))))) .nil))))))⟩
  case yru=>refine⟨_,nL KX G (by k_is),Mg.Ob (by decide) (by decide +kernel) (by k_is) (.cons rfl (Mg.kK (by k_is) (by decide) .nil) (.cons rfl (Mg.kK (by k_is) (by decide) (.cons ⟨_,rfl⟩ .nil)) (.cons rfl (Mg.kK (by k_is) (by decide) (.cons ⟨_,rfl⟩ .nil)) (.cons rfl (Mg.kK (by k_is) (by decide) (.cons ⟨_,rfl⟩ (.cons ⟨_,rfl⟩ .nil))) (.cons rfl (Mg.kK (by k_is) (by decide) .nil) .nil)))))⟩
  case t0|t1|t2|t3|t4|t5|t6|t7|t8|t9|t10|t11=>kit_is
  case ypl=>refine' Mg.UE KX G ?aC ?a1 ?i1 ?l ?c ?k ?pg ?hd ?po ?sa ?mk ?kc ?z1 ?z2 ?z3 ?z4 ?z5 ?z6 ?z7;(case aC|a1|i1|l|c|k|pg|hd|po|sa|mk|kc|z1|z2|z3|z4|z5|z6|z7=>k_is)
  case d1|d2|d3|d4|d6|Ym|Yn|Yp|YK|YL|YM|YN|YQ|law=>refine' Mg.yi KX G (λ_ _ _ _ _ _ us hl=>match us,hl with | [_],_=>rfl) ?a ?l ?c ?k;(case a|l|c|k=>k_is)
  case d5|d7|d8|d9|Yo|Yq|Yr|Ys|Yt|Yu|Yv|Yw|Yx|YC|YD|YF|YG|YH|YV=>refine' Mg.yi KX G (λ_ _ _ _ _ _ us hl=>match us,hl with | [_,_],_=>rfl) ?a ?l ?c ?k;(case a|l|c|k=>k_is)
  case d0|YJ|YR=>refine' Mg.yi KX G (λ_ _ _ _ _ _ us hl=>match us,hl with | [_,_,_],_=>rfl) ?a ?l ?c ?k;(case a|l|c|k=>k_is)
  case Yy|YB|YT|YW=>refine' Mg.yi KX G (λ_ _ _ _ _ _ us hl=>match us,hl with | [_,_,_,_],_=>rfl) ?a ?l ?c ?k;(case a|l|c|k=>k_is)
  case Yz|YS=>refine' Mg.yi KX G (λ_ _ _ _ _ _ us hl=>match us,hl with | [_,_,_,_,_],_=>rfl) ?a ?l ?c ?k;(case a|l|c|k=>k_is)
