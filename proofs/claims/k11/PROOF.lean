import PyProof.Rows.All
import Wide.All
import OpenK.AllK
import Wide.FinOn
import Lean
import PyProof.EqAt
import PyProof.EqKinds
import PyProof.TupleCall
import PyProof.Rows.SetFrom
import PyProof.TupleKey
import KE.KSortTup
import PyProof.ListRange
import PyProof.ConsumeS
import KE.KIntText
import PyProof.StrCalls2
import PyProof.StrOps2
import PyProof.SliceStr2
import PyProof.StrWalks
import PyProof.Rows.StrJoin2
import PyProof.ZipIter
import PyProof.TupleIter
import PyProof.ListMulRoad
import PyProof.WalksMore
import KE.KDictLaws
import KE.KDictList
import PyProof.IsiH_list
import PyProof.AttrMiss
import KE.KDictOf
import PyProof.StationsW
import PyProof.ExcInit
import PyProof.ExcClass2
import PyProof.ExcBaseAll.ValueError
import OpenK.KMake
import OpenK.KCls
import PyProof.Rows.FStr
import PyProof.LayNew
import PyProof.RulesAs
import PyProof.NsDelKeeps
import PyProof.ExcAttrAll.ValueError
import KE.KIsAll
import PySem.Challenge.RW_mergeline_k11_days_looked_at
set_option Elab.async false
set_option linter.all false
set_option maxRecDepth 100000
set_option maxHeartbeats 4000000
open Array renaming getElem?_eq_some_iff→mD,getElem?_toList→Rz,length_toList→dX,mem_toList_iff→RL,toList_append→Uy
open Bool renaming and_eq_true_iff→nq,and_eq_true→yK,and_false→Lf,eq_false_iff→Gg,eq_iff_iff→lH,false_ne_true→eY,or_eq_true→Ko,or_true→Gf,true_and→qL
open Decidable renaming not_not→vC
open False renaming elim→iT
open ForInStep renaming yield→xO
open Int renaming emod_lt_of_pos→cj,emod_nonneg→bY,eq_ofNat_of_zero_le→rM,mul_le_mul→Nk,mul_nonneg→BR,toNat_natCast→jm
open List renaming all_eq_true→iC,all_map→Gh,any_cons→CZ,any_eq_true→HD,append_assoc→jh,append_nil→gK,drop_eq_nil_of_le→zc,drop_succ_cons→CK,drop_zero→rZ,eq_nil_of_length_eq_zero→ji,ext_getElem?→su,filterMap_append→Ai,filterMap_cons_none→nD,filterMap_cons_some→iD,filterMap_cons→lQ,filterMap_map→dZ,filter_cons→yL,find?_cons→iY,flatten_cons→jO,foldl_append→lA,foldl_cons→uT,forIn_cons→Km,fst_mem_of_mem_zipIdx→pU,getD_eq_getElem?_getD→aP,getElem?_append_left→fu,getElem?_append_right→eU,getElem?_eq_getElem→aG,getElem?_eq_none→mG,getElem?_eq_some_iff→aV,getElem?_map→bh,getElem?_range→uX,getElem?_replicate→h_,getElem?_set_ne→bB,getElem?_set_self→bF,getElem?_zipIdx→m_,getElem_cons_drop→RD,getElem_map→yM,getElem_mem→fY,getElem_toArray→uG,length_append→bK,length_cons→bJ,length_drop→fG,length_filterMap_le→xQ,length_map→aq,length_nil→dM,length_range→iK,length_replicate→gF,length_set→uR,length_singleton→tU,length_take→dO,length→nY,lookup_cons→gO,lookup→qY,map_append→bO,map_congr_left→nO,map_cons→aZ,map_drop→xR,map_map→bU,map_nil→lV,map_set→RB,map_singleton→vL,map_take→Px,map→Ux,mem_append_left→jB,mem_append_right→eG,mem_append→dJ,mem_cons_of_mem→bD,mem_cons_self→aY,mem_cons→aQ,mem_filterMap→oE,mem_flatMap→HF,mem_iff_getElem?→Aj,mem_map→aR,mem_of_getElem?→dw,mem_of_mem_drop→jD,mem_of_mem_take→jC,mem_or_eq_of_mem_set→Nq,mem_range→gq,mem_replicate→oF,mem_singleton→bW,nil_append→Kq,nodup_append→iJ,nodup_cons→lG,nodup_nil→K9,not_mem_nil→cL,of_mem_zip→zu,pairwise_iff_getElem→wI,range_succ→zH,range→dF,replicate_succ→g8,replicate→bN,set_comm→CQ,size_toArray→bM,sum_cons→Py,take_add_one→gP,take_append_drop→o7,take_length→lX,take_of_length_le→gw,zipIdx_cons→HB,zip_cons_cons→qX
open List.cons renaming inj→pZ
open Nat renaming add_lt_add_left→nP,eq_zero_or_pos→Eu,le_add_right→jE,le_of_lt→vD,le_of_not_lt→j5,le_refl→aK,le_succ→k_,le_trans→dD,lt_add_of_pos_right→yU,lt_irrefl→nH,lt_of_lt_of_le→cO,lt_succ_of_lt→sJ,lt_succ_self→qp,min_eq_left→uY,mul_le_mul→nR,ne_of_gt→jd,ne_of_lt→bQ,succ_le_succ→Io,succ_mul→RN,toDigits_of_lt_base→rN,toDigits→nu,zero_add→G_,zero_le→cC
open Ne renaming symm→cH
open Option renaming isSome_map→Ej,map_eq_some_iff→Pk,map_some→uF,toList_some→CJ
open Option.some renaming injEq→mq,inj→fM
open Or renaming inl→bG,inr→fj
open PyProof.Rows renaming AllBare→yZ,IntsAre→Kz,assignInOrder_cons→o8,assignInOrder_nil→Kw,callWith_type1→nQ,slot_tuple_getitem→qK
open PyProof.Rows.F renaming entry_set_update_loop→Uv,plain_set_update_loop→zx
open PyProof.Rows.IsTup renaming new→Bl
open PySem renaming Addr→aN,Around→fW,Builtin→wL,CmpOp→Hw,DictEntry→M_,ExcBaseFacts→wM,Expr→dz,FuncData→cU,GenState→xV,Heap→dW,IsPair→zy,IsPart→M9,IsZip→Pr,Keyword→lu,Model→Ph,NameKind→uo,Paired→RK,Params→Im,PassesOwn→M4,Program→bL,PyData→aA,Result→BK,Scope→rR,Shared→aL,Spec→jV,Stmt→mj,Value→aF,Within→rQ,World→dB,boot_len→Bg,call_meets→qF,codeAny_builtin→CG,codeAny_call_builtin→vH,codeAny_mono→qR,length_partsBetween→G8,mem_of_lookup→nM,pastItsLine_dict→M6,plainObj_wpAny_Assign_Attribute→uJ,sizeLine_eq→fK,tupleKind_room_in1→sI,typeIs_str→BP,wpAny_Call_Name_kw→o9,wpAny_attempt→Hz,wpAny_bindName→xW,wpAny_bind→aD,wpAny_callSpecial?_slot→oJ,wpAny_call_entry→uW,wpAny_call→sH,wpAny_execs_cons→Bd,wpAny_execs_nil→wg,wpAny_field→iu,wpAny_holding→mK,wpAny_isSubtype_exc→mF,wpAny_ite_false→sy,wpAny_letGo→Pu,wpAny_loadPart'→jY,wpAny_loadPart_at→iV,wpAny_loadPart→Ep,wpAny_lookBehind→M5,wpAny_mono→iB,wpAny_newObj_type→iU,wpAny_onRaise→zA,wpAny_passesOwn→wj,wpAny_pure→bA,wpAny_pyIter_list→za,wpAny_pyIter_tuple→Ik,wpAny_rule→Ij,wpAny_seqItems→oK,wpAny_setField_rec→pA,wpAny_setField→ur,wpAny_standAt→rT,wpAny_truthy_bool→iw,wpAny_updateSeq_pair→Ew
open PySem.Around renaming under_plainId→Ah,under→Pj
open PySem.AutoSeq1 renaming idx_int→Uw,sub_tuple_tuple→Kr
open PySem.Builtin.List renaming listFitsIndex→Ek
open PySem.Builtin.Slice renaming sliceAdjust→uq,sliceApplied→CW,slicePlaces→oV
open PySem.Builtin.SmallTypes renaming nextOf→fU,ownedTupleHandOut→vK,ownedTupleIsFree→jW
open PySem.Builtin.Tuple renaming tupleExact→o_,tupleTooMany→C_
open PySem.Calls renaming Name_function_global→Kv,callWith_builtin→yR,evalArgs_plain→Bf,spliced_cons→qQ,spliced_nil→Es
open PySem.Code renaming isFrame→Ry,quiet_builtin→El
open PySem.EntryCells renaming newEntry→Ni
open PySem.F renaming args_dict_get_3→K_,args_str_split_2→G9,args_tuple_add_2→Ky,args_tuple_iterator_next_1→Nh,attr_ValueError→Le,called_set→qG,entry_dict_get→Nb,entry_str_split→Ip,entry_tuple_add→K8,entry_tuple_iterator_next→Pq,excBase_ValueError→Ir,plainAttrs_dict→La,plainAttrs_list→kI,plainAttrs_str→Nf,slot_dict_getitem→Kl,slot_dict_get→yS,slot_dict_setdefault→Hi,slot_list_append→wz,slot_list_index→Lb,slot_str_split→KC,slot_tuple_add→M8,slot_tuple_iterator_next→qt,slot_tuple_mul→zF,slot_zip_next→Bo,type_list_append→wA,type_list_index→Ld
open PySem.Flow renaming next→Pz
open PySem.Heap renaming SameBut→qj,get?_none_of_le→Bk,get?_push_of_some→aJ,get?_push_size→cD,get?_update_other→fV,get?_update_self→jo,lt_size→bw,size_after_update→sE,size_push→jN
open PySem.Heap.FunFrames renaming cons→Iu
open PySem.Heap.Ns1 renaming of_empty→RM
open PySem.Heap.SameBut renaming update→KD
open PySem.MeetsSeq renaming plain_index_loop→zB
open PySem.NameKind renaming cell→qm,free→g_
open PySem.Obj renaming data_mapFields→j7,isFreed_of_fields→pq,mapFields→qT,mapSeq→Et
open PySem.Paired renaming length→BJ
open PySem.PassesOwn renaming never→gA
open PySem.PyData renaming bool→qU,canLay0→eN,canLayAll0→wu,eqv→fD,int→jy,list→Hq,str→aW,tuple→jZ
open PySem.SeqAt renaming eqv_refl→KJ,readOf→pY
open PySem.Str renaming empty→iy,join→fQ,length_append→dI,ofString→vG
open PySem.StrLaws renaming found_one→Dc,join_split→uZ,occ_length_le→Pn,sliceText_from→Nj,sliceText_to→PB,split_free→u0
open PySem.Txt renaming slice_le→zE,slice→ni,split→eO
open PySem.Value renaming builtin→um,int→Pb,isStrOf→Cz,none→iG,ref→bR,str→Pg,type→tR
open PySem.W renaming Frag→ao,InstAt→uV,Looks→KH,any_some→Eo,callWith_K→BL,cellsFrom_some→M7,codeIn→qZ,emptyDict→jF,findCls→Ho,findIn→cV,findObj_own→Rx,fnOf→mR,hasDictIn→kE,instObj→mJ,isFn→xX,keepIn→gZ,kia_one→mL,kitAny→Iv,kitOne→dR,lookIn→zp,looks_clsIn→uE,looks_findIn→zq,makesIn→G7,methodObj→CP,mg_none_of→dH,mg_of→iR,mroIn→Bm,nsIn→pN,plainGet→wK,plainOver→CT,readsIn→Hj,set_plain→CV,specialIn→oU,takerIn→qy,typeIn→Il
open PySem.W.InstAt renaming type→xP
open PySem.W.Looks renaming andThen→wB,here→jK,now→zG
open PySem.Within renaming cons→uI
open Sum renaming inl→G5,inr→dN
open True renaming intro→iI
namespace L2
open PySem PySem.Spec PyProof.Rows
abbrev Key:=Sum Int Str
def Lg:Key->aF->Bool
 | .inl k,v=>aF.isInt k v
 | .inr x,v=>Cz x v
def zg9(w:dB):Key->Int
 | .inl k=>hashInt k
 | .inr x=>hashStr w x
theorem lR:∀{k:Key}{v:aF},Lg k v=true->(∃i t,k=G5 i/\v=Pb i t)\/(∃x t,k=dN x/\v=Pg x t)
 | .inl i,v,h=>by
  obtain⟨t,e⟩:=aF.isInt_shape (k:=i) (v:=v) h;exact .inl ⟨i,t,rfl,e⟩
 | .inr x,v,h=>by
  obtain⟨t,e⟩:=aF.isStrOf_shape (x:=x) (v:=v) h;exact .inr ⟨x,t,rfl,e⟩
theorem V5(i:Int)(t:Tok):Lg (.inl i) (.int i t)=true:=by simp[Lg,aF.isInt]
theorem V6(x:Str)(t:Tok):Lg (.inr x) (.str x t)=true:=by simp[Lg,Cz]
theorem zcl(a b:Int):decide ((G5 a:Key)=G5 b)=(a==b):=by
 by_cases e:a=b
 ·subst e;simp
 ·have h:¬(G5 a:Key)=G5 b:=λq=>e (G5.inj q)
  rw[decide_eq_false h];exact(beq_eq_false_iff_ne.mpr e).symm
theorem zcm(a b:Str):decide ((dN a:Key)=dN b)=decide (a=b):=by
 by_cases e:a=b
 ·subst e;simp
 ·have h:¬(dN a:Key)=dN b:=λq=>e (dN.inj q)
  rw[decide_eq_false h,decide_eq_false e]
theorem zcn(a:Int)(b:Str):decide ((G5 a:Key)=dN b)=false:=decide_eq_false (λq=>nomatch q)
theorem zco(a:Str)(b:Int):decide ((dN a:Key)=G5 b)=false:=decide_eq_false (λq=>nomatch q)
def jg(prog:bL)(w:dB):PySem.KeyKind prog w Key where
 is:=Lg
 hash:=zg9 w
 inj:=λv a b ha hb=>by
  rcases lR ha with⟨i,t,rfl,rfl⟩|⟨x,t,rfl,rfl⟩
  ·rcases lR hb with⟨j,u,rfl,e⟩|⟨y,u,rfl,e⟩
   ·injection e with e1 _;rw[e1]
   ·exact nomatch e
  ·rcases lR hb with⟨j,u,rfl,e⟩|⟨y,u,rfl,e⟩
   ·exact nomatch e
   ·injection e with e1 _;rw[e1]
 byValue:=λk v h=>by
  rcases lR h with⟨i,t,rfl,rfl⟩|⟨x,t,rfl,rfl⟩<;>rfl
 pyHash:=λhv h=>by
  rcases lR hv with⟨i,t,rfl,rfl⟩|⟨x,t,rfl,rfl⟩
  ·exact wpAny_pyHash_int h
  ·exact wpAny_pyHash_str h
 eqBool:=λhu hv h=>by
  rcases lR hu with⟨i,t,rfl,rfl⟩|⟨x,t,rfl,rfl⟩
  ·rcases lR hv with⟨j,u,rfl,rfl⟩|⟨y,u,rfl,rfl⟩
   ·rw[zcl]at h;exact wpAny_eqBool_int h
   ·rw[zcn]at h;exact SeqAt.EqAt.int_str i t y u _ _ _ _ h
  ·rcases lR hv with⟨j,u,rfl,rfl⟩|⟨y,u,rfl,rfl⟩
   ·rw[zco]at h;exact SeqAt.EqAt.str_int x t j u _ _ _ _ h
   ·rw[zcm]at h;exact wpAny_eqBool_str h
 «strs»:=λk x t v h=>by
  rcases lR h with⟨i,u,rfl,e⟩|⟨y,u,rfl,e⟩
  ·exact nomatch e
  ·injection e with e1 _
   subst e1;cases v<;>rfl
theorem PJ(prog:bL)(w:dB)(i:Int)(t:Tok):(jg prog w).is (.inl i) (.int i t)=true:=V5 i t
theorem zJ(prog:bL)(w:dB)(x:Str)(t:Tok):(jg prog w).is (.inr x) (.str x t)=true:=V6 x t
inductive V where
 |non|bl (b:Bool)|int (i:Int)|str (x:Str)|byt (b:Array UInt8)|flt (b:UInt64)|ref (a:aN)|ty (n:String)
 deriving DecidableEq
def RelV:V->aF->Prop
 | .non,u=>u=iG
 | .bl b,u=>u=aF.bool b
 | .int i,u=>∃t,u=Pb i t
 | .str x,u=>∃t,u=Pg x t
 | .byt b,u=>∃t,u=aF.bytes b t
 | .flt b,u=>∃t,u=aF.float b t
 | .ref a,u=>u=bR a
 | .ty n,u=>u=tR n
abbrev Vals:List V->List aF->Prop:=RK RelV
theorem Vals.length{xs:List V}{us:List aF}(r:Vals xs us):xs.length=us.length:=BJ r
theorem Vals.get:∀{xs:List V}{us:List aF}{i:Nat}{x:V},Vals xs us->xs[i]?=some x->∃u,us[i]?=some u/\RelV x u
 |_,_,_,_,.nil,e=>by simp at e
 |_,_,0,_,.cons r _,e=>by simp at e;subst e;exact⟨_,rfl,r⟩
 |_,_,i+1,x,.cons _ t,e=>by
  obtain⟨u,h1,h2⟩:=Vals.get (i:=i) (x:=x) t (by simpa using e)
  exact⟨u,by simpa using h1,h2⟩
theorem Vals.set{x:V}{u:aF}(r:RelV x u):∀{xs:List V}{us:List aF}(i:Nat),Vals xs us->Vals (xs.set i x) (us.set i u)
 |_,_,_,.nil=>.nil
 |_,_,0,.cons _ t=>.cons r t
 |_,_,i+1,.cons q t=>.cons q (Vals.set r i t)
theorem Vals.append:∀{xs ys:List V}{us ws:List aF},Vals xs us->Vals ys ws->Vals (xs++ys) (us++ws)
 |_,_,_,_,.nil,s=>s
 |_,_,_,_,.cons r t,s=>.cons r (Vals.append t s)
theorem Vals.take:∀{xs:List V}{us:List aF}(n:Nat),Vals xs us->Vals (xs.take n) (us.take n)
 |_,_,0,_=>.nil
 |_,_,_+1,.nil=>.nil
 |_,_,n+1,.cons r t=>.cons r (Vals.take n t)
theorem Vals.drop:∀{xs:List V}{us:List aF}(n:Nat),Vals xs us->Vals (xs.drop n) (us.drop n)
 |_,_,0,r=>r
 |_,_,_+1,.nil=>.nil
 |_,_,n+1,.cons _ t=>Vals.drop n t
def u5:Option V->Option aF->Prop
 |some v,some u=>RelV v u
 |none,none=>True
 |_,_=>False
def KV{κ:Type}:List (κ×V)->List (κ×aF)->Prop:=RK λ(p:κ×V)(q:κ×aF)=>p.1=q.1/\RelV p.2 q.2
def kV:Key->V
 | .inl i=>.int i
 | .inr x=>.str x
inductive HO where
 |lst (xs:List V)
 |tup (xs:List V)
 |dK (kvs:List (Key×V))|dT (kvs:List (List Key×V))
 |set (S:Int->Bool) (n:Nat)
 |ins (C dx:aN) (fs:List (Str×V))
 |own (x:aN)
 |xd (fs:List (Str×V))
 |met (f x:aN)
 |rng (lo hi:Int)
 |XD (o:Obj) (u:HO)
 |tbl (ps:Array aF)
 |ext (φ:dW->Prop)
abbrev Hp:=aN->Option HO
def upd(H:Hp)(a:aN)(o:HO):Hp:=λb=>if b=a then some o else H b
theorem cQ{H:Hp}{a:aN}{o:HO}:upd H a o a=some o:=by unfold upd;rw[if_pos rfl]
theorem bf{H:Hp}{a b:aN}{o:HO}(h:b≠a):upd H a o b=H b:=by unfold upd;rw[if_neg h]
theorem zeg{H:Hp}{a b:aN}{o u:HO}(h:H a=some o)(h':H b=some u)(d:o≠u):a≠b:=by
 intro e;subst e;rw[h]at h';exact d (fM h')
theorem bV{H:Hp}{a b:aN}{o:HO}(h:H a=some o)(h':H b=none):a≠b:=by
 intro e;subst e;rw[h]at h';cases h'
section
variable(P:bL)(w:dB)
def lB(H:Hp)(h:dW)(a:aN):HO->Prop
 | .lst xs=>xs.length<=sizeLine/\∃(its:List aF)(n:Nat),Vals xs its/\h.get? a=some { cls:=.type "list",data:=.seq its.toArray n }
 | .tup xs=>xs.length<=sizeLine/\∃its:List aF,Vals xs its/\IsTup h a its.toArray
 | .dK kvs=>kvs.length<=sizeLine/\(a==sysModules)=false/\∃vs,KV kvs vs/\h.DictOf (jg P w) a vs
 | .dT kvs=>kvs.length<=sizeLine/\(a==sysModules)=false/\∃xs:List (List Key×aN×aF),
   RK (λ(p:List Key×V)(q:List Key×aN×aF)=>p.1=q.1/\H q.2.1=some (.tup (p.1.map kV))/\RelV p.2 q.2.2) kvs xs/\
   ∃o es ep,h.get? a=some o/\o.ExactDict/\o.data=.dict es ep/\es.toList=xs.map (entryOfKey (tupleKind (jg P w)))/\(xs.map (·.1)).Nodup
 | .set S n=>h.SetOf (intKind P w) a S n
 | .ins C dx fs=>H dx=some (.own a)/\fs.length<=1000/\dx≠a/\h.get? a=some (mJ C dx)/\
   ∃mA,h.Ns1 dx mA/\(∀f,u5 (fs.lookup f) (mA f))/\rQ mA (fs.map (·.1))
 | .own _=>∃o,h.get? a=some o
 | .xd fs=>∃mA,h.Ns1 a mA/\∀f,u5 (fs.lookup f) (mA f)
 | .rng lo hi=>∃t u v,h.get? a=some { cls:=.type "range",data:=.fields #[.int lo t,.int hi u,.int 1 v] }
 | .XD o u=>h.get? a=some o/\lB H h a u
 | .tbl ps=>h.get? a=some { cls:=.none,data:=.fields ps }
 | .met f x=>h.get? a=some (CP (.ref f) (.ref x))
 | .ext φ=>φ h/\(∃o,h.get? a=some o)/\∀h1 h2:dW,φ h1->(∀o,h1.get? a=some o->h2.get? a=some o)->φ h2
def zj(H:Hp)(h:dW):Prop:=∀a o,H a=some o->lB P w H h a o
end
section
variable{P:bL}{w:dB}{H H':Hp}{h h':dW}{a:aN}{o:HO}
theorem lB.lt(x:lB P w H h a o):a<h.objs.size:=by
 cases o with
 |lst xs=>obtain⟨_,_,_,_,e⟩:=x;exact bw e
 |tup xs=>obtain⟨_,_,_,p⟩:=x;exact p.lt
 |dK kvs=>obtain⟨_,_,_,_,o,_,_,e,_⟩:=x;exact bw e
 |dT kvs=>obtain⟨_,_,_,_,o,_,_,e,_⟩:=x;exact bw e
 |set S n=>obtain⟨o,_,_,_,e,_⟩:=x;exact bw e
 |ins C dx fs=>obtain⟨_,_,_,e,_⟩:=x;exact bw e
 |own y=>obtain⟨_,e⟩:=x;exact bw e
 |xd fs=>obtain⟨_,⟨_,_,_,e,_⟩,_⟩:=x;exact bw e
 |rng lo hi=>obtain⟨_,_,_,e⟩:=x;exact bw e
 |XD ob u=>obtain⟨e,_⟩:=x;exact bw e
 |tbl ps=>exact bw (show h.get? a=some _ from x)
 |met f y=>exact bw (show h.get? a=some _ from x)
 |ext φ=>obtain⟨_,⟨_,e⟩,_⟩:=x;exact bw e
theorem RK.zcq{α β:Type}{F G:α->β->Prop}:∀{l₁:List α}{l₂:List β},RK F l₁ l₂->(∀a b,F a b->G a b)->RK G l₁ l₂
 |_,_,.nil,_=>.nil
 |_,_,.cons r t,f=>.cons (f _ _ r) (RK.zcq t f)
theorem lB.stay(x:lB P w H h a o)(k:∀b u,(b=a\/H b=some (.own a))->h.get? b=some u->h'.get? b=some u)
  (ho:∀b,H b=some (.own a)->H' b=some (.own a))(ht:∀b xs,H b=some (.tup xs)->H' b=some (.tup xs)):lB P w H' h' a o:=by
 induction o with
 |lst xs=>obtain⟨z,its,n,r,e⟩:=x;exact⟨z,its,n,r,k _ _ (.inl rfl) e⟩
 |tup xs=>obtain⟨z,its,r,ob,e,c⟩:=x;exact⟨z,its,r,ob,k _ _ (.inl rfl) e,c⟩
 |dK kvs=>obtain⟨z,y,vs,r,ob,es,ep,e,c⟩:=x;exact⟨z,y,vs,r,ob,es,ep,k _ _ (.inl rfl) e,c⟩
 |dT kvs=>
  obtain⟨z,y,xs,r,ob,es,ep,e,c⟩:=x;exact⟨z,y,xs,RK.zcq r λp q z=>⟨z.1,ht _ _ z.2.1,z.2.2⟩,ob,es,ep,k _ _ (.inl rfl) e,c⟩
 |set S n=>obtain⟨ob,es,ep,t,e,c⟩:=x;exact⟨ob,es,ep,t,k _ _ (.inl rfl) e,c⟩
 |ins C dx fs=>
  obtain⟨d,z,ne,e,mA,⟨od,es,ep,e2,c⟩,r⟩:=x;exact⟨ho _ d,z,ne,k _ _ (.inl rfl) e,mA,⟨od,es,ep,k _ _ (.inr d) e2,c⟩,r⟩
 |own y=>obtain⟨ob,e⟩:=x;exact⟨ob,k _ _ (.inl rfl) e⟩
 |xd fs=>obtain⟨mA,⟨od,es,ep,e,c⟩,r⟩:=x;exact⟨mA,⟨od,es,ep,k _ _ (.inl rfl) e,c⟩,r⟩
 |rng lo hi=>obtain⟨t,u,v,e⟩:=x;exact⟨t,u,v,k _ _ (.inl rfl) e⟩
 |XD ob u ih=>obtain⟨e,q⟩:=x;exact⟨k _ _ (.inl rfl) e,ih q⟩
 |tbl ps=>
  have e:h.get? a=some { cls:=.none,data:=.fields ps }:=x;show h'.get? a=some { cls:=.none,data:=.fields ps };exact k a _ (.inl rfl) e
 |met f y=>
  have e:h.get? a=some (CP (.ref f) (.ref y)):=x;show h'.get? a=some (CP (.ref f) (.ref y));exact k a _ (.inl rfl) e
 |ext φ=>obtain⟨p,⟨o,e⟩,st⟩:=x;exact⟨st _ _ p λo q=>k _ _ (.inl rfl) q,⟨o,k _ _ (.inl rfl) e⟩,st⟩
theorem zj.lt(x:zj P w H h)(e:H a=some o):a<h.objs.size:=(x a o e).lt
theorem zj.fresh(x:zj P w H h)(e:h.objs.size<=a):H a=none:=by
 cases q:H a with
 |none=>rfl
 |some u=>exact absurd (cO (x.lt q) e) (nH _)
theorem zj.kept(x:zj P w H h)(k:∀b u,h.get? b=some u->h'.get? b=some u):zj P w H h':=λa o e=>
 (x a o e).stay (λb u _ q=>k b u q) (λ_ q=>q) λ_ _ q=>q
theorem zj.laid(x:zj P w H h)(k:∀b u,h.get? b=some u->h'.get? b=some u)(hp:h.objs.size<=a)(new:lB P w (upd H a o) h' a o):zj P w (upd H a o) h':=λb u e=>by
 have hn:=x.fresh hp;by_cases hb:b=a
 ·subst hb;rw[cQ]at e;cases e;exact new
 ·rw[bf hb]at e
  exact(x b u e).stay (λc v _ q=>k c v q) (λc q=>by rw[bf (bV q hn)];exact q) λc xs q=>by rw[bf (bV q hn)];exact q
end
def Rd(H:Hp)(a:aN)(u:HO):Prop:=H a=some u\/∃o,H a=some (.XD o u)
theorem Rd.ok{P:bL}{w:dB}{H:Hp}{h:dW}{a:aN}{u:HO}(r:Rd H a u)(x:zj P w H h):lB P w H h a u:=by
 rcases r with r|⟨o,r⟩
 ·exact x a u r
 ·obtain⟨_,q⟩:=x a _ r
  exact q
def Mut:Option HO->Prop
 |some (.lst _)=>True
 |some (.dK _)=>True
 |some (.dT _)=>True
 |some (.set _ _)=>True
 |some (.ins _ _ _)=>True
 |some (.ext _)=>True
 |_=>False
section
variable{P:bL}{w:dB}{H:Hp}{h h':dW}{x e:aN}{o':HO}
theorem zj.write(ok:zj P w H h)(mu:Mut (H x))(he:e=x\/H e=some (.own x))(k:∀b u,b≠e->h.get? b=some u->h'.get? b=some u)(heo:∃u,h'.get? e=some u)
  (new:lB P w (upd H x o') h' x o'):zj P w (upd H x o') h':=λb u q=>by
 have zei:∀c y,H c=some (.own y)->c≠x:=λc y r z=>by subst z;rw[r]at mu;exact mu
 have zha:∀c xs,H c=some (.tup xs)->c≠x:=λc xs r z=>by subst z;rw[r]at mu;exact mu
 by_cases hb:b=x
 ·subst hb;rw[cQ]at q;cases q;exact new
 ·rw[bf hb]at q
  by_cases hbe:b=e
  ·have q':H b=some (.own x):=by
    rcases he with z|z
    ·exact absurd (hbe.trans z) hb
    ·rw[hbe];exact z
   rw[q]at q';cases q';obtain⟨v,hv⟩:=heo;exact⟨v,by rw[hbe];exact hv⟩
  ·refine(ok b u q).stay (λc v hc r=>k c v ?_ r) (λc r=>by rw[bf (zei c b r)];exact r) λc xs r=>by rw[bf (zha c xs r)];exact r
   rcases hc with rfl|hc
   ·exact hbe
   ·rintro rfl
    rcases he with z|z
    ·exact zei c b hc z
    ·rw[hc]at z;cases z;exact hb rfl
end
structure Un(fs ex:List aN)(H H':Hp)(h h':dW):Prop where
 keep:∀b o,h.get? b=some o->H b=none->b∉fs->b∉ex->h'.get? b=some o
 slot:∀b o,h.get? b=some o->H b=none->b∈fs->b∉ex->∃sl,h'.get? b=some { o with slots:=sl }
 free:∀b o,h.get? b=some o->H b=none->b∉ex->H' b=none
 there:∀b o,h.get? b=some o->b∉ex->∃o',h'.get? b=some o'
 tups:∀b xs,H b=some (.tup xs)->H' b=some (.tup xs)
 Ey:∀b o u,H b=some (.XD o u)->H' b=some (.XD o u)
 Hr:∀b ps,H b=some (.tbl ps)->∃more,H' b=some (.tbl (ps++more))
section
variable{fs fs' ex ex':List aN}{H H1 H2:Hp}{h h1 h2 h':dW}{a x e:aN}{o:HO}
theorem Un.any(u:Un fs ex H H1 h h1){b:aN}{ob:Obj}(q:h.get? b=some ob)(n:H b=none)(hx:b∉ex):∃sl,h1.get? b=some { ob with slots:=sl }:=by
 by_cases hb:b∈fs
 ·exact u.slot b ob q n hb hx
 ·exact⟨ob.slots,u.keep b ob q n hb hx⟩
theorem Un.kept(k:∀b u,h.get? b=some u->h'.get? b=some u):Un fs ex H H h h':=
 ⟨λb ob q _ _ _=>k b ob q,λb ob q _ _ _=>⟨ob.slots,k b ob q⟩,λ_ _ _ n _=>n,λb ob q _=>⟨ob,k b ob q⟩,λ_ _ q=>q,λ_ _ _ q=>q,λ_ ps q=>⟨#[],by rw[q];simp⟩⟩
theorem Un.refl:Un fs ex H H h h:=Un.kept λ_ _ q=>q
theorem Un.laid(k:∀b u,h.get? b=some u->h'.get? b=some u)(hp:h.objs.size<=a)(hn:H a=none):Un fs ex H (upd H a o) h h' where
 keep:=λb u q _ _ _=>k b u q
 slot:=λb u q _ _ _=>⟨u.slots,k b u q⟩
 free:=λb u q n _=>by rw[bf (bQ (cO (bw q) hp))];exact n
 there:=λb u q _=>⟨u,k b u q⟩
 tups:=λb xs q=>by rw[bf (bV q hn)];exact q
 Ey:=λb u xs q=>by rw[bf (bV q hn)];exact q
 Hr:=λb ps q=>⟨#[],by rw[bf (bV q hn),q];simp⟩
theorem Un.write(mu:Mut (H x))(he:e=x\/H e=some (.own x))(k:∀b u,b≠e->h.get? b=some u->h'.get? b=some u)(heo:∃u,h'.get? e=some u):Un fs ex H (upd H x o) h h':=by
 have hx:∀b,H b=none->b≠x:=λb n z=>by subst z;rw[n]at mu;exact mu
 have hb:∀b,H b=none->b≠e:=λb n z=>by
  subst z;rcases he with r|r
  ·exact hx b n r
  ·rw[n]at r;cases r
 have hm:∀b u,H b=some u->¬Mut (some u)->b≠x:=λb u q nm z=>by subst z;rw[q]at mu;exact nm mu
 refine⟨λb u q n _ _=>k b u (hb b n) q,λb u q n _ _=>⟨u.slots,k b u (hb b n) q⟩,λb u q n _=>by rw[bf (hx b n)];exact n,λb u q _=>?_,
  λb xs q=>by rw[bf (hm b _ q λz=>z)];exact q,λb u xs q=>by rw[bf (hm b _ q λz=>z)];exact q,λb ps q=>⟨#[],by rw[bf (hm b _ q λz=>z),q];simp⟩⟩
 by_cases hbe:b=e
 ·subst hbe;exact heo
 ·exact⟨u,k b u hbe q⟩
end
def trk(h:dW)(H:Hp):List aN:=(dF h.objs.size).filter λa=>(H a).isSome
def Nr(h:dW)(H:Hp):dW:=PySem.W.hideAll h (trk h H)
theorem V7(h:dW)(H:Hp):(Nr h H).objs.size=h.objs.size:=PySem.W.hideAll_size _ _
theorem XH{h:dW}{H:Hp}{b:aN}{o:Obj}(e:h.get? b=some o)(n:H b=none):(Nr h H).get? b=some o:=
 PySem.W.hideAll_get _ e λhm=>by
  have q:(H b).isSome=true:=(List.mem_filter.mp hm).2;rw[n]at q;simp at q
theorem zaf{h:dW}{H:Hp}{b:aN}{o:Obj}(e:(Nr h H).get? b=some o):h.get? b=some o/\H b=none:=by
 have e':h.get? b=some o:=PySem.W.of_hideAll (trk h H) e;refine⟨e',?_⟩
 cases q:H b with
 |none=>rfl
 |some x=>
  have hm:b∈trk h H:=List.mem_filter.mpr ⟨gq.mpr (bw e'),by simp[q]⟩
  have z:(Nr h H).get? b=none:=PySem.W.hideAll_none (trk h H) hm;rw[z]at e;cases e
structure Mod(K:ao)(mg:Str->Option aF)(base:dW):Prop where
 kin:K.In base
 glob:base.Ns mainGlobals mg
 blt:∃mb,base.Ns builtinsNs mb/\∀x:Str,x≠"__name__"->mb x=bootBuiltins x
 nolimit:base.NoLimit
structure Cx where
 prog:bL
 w:dB
 K:ao
 mg:Str->Option aF
 base:dW
 A:fW
 N:List Str
 s₀:aL
 H₀:Hp
 env:Env
 outer:List Env
 stack:List Env
 ex:List aN
 fn:Str->Bool
 calm:Bool
 pn:List (aN×Obj)
 xe:aF->aL->Prop
def frs(l:List Env):List aN:=l.filterMap (·.frame)
abbrev Cx.fs(X:Cx):List aN:=frs X.outer
def PK(sc:rR)(x:Str):Prop:=sc.names.lookup x=some .local\/sc.names.lookup x=some .cell\/sc.names.lookup x=some .free
def Loc(sc:rR)(x:Str):Prop:=sc.names.lookup x=some .local\/sc.names.lookup x=some .cell
def Look(env:Env)(h:dW)(m:Str->Option aF)(x:Str)(u:aF):Prop:=
 (env.kindOf x=some .local/\m x=some u)\/((env.kindOf x=some .cell\/env.kindOf x=some .free)/\∃c,env.cells.lookup x=some c/\h.IsCell c (some u))
structure Cx.Ok(X:Cx):Prop where
 mod:Mod X.K X.mg X.base
 kind:X.env.scope.kind=.function
 glob:X.env.globals=mainGlobals
 blt:X.env.builtins=builtinsNs
 above:X.s₀.heap.objs.size<=X.env.locals
 inj:∀x y c,X.env.cells.lookup x=some c->X.env.cells.lookup y=some c->x=y
 has:∀x,(X.env.kindOf x=some .cell\/X.env.kindOf x=some .free)->∃c,X.env.cells.lookup x=some c
 cab:∀x c,X.fn x=true->X.env.cells.lookup x=some c->X.s₀.heap.objs.size<=c
 hd:X.calm=true->X.A.handled=none
 frames:X.A.frames=some X.stack
 stk:X.stack=X.outer\/(X.stack=X.env::X.outer/\X.env.frame=some X.env.locals)
 exf:∀b∈X.ex,b≠X.env.locals/\∀x c,X.env.cells.lookup x=some c->c≠b
 bs:∀b o,X.base.get? b=some o->X.s₀.heap.get? b=some o/\X.H₀ b=none
 Z5:X.base.objs.size<=X.s₀.heap.objs.size
 RP:∀b o,X.base.get? b=some o->b∉X.ex
 V8:∀b∈X.ex,b∉X.fs
 yV:X.s₀.heap.FunFrames X.base X.outer
 XJ:∀b∈X.fs,X.H₀ b=none
structure Inv(X:Cx)(pins:List (aN×Obj))(σ:List (Option V))(H:Hp)(s:aL):Prop where
 ok:X.Ok
 os:s.os=X.s₀.os
 bare:yZ s.gens
 base:Un X.fs X.ex X.H₀ H X.s₀.heap s.heap
 loc:∃m,s.heap.Ns X.env.locals m/\∀(i:Nat)(x:Str)(v:V),X.N[i]?=some x->σ[i]?=some (some v)->PK X.env.scope x->∃u,RelV v u/\Look X.env s.heap m x u
 cell:∀x c,X.env.cells.lookup x=some c->∃v,s.heap.IsCell c v
 free:H X.env.locals=none
 vM:∀x c,X.env.cells.lookup x=some c->H c=none
 pin:∀p∈X.pn++pins,s.heap.get? p.1=some p.2/\H p.1=none/\p.1≠X.env.locals/\p.1∉X.fs/\∀v,p.2.data≠.cell v
 hok:zj X.prog X.w H s.heap
 len:σ.length=X.N.length
section
variable{X:Cx}{pins:List (aN×Obj)}{σ:List (Option V)}{H H':Hp}{s:aL}{h':dW}
theorem Cx.Ok.zhb(ok:X.Ok){b:aN}{o:Obj}(e:X.base.get? b=some o):b∉X.fs:=λhb=>by
 have:=(ok.yV.mem hb).1;rw[e]at this;cases this
theorem Inv.bs(I:Inv X pins σ H s):∀b o,X.base.get? b=some o->s.heap.get? b=some o/\H b=none:=λb o e=>
 ⟨I.base.keep b o (I.ok.bs b o e).1 (I.ok.bs b o e).2 (I.ok.zhb e) (I.ok.RP b o e),I.base.free b o (I.ok.bs b o e).1 (I.ok.bs b o e).2 (I.ok.RP b o e)⟩
theorem Inv.bk(I:Inv X pins σ H s):∀b o,X.base.get? b=some o->s.heap.get? b=some o:=λb o e=>(I.bs b o e).1
theorem Inv.mod(I:Inv X pins σ H s):Mod X.K X.mg X.base:=I.ok.mod
theorem Inv.zm(I:Inv X pins σ H s):X.K.In s.heap:=I.ok.mod.kin.keeps I.bk
theorem Inv.lt(I:Inv X pins σ H s):X.env.locals<s.heap.objs.size:=let⟨_,hn,_⟩:=I.loc;hn.lt
theorem Inv.sz(I:Inv X pins σ H s):X.s₀.heap.objs.size<=s.heap.objs.size:=dD I.ok.above (vD I.lt)
theorem Inv.zhc(I:Inv X pins σ H s){a:aN}(h:s.heap.objs.size<=a):a∉X.fs:=λhb=>by
 obtain⟨_,o,ho,_⟩:=I.ok.yV.mem hb;exact absurd (cO (bw ho) (dD I.sz h)) (nH _)
theorem Inv.XM(I:Inv X pins σ H s):∀x c,X.env.cells.lookup x=some c->c≠X.env.locals:=λx c e z=>by
 obtain⟨v,o,ho,hd⟩:=I.cell x c e;obtain⟨m,⟨o',es,ep,ho',hd',_⟩,_⟩:=I.loc;rw[z,ho']at ho;cases ho;rw[hd']at hd;cases hd
theorem Inv.yV(I:Inv X pins σ H s):s.heap.FunFrames X.base X.outer:=by
 have all:∀(l:List Env),(∀b∈frs l,b∈X.fs)->X.s₀.heap.FunFrames X.base l->s.heap.FunFrames X.base l:=by
  intro l
  induction l with
  |nil=>intro _ _;trivial
  |cons env r ih=>
   intro hs hl;obtain⟨hk,⟨L,o,hf,hn,ho,hd⟩,hr⟩:=hl;have hL:L∈X.fs:=hs L (by unfold frs;rw[lQ,hf];exact aY)
   obtain⟨sl,e⟩:=I.base.slot L o ho (I.ok.XJ L hL) hL λz=>I.ok.V8 L z hL
   exact⟨hk,⟨L,_,hf,hn,e,hd⟩,ih (λb hb=>hs b (by unfold frs;rw[lQ,hf];exact bD _ hb)) hr⟩
 exact all X.outer (λ_ hb=>hb) I.ok.yV
theorem Inv.stack(I:Inv X pins σ H s):s.heap.FunFrames X.base X.stack:=by
 rcases I.ok.stk with e|⟨e,hf⟩
 ·rw[e];exact I.yV
 ·rw[e]
  obtain⟨m,hn,_⟩:=I.loc;refine .cons (by rw[I.ok.kind];decide) hf hn ?_ I.yV
  exact Bk (dD I.ok.Z5 I.ok.above)
theorem Inv.Nt(I:Inv X pins σ H s):∀b∈frs X.stack,b∈X.env.locals::X.fs:=λb hb=>by
 rcases I.ok.stk with e|⟨e,hf⟩
 ·rw[e]at hb;exact bD _ hb
 ·rw[e]at hb
  unfold frs at hb;rw[lQ,hf]at hb;exact hb
theorem Inv.Uz(I:Inv X pins σ H s):∀b∈frs X.stack,H b=none:=λb hb=>by
 rcases aQ.mp (I.Nt b hb)with e|hb
 ·rw[e];exact I.free
 ·obtain⟨_,o,ho,_⟩:=I.ok.yV.mem hb
  exact I.base.free b o ho (I.ok.XJ b hb) λz=>I.ok.V8 b z hb
theorem Inv.step{g':Array xV}{t':Nat}{d':Drawn}{ch:List aN}(I:Inv X pins σ H s)
  (hch:∀b∈ch,(b∈X.ex\/X.s₀.heap.objs.size<=b)/\b≠X.env.locals/\(∀x c,X.env.cells.lookup x=some c->c≠b)/\∀p∈X.pn++pins,p.1≠b)
  (keep:∀b o,b≠X.env.locals->b∉X.fs->b∉ch->s.heap.get? b=some o->H b=none->h'.get? b=some o)
  (slot:∀b o,b≠X.env.locals->b∈X.fs->b∉ch->s.heap.get? b=some o->H b=none->∃sl,h'.get? b=some { o with slots:=sl })(free:∀b o,b∉ch->s.heap.get? b=some o->H b=none->H' b=none)
  (there:∀b o,b∉ch->s.heap.get? b=some o->∃o',h'.get? b=some o')
  (tups:∀b xs,H b=some (.tup xs)->H' b=some (.tup xs))(Ey:∀b o u,H b=some (.XD o u)->H' b=some (.XD o u))(Hr:∀b ps,H b=some (.tbl ps)->∃more,H' b=some (.tbl (ps++more)))
  (ns:∀m,s.heap.Ns X.env.locals m->h'.Ns X.env.locals m)(hok:zj X.prog X.w H' h')(hg:yZ g'):
  Inv X pins σ H' { s with heap:=h',gens:=g',drawn:=d',toks:=t' }:=by
 have neL:∀b o,X.s₀.heap.get? b=some o->b≠X.env.locals:=λb o e=>bQ (cO (bw e) I.ok.above)
 have neC:∀b o,X.s₀.heap.get? b=some o->b∉X.ex->b∉ch:=λb o e hx hb=>by
  rcases(hch b hb).1 with z|z
  ·exact hx z
  ·exact absurd (cO (bw e) z) (nH _)
 have cellK:∀x c,X.env.cells.lookup x=some c->∀v,s.heap.IsCell c v->h'.IsCell c v:=λx c e v ⟨o,ho,hd⟩=>by
  have nch:c∉ch:=λz=>(hch c z).2.2.1 x c e rfl
  by_cases hc:c∈X.fs
  ·obtain⟨sl,q⟩:=slot c o (I.XM x c e) hc nch ho (I.vM x c e)
   exact⟨_,q,hd⟩
  ·exact⟨o,keep c o (I.XM x c e) hc nch ho (I.vM x c e),hd⟩
 refine⟨I.ok,I.os,hg,⟨λb o e n hb hx=>?_,λb o e n hb hx=>?_,λb o e n hx=>?_,λb o e hx=>?_,λb xs e=>tups b xs (I.base.tups b xs e),λb o xs e=>Ey b o xs (I.base.Ey b o xs e),λb ps e=>?_⟩,?_,λx c e=>?_,?_,λx c e=>?_,λp hp=>?_,hok,I.len⟩
 ·exact keep b o (neL b o e) hb (neC b o e hx) (I.base.keep b o e n hb hx) (I.base.free b o e n hx)
 ·obtain⟨sl,e1⟩:=I.base.slot b o e n hb hx
  obtain⟨sl',e2⟩:=slot b _ (neL b o e) hb (neC b o e hx) e1 (I.base.free b o e n hx);exact⟨sl',e2⟩
 ·obtain⟨o',e1⟩:=I.base.there b o e hx
  exact free b o' (neC b o e hx) e1 (I.base.free b o e n hx)
 ·obtain⟨o',e1⟩:=I.base.there b o e hx
  exact there b o' (neC b o e hx) e1
 ·obtain⟨m1,e1⟩:=I.base.Hr b ps e
  obtain⟨m2,e2⟩:=Hr b _ e1;exact⟨m1++m2,by rw[e2,Array.append_assoc]⟩
 ·obtain⟨m,hn,hl⟩:=I.loc
  refine⟨m,ns m hn,λi x v e1 e2 e3=>?_⟩
  obtain⟨u,r,l⟩:=hl i x v e1 e2 e3;refine⟨u,r,?_⟩
  rcases l with l|⟨k,c,e,z⟩
  ·exact .inl l
  ·exact .inr ⟨k,c,e,cellK x c e _ z⟩
 ·obtain⟨v,z⟩:=I.cell x c e
  exact⟨v,cellK x c e v z⟩
 ·obtain⟨m,⟨o,_,_,ho,_⟩,_⟩:=I.loc
  exact free _ o (λz=>(hch _ z).2.1 rfl) ho I.free
 ·obtain⟨v,o,ho,hd⟩:=I.cell x c e
  exact free c o (λz=>(hch c z).2.2.1 x c e rfl) ho (I.vM x c e)
 ·obtain⟨e,n,ne,nf,d⟩:=I.pin p hp
  have nch:p.1∉ch:=λz=>(hch p.1 z).2.2.2 p hp rfl
  exact⟨keep p.1 p.2 ne nf nch e n,free p.1 p.2 nch e n,ne,nf,d⟩
theorem Inv.un{t':Nat}(I:Inv X pins σ H s)(u:Un X.fs [] H H' s.heap h')(hok:zj X.prog X.w H' h'):Inv X pins σ H' { s with heap:=h',toks:=t' }:=by
 obtain⟨m,⟨o,es,ep,ho,r⟩,_⟩:=id I.loc;obtain⟨sl,hL⟩:=u.any ho I.free (by simp)
 exact I.step (g':=s.gens) (d':=s.drawn) (ch:=[]) (λ_ z=>nomatch z) (λb o _ hb _ e n=>u.keep b o e n hb (by simp)) (λb o _ hb _ e n=>u.slot b o e n hb (by simp)) (λb o _ e n=>u.free b o e n (by simp)) (λb o _ e=>u.there b o e (by simp)) u.tups u.Ey u.Hr (λm' hm=>by
  obtain⟨o',es',ep',ho',r'⟩:=hm;rw[ho]at ho';cases ho';exact⟨_,es',ep',hL,r'⟩) hok I.bare
theorem Inv.call{g':Array xV}{t':Nat}{d':Drawn}{ch:List aN}(I:Inv X pins σ H s)(u:Un (frs X.stack) ch H H' s.heap h')(hok:zj X.prog X.w H' h')(hg:yZ g')
  (hch:∀b∈ch,(b∈X.ex\/X.s₀.heap.objs.size<=b)/\b≠X.env.locals/\(∀x c,X.env.cells.lookup x=some c->c≠b)/\∀p∈X.pn++pins,p.1≠b):
  Inv X pins σ H' { s with heap:=h',gens:=g',drawn:=d',toks:=t' }:=by
 obtain⟨m,⟨o,es,ep,ho,r⟩,_⟩:=id I.loc;obtain⟨sl,hL⟩:=u.any ho I.free λz=>(hch _ z).2.1 rfl
 exact I.step (ch:=ch) hch (λb o hL hb hc e n=>u.keep b o e n (λz=>(aQ.mp (I.Nt b z)).elim hL hb) hc) (λb o _ _ hc e n=>u.any e n hc) (λb o hc e n=>u.free b o e n hc) (λb o hc e=>u.there b o e hc) u.tups u.Ey u.Hr (λm' hm=>by
  obtain⟨o',es',ep',ho',r'⟩:=hm;rw[ho]at ho';cases ho';exact⟨_,es',ep',hL,r'⟩) hok hg
theorem Inv.turned{t':Nat}{it:aN}(I:Inv X pins σ H s)(k:∀b o,b≠it->s.heap.get? b=some o->h'.get? b=some o)(hn:H it=none)(hL:it≠X.env.locals)
  (h1:it∈X.ex\/X.s₀.heap.objs.size<=it)(h2:∀x c,X.env.cells.lookup x=some c->c≠it)(h3:∀p∈X.pn++pins,p.1≠it):Inv X pins σ H { s with heap:=h',toks:=t' }:=by
 have nit:∀b u,H b=some u->b≠it:=λb u e z=>by rw[z,hn]at e;cases e
 refine I.step (g':=s.gens) (d':=s.drawn) (ch:=[it]) (λb hb=>?_) (λb o _ _ hc e _=>k b o (λz=>hc (by simp[z])) e) (λb o _ _ hc e _=>⟨o.slots,k b o (λz=>hc (by simp[z])) e⟩) (λ_ _ _ _ n=>n)
  (λb o hc e=>⟨o,k b o (λz=>hc (by simp[z])) e⟩) (λ_ _ e=>e) (λ_ _ _ e=>e) (λb ps e=>⟨#[],by rw[e];simp⟩) (λm hm=>?_) (λb u e=>?_) I.bare
 ·have e:b=it:=by simpa using hb
  subst e;exact⟨h1,hL,h2,h3⟩
 ·obtain⟨o,es,ep,ho,r⟩:=hm
  exact⟨o,es,ep,k _ o (cH hL) ho,r⟩
 ·refine(I.hok b u e).stay (λc v hc q=>k c v ?_ q) (λ_ q=>q) λ_ _ q=>q
  rcases hc with z|z
  ·rw[z];exact nit b u e
  ·exact nit c _ z
theorem Inv.tok(I:Inv X pins σ H s)(t:Nat):Inv X pins σ H { s with toks:=t }:=I.un (h':=s.heap) (t':=t) Un.refl I.hok
theorem Inv.kept{t':Nat}(I:Inv X pins σ H s)(k:∀b u,s.heap.get? b=some u->h'.get? b=some u):Inv X pins σ H { s with heap:=h',toks:=t' }:=I.un (Un.kept k) (I.hok.kept k)
theorem Inv.laid{a:aN}{o:HO}{t':Nat}(I:Inv X pins σ H s)(k:∀b u,s.heap.get? b=some u->h'.get? b=some u)(hp:s.heap.objs.size<=a)(new:lB X.prog X.w (upd H a o) h' a o):
  Inv X pins σ (upd H a o) { s with heap:=h',toks:=t' }:=I.un (Un.laid k hp (I.hok.fresh hp)) (I.hok.laid k hp new)
theorem Inv.write{x e:aN}{o:HO}{t':Nat}(I:Inv X pins σ H s)(mu:Mut (H x))(he:e=x\/H e=some (.own x))(k:∀b u,b≠e->s.heap.get? b=some u->h'.get? b=some u)(heo:∃u,h'.get? e=some u)
  (new:lB X.prog X.w (upd H x o) h' x o):Inv X pins σ (upd H x o) { s with heap:=h',toks:=t' }:=I.un (Un.write mu he k heo) (I.hok.write mu he k heo new)
theorem Inv.UG{zbC:List (aN×Obj)}(I:Inv X pins σ H s)(h:∀p∈zbC,s.heap.get? p.1=some p.2/\H p.1=none/\p.1≠X.env.locals/\p.1∉X.fs/\∀v,p.2.data≠.cell v):Inv X zbC σ H s:=
 ⟨I.ok,I.os,I.bare,I.base,I.loc,I.cell,I.free,I.vM,λp hp=>(dJ.mp hp).elim (λz=>I.pin p (jB _ z)) (h p),I.hok,I.len⟩
theorem Iw{N:List Str}(hN:N.Nodup){i j:Nat}{x:Str}(a:N[i]?=some x)(b:N[j]?=some x):i=j:=by
 obtain⟨h1,e1⟩:=aV.mp a;obtain⟨h2,e2⟩:=aV.mp b;exact(List.getElem_inj hN).mp (e1.trans e2.symm)
theorem Lh{M:Ph}{A:fW}{E:aF->aL->Prop}{i:Nat}{x:Str}{v:V}{u:aF}{Q:Unit->aL->Prop}(I:Inv X pins σ H s)(hN:X.N.Nodup)(hi:X.N[i]?=some x)(hx:Loc X.env.scope x)(r:RelV v u)
  (h:∀s',Inv X pins (σ.set i (some v)) H s'->(∃a,qj a s.heap s'.heap/\(a=X.env.locals\/X.env.cells.lookup x=some a))->Q () s')(hf:X.fn x=true\/X.env.scope.names.lookup x=some .local:=by first|exact .inl rfl|exact .inr rfl|assumption):wpAny M A (storeName X.env x u) Q E s:=by
 obtain⟨m,hn,hl⟩:=id I.loc;have hcls:(X.env.scope.kind == .class||(X.env.scope.kind == .module&&X.env.locals != X.env.globals))=false:=by rw[I.ok.kind];rfl
 have hiσ:i < σ.length:=by rw[I.len];exact(aV.mp hi).1
 have XM:=I.XM;have tracked:∀{a:aN}{h':dW},(∃o,s.heap.get? a=some o/\H a=none)->qj a s.heap h'->zj X.prog X.w H h':=λ{a h'}ha hs b ob e=>by
  obtain⟨_,_,hfree⟩:=ha;refine(I.hok b ob e).stay (λc w' hc q=>(hs.2 c ?_).trans q) (λ_ q=>q) λ_ _ q=>q
  rintro rfl
  rcases hc with rfl|hc
  ·rw[hfree]at e;cases e
  ·rw[hfree]at hc;cases hc
 rcases hx with hk|hk
 ·refine wpAny_storeName_local hk hn (λh' hn' hs=>?_) hcls
  obtain⟨oL,_,_,hoL,_⟩:=id hn;refine h _ ⟨I.ok,I.os,I.bare,⟨λb o e n hb hx=>?_,λb o e n hb hx=>?_,I.base.free,λb o e hx=>?_,I.base.tups,I.base.Ey,I.base.Hr⟩,⟨_,hn',λj y v' e1 e2 e3=>?_⟩,λy c e=>?_,I.free,I.vM,λp hp=>?_,tracked ⟨oL,hoL,I.free⟩ hs,by simpa using I.len⟩ ⟨_,hs,.inl rfl⟩
  ·exact(hs.2 b (bQ (cO (bw e) I.ok.above))).trans (I.base.keep b o e n hb hx)
  ·obtain⟨sl,e1⟩:=I.base.slot b o e n hb hx
   exact⟨sl,(hs.2 b (bQ (cO (bw e) I.ok.above))).trans e1⟩
  ·obtain⟨o',e1⟩:=I.base.there b o e hx
   exact⟨o',(hs.2 b (bQ (cO (bw e) I.ok.above))).trans e1⟩
  ·by_cases hj:j=i
   ·subst hj
    rw[hi]at e1;cases e1;rw[bF hiσ]at e2;cases e2;exact⟨u,r,.inl ⟨hk,by simp⟩⟩
   ·rw[bB (cH hj)]at e2
    obtain⟨u',r',q⟩:=hl j y v' e1 e2 e3;refine⟨u',r',?_⟩
    rcases q with⟨k,e⟩|⟨k,c,e,z⟩
    ·refine .inl ⟨k,?_⟩
     have:y≠x:=λe=>hj (Iw hN e1 (e▸hi))
     simp[this,e]
    ·exact .inr ⟨k,c,e,z.sameBut hs (XM y c e)⟩
  ·obtain⟨w',z⟩:=I.cell y c e
   exact⟨w',z.sameBut hs (XM y c e)⟩
  ·obtain⟨e,n,ne,nf,d⟩:=I.pin p hp
   exact⟨(hs.2 p.1 ne).trans e,n,ne,nf,d⟩
 ·have hfn:X.fn x=true:=by
   rcases hf with z|z
   ·exact z
   ·rw[z]at hk;cases hk
  obtain⟨c,hc⟩:=I.ok.has x (.inl hk);obtain⟨w',z⟩:=I.cell x c hc;refine wpAny_storeName_cell I.ok.kind hk hc z (λh' hc' hs=>?_)
  obtain⟨oc,hoc,zhd⟩:=id z;refine h { s with heap:=h' } ⟨I.ok,I.os,I.bare,⟨λb o e n hb hx=>?_,λb o e n hb hx=>?_,I.base.free,λb o e hx=>?_,I.base.tups,I.base.Ey,I.base.Hr⟩,⟨m,hn.sameBut hs (cH (XM x c hc)),λj y v' e1 e2 e3=>?_⟩,λy c' e=>?_,I.free,I.vM,λp hp=>?_,tracked ⟨oc,hoc,I.vM x c hc⟩ hs,by simpa using I.len⟩ ⟨c,hs,.inr hc⟩
  ·exact(hs.2 b (bQ (cO (bw e) (I.ok.cab x c hfn hc)))).trans (I.base.keep b o e n hb hx)
  ·obtain⟨sl,e1⟩:=I.base.slot b o e n hb hx
   exact⟨sl,(hs.2 b (bQ (cO (bw e) (I.ok.cab x c hfn hc)))).trans e1⟩
  ·obtain⟨o',e1⟩:=I.base.there b o e hx
   exact⟨o',(hs.2 b (bQ (cO (bw e) (I.ok.cab x c hfn hc)))).trans e1⟩
  ·by_cases hj:j=i
   ·subst hj
    rw[hi]at e1;cases e1;rw[bF hiσ]at e2;cases e2;exact⟨u,r,.inr ⟨.inl hk,c,hc,hc'⟩⟩
   ·rw[bB (cH hj)]at e2
    obtain⟨u',r',q⟩:=hl j y v' e1 e2 e3;refine⟨u',r',?_⟩
    rcases q with q|⟨k,c',e,z'⟩
    ·exact .inl q
    ·refine .inr ⟨k,c',e,z'.sameBut hs ?_⟩
     rintro rfl
     exact hj (Iw hN e1 (I.ok.inj _ _ _ e hc▸hi))
  ·by_cases hcc:c'=c
   ·subst hcc;exact⟨_,hc'⟩
   ·obtain⟨w2,z2⟩:=I.cell y c' e
    exact⟨w2,z2.sameBut hs hcc⟩
  ·obtain⟨e,n,ne,nf,d⟩:=I.pin p hp
   refine⟨(hs.2 p.1 ?_).trans e,n,ne,nf,d⟩
   intro q;rw[q,hoc]at e;have q':oc=p.2:=fM e;exact d w' (by rw[<-q'];exact zhd)
theorem tV{M:Ph}{A:fW}{E:aF->aL->Prop}{i:Nat}{x:Str}{v:V}{u:aF}{Q:Unit->aL->Prop}(I:Inv X pins σ H s)(hN:X.N.Nodup)(hi:X.N[i]?=some x)(hx:Loc X.env.scope x)(r:RelV v u)
  (h:∀s',Inv X pins (σ.set i (some v)) H s'->Q () s')(hf:X.fn x=true\/X.env.scope.names.lookup x=some .local:=by first|exact .inl rfl|exact .inr rfl|assumption):wpAny M A (storeName X.env x u) Q E s:=
 Lh I hN hi hx r (λs' I' _=>h s' I') hf
theorem Inv.call'{s':aL}{ch:List aN}(I:Inv X pins σ H s)(ho:s'.os=s.os)(u:Un (frs X.stack) ch H H' s.heap s'.heap)(hok:zj X.prog X.w H' s'.heap)(hg:yZ s'.gens)
  (hch:∀b∈ch,(b∈X.ex\/X.s₀.heap.objs.size<=b)/\b≠X.env.locals/\(∀x c,X.env.cells.lookup x=some c->c≠b)/\∀p∈X.pn++pins,p.1≠b):Inv X pins σ H' s':=by
 obtain⟨h',g',d',t',o'⟩:=s';have e:o'=s.os:=ho;subst e;exact I.call (g':=g') (t':=t') (d':=d') u hok hg hch
end
abbrev XK:=aF->Option aN->Hp->Prop
abbrev St:=List (Option V)
abbrev VK:=V->Hp->Prop
abbrev TE:=St->Hp->VK->Prop
abbrev TT:=St->Hp->(Bool->Hp->Prop)->Prop
abbrev TA:=St->Hp->(List V->Hp->Prop)->Prop
structure Ends where
 nx:St->Hp->Prop
 rt:VK
 bk:St->Hp->Prop:=λ_ _=>False
 ct:St->Hp->Prop:=λ_ _=>False
abbrev TS:=Ends->St->Hp->Prop
def EP(X:Cx)(pins:List (aN×Obj))(σ:St)(Q:VK)(u:aF)(s':aL):Prop:=∃v H',Inv X pins σ H' s'/\RelV v u/\Q v H'
def TP(X:Cx)(pins:List (aN×Obj))(σ:St)(Q:Bool->Hp->Prop)(b:Bool)(s':aL):Prop:=∃H',Inv X pins σ H' s'/\Q b H'
def AP(X:Cx)(pins:List (aN×Obj))(σ:St)(Q:List V->Hp->Prop)(us:List aF)(s':aL):Prop:=∃vs H',Inv X pins σ H' s'/\Vals vs us/\Q vs H'
def SP(X:Cx)(pins:List (aN×Obj))(D:Ends)(f:Flow)(s':aL):Prop:=
 match f with
 | .next=>∃σ' H',Inv X pins σ' H' s'/\D.nx σ' H'
 | .brk=>∃σ' H',Inv X pins σ' H' s'/\D.bk σ' H'
 | .cont=>∃σ' H',Inv X pins σ' H' s'/\D.ct σ' H'
 | .ret u=>∃v σ' H',Inv X pins σ' H' s'/\RelV v u/\D.rt v H'
def PE(X:Cx)(e:dz)(t:TE):Prop:=
 ∀(pins:List (aN×Obj))(s:aL)(σ:St)(H:Hp)(Q:VK),Inv X pins σ H s->t σ H Q->wpAny (model X.prog X.w) X.A (eval e X.env) (EP X pins σ Q) X.xe s
def PT(X:Cx)(e:dz)(t:TT):Prop:=
 ∀(pins:List (aN×Obj))(s:aL)(σ:St)(H:Hp)(Q:Bool->Hp->Prop),Inv X pins σ H s->t σ H Q->wpAny (model X.prog X.w) X.A (isTrue e X.env (eval e X.env)) (TP X pins σ Q) X.xe s
def PW(X:Cx)(e:dz)(t:TT):Prop:=
 ∀(whole:Sem aF)(pins:List (aN×Obj))(s:aL)(σ:St)(H:Hp)(Q:Bool->Hp->Prop),Inv X pins σ H s->t σ H Q->wpAny (model X.prog X.w) X.A (isTrue e X.env whole) (TP X pins σ Q) X.xe s
theorem PW.pt{X:Cx}{e:dz}{t:TT}(h:PW X e t):PT X e t:=h _
def PA(X:Cx)(es:List dz)(t:TA):Prop:=
 ∀(pos:Pos)(pins:List (aN×Obj))(s:aL)(σ:St)(H:Hp)(Q:List V->Hp->Prop),Inv X pins σ H s->t σ H Q->wpAny (model X.prog X.w) X.A (spliced (backTo pos (starEach es X.env))) (AP X pins σ Q) X.xe s
def PS(X:Cx)(st:mj)(t:TS):Prop:=
 ∀(pins:List (aN×Obj))(s:aL)(σ:St)(H:Hp)(D:Ends),Inv X pins σ H s->t D σ H->wpAny (model X.prog X.w) X.A (exec st X.env) (SP X pins D) X.xe s
def UJ(X:Cx)(st:List mj)(t:TS):Prop:=
 ∀(pins:List (aN×Obj))(s:aL)(σ:St)(H:Hp)(D:Ends),Inv X pins σ H s->t D σ H->wpAny (model X.prog X.w) X.A (execs st X.env) (SP X pins D) X.xe s
theorem jL{α:Type}{t:Sem α}{Q Q':α->aL->Prop}{M:Ph}{A:fW}{E:aF->aL->Prop}{s:aL}(h:wpAny M A t Q E s)(hQ:∀a s,Q a s->Q' a s):wpAny M A t Q' E s:=iB h hQ λ_ _ x=>x
section
variable{X:Cx}
theorem bin{a b:dz}{ta tb:TE}(ha:PE X a ta)(hb:PE X b tb){pins:List (aN×Obj)}{s:aL}{σ:St}{H:Hp}{R:V->V->Hp->Prop}(I:Inv X pins σ H s)(h:ta σ H λx H1=>tb σ H1 λy H2=>R x y H2)
  {α:Type}{Q:α->aL->Prop}{f:aF->aF->Sem α}
  (hf:∀v u s2 x y H2,Inv X pins σ H2 s2->RelV x v->RelV y u->R x y H2->wpAny (model X.prog X.w) X.A (f v u) Q X.xe s2):
  wpAny (model X.prog X.w) X.A (eval a X.env) (λv s₁=>wpAny (model X.prog X.w) X.A (eval b X.env) (λu s₂=>wpAny (model X.prog X.w) X.A (f v u) Q X.xe s₂) X.xe s₁) X.xe s:=by
 refine jL (ha pins s σ H _ I h) λv s1 ⟨x,H1,I1,r1,q1⟩=>?_
 refine jL (hb pins s1 σ H1 _ I1 q1) λu s2 ⟨y,H2,I2,r2,q2⟩=>?_
 exact hf v u s2 x y H2 I2 r1 r2 q2
def zel(i:Nat):TE:=λσ H Q=>∃v,σ[i]?=some (some v)/\Q v H
def tC(v:V):TE:=λ_ H Q=>Q v H
theorem j8{i:Nat}{x:Str}{pos:Pos}(hN:X.N[i]?=some x)(hv:PK X.env.scope x)(hd:(x==("__debug__":Str))=false:=by decide)(hcd:(x==("__classdict__":Str))=false:=by decide):PE X (.Name x pos) (zel i):=by
 intro pins s σ H Q I h;obtain⟨v,e,h⟩:=h;obtain⟨m,hn,hl⟩:=I.loc;obtain⟨u,r,l⟩:=hl i x v hN e hv;have fin:EP X pins σ Q u s:=⟨v,H,I,r,h⟩;rcases l with⟨hk,hm⟩|⟨hk,c,hc,hcell⟩
 ·exact wpAny_Name (wpAny_loadName_local I.ok.kind hk hn hm fin) hd
 ·rcases hk with hk|hk
  ·exact wpAny_Name (wpAny_loadName_cell I.ok.kind hk hc hcell fin) hd
  ·exact wpAny_Name (wpAny_loadName_free I.ok.kind hk hc hcell fin hcd) hd
theorem zcs{i j pos}:PE X (.Constant (.int i) j pos) (tC (.int i)):=λ_ _ _ H _ I h=>wpAny_Constant_int ⟨.int i,H,I.tok _,⟨_,rfl⟩,h⟩
theorem zem{b j pos}:PE X (.Constant (.bool b) j pos) (tC (.bl b)):=λ_ _ _ H _ I h=>Constant_bool ⟨.bl b,H,I,rfl,h⟩
theorem zct{j pos}:PE X (.Constant .none j pos) (tC .non):=λ_ _ _ H _ I h=>Constant_none ⟨.non,H,I,rfl,h⟩
theorem zcu{x j pos}:PE X (.Constant (.str x) j pos) (tC (.str x)):=λ_ _ _ H _ I h=>Calls.Constant_str ⟨.str x,H,I.tok _,⟨_,rfl⟩,h⟩
def Gl(X:Cx)(x:Str):Prop:=X.env.kindOf x=some .globalImplicit
theorem xY{E:aF->aL->Prop}{pins:List (aN×Obj)}{s:aL}{σ:St}{H:Hp}{x:Str}{u:aF}{pos:Pos}{Q:aF->aL->Prop}(I:Inv X pins σ H s)(hg:Gl X x)(hm:X.mg x=some u)(h:Q u s)
  (hd:(x==("__debug__":Str))=false:=by decide):wpAny (model X.prog X.w) X.A (eval (.Name x pos) X.env) Q E s:=
 Kv I.ok.kind hg (Calls.loadGlobal_global (by rw[I.ok.glob];exact I.mod.glob.keeps I.bk) hm h) hd
theorem Ez{E:aF->aL->Prop}{pins:List (aN×Obj)}{s:aL}{σ:St}{H:Hp}{x:Str}{u:aF}{pos:Pos}{Q:aF->aL->Prop}(I:Inv X pins σ H s)(hg:Gl X x)(hm:X.mg x=none)(hv:bootBuiltins x=some u)(h:Q u s)
  (hn:x≠"__name__":=by decide)(hd:(x==("__debug__":Str))=false:=by decide):wpAny (model X.prog X.w) X.A (eval (.Name x pos) X.env) Q E s:=by
 obtain⟨mb,h1,h2⟩:=I.mod.blt;exact Kv I.ok.kind hg (Calls.loadGlobal_builtin (by rw[I.ok.glob];exact I.mod.glob.keeps I.bk) hm (by rw[I.ok.blt];exact h1.keeps I.bk) ((h2 x hn).trans hv) h) hd
theorem vN{x:Str}{v:V}{u:aF}{pos:Pos}(hg:Gl X x)(hm:X.mg x=some u)(r:RelV v u)(hd:(x==("__debug__":Str))=false:=by decide):PE X (.Name x pos) (tC v):=
 λ_ _ _ H _ I h=>xY I hg hm ⟨v,H,I,r,h⟩ hd
theorem Dd{x:Str}{v:V}{u:aF}{pos:Pos}(hg:Gl X x)(hm:X.mg x=none)(hv:bootBuiltins x=some u)(r:RelV v u)(hn:x≠"__name__":=by decide)(hd:(x==("__debug__":Str))=false:=by decide):PE X (.Name x pos) (tC v):=
 λ_ _ _ H _ I h=>Ez I hg hm hv ⟨v,H,I,r,h⟩ hn hd
variable{a b:dz}{ta tb:TE}{pos:Pos}
def PC(X:Cx)(op:Hw)(a b:dz)(t:TE):Prop:=
 ∀(pins:List (aN×Obj))(s:aL)(σ:St)(H:Hp)(Q:VK),Inv X pins σ H s->t σ H Q->
  wpAny (model X.prog X.w) X.A (eval a X.env) (λv s₁=>wpAny (model X.prog X.w) X.A (eval b X.env) (λu s₂=>wpAny (model X.prog X.w) X.A (compareOp op v u) (EP X pins σ Q) X.xe s₂) X.xe s₁) X.xe s
def tB(t:TE):TT:=λσ H Q=>t σ H λx H1=>∃c,x=.bl c/\Q c H1
theorem RQ{op:Hw}{t:TE}(h:PC X op a b t)(h1:behindInMarks op b=false:=by first|exact XQ _ (by decide) (by decide)|rfl):PE X (.Compare a [op] [b] pos) t:=λpins s σ H Q I hw=>wpAny_Compare1 (h pins s σ H Q I hw) h1
theorem zcv{op:Hw}{t:TE}(h:PC X op a b t)(h1:behindInMarks op b=false:=by first|exact XQ _ (by decide) (by decide)|rfl):PT X (.Compare a [op] [b] pos) (tB t):=by
 intro pins s σ H Q I hw;refine wpAny_isTrue_Compare1 (jL (h pins s σ H _ I hw) λv s1 h1=>jL h1 λu s2 h2=>jL h2 λc s3 ⟨x,H1,I1,r1,q1⟩=>?_) h1
 obtain⟨d,rfl,q⟩:=q1;cases r1;exact iw ⟨H1,I1,q⟩
theorem BW{e:dz}{t:TE}(h:PE X e t)(he:∀whole,isTrue e X.env whole=(do let v <-whole;standAt e.pos;holding [v] (truthy v)):=by intro _;rfl):PT X e (tB t):=by
 intro pins s σ H Q I hw;refine isTrue_plain (jL (h pins s σ H _ I hw) λv s1 ⟨x,H1,I1,r1,q1⟩=>?_) (he _)
 obtain⟨d,rfl,q⟩:=q1;cases r1;exact iw ⟨H1,I1,q⟩
variable{tA tB':TT}{rest:List dz}
def zhe(t u:TT):TT:=λσ H Q=>t σ H λc H1=>if c=true then u σ H1 Q else Q false H1
def tOr(t u:TT):TT:=λσ H Q=>t σ H λc H1=>if c=true then Q true H1 else u σ H1 Q
def zhf(t:TT):TT:=λσ H Q=>t σ H λc H1=>Q (!c) H1
theorem pw_and1(ha:PT X a tA):PW X (.BoolOp .And [a] pos) tA:=by
 intro wh pins s σ H Q I h;refine isTrue_and (jL (ha pins s σ H Q I h) λc s1 e=>?_)
 cases c with
 |true=>exact isTrue_and_nil e
 |false=>exact e
theorem pw_or1(ha:PT X a tA):PW X (.BoolOp .Or [a] pos) tA:=by
 intro wh pins s σ H Q I h;refine isTrue_or (jL (ha pins s σ H Q I h) λc s1 e=>?_)
 cases c with
 |false=>exact isTrue_or_nil e
 |true=>exact e
theorem pw_and(ha:PT X a tA)(hb:PW X (.BoolOp .And (b::rest) pos) tB'):PW X (.BoolOp .And (a::b::rest) pos) (zhe tA tB'):=by
 intro wh pins s σ H Q I h;refine isTrue_and (jL (ha pins s σ H _ I h) λc s1 ⟨H1,I1,q1⟩=>?_)
 cases c with
 |true=>exact hb wh pins s1 σ H1 Q I1 q1
 |false=>exact⟨H1,I1,q1⟩
theorem pw_or(ha:PT X a tA)(hb:PW X (.BoolOp .Or (b::rest) pos) tB'):PW X (.BoolOp .Or (a::b::rest) pos) (tOr tA tB'):=by
 intro wh pins s σ H Q I h;refine isTrue_or (jL (ha pins s σ H _ I h) λc s1 ⟨H1,I1,q1⟩=>?_)
 cases c with
 |true=>exact⟨H1,I1,q1⟩
 |false=>exact hb wh pins s1 σ H1 Q I1 q1
theorem EY(ha:PT X a tA):PT X (.UnaryOp .Not a pos) (zhf tA):=by
 intro pins s σ H Q I h;exact isTrue_not (ha pins s σ H (λc H1=>Q (!c) H1) I h)
def zen(ta tb:TE):TE:=λσ H Q=>ta σ H λx H1=>∃c,x=.bl c/\if c=true then tb σ H1 Q else Q (.bl false) H1
def zhg(ta tb:TE):TE:=λσ H Q=>ta σ H λx H1=>∃c,x=.bl c/\if c=true then Q (.bl true) H1 else tb σ H1 Q
def zeo(ta:TE):TE:=λσ H Q=>ta σ H λx H1=>∃c,x=.bl c/\Q (.bl (!c)) H1
theorem zcw{op}{t:TE}(h:PE X a t):PE X (.BoolOp op [a] pos) t:=λpins s σ H Q I hw=>BoolOp_one (h pins s σ H Q I hw)
theorem XR(ha:PE X a ta)(hb:PE X (.BoolOp .And (b::rest) pos) tb):PE X (.BoolOp .And (a::b::rest) pos) (zen ta tb):=by
 intro pins s σ H Q I h;refine BoolOp_and (jL (ha pins s σ H _ I h) λv s1 ⟨x,H1,I1,r1,q1⟩=>?_)
 obtain⟨c,rfl,q1⟩:=q1;cases r1;refine iw ?_
 cases c with
 |true=>exact hb pins s1 σ H1 Q I1 q1
 |false=>exact⟨.bl false,H1,I1,rfl,q1⟩
theorem zbD(ha:PE X a ta)(hb:PE X (.BoolOp .Or (b::rest) pos) tb):PE X (.BoolOp .Or (a::b::rest) pos) (zhg ta tb):=by
 intro pins s σ H Q I h;refine BoolOp_or (jL (ha pins s σ H _ I h) λv s1 ⟨x,H1,I1,r1,q1⟩=>?_)
 obtain⟨c,rfl,q1⟩:=q1;cases r1;refine iw ?_
 cases c with
 |false=>exact hb pins s1 σ H1 Q I1 q1
 |true=>exact⟨.bl true,H1,I1,rfl,q1⟩
theorem zcx(ha:PE X a ta):PE X (.UnaryOp .Not a pos) (zeo ta):=by
 intro pins s σ H Q I h;refine UnaryOp_ (jL (ha pins s σ H _ I h) λv s1 ⟨x,H1,I1,r1,q1⟩=>?_)
 obtain⟨c,rfl,q1⟩:=q1;cases r1;exact not_of (iw ⟨.bl (!c),H1,I1,rfl,q1⟩)
def tIf(t:TT)(ta tb:TE):TE:=λσ H Q=>t σ H λc H1=>if c=true then ta σ H1 Q else tb σ H1 Q
theorem XS{c:dz}(hc:PT X c tA)(ha:PE X a ta)(hb:PE X b tb):PE X (.IfExp c a b pos) (tIf tA ta tb):=by
 intro pins s σ H Q I h;refine wpAny_IfExp (jL (hc pins s σ H _ I h) λd s1 ⟨H1,I1,q1⟩=>?_)
 cases d with
 |true=>exact ha pins s1 σ H1 Q I1 q1
 |false=>exact hb pins s1 σ H1 Q I1 q1
end
def rW(K:ao)(H:Hp)(a:aN)(xs:List V):Prop:=
 Rd H a (.lst xs)\/
  ∃(o:Obj)(its:Array aF)(n:Nat),K.lookup a=some o/\o.cls=.type "list"/\o.dict=none/\o.data=.seq its n/\its.size<=sizeLine/\Vals xs its.toList
def xZ(K:ao)(H:Hp)(a:aN)(xs:List V):Prop:=
 Rd H a (.tup xs)\/
  ∃(o:Obj)(its:Array aF)(n:Nat),K.lookup a=some o/\o.cls=.type "tuple"/\o.data=.seq its n/\its.size<=sizeLine/\Vals xs its.toList
def zhh:aF->Option V
 | .none=>some .non
 | .bool b=>some (.bl b)
 | .int i _=>some (.int i)
 | .str x _=>some (.str x)
 | .bytes b _=>some (.byt b)
 | .float b _=>some (.flt b)
 | .ref a=>some (.ref a)
 | .type n=>some (.ty n)
 |_=>none
theorem RelV.abs{x:V}{u:aF}(r:RelV x u):zhh u=some x:=by
 cases x with
 |non=>cases r;rfl
 |bl _=>cases r;rfl
 |int _=>obtain⟨t,rfl⟩:=r;rfl
 |str _=>obtain⟨t,rfl⟩:=r;rfl
 |byt _=>obtain⟨t,rfl⟩:=r;rfl
 |flt _=>obtain⟨t,rfl⟩:=r;rfl
 |ref _=>cases r;rfl
 |ty _=>cases r;rfl
theorem RelV.inj{x y:V}{u:aF}(r:RelV x u)(q:RelV y u):x=y:=fM (r.abs.symm.trans q.abs)
theorem Vals.inj:∀{xs ys:List V}{us:List aF},Vals xs us->Vals ys us->xs=ys
 |_,_,_,.nil,.nil=>rfl
 |_,_,_,.cons r t,.cons r' t'=>by rw[r.inj r',Vals.inj t t']
section
variable{X:Cx}{pins:List (aN×Obj)}{σ:St}{H:Hp}{s:aL}{a:aN}{xs ys:List V}
theorem rW.of{K:ao}(h:H a=some (.lst xs)):rW K H a xs:=.inl (.inl h)
theorem xZ.of{K:ao}(h:H a=some (.tup xs)):xZ K H a xs:=.inl (.inl h)
theorem Inv.list(I:Inv X pins σ H s)(h:rW X.K H a xs):∃its:List aF,Vals xs its/\PlainL s.heap a its.toArray/\xs.length<=sizeLine:=by
 rcases h with h|⟨o,its,n,hk,hc,hd,hs,hz,r⟩
 ·obtain⟨z,its,n,r,e⟩:=h.ok I.hok
  exact⟨its,r,⟨_,n,e,rfl,rfl,rfl⟩,z⟩
 ·refine⟨its.toList,r,⟨o,n,I.zm a o hk,hc,hd,by simpa using hs⟩,?_⟩
  have e:=r.length;simp only[dX]at e;omega
theorem Inv.tuple(I:Inv X pins σ H s)(h:xZ X.K H a xs):∃its:List aF,Vals xs its/\IsTup s.heap a its.toArray/\xs.length<=sizeLine:=by
 rcases h with h|⟨o,its,n,hk,hc,hs,hz,r⟩
 ·obtain⟨z,its,r,p⟩:=h.ok I.hok
  exact⟨its,r,p,z⟩
 ·refine⟨its.toList,r,⟨o,I.zm a o hk,hc,n,by simpa using hs⟩,?_⟩
  have e:=r.length;simp only[dX]at e;omega
theorem Inv.Iz(I:Inv X pins σ H s)(h:rW X.K H a xs)(h':rW X.K H a ys):xs=ys:=by
 obtain⟨its,r,⟨o,n,e,_,_,d⟩,_⟩:=I.list h;obtain⟨its',r',⟨o',n',e',_,_,d'⟩,_⟩:=I.list h';rw[e]at e';cases e';rw[d]at d'
 injection d' with d1 _
 have:its=its':=by simpa using congrArg Array.toList d1
 subst this;exact r.inj r'
theorem Inv.Li(I:Inv X pins σ H s)(h:xZ X.K H a xs)(h':xZ X.K H a ys):xs=ys:=by
 obtain⟨its,r,⟨o,e,_,n,d⟩,_⟩:=I.tuple h;obtain⟨its',r',⟨o',e',_,n',d'⟩,_⟩:=I.tuple h';rw[e]at e';cases e';rw[d]at d'
 injection d' with d1 _
 have:its=its':=by simpa using congrArg Array.toList d1
 subst this;exact r.inj r'
end
abbrev Cx.wish(X:Cx)(E:aF->aL->Prop):Cx:={ X with xe:=E }
abbrev Cx.nox(X:Cx):Cx:=X.wish λ_ _=>False
theorem Cx.Ok.wish{X:Cx}(ok:X.Ok)(E:aF->aL->Prop):(X.wish E).Ok:=
 ⟨ok.mod,ok.kind,ok.glob,ok.blt,ok.above,ok.inj,ok.has,ok.cab,ok.hd,ok.frames,ok.stk,ok.exf,ok.bs,ok.Z5,ok.RP,ok.V8,ok.yV,ok.XJ⟩
theorem Cx.Ok.zK{X:Cx}{E:aF->aL->Prop}(ok:(X.wish E).Ok):X.Ok:=
 ⟨ok.mod,ok.kind,ok.glob,ok.blt,ok.above,ok.inj,ok.has,ok.cab,ok.hd,ok.frames,ok.stk,ok.exf,ok.bs,ok.Z5,ok.RP,ok.V8,ok.yV,ok.XJ⟩
section
variable{X:Cx}{pins:List (aN×Obj)}{σ:St}{H:Hp}{s:aL}{E:aF->aL->Prop}
theorem Inv.wish(I:Inv X pins σ H s)(E:aF->aL->Prop):Inv (X.wish E) pins σ H s:=⟨I.ok.wish E,I.os,I.bare,I.base,I.loc,I.cell,I.free,I.vM,I.pin,I.hok,I.len⟩
theorem Inv.zK(I:Inv (X.wish E) pins σ H s):Inv X pins σ H s:=⟨I.ok.zK,I.os,I.bare,I.base,I.loc,I.cell,I.free,I.vM,I.pin,I.hok,I.len⟩
theorem SP.zK{D:Ends}{f:Flow}{s':aL}(h:SP (X.wish E) pins D f s'):SP X pins D f s':=by
 cases f with
 |next=>obtain⟨σ',H',I,q⟩:=h;exact⟨σ',H',I.zK,q⟩
 |brk=>obtain⟨σ',H',I,q⟩:=h;exact⟨σ',H',I.zK,q⟩
 |cont=>obtain⟨σ',H',I,q⟩:=h;exact⟨σ',H',I.zK,q⟩
 |ret u=>obtain⟨v,σ',H',I,r,q⟩:=h;exact⟨v,σ',H',I.zK,r,q⟩
theorem UJ.nox{st:List mj}{t:TS}(h:UJ X.nox st t):UJ X st t:=λpins s σ H D I hw=>
 iB (h pins s σ H D (I.wish _) hw) (λ_ _ q=>q.zK) λ_ _ z=>iT z
end
section
variable{X:Cx}{st:mj}{rest:List mj}{t u:TS}{e:dz}{te:TE}{pos:Pos}
def zep:TS:=λD σ H=>D.nx σ H
def zhi(t u:TS):TS:=λD σ H=>t { D with nx:=u D } σ H
theorem Ak:UJ X [] zep:=λ_ _ σ H _ I h=>wg ⟨σ,H,I,h⟩
theorem q_(h1:PS X st t)(h2:UJ X rest u):UJ X (st::rest) (zhi t u):=by
 intro pins s σ H D I h;refine Bd (jL (h1 pins s σ H { D with nx:=u D } I h) λf s1 q=>?_)
 cases f with
 |next=>
  obtain⟨σ',H',I',q⟩:=q;exact h2 pins s1 σ' H' D I' q
 |ret v=>exact q
 |brk=>exact q
 |cont=>exact q
theorem HJ(h1:PS X st t):UJ X [st] t:=by
 intro pins s σ H D I h;refine Bd (jL (h1 pins s σ H D I h) λf s1 q=>?_)
 cases f with
 |next=>exact wg q
 |ret v=>exact q
 |brk=>exact q
 |cont=>exact q
theorem Inv.quiet{pins:List (aN×Obj)}{σ:St}{H:Hp}{s:aL}(I:Inv X pins σ H s):interactive X.env=false:=by simp[interactive,I.ok.kind]
def zeq(te:TE):TS:=λD σ H=>te σ H λ_ H1=>D.nx σ H1
theorem Al(he:PE X e te)(hs:swapsWith e none pos.line X.env=pure false:=by rfl):PS X (.Expr e pos) (zeq te):=by
 intro pins s σ H D I h;exact wpAny_Expr_any (jL (he pins s σ H _ I h) λv s1 ⟨x,H1,I1,r1,q1⟩=>⟨σ,H1,I1,q1⟩) I.quiet hs
def zhj(te:TE):TS:=λD σ H=>te σ H D.rt
theorem IK(he:PE X e te):PS X (.Return (some e) pos) (zhj te):=by
 intro pins s σ H D I h;exact wpAny_Return_some (jL (he pins s σ H _ I h) λv s1 ⟨x,H1,I1,r1,q1⟩=>⟨x,σ,H1,I1,r1,q1⟩)
def zhk(c:TT)(t u:TS):TS:=λD σ H=>c σ H λb H1=>if b=true then t D σ H1 else u D σ H1
theorem Gi{c:dz}{a b:List mj}{tc:TT}(hc:PT X c tc)(ha:UJ X a t)(hb:UJ X b u):PS X (.If c a b pos) (zhk tc t u):=by
 intro pins s σ H D I h;refine wpAny_If (jL (hc pins s σ H _ I h) λd s1 ⟨H1,I1,q1⟩=>?_)
 cases d with
 |true=>exact ha pins s1 σ H1 D I1 q1
 |false=>exact hb pins s1 σ H1 D I1 q1
def zcy:TS:=λ_ _ _=>False
theorem pO{sts:List mj}:UJ X sts zcy:=λ_ _ _ _ _ _ h=>h.elim
end
abbrev TG:=V->St->Hp->(St->Hp->Prop)->Prop
abbrev TGs:=List V->St->Hp->(St->Hp->Prop)->Prop
def PG(X:Cx)(target:dz)(t:TG):Prop:=
 ∀(pins:List (aN×Obj))(s:aL)(σ:St)(H:Hp)(v:V)(u:aF)(Q:St->Hp->Prop),Inv X pins σ H s->RelV v u->t v σ H Q->
  wpAny (model X.prog X.w) X.A (assign target X.env u) (λ_ s'=>∃σ' H',Inv X pins σ' H' s'/\Q σ' H') X.xe s
def PGs(X:Cx)(ts:List dz)(t:TGs):Prop:=
 ∀(pins:List (aN×Obj))(s:aL)(σ:St)(H:Hp)(vs:List V)(us:List aF)(Q:St->Hp->Prop),Inv X pins σ H s->Vals vs us->t vs σ H Q->
  wpAny (model X.prog X.w) X.A (assignInOrder ((assignEach ts X.env).map (·.2)) us) (λ_ s'=>∃σ' H',Inv X pins σ' H' s'/\Q σ' H') X.xe s
abbrev zcz:=V->V->V->Hp->(Hp->Prop)->Prop
def zer(X:Cx)(t:zcz):Prop:=
 ∀(pins:List (aN×Obj))(s:aL)(σ:St)(H:Hp)(o i v:V)(ov iv u:aF)(Q:Hp->Prop),Inv X pins σ H s->RelV o ov->RelV i iv->RelV v u->t o i v H Q->
  wpAny (model X.prog X.w) X.A (setItem ov iv u) (λ_ s'=>∃H',Inv X pins σ H' s'/\Q H') X.xe s
section
variable{X:Cx}{pos:Pos}
def Lj(i:Nat):TG:=λv σ H Q=>Q (σ.set i (some v)) H
theorem cJ{i:Nat}{x:Str}(hN:X.N.Nodup)(hi:X.N[i]?=some x)(hx:Loc X.env.scope x)(hf:X.fn x=true\/X.env.scope.names.lookup x=some .local:=by first|exact .inl rfl|exact .inr rfl|assumption):PG X (.Name x pos) (Lj i):=by
 intro pins s σ H v u Q I r h;exact wpAny_assign_Name (tV I hN hi hx r (λs' I'=>⟨_,H,I',h⟩) hf)
def zes:TGs:=λvs σ H Q=>vs=[]/\Q σ H
def zbG(t:TG)(u:TGs):TGs:=λvs σ H Q=>∃v r,vs=v::r/\t v σ H λσ' H'=>u r σ' H' Q
theorem jq:PGs X [] zes:=by
 intro pins s σ H vs us Q I r h;obtain⟨e,h⟩:=h;subst e;cases r;exact Kw ⟨σ,H,I,h⟩
theorem cZ{e:dz}{es:List dz}{t:TG}{u:TGs}(h1:PG X e t)(h2:PGs X es u)
  (hs:(assignEach (e::es) X.env).map (·.2)=assign e X.env::(assignEach es X.env).map (·.2):=by rfl):PGs X (e::es) (zbG t u):=by
 intro pins s σ H vs us Q I r h;obtain⟨v,vr,e1,h⟩:=h;subst e1;cases r with
 |cons r rr=>
  rw[hs];refine o8 (jL (h1 pins s σ H _ _ _ I r h) λ_ s1 ⟨σ1,H1,I1,q1⟩=>?_)
  exact h2 pins s1 σ1 H1 _ _ Q I1 rr q1
def zet(K:ao)(n:Nat)(t:TGs):TG:=λv σ H Q=>∃a xs,v=.ref a/\xZ K H a xs/\xs.length=n/\t xs σ H Q
theorem lg{es:List dz}{k:Nat}{t:TGs}{n:Nat}(hc:X.calm=true)(h:PGs X es t)
  (hn:(assignEach es X.env).length=n:=by rfl)(hst:(assignEach es X.env).findIdx? (·.1)=none:=by rfl):PG X (.Tuple es k pos) (zet X.K n t):=by
 intro pins s σ H v u Q I r hw;obtain⟨a,xs,e1,hq,hl,hw⟩:=hw;subst e1;cases r;obtain⟨its,rv,ht,hz⟩:=I.tuple hq;refine assign_Tuple_tuple (I.ok.hd hc) ht (by simp[hn,<-hl,rv.length]) hst λh' hx=>?_
 have I1:Inv X pins σ H { s with heap:=h' }:=I.kept (t':=s.toks) λb o e=>hx b o (bQ (bw e)) e
 exact h pins _ σ H xs _ Q I1 (by simpa using rv) hw
def zhl(to ti:TE)(t:zcz):TG:=λv σ H Q=>to σ H λo H1=>ti σ H1 λi H2=>t o i v H2 λH3=>Q σ H3
theorem zcA{o i:dz}{to ti:TE}{t:zcz}(ho:PE X o to)(hi:PE X i ti)(hs:zer X t)
  (ha:∀v,assign (.Subscript o i pos) X.env v=(do
   let ov <-holding [v] (eval o X.env)
   let iv <-holding [v,ov] (eval i X.env)
   standAt pos
   holding [v,ov,iv] (setItem ov iv v)
   release [v,ov,iv] []):=by intro _;rfl):PG X (.Subscript o i pos) (zhl to ti t):=by
 intro pins s σ H v u Q I r h;rw[ha];refine aD (mK (jL (ho pins s σ H _ I h) λov s1 ⟨x,H1,I1,r1,q1⟩=>?_))
 refine aD (mK (jL (hi pins s1 σ H1 _ I1 q1) λiv s2 ⟨y,H2,I2,r2,q2⟩=>?_))
 refine aD (rT (aD (mK (jL (hs pins s2 σ H2 x y v ov iv u _ I2 r1 r2 r q2) λ_ s3 ⟨H3,I3,q3⟩=>?_))))
 exact wpAny_release ⟨σ,H3,I3,q3⟩
def zcB(te:TE)(g:TG):TS:=λD σ H=>te σ H λx H1=>g x σ H1 D.nx
theorem X3{tg e:dz}{te:TE}{g:TG}(he:PE X e te)(hg:PG X tg g)(hs:swapsWithSole [tg] e pos.line X.env=pure false:=by rfl)(hw:swappedStores [tg] e X.env=pure none:=by rfl)
  (h1:(assignEach [tg] X.env).map (·.2)=[assign tg X.env]:=by rfl):PS X (.Assign [tg] e pos) (zcB te g):=by
 intro pins s σ H D I h;refine wpAny_Assign_stores (jL (he pins s σ H _ I h) λv s1 ⟨x,H1,I1,r1,q1⟩=>?_) hs hw
 rw[h1];exact jL (hg pins s1 σ H1 x v _ I1 r1 q1) λ_ s2 q=>q
theorem E_{i:Nat}{x:Str}{e:dz}{te:TE}{pos':Pos}(hN:X.N.Nodup)(hi:X.N[i]?=some x)(hx:Loc X.env.scope x)(he:PE X e te)(hs:swapsWith e (some (.Name x pos')) pos.line X.env=pure false:=by rfl)(hf:X.fn x=true\/X.env.scope.names.lookup x=some .local:=by first|exact .inl rfl|exact .inr rfl|assumption):
  PS X (.Assign [.Name x pos'] e pos) (zcB te (Lj i)):=by
 intro pins s σ H D I h;refine wpAny_Assign_Name (jL (he pins s σ H _ I h) λv s1 ⟨y,H1,I1,r1,q1⟩=>?_) hs
 exact tV I1 hN hi hx r1 (λs2 I2=>⟨_,H1,I2,q1⟩) hf
def zhm(i j:Nat)(ta:TA):TS:=λD σ H=>ta σ H λvs H1=>∃v w,vs=[v,w]/\D.nx ((σ.set i (some v)).set j (some w)) H1
theorem X4{i j:Nat}{x y:Str}{a b:dz}{ta:TA}{px py pt:Pos}{kt k2 RT}(hc:X.calm=true)(hN:X.N.Nodup)(hi:X.N[i]?=some x)(hj:X.N[j]?=some y)(hij:i≠j)
  (hx:X.env.scope.names.lookup x=some .local)(hy:X.env.scope.names.lookup y=some .local)(ha:PA X [a,b] ta)
  (hw:swappedStores [.Tuple [.Name x px,.Name y py] kt pt] (.Tuple [a,b] k2 RT) X.env=pure (some [x,y]))
  (hs:swapsWithSole [.Tuple [.Name x px,.Name y py] kt pt] (.Tuple [a,b] k2 RT) pos.line X.env=pure false:=by rfl):
  PS X (.Assign [.Tuple [.Name x px,.Name y py] kt pt] (.Tuple [a,b] k2 RT) pos) (zhm i j ta):=by
 intro pins s σ H D I h;rw[exec_Assign_arm];refine aD (rT ?_)
 rw[hs];refine aD (bA ?_)
 rw[if_neg (by decide)]
 refine aD (Tuple_ (jL (ha _ pins s σ H _ I h) λus s1 ⟨vs,H1,I1,r1,q1⟩=>?_))
 obtain⟨v,w,e1,q1⟩:=q1;subst e1;obtain⟨u1,u2,rfl,rv,yW⟩:∃u1 u2,us=[u1,u2]/\RelV v u1/\RelV w u2:=by
  cases r1 with
  |cons p q=>
   cases q with
   |cons p' q'=>
    cases q';exact⟨_,_,rfl,p,p'⟩
 refine iU ?_ (by show 2<=sizeLine;decide)
 have I2:Inv X pins σ H1 { s1 with heap:=s1.heap.push { cls:=.type "tuple",data:=.seq [u1,u2].toArray } }:=I1.kept (t':=s1.toks) λb o e=>aJ _ e
 rw[hw];refine aD (bA ?_)
 show wpAny (model X.prog X.w) X.A (do rule "assign.swapped-stores";let items <-unpackItems (.ref s1.heap.objs.size) 2 none;assignInOrder [λv=>bindName X.env y v,λv=>bindName X.env x v] items.reverse;pure Pz) _ _ _
 refine aD (Ij (aD (unpackItems_tuple (items:=#[u1,u2]) (I.ok.hd hc) (Bl s1.heap _) λh' hx'=>?_)))
 have I3:=I2.kept (h':=h') (t':=s1.toks) λb o e=>hx' b o (bQ (bw e)) e
 show wpAny _ _ (assignInOrder [λv=>bindName X.env y v,λv=>bindName X.env x v] [u2,u1] >>= λ_=>pure Pz) _ _ _
 refine aD (o8 (xW (tV I3 hN hj (.inl hy) yW (λs2 I4=>?_) (.inr hy))))
 refine o8 (xW (tV I4 hN hi (.inl hx) rv (λs3 I5=>Kw (bA ?_)) (.inr hx)))
 rw[CQ _ _ (cH hij)]at I5;exact⟨_,H1,I5,q1⟩
end
section
variable{X:Cx}{pos:Pos}
end
structure It where
 go:Nat->Hp->Prop
 yld:Nat->Hp->V->Hp->Prop
 stop:Nat->Hp->Prop
def Df(X:Cx)(pins:List (aN×Obj))(H:Hp)(b:aN):Prop:=
 H b=none/\b≠X.env.locals/\b∉X.fs/\(b∈X.ex\/X.s₀.heap.objs.size<=b)/\(∀x c,X.env.cells.lookup x=some c->c≠b)/\∀p∈X.pn++pins,p.1≠b
theorem Inv.KN{X:Cx}{pins:List (aN×Obj)}{σ:St}{H H':Hp}{s:aL}{b:aN}(I:Inv X pins σ H s)(hb:s.heap.objs.size<=b)(hn:H' b=none):Df X pins H' b:=by
 refine⟨hn,jd (cO I.lt hb),I.zhc hb,.inr (dD I.sz hb),λx c e z=>?_,λp hp z=>?_⟩
 ·obtain⟨v,q⟩:=I.cell x c e
  exact absurd (cO q.lt (by rw[z];exact hb)) (nH _)
 ·exact absurd (cO (bw (I.pin p hp).1) (by rw[z];exact hb)) (nH _)
structure Turn(P:bL)(w:dB)(K:ao)(tg:dz)(J:It)(fp:List aN)(it:aN)(tn:Nat->dW->Prop):Prop where
 mem:it∈fp
 obj:∀i h,tn i h->∀b∈fp,∃o,h.get? b=some o/\∀v,o.data≠.cell v
 keep:∀i h h',tn i h->(∀b∈fp,∀o,h.get? b=some o->h'.get? b=some o)->tn i h'
 item:∀(X:Cx),X.prog=P->X.w=w->X.K=K->X.calm=true->∀(i:Nat)(pins:List (aN×Obj))(s:aL)(σ:St)(H:Hp)(E:aF->aL->Prop),Inv X pins σ H s->(∀b∈fp,Df X pins H b)->tn i s.heap->J.go i H->
  wpAny (model P w) X.A (pyNext (.ref it)) (λr s1=>∃u,r=some u/\
   wpAny (model P w) X.A (letOwnedTupleGo tg (.ref it) u) (λ_ s2=>∃x H',Inv X pins σ H' s2/\RelV x u/\J.yld i H x H'/\tn (i+1) s2.heap/\∀b∈fp,H' b=none) E s1) E s
 done:∀(X:Cx),X.prog=P->X.w=w->X.K=K->X.calm=true->∀(i:Nat)(pins:List (aN×Obj))(s:aL)(σ:St)(H:Hp)(E:aF->aL->Prop),Inv X pins σ H s->(∀b∈fp,Df X pins H b)->tn i s.heap->J.stop i H->
  wpAny (model P w) X.A (pyNext (.ref it)) (λr s1=>r=none/\Inv X pins σ H s1) E s
 self:∀(A:fW)(i:Nat)(s:aL)(Q:aF->aL->Prop)(E:aF->aL->Prop),tn i s.heap->Q (.ref it) s->wpAny (model P w) A (pyIter (.ref it)) Q E s
abbrev TI:=St->Hp->(It->Hp->Prop)->Prop
def PIE(X:Cx)(pins:List (aN×Obj))(σ:St)(tg:dz)(R:It->Hp->Prop)(itv:aF)(s2:aL):Prop:=
 ∃(it:aN)(fp:List aN)(tn:Nat->dW->Prop)(J:It)(H':Hp),itv=.ref it/\Inv X pins σ H' s2/\Turn X.prog X.w X.K tg J fp it tn/\tn 0 s2.heap/\(∀b∈fp,Df X pins H' b)/\R J H'
def PI(X:Cx)(tg iter:dz)(wi:TI):Prop:=
 ∀(pins:List (aN×Obj))(s:aL)(σ:St)(H:Hp)(R:It->Hp->Prop),Inv X pins σ H s->wi σ H R->
  wpAny (model X.prog X.w) X.A (eval iter X.env) (λv s1=>wpAny (model X.prog X.w) X.A (pyIter v) (PIE X pins σ tg R) X.xe s1) X.xe s
theorem UL{M:Ph}{A:fW}{E:aF->aL->Prop}{s:aL}{tg:dz}{it:aN}{u:aF}{o:Obj}{n:String}{vs:Array aF}{Q:Unit->aL->Prop}(ho:s.heap.get? it=some o)(hc:o.cls=.type n)(hd:o.data=.fields vs)
    (hn:["enumerate","zip","dict_itemiterator","dict_reverseitemiterator","odict_iterator","itertools.zip_longest","itertools.pairwise"].contains n=false)(hQ:Q () s):wpAny M A (letOwnedTupleGo tg (.ref it) u) Q E s:=by
  unfold letOwnedTupleGo;cases tg<;>first
    | exact bA hQ
    | (cases u<;>first
        | exact bA hQ
        | (refine aD (wpAny_load ho ?_)
           rw[hc,hd];show wpAny M A (if(["enumerate","zip","dict_itemiterator","dict_reverseitemiterator","odict_iterator","itertools.zip_longest","itertools.pairwise"].contains n&&vs[0]?==some (rawInt _))=true then _ else _) Q E s
           rw[if_neg (by intro h;rw[hn,Bool.false_and]at h;cases h)]
           exact bA hQ))
def Itl(K:ao)(a:aN):It:=
 ⟨λi H=>∃xs x,rW K H a xs/\xs[i]?=some x,λi H x H'=>H'=H/\∀xs,rW K H a xs->xs[i]?=some x,λi H=>∃xs,rW K H a xs/\xs.length<=i⟩
def Itt(K:ao)(a:aN):It:=
 ⟨λi H=>∃xs x,xZ K H a xs/\xs[i]?=some x,λi H x H'=>H'=H/\∀xs,xZ K H a xs->xs[i]?=some x,λi H=>∃xs,xZ K H a xs/\xs.length<=i⟩
def Itr(lo:Int)(n:Nat):It:=⟨λi _=>i<n,λi H x H'=>H'=H/\x=.int (lo+i),λi _=>n<=i⟩
theorem V9{P:bL}{w:dB}{K:ao}{tg:dz}(a it:aN):Turn P w K tg (Itl K a) [it] it (λi h=>h.IsListIter it a i) where
 mem:=by simp
 obj:=λi h st b hb=>by
  have e:b=it:=by simpa using hb
  subst e;obtain⟨o,e,c,d⟩:=st;exact⟨o,e,λv z=>by rw[d]at z;cases z⟩
 keep:=λi h h' st k=>st.at λo e=>k it (by simp) o e
 item:=by
  intro X hP hw hK hc i pins s σ H E I hf st hg;subst hP hw hK;obtain⟨xs,x,hq,hx⟩:=hg;obtain⟨its,rv,p,hz⟩:=I.list hq;obtain⟨u,hu,ru⟩:=rv.get hx;obtain⟨f0,f1,f2,f3,f4,f5⟩:=hf it (by simp)
  refine wpAny_pyNext_list_item st p.isList (x:=u) (by simpa using hu) λh' st' sb=>?_
  have I1:Inv X pins σ H { s with heap:=h' }:=I.turned (t':=s.toks) (λb o hb e=>(sb.2 b hb).trans e) f0 f1 f3 f4 f5
  obtain⟨o,e,c,d⟩:=id st';exact⟨u,rfl,UL (s:={ s with heap:=h' }) e c d (by decide) ⟨x,H,I1,ru,⟨rfl,λys hy=>by rw[I.Iz hy hq];exact hx⟩,st',λb hb=>(hf b hb).1⟩⟩
 done:=by
  intro X hP hw hK hc i pins s σ H E I hf st hg;subst hP hw hK;obtain⟨xs,hq,hx⟩:=hg;obtain⟨its,rv,p,hz⟩:=I.list hq;obtain⟨f0,f1,f2,f3,f4,f5⟩:=hf it (by simp)
  have hl:=rv.length;exact wpAny_pyNext_list_end (I.ok.hd hc) st p.isList (by simp;omega) λh' eb=>⟨rfl,I.turned (t':=s.toks) (λb o hb e=>eb b o hb e) f0 f1 f3 f4 f5⟩
 self:=λ_ _ _ _ _ st h=>wpAny_pyIter_listiter st h
theorem RV{P:bL}{w:dB}{K:ao}{tg:dz}(a it:aN):Turn P w K tg (Itt K a) [it] it (λi h=>h.IsTupleIter it a i) where
 mem:=by simp
 obj:=λi h st b hb=>by
  have e:b=it:=by simpa using hb
  subst e;obtain⟨o,e,c,d⟩:=st;exact⟨o,e,λv z=>by rw[d]at z;cases z⟩
 keep:=λi h h' st k=>st.at λo e=>k it (by simp) o e
 item:=by
  intro X hP hw hK hc i pins s σ H E I hf st hg;subst hP hw hK;obtain⟨xs,x,hq,hx⟩:=hg;obtain⟨its,rv,p,hz⟩:=I.tuple hq;obtain⟨u,hu,ru⟩:=rv.get hx;obtain⟨f0,f1,f2,f3,f4,f5⟩:=hf it (by simp)
  refine wpAny_pyNext_tuple_item st (show s.heap.IsTuple a its.toArray from p) (x:=u) (by simpa using hu) λh' st' sb=>?_
  have I1:Inv X pins σ H { s with heap:=h' }:=I.turned (t':=s.toks) (λb o hb e=>(sb.2 b hb).trans e) f0 f1 f3 f4 f5
  obtain⟨o,e,c,d⟩:=id st';exact⟨u,rfl,UL (s:={ s with heap:=h' }) e c d (by decide) ⟨x,H,I1,ru,⟨rfl,λys hy=>by rw[I.Li hy hq];exact hx⟩,st',λb hb=>(hf b hb).1⟩⟩
 done:=by
  intro X hP hw hK hc i pins s σ H E I hf st hg;subst hP hw hK;obtain⟨xs,hq,hx⟩:=hg;obtain⟨its,rv,p,hz⟩:=I.tuple hq;obtain⟨f0,f1,f2,f3,f4,f5⟩:=hf it (by simp)
  have hl:=rv.length;exact wpAny_pyNext_tuple_end (I.ok.hd hc) st (show s.heap.IsTuple a its.toArray from p) (by simp;omega) λh' eb=>⟨rfl,I.turned (t':=s.toks) (λb o hb e=>eb b o hb e) f0 f1 f3 f4 f5⟩
 self:=λ_ _ _ _ _ st h=>wpAny_pyIter_tupleiter st h
theorem RW{P:bL}{w:dB}{K:ao}{tg:dz}(it:aN)(lo:Int)(n:Nat):Turn P w K tg (Itr lo n) [it] it (λi h=>IsRangeIter h it (lo+(i:Nat)*1) ((n:Int)-(i:Nat)) 1) where
 mem:=by simp
 obj:=λi h st b hb=>by
  have e:b=it:=by simpa using hb
  subst e;exact⟨_,st,λv z=>by
   have z':Data.fields _=Data.cell v:=z;cases z'⟩
 keep:=λi h h' st k=>k it (by simp) _ st
 item:=by
  intro X hP hw hK hc i pins s σ H E I hf st hg;subst hP hw hK;obtain⟨f0,f1,f2,f3,f4,f5⟩:=hf it (by simp)
  have W:=Walks.range (prog:=X.prog) (w:=X.w) (I.ok.hd hc) it lo 1 n;refine W.item i s _ _ hg st λv h' tk hv st' kk=>?_
  obtain⟨t,rfl⟩:=hv;have I1:Inv X pins σ H { s with heap:=h',toks:=tk }:=I.turned (λb o hb e=>kk b o (by simpa using hb) e) f0 f1 f3 f4 f5
  refine⟨_,rfl,UL (s:={ s with heap:=h',toks:=tk }) (n:="range_iterator") st' rfl rfl (by decide) ⟨.int (lo+i),H,I1,⟨t,?_⟩,⟨rfl,rfl⟩,st',λb hb=>(hf b hb).1⟩⟩
  rw[Int.mul_one]
 done:=by
  intro X hP hw hK hc i pins s σ H E I hf st hg;subst hP hw hK;obtain⟨f0,f1,f2,f3,f4,f5⟩:=hf it (by simp)
  exact wpAny_pyNext_range_end (I.ok.hd hc) st (by have:n<=i:=hg;omega) λh' eb=>⟨rfl,I.turned (t':=s.toks) (λb o hb e=>eb b o hb e) f0 f1 f3 f4 f5⟩
 self:=λ_ _ _ _ _ st h=>wpAny_pyIter_rangeiter st h
section
variable{X:Cx}{tg:dz}
def zew(K:ao)(tl:TE):TI:=λσ H R=>tl σ H λx H1=>∃a,x=.ref a/\(∃xs,rW K H1 a xs)/\R (Itl K a) H1
def zho(K:ao)(tl:TE):TI:=λσ H R=>tl σ H λx H1=>∃a,x=.ref a/\(∃xs,xZ K H1 a xs)/\R (Itt K a) H1
theorem zag{l:dz}{tl:TE}(hl:PE X l tl):PI X tg l (zew X.K tl):=by
 intro pins s σ H R I h;refine jL (hl pins s σ H _ I h) λv s1 ⟨x,H1,I1,r1,q1⟩=>?_
 obtain⟨a,e,⟨xs,hq⟩,q⟩:=q1;subst e;cases r1;obtain⟨its,rv,p,hz⟩:=I1.list hq;refine za p.isList ?_
 refine⟨s1.heap.objs.size,[s1.heap.objs.size],_,_,H1,rfl,I1.kept (t':=s1.toks) λb o e=>aJ _ e,V9 a _,⟨_,cD _ rfl,rfl,rfl⟩,λb hb=>?_,q⟩
 have e:b=s1.heap.objs.size:=by simpa using hb
 subst e;exact I1.KN (aK _) (I1.hok.fresh (aK _))
theorem zcC{l:dz}{tl:TE}(hl:PE X l tl):PI X tg l (zho X.K tl):=by
 intro pins s σ H R I h;refine jL (hl pins s σ H _ I h) λv s1 ⟨x,H1,I1,r1,q1⟩=>?_
 obtain⟨a,e,⟨xs,hq⟩,q⟩:=q1;subst e;cases r1;obtain⟨its,rv,p,hz⟩:=I1.tuple hq;refine Ik (show s1.heap.IsTuple a its.toArray from p) ?_
 refine⟨s1.heap.objs.size,[s1.heap.objs.size],_,_,H1,rfl,I1.kept (t':=s1.toks) λb o e=>aJ _ e,RV a _,⟨_,cD _ rfl,rfl,rfl⟩,λb hb=>?_,q⟩
 have e:b=s1.heap.objs.size:=by simpa using hb
 subst e;exact I1.KN (aK _) (I1.hok.fresh (aK _))
theorem X5{pins:List (aN×Obj)}{σ:St}{H:Hp}{s:aL}{R:It->Hp->Prop}{E:aF->aL->Prop}{lo hi:Int}{t u v:Tok}{tk:Nat}(I:Inv X pins σ H s)(h1:-(2^62)<=lo)(h2:lo<2^62)(h3:-(2^62)<=hi)(h4:hi<2^62)
  (q:R (Itr lo (hi-lo).toNat) H):wpAny (model X.prog X.w) X.A (pyIter (.ref s.heap.objs.size)) (PIE X pins σ tg R) E { s with heap:=s.heap.push { cls:=.type "range",data:=.fields #[.int lo t,.int hi u,.int 1 v] },toks:=tk }:=by
 refine wpAny_pyIter_range (IsRange.new ..) (small_one h1 h2 h3 h4) ?_
 have I1:Inv X pins σ H { s with heap:=s.heap.push { cls:=.type "range",data:=.fields #[.int lo t,.int hi u,.int 1 v] },toks:=tk }:=I.kept λb o e=>aJ _ e
 refine⟨(s.heap.push { cls:=.type "range",data:=.fields #[.int lo t,.int hi u,.int 1 v] }).objs.size,[(s.heap.push { cls:=.type "range",data:=.fields #[.int lo t,.int hi u,.int 1 v] }).objs.size],_,_,H,rfl,
  I1.kept (t':=tk) λb o e=>aJ _ e,RW _ lo (hi-lo).toNat,?_,λb hb=>?_,q⟩
 ·have e1:lo+((0:Nat):Int)*1=lo:=by simp
  have e2:(((hi-lo).toNat:Nat):Int)-((0:Nat):Int)=wL.Range.rangeSize lo hi 1:=by rw[rangeSize_one];split<;>omega
  show IsRangeIter _ _ (lo+((0:Nat):Int)*1) ((((hi-lo).toNat:Nat):Int)-((0:Nat):Int)) 1;rw[e1,e2];exact cD _ rfl
 ·have e:b=(s.heap.push { cls:=.type "range",data:=.fields #[.int lo t,.int hi u,.int 1 v] }).objs.size:=by simpa using hb
  subst e;exact I1.KN (aK _) (I1.hok.fresh (aK _))
def zex(ta:TA):TI:=λσ H R=>ta σ H λvs H1=>∃j:Int,vs=[.int j]/\-(2^62)<=j/\j<2^62/\R (Itr 0 j.toNat) H1
theorem V_{a:dz}{ta:TA}{p pos:Pos}(hg:Gl X "range")(hm:X.mg "range"=none)(ha:PA X [a] ta)(hs:starEach [a] X.env=[(false,eval a X.env)]:=by rfl):PI X tg (.Call (.Name "range" p) [a] [] pos) (zex ta):=by
 intro pins s σ H R I h;refine Call_ (Ez I hg hm boot_range (nQ (jL (ha pos pins s σ H _ I h) λus s1 ⟨vs,H1,I1,r1,q1⟩=>?_) hs rfl))
 obtain⟨j,e,q1,q2,q⟩:=q1;subst e;cases r1 with
 |cons r rr=>
  cases rr;obtain⟨t,rfl⟩:=r;exact call_range_1 (X5 I1 (by omega) (by omega) q1 q2 (by simpa using q))
def zhp(wi:TI)(g:TG)(tb:TS):TS:=λD σ H=>wi σ H λJ H1=>∃W:Nat->Nat->St->Hp->Prop,(∃m,W 0 m σ H1)/\∀i m σ H,W i m σ H->
 (J.stop i H/\D.nx σ H)\/(J.go i H/\∃N:St->Hp->Prop,(∀σ' H',N σ' H'->∃m',m'<m/\W (i+1) m' σ' H')/\∀x H',J.yld i H x H'->g x σ H' λσ2 H2=>tb { D with nx:=N,ct:=N,bk:=D.nx } σ2 H2)
def IV(fp:List aN)(h:dW):List (aN×Obj):=fp.filterMap λb=>(h.get? b).map λo=>(b,o)
theorem yc{fp:List aN}{h:dW}{b:aN}{o:Obj}(hb:b∈fp)(e:h.get? b=some o):(b,o)∈IV fp h:=oE.mpr ⟨b,hb,by rw[e];rfl⟩
theorem Wb{fp:List aN}{h:dW}{p:aN×Obj}(hp:p∈IV fp h):p.1∈fp/\h.get? p.1=some p.2:=by
 obtain⟨b,hb,e⟩:=oE.mp hp;cases q:h.get? b with
 |none=>rw[q]at e;cases e
 |some o=>
  rw[q]at e;have e':(b,o)=p:=fM e;subst e';exact⟨hb,q⟩
theorem Inv.pinned{pins:List (aN×Obj)}{σ:St}{H:Hp}{s:aL}{fp:List aN}(I:Inv X pins σ H s)(hf:∀b∈fp,Df X pins H b)(ho:∀b∈fp,∃o,s.heap.get? b=some o/\∀v,o.data≠.cell v):Inv X (pins++IV fp s.heap) σ H s:=
 I.UG λp hp=>(dJ.mp hp).elim (λz=>I.pin p (eG _ z)) λz=>by
  obtain⟨hb,e⟩:=Wb z;obtain⟨f0,f1,f2,_⟩:=hf p.1 hb;obtain⟨o,e',d⟩:=ho p.1 hb;rw[e]at e';cases e';exact⟨e,f0,f1,f2,d⟩
theorem Inv.zL{pins pl:List (aN×Obj)}{σ:St}{H:Hp}{s:aL}(I:Inv X (pins++pl) σ H s):Inv X pins σ H s:=I.UG λp hp=>I.pin p (eG _ (jB _ hp))
theorem Nu{iter:dz}{body:List mj}{wi:TI}{g:TG}{tb:TS}{pos:Pos}(hp:M4 (model X.prog X.w) X.A X.env X.xe)(hc:X.calm=true)(hi:PI X tg iter wi)(hg:PG X tg g)(hb:UJ X body tb)
  (hs:∀x,foldedSetIterable iter X.env x=pure x:=by intro _;rfl):PS X (.For tg iter body [] pos) (zhp wi g tb):=by
 intro pins s σ H D I h;refine wpAny_For (jL (hi pins s σ H _ I h) λv s1 h1=>jL h1 λitv s2 h2=>?_) hs
 obtain⟨it,fp,tn,J,H2,e,I2,T,st2,f2,W,⟨m0,w0⟩,turn⟩:=h2;subst e;have stat:∀{H':Hp},(∀b∈fp,H' b=none)->∀b∈fp,Df X pins H' b:=λhn b hb=>⟨hn b hb,(f2 b hb).2⟩
 refine codeAny_forLoop_any (λn s'=>∃i σ' H',Inv X pins σ' H' s'/\tn i s'.heap/\(∀b∈fp,H' b=none)/\W i n σ' H') ?_ m0 ⟨0,σ,H2,I2,st2,λb hb=>(f2 b hb).1,w0⟩
 rintro n s3 ⟨i,σ3,H3,I3,st3,fr3,w3⟩
 rcases turn i n σ3 H3 w3 with⟨stop,qn⟩|⟨go,N,hN,step⟩
 ·refine wj hp (jL (T.done X rfl rfl rfl hc i pins s3 σ3 H3 X.xe I3 (stat fr3) st3 stop) λr s4 ⟨hr,I4⟩=>?_)
  subst hr;exact wg ⟨σ3,H3,I4,qn⟩
 ·refine wj hp (jL (T.item X rfl rfl rfl hc i pins s3 σ3 H3 X.xe I3 (stat fr3) st3 go) λr s4 ⟨u,hr,h4⟩=>?_)
  subst hr;refine wj hp (jL h4 λ_ s5 ⟨x,H5,I5,r5,y5,st5,fr5⟩=>?_)
  have I5':=I5.pinned (stat fr5) (T.obj _ _ st5);refine wj hp (jL (hg _ s5 σ3 H5 x u _ I5' r5 (step x H5 y5)) λ_ s6 ⟨σ6,H6,I6,q6⟩=>?_)
  refine wj hp (jL (hb _ s6 σ6 H6 _ I6 q6) λf s7 q7=>?_)
  have again:∀{σ7:St}{H7:Hp},Inv X (pins++IV fp s5.heap) σ7 H7 s7->N σ7 H7->∃m,m<n/\∃i σ' H',Inv X pins σ' H' s7/\tn i s7.heap/\(∀b∈fp,H' b=none)/\W i m σ' H':=λ{σ7 H7}I7 n7=>by
   obtain⟨m',hm,w7⟩:=hN σ7 H7 n7;refine⟨m',hm,i+1,σ7,H7,I7.zL,T.keep _ _ _ st5 λb hb o e=>(I7.pin (b,o) (eG _ (eG _ (yc hb e)))).1,λb hb=>?_,w7⟩
   obtain⟨o,e,d⟩:=T.obj _ _ st5 b hb;exact(I7.pin (b,o) (eG _ (eG _ (yc hb e)))).2.1
  cases f with
  |next=>obtain⟨σ7,H7,I7,n7⟩:=q7;exact again I7 n7
  |cont=>obtain⟨σ7,H7,I7,n7⟩:=q7;exact again I7 n7
  |brk=>obtain⟨σ7,H7,I7,q7⟩:=q7;exact⟨σ7,H7,I7.zL,q7⟩
  |ret v=>obtain⟨x7,σ7,H7,I7,r7,q7⟩:=q7;exact⟨x7,σ7,H7,I7.zL,r7,q7⟩
end
abbrev R2:=V->V->Hp->VK->Prop
def xU(X:Cx)(f:aF->aF->Sem aF)(r:R2):Prop:=
 ∀(pins:List (aN×Obj))(s:aL)(σ:St)(H:Hp)(x y:V)(v u:aF)(Q:VK),Inv X pins σ H s->RelV x v->RelV y u->r x y H Q->
  wpAny (model X.prog X.w) X.A (f v u) (EP X pins σ Q) X.xe s
def UnR(X:Cx)(f:aF->Sem aF)(r:V->Hp->VK->Prop):Prop:=
 ∀(pins:List (aN×Obj))(s:aL)(σ:St)(H:Hp)(x:V)(v:aF)(Q:VK),Inv X pins σ H s->RelV x v->r x H Q->
  wpAny (model X.prog X.w) X.A (f v) (EP X pins σ Q) X.xe s
def pC(X:Cx)(f:aF)(r:List V->Hp->VK->Prop):Prop:=
 ∀(pins:List (aN×Obj))(s:aL)(σ:St)(H:Hp)(xs:List V)(us:List aF)(Q:VK),Inv X pins σ H s->Vals xs us->r xs H Q->
  wpAny (model X.prog X.w) X.A (call f us) (EP X pins σ Q) X.xe s
def zhs(X:Cx)(r:V->Hp->(Bool->Hp->Prop)->Prop):Prop:=
 ∀(pins:List (aN×Obj))(s:aL)(σ:St)(H:Hp)(x:V)(v:aF)(Q:Bool->Hp->Prop),Inv X pins σ H s->RelV x v->r x H Q->
  wpAny (model X.prog X.w) X.A (truthy v) (TP X pins σ Q) X.xe s
def tOp(r:R2)(ta tb:TE):TE:=λσ H Q=>ta σ H λx H1=>tb σ H1 λy H2=>r x y H2 Q
def tUn(r:V->Hp->VK->Prop)(ta:TE):TE:=λσ H Q=>ta σ H λx H1=>r x H1 Q
def rI(C:Int->Int->Prop)(g:Int->Int->V):R2:=λx y H Q=>∃i j,x=.int i/\y=.int j/\C i j/\Q (g i j) H
def Z6(g:Int->Int->V):R2:=λx y H Q=>∃i j,x=.int i/\y=.int j/\Q (g i j) H
def rU(g:Int->V):V->Hp->VK->Prop:=λx H Q=>∃i,x=.int i/\Q (g i) H
section
variable{X:Cx}{a b c:dz}{ta tb tc:TE}{pos:Pos}
theorem zcD(ha:PE X a ta)(hb:PE X b tb){pins:List (aN×Obj)}{s:aL}{σ:St}{H:Hp}{R:V->V->Hp->Prop}(I:Inv X pins σ H s)
  (h:ta σ H λx H1=>tb σ H1 λy H2=>R x y H2){Q:aF->aL->Prop}{f:aF->aF->Sem aF}
  (hf:∀v u s2 x y H2,Inv X pins σ H2 s2->RelV x v->RelV y u->R x y H2->wpAny (model X.prog X.w) X.A (f v u) Q X.xe s2):
  wpAny (model X.prog X.w) X.A (eval a X.env) (λv s₁=>wpAny (model X.prog X.w) X.A (eval b X.env) (λu s₂=>wpAny (model X.prog X.w) X.A (f v u) Q X.xe s₂) X.xe s₁) X.xe s:=by
 refine jL (ha pins s σ H _ I h) λv s1 ⟨x,H1,I1,r1,q1⟩=>?_
 refine jL (hb pins s1 σ H1 _ I1 q1) λu s2 ⟨y,H2,I2,r2,q2⟩=>?_
 exact hf v u s2 x y H2 I2 r1 r2 q2
theorem UW{op:Operator}{r:R2}(ho:xU X (binaryOp op) r)(ha:PE X a ta)(hb:PE X b tb):PE X (.BinOp a op b pos) (tOp r ta tb):=by
 intro pins s σ H Q I h;exact wpAny_BinOp (zcD ha hb I h λv u s2 x y H2 I2 rx ry q=>ho pins s2 σ H2 x y v u Q I2 rx ry q)
theorem zez{op:UnaryOp}{r:V->Hp->VK->Prop}(ho:UnR X (unaryOp op) r)(ha:PE X a ta):PE X (.UnaryOp op a pos) (tUn r ta):=by
 intro pins s σ H Q I h;exact UnaryOp_ (jL (ha pins s σ H _ I h) λv s1 ⟨x,H1,I1,r1,q1⟩=>ho pins s1 σ H1 x v Q I1 r1 q1)
theorem opI{f:aF->aF->Sem aF}{C:Int->Int->Prop}{g:Int->Int->Int}
  (rule:∀(i j:Int)(t u:Tok)(s:aL)(Q:aF->aL->Prop)(E:aF->aL->Prop),C i j->Q (.int (g i j) s.toks) { s with toks:=s.toks+1 }->wpAny (model X.prog X.w) X.A (f (.int i t) (.int j u)) Q E s):
  xU X f (rI C λi j=>.int (g i j)):=by
 intro pins s σ H x y v u Q I rx ry h;obtain⟨i,j,rfl,rfl,hc,q⟩:=h;obtain⟨t,rfl⟩:=rx;obtain⟨t',rfl⟩:=ry;exact rule i j t t' s _ _ hc ⟨.int (g i j),H,I.tok _,⟨_,rfl⟩,q⟩
theorem zeA{f:aF->aF->Sem aF}{g:Int->Int->Int}
  (rule:∀(i j:Int)(t u:Tok)(s:aL)(Q:aF->aL->Prop)(E:aF->aL->Prop),Q (.int (g i j) s.toks) { s with toks:=s.toks+1 }->wpAny (model X.prog X.w) X.A (f (.int i t) (.int j u)) Q E s):
  xU X f (Z6 λi j=>.int (g i j)):=by
 intro pins s σ H x y v u Q I rx ry h;obtain⟨i,j,rfl,rfl,q⟩:=h;obtain⟨t,rfl⟩:=rx;obtain⟨t',rfl⟩:=ry;exact rule i j t t' s _ _ ⟨.int (g i j),H,I.tok _,⟨_,rfl⟩,q⟩
theorem zah{f:aF->aF->Sem aF}{g:Int->Int->Bool}
  (rule:∀(i j:Int)(t u:Tok)(s:aL)(Q:aF->aL->Prop)(E:aF->aL->Prop),Q (.bool (g i j)) s->wpAny (model X.prog X.w) X.A (f (.int i t) (.int j u)) Q E s):
  xU X f (Z6 λi j=>.bl (g i j)):=by
 intro pins s σ H x y v u Q I rx ry h;obtain⟨i,j,rfl,rfl,q⟩:=h;obtain⟨t,rfl⟩:=rx;obtain⟨t',rfl⟩:=ry;exact rule i j t t' s _ _ ⟨.bl (g i j),H,I,rfl,q⟩
def zeB(i j:Int):Prop:=0<j/\j<1073741824
def zai(i j:Int):Prop:=(-(2^64)<i/\i<2^64)\/(-(2^64)<j/\j<2^64)
theorem zai.ok{i j:Int}(h:zai i j):IntMulOk i j:=by
 rcases h with⟨h1,h2⟩|⟨h1,h2⟩
 ·exact .of_left (intBits_le_64 h1 h2)
 ·exact .of_right (intBits_le_64 h1 h2)
theorem zcE:xU X (binaryOp .Add) (Z6 λi j=>.int (i+j)):=zeA λ_ _ _ _ _ _ _ q=>add_int q
theorem zcF:xU X (binaryOp .Sub) (Z6 λi j=>.int (i-j)):=zeA λ_ _ _ _ _ _ _ q=>sub_int q
theorem zcG:xU X (binaryOp .Mult) (rI zai λi j=>.int (i*j)):=opI λ_ _ _ _ _ _ _ hc q=>mul_int q hc.ok
theorem zaj:xU X (binaryOp .FloorDiv) (rI zeB λi j=>.int (i/j)):=opI λi j _ _ _ _ _ hc q=>by
 have h1:(0:Int)<j:=hc.1;have h2:j<1073741824:=hc.2;exact floordiv_int (by omega) (by rw[Int.fdiv_eq_ediv_of_nonneg i (by omega)];exact q) (.inl (PyProof.noPylong_small (by omega)))
theorem zcH:xU X (binaryOp .Mod) (rI (λ_ j=>0<j) λi j=>.int (i%j)):=opI λi j _ _ _ _ _ hc q=>by
 have h1:(0:Int)<j:=hc;exact mod_int' (by omega) (by rw[Int.fmod_eq_emod_of_nonneg i (by omega)];exact q)
theorem unI{f:aF->Sem aF}{g:Int->Int}
  (rule:∀(i:Int)(t:Tok)(s:aL)(Q:aF->aL->Prop)(E:aF->aL->Prop),Q (.int (g i) s.toks) { s with toks:=s.toks+1 }->wpAny (model X.prog X.w) X.A (f (.int i t)) Q E s):
  UnR X f (rU λi=>.int (g i)):=by
 intro pins s σ H x v Q I rx h;obtain⟨i,rfl,q⟩:=h;obtain⟨t,rfl⟩:=rx;exact rule i t s _ _ ⟨.int (g i),H,I.tok _,⟨_,rfl⟩,q⟩
theorem zcI:UnR X (unaryOp .USub) (rU λi=>.int (-i)):=unI λ_ _ _ _ _ q=>neg_int q
end
section
variable{X:Cx}{a b c:dz}{ta tb tc:TE}{pos:Pos}
theorem IW{pins:List (aN×Obj)}{σ:St}{H:Hp}{s:aL}{Q:VK}{k k':Bool}(I:Inv X pins σ H s)(q:Q (.bl k) H)(e:k=k'):EP X pins σ Q (.bool k') s:=by
 subst e;exact⟨.bl k,H,I,rfl,q⟩
theorem zeC:xU X (compareOp .Lt) (Z6 λi j=>.bl (decide (i<j))):=zah λ_ _ _ _ _ _ _ q=>lt_int q
theorem Gj:xU X (compareOp .LtE) (Z6 λi j=>.bl (decide (i<=j))):=zah λ_ _ _ _ _ _ _ q=>le_int q
theorem zbH:xU X (compareOp .Gt) (Z6 λi j=>.bl (decide (j<i))):=zah λ_ _ _ _ _ _ _ q=>gt_int q
theorem zeD:xU X (compareOp .GtE) (Z6 λi j=>.bl (decide (j<=i))):=zah λ_ _ _ _ _ _ _ q=>ge_int q
theorem Wc:xU X (compareOp .In) (λx y H Q=>∃i j,x=.str i/\y=.str j/\Q (.bl (!(wL.Str.occurrences j i 0 j.length 1).isEmpty)) H):=by
 intro pins s σ H x y v u Q I rx ry h;obtain⟨i,j,rfl,rfl,q⟩:=h;obtain⟨t,rfl⟩:=rx;obtain⟨t',rfl⟩:=ry;exact in_str (IW I q rfl)
theorem sO:xU X (compareOp .Is) (λx y H Q=>y=.non/\Q (.bl (decide (x=.non))) H):=by
 intro pins s σ H x y v u Q I rx ry h;obtain⟨rfl,q⟩:=h;cases ry;refine is_none_gen (IW I q ?_)
 cases x<;>first
  |(cases rx;rfl)
  |(obtain⟨t,rfl⟩:=rx;rfl)
theorem U0:xU X (compareOp .IsNot) (λx y H Q=>y=.non/\Q (.bl (!decide (x=.non))) H):=by
 intro pins s σ H x y v u Q I rx ry h;obtain⟨rfl,q⟩:=h;cases ry;refine isnot_none_gen (IW I q ?_)
 cases x<;>first
  |(cases rx;rfl)
  |(obtain⟨t,rfl⟩:=rx;rfl)
theorem jQ(b:dz){op:Hw}(h:op≠.In:=by decide)(h2:op≠.NotIn:=by decide):behindInMarks op b=false:=by
 have e1:(op==Hw.In)=false:=by cases op<;>first|rfl|exact absurd rfl h
 have e2:(op==Hw.NotIn)=false:=by cases op<;>first|rfl|exact absurd rfl h2
 cases b<;>simp[behindInMarks,e1,e2]
theorem U3{op:Hw}{r:R2}(ho:xU X (compareOp op) r)(ha:PE X a ta)(hb:PE X b tb)(hm:behindInMarks op b=false):PE X (.Compare a [op] [b] pos) (tOp r ta tb):=by
 intro pins s σ H Q I h;exact wpAny_Compare1 (zcD ha hb I h λv u s2 x y H2 I2 rx ry q=>ho pins s2 σ H2 x y v u Q I2 rx ry q) hm
def zbI(t:TE):TT:=λσ H Q=>t σ H λx H'=>∃k,x=.bl k/\Q k H'
theorem zak{op:Hw}{r:R2}(ho:xU X (compareOp op) r)(ha:PE X a ta)(hb:PE X b tb)(hm:behindInMarks op b=false):PT X (.Compare a [op] [b] pos) (zbI (tOp r ta tb)):=by
 intro pins s σ H Q I h;refine wpAny_isTrue_Compare1 (jL (ha pins s σ H _ I h) λv s1 ⟨x,H1,I1,r1,q1⟩=>jL (hb pins s1 σ H1 _ I1 q1) λu s2 ⟨y,H2,I2,r2,q2⟩=>
  jL (ho pins s2 σ H2 x y v u _ I2 r1 r2 q2) λc s3 ⟨z,H3,I3,r3,k,e,q3⟩=>?_) hm
 subst e;cases r3;exact iw ⟨H3,I3,q3⟩
def X6(r r':R2)(ta tb tc:TE):TE:=λσ H Q=>ta σ H λx H1=>tb σ H1 λy H2=>r x y H2 λz H3=>∃k,z=.bl k/\
 (if k=true then tc σ H3 λw' H4=>r' y w' H4 Q else Q (.bl false) H3)
theorem PL{op op':Hw}{r r':R2}(ho:xU X (compareOp op) r)(ho':xU X (compareOp op') r')(ha:PE X a ta)(hb:PE X b tb)(hc:PE X c tc)
  (hm:lastMarks [op,op'] [b,c]=false:=by with_unfolding_all rfl):PE X (.Compare a [op,op'] [b,c] pos) (X6 r r' ta tb tc):=by
 intro pins s σ H Q I h;refine Compare_chain (jL (ha pins s σ H _ I h) λv s1 ⟨x,H1,I1,r1,q1⟩=>chain_link (jL (hb pins s1 σ H1 _ I1 q1) λu s2 ⟨y,H2,I2,r2,q2⟩=>
  jL (ho pins s2 σ H2 x y v u _ I2 r1 r2 q2) λd s3 ⟨z,H3,I3,r3,k,e,q3⟩=>?_)) hm
 subst e;cases r3;refine iw ?_
 cases k with
 |false=>exact ite_ff ⟨.bl false,H3,I3,rfl,q3⟩
 |true=>exact ite_tt (chain_last (jL (hc pins s3 σ H3 _ I3 q3) λw' s4 ⟨z',H4,I4,r4,q4⟩=>ho' pins s4 σ H4 y z' u w' Q I4 r2 r4 q4))
theorem PN{op op':Hw}{r r':R2}(ho:xU X (compareOp op) r)(ho':xU X (compareOp op') r')(ha:PE X a ta)(hb:PE X b tb)(hc:PE X c tc)
  (hm:lastMarks [op,op'] [b,c]=false:=by with_unfolding_all rfl):PT X (.Compare a [op,op'] [b,c] pos) (zbI (X6 r r' ta tb tc)):=by
 intro pins s σ H Q I h;refine isTrue_chain (jL (ha pins s σ H _ I h) λv s1 ⟨x,H1,I1,r1,q1⟩=>test_link (jL (hb pins s1 σ H1 _ I1 q1) λu s2 ⟨y,H2,I2,r2,q2⟩=>
  jL (ho pins s2 σ H2 x y v u _ I2 r1 r2 q2) λd s3 ⟨z,H3,I3,r3,k,e,q3⟩=>?_)) hm
 subst e;cases r3;refine iw ?_
 cases k with
 |false=>
  obtain⟨k',e',q'⟩:=q3;cases e';exact ite_ff ⟨H3,I3,q'⟩
 |true=>
  refine ite_tt (test_last (jL (hc pins s3 σ H3 _ I3 q3) λw' s4 ⟨z',H4,I4,r4,q4⟩=>jL (ho' pins s4 σ H4 y z' u w' _ I4 r2 r4 q4) λd' s5 ⟨z2,H5,I5,r5,k2,e2,q5⟩=>?_))
  subst e2;cases r5;exact iw ⟨H5,I5,q5⟩
def zeE(K:ao)(x:V)(H:Hp)(k:Bool):Prop:=
 match x with
 | .non=>k=false
 | .bl b=>k=b
 | .int i=>k=(i != 0)
 | .str y=>y.length<=sizeLine/\k=((y.length:Int) != 0)
 | .byt y=>y.size<=sizeLine/\k=((y.size:Int) != 0)
 | .ref p=>(∃xs,rW K H p xs/\k=!xs.isEmpty)\/(∃xs,xZ K H p xs/\k=!xs.isEmpty)\/∃kvs,H p=some (.dK kvs)/\k=!kvs.isEmpty
 |_=>False
theorem RX{κ:Type}{kvs:List (κ×V)}{vs:List (κ×aF)}(r:KV kvs vs):(!vs.isEmpty)=!kvs.isEmpty:=by
 cases r<;>rfl
theorem I_{xs:List V}{its:List aF}(r:Vals xs its):(!its.toArray.isEmpty)=!xs.isEmpty:=by
 cases r<;>simp
theorem yd:(sizeLine:Nat)<2^63:=by rw[fK];decide
theorem zcJ:zhs X (λx H Q=>∃k,zeE X.K x H k/\Q k H):=by
 intro pins s σ H x v Q I rx h;obtain⟨k,e,q⟩:=h;have hl:=yd;have hs:sizeLine=16777216:=fK;cases x with
 |non=>
  cases rx;have e':k=false:=e;subst e';exact truthy_none ⟨H,I,q⟩
 |bl b=>
  cases rx;have e':k=b:=e;subst e';exact iw ⟨H,I,q⟩
 |int i=>
  obtain⟨t,rfl⟩:=rx;have e':k=(i != 0):=e;subst e';exact PySem.P.truthy_int ⟨H,I,q⟩
 |str y=>
  obtain⟨t,rfl⟩:=rx;obtain⟨hy,e'⟩:y.length<=sizeLine/\k=((y.length:Int) != 0):=e;subst e';exact PySem.P.truthy_str (by omega) ⟨H,I.tok _,q⟩
 |byt y=>
  obtain⟨t,rfl⟩:=rx;obtain⟨hy,e'⟩:y.size<=sizeLine/\k=((y.size:Int) != 0):=e;subst e';exact PySem.W.truthy_bytes (by omega) ⟨H,I.tok _,q⟩
 |ref p=>
  cases rx;have e':(∃xs,rW X.K H p xs/\k=!xs.isEmpty)\/(∃xs,xZ X.K H p xs/\k=!xs.isEmpty)\/∃kvs,H p=some (.dK kvs)/\k=!kvs.isEmpty:=e;rcases e' with⟨xs,hx,e'⟩|⟨xs,hx,e'⟩|⟨kvs,hx,e'⟩
  ·subst e'
   obtain⟨its,r,pl,hz⟩:=I.list hx;have hlen:=r.length;exact wpAny_truthy_list pl.isList (by simp only[bM];omega) ⟨H,I.tok _,by rw[I_ r];exact q⟩
  ·subst e'
   obtain⟨its,r,pl,hz⟩:=I.tuple hx;have hlen:=r.length;exact truthy_tuple pl (by simp only[bM];omega) ⟨H,I.tok _,by rw[I_ r];exact q⟩
  ·subst e'
   obtain⟨hz,hS,vs,r,m⟩:kvs.length<=sizeLine/\(p==sysModules)=false/\∃vs,KV kvs vs/\s.heap.DictOf (jg X.prog X.w) p vs:=I.hok p _ hx;have hlen:kvs.length=vs.length:=BJ r;exact wpAny_truthy_dict hS m (by omega) ⟨H,I.tok _,by rw[RX r];exact q⟩
 |_=>exact(show False from e).elim
theorem X7(ha:PE X a ta)(he:∀whole,isTrue a X.env whole=(do let v <-whole;standAt a.pos;holding [v] (truthy v))):
  PT X a (λσ H Q=>ta σ H λx H'=>∃k,zeE X.K x H' k/\Q k H'):=by
 intro pins s σ H Q I h;exact isTrue_plain (jL (ha pins s σ H _ I h) λv s1 ⟨x,H1,I1,r1,q1⟩=>zcJ pins s1 σ H1 x v Q I1 r1 q1) (he _)
theorem RZ:xU X (binaryOp .Add) (λx y H Q=>∃i j,x=.str i/\y=.str j/\i.length+j.length<=sizeLine/\Q (.str (i++j)) H):=by
 intro pins s σ H x y v u Q I rx ry h;obtain⟨i,j,rfl,rfl,hz,q⟩:=h;obtain⟨t,rfl⟩:=rx;obtain⟨t',rfl⟩:=ry;exact add_str (λt' tk=>⟨.str (i++j),H,I.tok _,⟨_,rfl⟩,q⟩) hz
theorem vals1{x:V}{us:List aF}(r:Vals [x] us):∃u,us=[u]/\RelV x u:=by
 cases r with
 |cons r1 r2=>cases r2;exact⟨_,rfl,r1⟩
theorem vals2{x y:V}{us:List aF}(r:Vals [x,y] us):∃u w',us=[u,w']/\RelV x u/\RelV y w':=by
 cases r with
 |cons r1 r2=>
  cases r2 with
  |cons r3 r4=>cases r4;exact⟨_,_,rfl,r1,r3⟩
theorem Wf(hc:X.calm=true):pC X (.builtin "min") (λxs H Q=>∃i j,xs=[.int i,.int j]/\Q (.int (if j<i then j else i)) H):=by
 intro pins s σ H xs us Q I r h;obtain⟨i,j,rfl,q⟩:=h;obtain⟨u,w',rfl,⟨t,rfl⟩,⟨t',rfl⟩⟩:=vals2 r;refine min_two_ints (I.ok.hd hc) λh' tk k=>⟨_,H,I.kept k,?_,q⟩
 by_cases hj:j<i
 ·rw[if_pos hj,if_pos hj];exact⟨_,rfl⟩
 ·rw[if_neg hj,if_neg hj];exact⟨_,rfl⟩
theorem Nv:pC X (.type "str") (λxs H Q=>∃i,xs=[.int i]/\i.natAbs.log2<1920/\Q (.str (toString i)) H):=by
 intro pins s σ H xs us Q I r h;obtain⟨i,rfl,hz,q⟩:=h;obtain⟨u,rfl,t,rfl⟩:=vals1 r;exact PySem.P.str_of_int hz ⟨.str _,H,I.tok _,⟨_,rfl⟩,q⟩
end
structure Wh(h:dW)(x dx C:aN)(mA:Str->Option aF):Prop where
 obj:h.get? x=some (mJ C dx)
 ns:h.Ns1 dx mA
 ne:dx≠x
theorem Fb{h:dW}{dx:aN}{mA:Str->Option aF}(n:h.Ns1 dx mA):∃od,h.get? dx=some od/\∀name,zp name od=some (mA name):=by
 obtain⟨o,es,ep,ho,hd,hk,_,hm⟩:=n;refine⟨o,ho,λname=>?_⟩
 have e:=hm name;unfold nsFind findBy at e;rw[<-Array.find?_toList]at e
 unfold zp;rw[hd]
 dsimp only
 split
 ·rename_i y q
  rw[q]at e;exact congrArg some e
 ·rename_i q
  rw[q]at e;have a:es.toList.any (·.refKey)=false:=by
   rw[List.any_eq_false];intro y hy;obtain⟨z,t,hkey⟩:=hk y (RL.mp hy);simp[M_.refKey,hkey]
  have a':¬es.toList.any (·.refKey)=true:=by rw[a];exact eY
  rw[if_neg a'];exact congrArg some e
theorem Wh.look{h:dW}{x dx C:aN}{mA:Str->Option aF}(I:Wh h x dx C mA):∃od,uV h x (mJ C dx) C (some od)/\∀name,zp name od=some (mA name):=
 let⟨od,ho,hl⟩:=Fb I.ns
 ⟨od,⟨I.obj,rfl,rfl,ho⟩,hl⟩
section
variable{prog:bL}{w:dB}{A:fW}{E:aF->aL->Prop}{s:aL}{K:ao}{x dx C f:aN}{mA:Str->Option aF}{name:Str}{v:aF}
theorem get_map{expr:Bool}{Q:aF->aL->Prop}(X:K.In s.heap)(I:Wh s.heap x dx C mA)(hg:wK K C name=true)(hh:kE K C=true)
  (ha:cV K (.ref C) name=some none)(hv:mA name=some v)(hv':PySem.W.handedIn v=true)(h:Q v { s with toks:=s.toks+1 }):
  wpAny (model prog w) A (getAttr (.ref x) name expr) Q E s:=by
 obtain⟨od,J,hl⟩:=I.look;exact PySem.W.get_value X J (PySem.W.plainGet_of hg).1 (Rx hh ha rfl (by rw[hl,hv])) hv' h
theorem zal{ns:List Str}{Q:Unit->aL->Prop}(X:K.In s.heap)(I:Wh s.heap x dx C mA)
  (hs:cV K (.ref C) "__setattr__"=some (some (.builtin "object.__setattr__")))(hp:CT K C=true)(ht:qy K C name=some none)(hh:kE K C=true)
  (hw:rQ mA ns)(hsz:ns.length<=sizeLine)
  (h:∀h',Wh h' x dx C (λy=>if y=name then some v else mA y)->qj dx s.heap h'->Q () { s with heap:=h',toks:=s.toks+2 }):
  wpAny (model prog w) A (setAttr (.ref x) name v) Q E s:=by
 obtain⟨od,J,hl⟩:=I.look;refine CV X J hs (PySem.W.osa_open (s:={ s with toks:=s.toks+1 }) (r:=none) X J hp ht λb=>?_)
 obtain⟨cd,hc,hd'⟩:=Eo hh;have hx:s.heap.get? x=some ⟨.ref C,some dx,.plain,#[]⟩:=I.obj;refine aD (bA (aD (aD (Ep hx (aD (jK (s:={ s with toks:=s.toks+1 }) (uE X hc) ?_))))))
 rw[hd'];refine bA (a:=some dx) (aD (bA (aD ?_)))
 refine wpAny_nsSet1 (s:={ s with toks:=s.toks+1 }) I.ns λh' hn2 hs2=>?_
 obtain⟨oD,esD,epD,hoD,hdD,hcD⟩:=hn2.count (uI name v hw);refine aD (M5 hoD (by rw[hdD];exact M6 (dD hcD (by rw[bJ];omega))) ?_)
 exact bA (h _ ⟨(hs2.2 _ (cH I.ne)).trans I.obj,hn2,I.ne⟩ hs2)
theorem X8{R:BK->aL->Prop}{vs:List aF}{kw:List (Str×aF)}(X:K.In s.heap)(hm:G7 K C=true)
  (hi:cV K (.ref C) "__init__"=some (some (.ref f)))(hf:Il K (.ref f)=some (.type "function"))
  (h:codeAny (model prog w) (A.under (.builtin "type.__call__" ⟨.ref C::vs,kw⟩)) (.call (.ref f) ⟨.ref (s.heap.objs.size+1)::vs,kw⟩) (PySem.W.InitBack (s.heap.objs.size+1) R)
   { s with heap:=(s.heap.push jF).push (mJ C s.heap.objs.size) }) :
  codeAny (model prog w) A (.call (.ref C) ⟨vs,kw⟩) R s:=by
 obtain⟨hh,g,d,t,os⟩:=s;exact PySem.W.make_core (PySem.W.makes_of X hm) (zq X hi) (λself=>PySem.W.bind_fn X self hf) (.inl rfl) h
end
def qW(f:Str)(v:V):List (Str×V)->List (Str×V)
 | []=>[(f,v)]
 |(g,x)::r=>if g=f then(g,v)::r else(g,x)::qW f v r
theorem zM(f g:Str)(v:V):∀fs:List (Str×V),(qW f v fs).lookup g=if g=f then some v else fs.lookup g
 | []=>by
  show qY g [(f,v)]=_;by_cases h:g=f
  ·have hb:(g==f)=true:=beq_iff_eq.mpr h
   simp only[qY,hb,if_pos h]
  ·have hb:(g==f)=false:=beq_eq_false_iff_ne.mpr h
   simp only[qY,hb,if_neg h]
 |(k,x)::r=>by
  have ih:=zM f g v r;rw[show qW f v ((k,x)::r)=(if k=f then(k,v)::r else(k,x)::qW f v r)from rfl]
  by_cases hk:k=f
  ·rw[if_pos hk]
   by_cases h:g=k
   ·have hb:(g==k)=true:=beq_iff_eq.mpr h
    simp only[qY,hb,if_pos (h.trans hk)]
   ·have hb:(g==k)=false:=beq_eq_false_iff_ne.mpr h
    simp only[qY,hb,if_neg (λe:g=f=>h (e.trans hk.symm))]
  ·rw[if_neg hk]
   by_cases h:g=k
   ·have hb:(g==k)=true:=beq_iff_eq.mpr h
    simp only[qY,hb,if_neg (λe:g=f=>hk (h.symm.trans e))]
   ·have hb:(g==k)=false:=beq_eq_false_iff_ne.mpr h
    simp only[qY,hb];exact ih
theorem wN(f:Str)(v:V):∀fs:List (Str×V),f∈(qW f v fs).map (·.1)/\∀g,g∈fs.map (·.1)->g∈(qW f v fs).map (·.1)
 | []=>⟨by simp[qW],λg h=>by simp at h⟩
 |(k,x)::r=>by
  obtain⟨i1,i2⟩:=wN f v r;rw[show qW f v ((k,x)::r)=(if k=f then(k,v)::r else(k,x)::qW f v r)from rfl]
  by_cases hk:k=f
  ·rw[if_pos hk]
   subst hk;exact⟨by simp,λg h=>by simpa using h⟩
  ·rw[if_neg hk]
   refine⟨?_,λg h=>?_⟩
   ·rw[aZ]
    exact bD _ i1
   ·rw[aZ]at h ⊢
    rcases aQ.mp h with e|e
    ·exact aQ.mpr (.inl e)
    ·exact bD _ (i2 g e)
theorem Gk(f:Str)(v:V):∀fs:List (Str×V),(qW f v fs).length<=fs.length+1
 | []=>by simp[qW]
 |(k,x)::r=>by
  have ih:=Gk f v r;rw[show qW f v ((k,x)::r)=(if k=f then(k,v)::r else(k,x)::qW f v r)from rfl]
  by_cases hk:k=f
  ·rw[if_pos hk,bJ,bJ];omega
  ·rw[if_neg hk,bJ,bJ];omega
theorem u5.some_of{v:V}{o:Option aF}(r:u5 (some v) o):∃u,o=some u/\RelV v u:=by
 cases o with
 |none=>exact(show False from r).elim
 |some u=>exact⟨u,rfl,r⟩
theorem Lk{v:V}{u:aF}(r:RelV v u):PySem.W.handedIn u=true:=by
 cases v with
 |non=>cases(show u=iG from r);rfl
 |bl b=>cases(show u=aF.bool b from r);rfl
 |int i=>obtain⟨t,e⟩:=(show ∃t,u=Pb i t from r);cases e;rfl
 |str x=>obtain⟨t,e⟩:=(show ∃t,u=Pg x t from r);cases e;rfl
 |byt b=>obtain⟨t,e⟩:=(show ∃t,u=aF.bytes b t from r);cases e;rfl
 |flt b=>obtain⟨t,e⟩:=(show ∃t,u=aF.float b t from r);cases e;rfl
 |ref a=>cases(show u=bR a from r);rfl
 |ty n=>cases(show u=tR n from r);rfl
section
variable{P:bL}{w:dB}{H H':Hp}{h h':dW}{a C dx:aN}{fs fs':List (Str×V)}
theorem U4(hok:zj P w H h)(e:H a=some (.ins C dx fs)):∃mA,Wh h a dx C mA/\(∀f,u5 (fs.lookup f) (mA f))/\rQ mA (fs.map (·.1))/\fs.length<=1000/\H dx=some (.own a):=by
 obtain⟨d,z,ne,ob,mA,n,r,q⟩:=(show lB P w H h a (.ins C dx fs)from hok a _ e)
 exact⟨mA,⟨ob,n,ne⟩,r,q,z,d⟩
end
structure Cls(K:ao)(C:aN):Prop where
 pg:wK K C iy=true
 hd:kE K C=true
 po:CT K C=true
 sa:cV K (.ref C) "__setattr__"=some (some (.builtin "object.__setattr__"))
theorem Cls.get{K:ao}{C:aN}(c:Cls K C)(f:Str):wK K C f=true:=c.pg
def jG(K:ao)(C:aN)(f:Str):Prop:=cV K (.ref C) f=some none
theorem jG.taker{K:ao}{C:aN}{f:Str}(n:jG K C f):qy K C f=some none:=by
 unfold qy;rw[show cV K (.ref C) f=some none from n]
 rfl
structure Con(K:ao)(C:aN)(f:Str)(v:V)(u:aF):Prop where
 at_:cV K (.ref C) f=some (some u)
 rel:RelV v u
 get:oU K u "__get__"=some none
 cp:PySem.W.copiedNames.contains f=false
structure Meth(K:ao)(C:aN)(m:Str)(f:aN):Prop where
 at_:cV K (.ref C) m=some (some (.ref f))
 fn:xX K (.ref f)=true
 kp:gZ K (.ref f)=true
section
variable{X:Cx}{pins:List (aN×Obj)}{σ:St}{H:Hp}{s:aL}{a C dx:aN}{fs:List (Str×V)}{f:Str}{v:V}{A:fW}{E:aF->aL->Prop}
theorem R0{b:Bool}{Q:aF->aL->Prop}(I:Inv X pins σ H s)(e:H a=some (.ins C dx fs))(c:Cls X.K C)(n:jG X.K C f)(l:fs.lookup f=some v)
  (h:∀u s',Inv X pins σ H s'->RelV v u->Q u s'):wpAny (model X.prog X.w) A (getAttr (.ref a) f b) Q E s:=by
 obtain⟨mA,O,r,_,_,_⟩:=U4 I.hok e;obtain⟨u,hu,ru⟩:=u5.some_of (v:=v) (o:=mA f) (by rw[<-l];exact r f)
 exact get_map I.zm O (c.get f) c.hd n hu (Lk ru) (h u _ (I.tok _) ru)
theorem R3{y:V}{u:aF}{Q:Unit->aL->Prop}(I:Inv X pins σ H s)(e:H a=some (.ins C dx fs))(c:Cls X.K C)(n:jG X.K C f)(hl:fs.length<1000)(ry:RelV y u)
  (h:∀s',Inv X pins σ (upd H a (.ins C dx (qW f y fs))) s'->Q () s'):wpAny (model X.prog X.w) A (setAttr (.ref a) f u) Q E s:=by
 obtain⟨mA,O,r,wi,_,ho⟩:=U4 I.hok e;have hz:(fs.map (·.1)).length<=sizeLine:=by rw[aq,fK];omega
 refine zal I.zm O c.sa c.po n.taker c.hd wi hz λh' O' sb=>h _ ?_
 have hd:∃o,h'.get? dx=some o:=let⟨o,_,_,e',_⟩:=O'.ns;⟨o,e'⟩;refine I.write (x:=a) (e:=dx) (by rw[e];exact iI) (.inr ho) (λb q hb z=>(sb.2 b hb).trans z) hd ?_
 refine⟨by rw[bf O.ne];exact ho,?_,O.ne,O'.obj,_,O'.ns,λg=>?_,λg hg=>?_⟩
 ·have:=Gk f y fs;omega
 ·show u5 ((qW f y fs).lookup g) (if g=f then some u else mA g)
  rw[zM];by_cases q:g=f
  ·rw[if_pos q,if_pos q];exact ry
  ·rw[if_neg q,if_neg q];exact r g
 ·by_cases q:g=f
  ·rw[q];exact(wN f y fs).1
  ·refine(wN f y fs).2 g (wi g λz=>hg ?_)
   show(if g=f then some u else mA g)=none
   rw[if_neg q];exact z
theorem Inv.made(I:Inv X pins σ H s):Inv X pins σ (upd (upd H s.heap.objs.size (.own (s.heap.objs.size+1))) (s.heap.objs.size+1) (.ins C s.heap.objs.size []))
  { s with heap:=(s.heap.push jF).push (mJ C s.heap.objs.size) }:=by
 have e1:(s.heap.push jF).get? s.heap.objs.size=some jF:=cD s.heap rfl;have e2:((s.heap.push jF).push (mJ C s.heap.objs.size)).get? (s.heap.objs.size+1)=some (mJ C s.heap.objs.size):=by
  have:=cD (s.heap.push jF) (o:=mJ C s.heap.objs.size) rfl
  rwa [jN]at this
 have e3:(s.heap.push jF).Ns s.heap.objs.size (λ_=>none):=⟨jF,#[],_,e1,rfl,(λe he=>absurd he (by simp)),λ_=>rfl⟩
 have I1:=I.laid (a:=s.heap.objs.size) (o:=.own (s.heap.objs.size+1)) (h':=s.heap.push jF) (t':=s.toks) (λb u q=>aJ _ q) (aK _) ⟨_,e1⟩
 refine I1.laid (a:=s.heap.objs.size+1) (o:=.ins C s.heap.objs.size []) (t':=s.toks) (λb u q=>aJ _ q) (Nat.le_of_eq (jN _ _)) ?_
 have ne:s.heap.objs.size≠s.heap.objs.size+1:=bQ (qp _);refine⟨by rw[bf ne,cQ],cC _,ne,e2,λ_=>none,(RM e3).at λo q=>aJ _ q,λ_=>iI,λy hy=>absurd rfl hy⟩
theorem U5{prog:bL}{w:dB}{env:Env}{e:dz}{f:Str}{pos:Pos}{s:aL}{Q:aF->aL->Prop}(hb:attributeBase e f env (eval e env)=eval e env)
  (h:wpAny (model prog w) A (eval e env) (λo s₁=>wpAny (model prog w) A (getAttr o f true) Q E s₁) E s):wpAny (model prog w) A (eval (.Attribute e f pos) env) Q E s:=
 Attribute_any_ h (by rw[arm_eval_Attribute,hb])
end
def zhu(K:ao)(ta:TE)(f:Str):TE:=λσ H Q=>ta σ H λx H1=>∃a C dx fs v,x=.ref a/\H1 a=some (.ins C dx fs)/\Cls K C/\jG K C f/\fs.lookup f=some v/\Q v H1
def zhv(K:ao)(ta tv:TE)(f:Str):TS:=λD σ H=>tv σ H λy H1=>ta σ H1 λx H2=>∃a C dx fs,x=.ref a/\H2 a=some (.ins C dx fs)/\Cls K C/\jG K C f/\fs.length<1000/\
 D.nx σ (upd H2 a (.ins C dx (qW f y fs)))
section
variable{X:Cx}{o e value:dz}{f:Str}{pos pos' tpos:Pos}{ta tv:TE}
theorem Ja(he:PE X e ta)(hb:attributeBase e f X.env (eval e X.env)=eval e X.env):PE X (.Attribute e f pos) (zhu X.K ta f):=by
 intro pins s σ H Q I h;refine U5 hb (jL (he pins s σ H _ I h) λu s1 ⟨x,H1,I1,rx,a,C,dx,fs,v,ex,ea,c,n,l,q⟩=>?_)
 subst ex;obtain rfl:u=bR a:=rx;exact R0 I1 ea c n l λu' s2 I2 ru=>⟨v,H1,I2,ru,q⟩
theorem BX(ha:PE X o ta)(hv:PE X value tv)(hs:swapsWith value (some (.Attribute o f pos')) pos.line X.env=pure false):PS X (.Assign [.Attribute o f pos'] value pos) (zhv X.K ta tv f):=by
 intro pins s σ H D I h;refine uJ (jL (hv pins s σ H _ I h) λu s1 ⟨y,H1,I1,ry,q⟩=>jL (ha pins s1 σ H1 _ I1 q) λov s2 ⟨x,H2,I2,rx,a,C,dx,fs,ex,ea,c,n,l,q2⟩=>?_) hs
 subst ex;obtain rfl:ov=bR a:=rx;exact R3 I2 ea c n l ry λs3 I3=>⟨σ,_,I3,q2⟩
end
section
variable{X:Cx}{pins:List (aN×Obj)}{σ:St}{H:Hp}{s:aL}{A:fW}{E:aF->aL->Prop}{Q:aF->aL->Prop}{c:aF}{b:Bool}
inductive Jb(K:ao)(H:Hp):V->aF->Prop where
 |non:Jb K H .non (.type "NoneType")
 |bl (x:Bool):Jb K H (.bl x) (.type "bool")
 |int (i:Int):Jb K H (.int i) (.type "int")
 |str (x:Str):Jb K H (.str x) (.type "str")
 |flt (x:UInt64):Jb K H (.flt x) (.type "float")
 |lst {a:aN} {xs:List V} (e:H a=some (.lst xs)):Jb K H (.ref a) (.type "list")
 |XD {a:aN} {o:Obj} {xs:List V} (e:H a=some (.XD o (.lst xs))):Jb K H (.ref a) (.type "list")
 |tup {a:aN} {xs:List V} (e:H a=some (.tup xs)):Jb K H (.ref a) (.type "tuple")
 |dK {a:aN} {kvs:List (Key×V)} (e:H a=some (.dK kvs)):Jb K H (.ref a) (.type "dict")
 |dT {a:aN} {kvs:List (List Key×V)} (e:H a=some (.dT kvs)):Jb K H (.ref a) (.type "dict")
 |ins {a C dx:aN} {fs:List (Str×V)} (e:H a=some (.ins C dx fs)) (cl:Cls K C) (ha:cV K (.ref C) "__class__"=some (some (.builtin "object.__class__")))
   (hn:oU K (.builtin "object.__class__") "__get__"=some (some (.builtin "getset_descriptor.__get__"))) (htk:PySem.W.takesIn K (.builtin "object.__class__")=some true)
   (hm:Bm K C (.type "object")=some true):Jb K H (.ref a) (.ref C)
end
structure jH(k:Nat)(A:fW):Prop where
 hd:A.handled=none
 dp:A.depth+3*k+5<recursionLimit
 un:A.units+16*k+200<cLine
theorem jH.mono{j k:Nat}{A:fW}(r:jH k A)(h:j<=k):jH j A:=⟨r.hd,by have:=r.dp;omega,by have:=r.un;omega⟩
theorem jH.deeper{k:Nat}{A:fW}(r:jH (k+1) A)(env:Env):jH k (A.deeper env):=
 ⟨r.hd,by have:=r.dp;show A.depth+1+3*k+5<_;omega,by have:=r.un;show A.units+3+16*k+200<_;omega⟩
theorem R4{A:fW}{C:aN}{us:List aF}{kw:List (Str×aF)}:(A.under (.builtin "type.__call__" ⟨.ref C::us,kw⟩)).depth=A.depth+1:=by
 first|rfl|simp[Pj,Code.weight,Code.isCreation,Code.isGuard,Code.isCaller,Code.frames,Ry,guardIds]
theorem R5{A:fW}{C:aN}{us:List aF}{kw:List (Str×aF)}:(A.under (.builtin "type.__call__" ⟨.ref C::us,kw⟩)).units=A.units+1:=by
 first|rfl|simp[Pj,Code.cUnits,Code.frames,Ry]
theorem jH.make{k:Nat}{A:fW}(r:jH (k+1) A)(C:aN)(us:List aF)(kw:List (Str×aF)):jH k (A.under (.builtin "type.__call__" ⟨.ref C::us,kw⟩)):=
 ⟨r.hd,by have:=r.dp;rw[R4];omega,by have:=r.un;rw[R5];omega⟩
theorem jH.depth{k:Nat}{A:fW}(r:jH k A):A.depth<recursionLimit:=by have:=r.dp;omega
def zeF:TA:=λ_ H Q=>Q [] H
def zeG(ta:TE)(tr:TA):TA:=λσ H Q=>ta σ H λx H1=>tr σ H1 λxs H2=>Q (x::xs) H2
section
variable{X:Cx}{e:dz}{es:List dz}{te:TE}{t:TA}{pos:Pos}
theorem je:PA X [] zeF:=λ_ _ _ _ H Q I h=>Es ⟨[],H,I,.nil,h⟩
theorem eV(ha:PE X e te)(hr:PA X es t)(hs:starEach (e::es) X.env=(false,eval e X.env)::starEach es X.env:=by rfl):PA X (e::es) (zeG te t):=by
 intro pos pins s σ H Q I h;rw[hs];show wpAny _ _ (spliced ((false,eval e X.env)::backTo pos (starEach es X.env))) _ _ s;refine qQ (jL (ha pins s σ H _ I h) λu s1 ⟨x,H1,I1,r1,q1⟩=>?_)
 exact jL (hr pos pins s1 σ H1 _ I1 q1) λus s2 ⟨xs,H2,I2,r2,q2⟩=>⟨x::xs,H2,I2,.cons r1 r2,q2⟩
def zhw(t:TA):TE:=λσ H Q=>t σ H λxs H1=>xs.length<=sizeLine/\∀p,H1 p=none->Q (.ref p) (upd H1 p (.tup xs))
def zhx(t:TA):TE:=λσ H Q=>t σ H λxs H1=>xs.length<=sizeLine/\∀p,H1 p=none->Q (.ref p) (upd H1 p (.lst xs))
theorem Jc{x1}(h:PA X es t):PE X (.Tuple es x1 pos) (zhw t):=by
 intro pins s σ H Q I hq;refine wpAny_Tuple_spliced (jL (h pos pins s σ H _ I hq) λus s1 ⟨xs,H1,I1,r,z,q⟩=>⟨by rw[<-r.length];exact z,?_⟩)
 have hf:H1 s1.heap.objs.size=none:=I1.hok.fresh (aK _);refine⟨.ref s1.heap.objs.size,upd H1 s1.heap.objs.size (.tup xs),I1.laid (t':=s1.toks) (λb u e=>aJ _ e) (aK _) ?_,rfl,q _ hf⟩
 exact⟨z,us,r,⟨_,cD _ rfl,rfl,_,rfl⟩⟩
theorem Nx(h:PA X es t):PE X (.List es pos) (zhx t):=by
 intro pins s σ H Q I hq;refine wpAny_List_spliced (jL (h pos pins s σ H _ I hq) λus s1 ⟨xs,H1,I1,r,z,q⟩=>⟨by rw[<-r.length];exact z,?_⟩)
 have hf:H1 s1.heap.objs.size=none:=I1.hok.fresh (aK _);refine⟨.ref s1.heap.objs.size,upd H1 s1.heap.objs.size (.lst xs),I1.laid (t':=s1.toks) (λb u e=>aJ _ e) (aK _) ?_,rfl,q _ hf⟩
 exact⟨z,us,0,r,cD _ rfl⟩
end
abbrev Sp:=List V->Hp->VK->XK->Prop
abbrev U6:=List Env->Hp->aL->XK->aF->aL->Prop
structure R6(P:bL)(w:dB)(K:ao)(mg:Str->Option aF)(base:dW)(A:fW)(outer:List Env)(s:aL)(H:Hp):Prop where
 frames:A.frames=some outer
 mod:Mod K mg base
 bs:∀b o,base.get? b=some o->s.heap.get? b=some o/\H b=none
 Z5:base.objs.size<=s.heap.objs.size
 yV:s.heap.FunFrames base outer
 XJ:∀b∈frs outer,H b=none
 hok:zj P w H s.heap
 bare:yZ s.gens
def CE(outer:List Env)(P:bL)(w:dB)(H:Hp)(s:aL)(Q:VK)(u:aF)(s':aL):Prop:=
 ∃v H',s'.os=s.os/\yZ s'.gens/\Un (frs outer) [] H H' s.heap s'.heap/\zj P w H' s'.heap/\RelV v u/\Q v H'
def CR(CX:U6)(outer:List Env)(P:bL)(w:dB)(H:Hp)(s:aL)(Q:VK)(E:XK)(r:BK)(s':aL):Prop:=
 match r with
 | .ok (.ret u)=>CE outer P w H s Q u s'
 | .ok _=>False
 | .error e=>CX outer H s E e s'
structure i_(P:bL)(w:dB)(K:ao)(mg:Str->Option aF)(base:dW)(CX:U6)(k:Nat)(f:aN)(fd:cU)(ps:List Str)(sp:Sp):Prop where
 len:∀vs H Q E,sp vs H Q E->vs.length=ps.length
 run:∀(A:fW)(outer:List Env)(s:aL)(H:Hp)(args:Args)(us:List aF)(vs:List V)(Q:VK)(E:XK),jH k A->R6 P w K mg base A outer s H->BindsTo s fd args (ps.zip us)->Vals vs us->sp vs H Q E->
  codeAny (model P w) A (.call (.ref f) args) (CR CX outer P w H s Q E) s
theorem R6.make{P:bL}{w:dB}{K:ao}{mg:Str->Option aF}{base:dW}{A:fW}{outer:List Env}{s:aL}{H:Hp}(e:R6 P w K mg base A outer s H)(C:aN)(us:List aF)(kw:List (Str×aF)):
  R6 P w K mg base (A.under (.builtin "type.__call__" ⟨.ref C::us,kw⟩)) outer s H:=⟨by first|exact e.frames|(simpa[Pj,Code.envs,Ry,pushEnvs]using e.frames),e.mod,e.bs,e.Z5,e.yV,e.XJ,e.hok,e.bare⟩
section
variable{X:Cx}{pins:List (aN×Obj)}{σ:St}{H:Hp}{s s':aL}
theorem Inv.env0(I:Inv X pins σ H s):R6 X.prog X.w X.K X.mg X.base X.A X.stack s H:=
 ⟨I.ok.frames,I.ok.mod,I.bs,dD I.ok.Z5 I.sz,I.stack,I.Uz,I.hok,I.bare⟩
theorem Inv.after{Q:VK}{u:aF}(I:Inv X pins σ H s)(h:CE X.stack X.prog X.w H s Q u s'):EP X pins σ Q u s':=by
 obtain⟨v,H',os,bare,un,hok,r,q⟩:=h;obtain⟨hh,g,d,t,os'⟩:=s';obtain rfl:os'=s.os:=os;exact⟨v,H',I.call (h':=hh) (g':=g) (d':=d) (t':=t) (ch:=[]) un hok bare (λb z=>absurd z (by simp)),r,q⟩
end
def zeH(sp:Sp)(R7:List V)(E:XK)(t:TA):TE:=λσ H Q=>t σ H λvs H1=>sp (vs++R7) H1 Q E
def zeI(C:aN)(sp:Sp)(R7:List V)(E:XK)(t:TA):TE:=λσ H Q=>t σ H λvs H1=>∀x dx,H1 x=none->H1 dx=none->dx≠x->
 sp (.ref x::(vs++R7)) (upd (upd H1 dx (.own x)) x (.ins C dx [])) (λv H2=>v=.non/\Q (.ref x) H2) E
def Binds(K:ao)(fd:cU)(ps:List Str)(ds:List aF):Prop:=
 ∀(s:aL)(us:List aF),K.In s.heap->(us++ds).length=ps.length->BindsTo s fd ⟨us,[]⟩ (ps.zip (us++ds))
theorem Binds.all{K:ao}{fd:cU}{ps:List Str}(h:∀us:List aF,us.length=ps.length->bindArgs fd ⟨us,[]⟩=pure (ps.zip us)):Binds K fd ps []:=λs us _ hl=>by
 rw[gK]at hl ⊢;exact .of_eq (h us hl)
def Passes(CX:U6)(X:Cx)(E:XK):Prop:=∀(pins:List (aN×Obj))(σ:St)(H:Hp)(s:aL)(e:aF)(s':aL),Inv X pins σ H s->CX X.stack H s E e s'->X.xe e s'
section
variable{X:Cx}{CX:U6}{k:Nat}{f C:aN}{fd:cU}{ps:List Str}{sp:Sp}{R7:List V}{ds:List aF}{E:XK}{x m:Str}{p pos apos:Pos}{e o:dz}{es:List dz}{ta:TE}{t:TA}
theorem zcK{pins:List (aN×Obj)}{σ:St}{H:Hp}{s:aL}{Q:VK}{us:List aF}{vs:List V}(F:i_ X.prog X.w X.K X.mg X.base CX k f fd ps sp)(hr:jH k X.A)(hb:Binds X.K fd ps ds)(hd:Vals R7 ds)(hx:Passes CX X E)
  (I:Inv X pins σ H s)(r:Vals vs us)(h:sp (vs++R7) H Q E):wpAny (model X.prog X.w) X.A (call (.ref f) us) (EP X pins σ Q) X.xe s:=by
 have r2:Vals (vs++R7) (us++ds):=r.append hd;have hl:(us++ds).length=ps.length:=by rw[<-r2.length];exact F.len _ _ _ _ h
 refine sH (qR (F.run X.A X.stack s H ⟨us,[]⟩ (us++ds) (vs++R7) Q E hr I.env0 (hb s us I.zm hl) r2 h) λr s' hq=>?_)
 cases r with
 |error e=>exact hx pins σ H s e s' I hq
 |ok fl=>
  cases fl with
  |ret u=>exact I.after hq
  |next=>exact iT hq
  |brk=>exact iT hq
  |cont=>exact iT hq
theorem HN(F:i_ X.prog X.w X.K X.mg X.base CX k f fd ps sp)(hr:jH k X.A)(hg:Gl X x)(hm:X.mg x=some (.ref f))(hk:gZ X.K (.ref f)=true)(hb:Binds X.K fd ps ds)(hd:Vals R7 ds)(hx:Passes CX X E)
  (ha:PA X (e::es) t)(hdb:(x==("__debug__":Str))=false:=by decide)(he:starEach (e::es) X.env=(false,eval e X.env)::starEach es X.env:=by rfl)(hpl:(backTo pos (starEach es X.env)).any (·.1)=false:=by rfl):
  PE X (.Call (.Name x p) (e::es) [] pos) (zeH sp R7 E t):=by
 intro pins s σ H Q I h;refine o9 (xY I hg hm ?_ hdb)
 refine BL (h₀:=X.base) I.ok.mod.kin hk (jL (ha pos pins s σ H _ I h) λus s1 ⟨vs,H1,I1,r,q⟩=>⟨I1.zm,?_⟩) he hpl
 exact zcK F hr hb hd hx I1 r q
structure Mk(K:ao)(C f:aN):Prop where
 makes:G7 K C=true
 init:cV K (.ref C) "__init__"=some (some (.ref f))
 fn:xX K (.ref f)=true
 kp:gZ K (.ref C)=true
theorem X_{pins:List (aN×Obj)}{σ:St}{H:Hp}{s:aL}{Q:VK}{us:List aF}{vs:List V}(M:Mk X.K C f)(F:i_ X.prog X.w X.K X.mg X.base CX k f fd ps sp)(hr:jH (k+1) X.A)(hb:Binds X.K fd ps ds)(hd:Vals R7 ds)
  (hx:Passes CX X E)(I:Inv X pins σ H s)(r:Vals vs us)
  (h:∀x dx,H x=none->H dx=none->dx≠x->sp (.ref x::(vs++R7)) (upd (upd H dx (.own x)) x (.ins C dx [])) (λv H2=>v=.non/\Q (.ref x) H2) E):
  wpAny (model X.prog X.w) X.A (call (.ref C) us) (EP X pins σ Q) X.xe s:=by
 have hq:=h (s.heap.objs.size+1) s.heap.objs.size (I.hok.fresh (k_ _)) (I.hok.fresh (aK _)) (bQ (qp _));have I2:=Inv.made (C:=C) I;have r2:Vals (V.ref (s.heap.objs.size+1)::(vs++R7)) (bR (s.heap.objs.size+1)::(us++ds)):=.cons rfl (r.append hd);have hl:(bR (s.heap.objs.size+1)::us++ds).length=ps.length:=by
  have e:=r2.length;rw[F.len _ _ _ _ hq]at e;exact e.symm
 refine sH (X8 (f:=f) I.zm M.makes M.init (beq_iff_eq.mp M.fn) (qR (F.run _ X.stack _ _ ⟨bR (s.heap.objs.size+1)::us,[]⟩ (bR (s.heap.objs.size+1)::(us++ds)) _ _ E (hr.make C us [])
  (I2.env0.make C us []) (hb _ (bR (s.heap.objs.size+1)::us) I2.zm hl) r2 hq) λr s' hq'=>?_))
 cases r with
 |error e=>exact hx pins σ _ _ e s' I2 hq'
 |ok fl=>
  cases fl with
  |ret u=>
   obtain⟨v,H',I3,rv,ev,q3⟩:=I2.after hq';subst ev;exact⟨rv,⟨V.ref (s.heap.objs.size+1),H',I3,rfl,q3⟩⟩
  |next=>exact iT hq'
  |brk=>exact iT hq'
  |cont=>exact iT hq'
theorem Yb(M:Mk X.K C f)(F:i_ X.prog X.w X.K X.mg X.base CX k f fd ps sp)(hr:jH (k+1) X.A)(hg:Gl X x)(hm:X.mg x=some (.ref C))(hb:Binds X.K fd ps ds)(hd:Vals R7 ds)(hx:Passes CX X E)
  (hdb:(x==("__debug__":Str))=false:=by decide):PE X (.Call (.Name x p) [] [] pos) (zeI C sp R7 E zeF):=by
 intro pins s σ H Q I h;refine o9 (xY I hg hm ?_ hdb)
 exact PySem.W.callWith_K0 I.zm M.kp (X_ (us:=[]) M F hr hb hd hx I .nil h)
end
section
variable{X:Cx}{CX:U6}{k:Nat}{f C:aN}{fd:cU}{ps ks:List Str}{sp:Sp}{E:XK}{x m:Str}{p pos apos kpos:Pos}{e o:dz}{es:List dz}{kws:List lu}{te ta:TE}{t tk:TA}{nm:Option Str}
structure zhy(K:ao)(fd:cU)(ps ks:List Str)(g:List aF->List aF->List aF)(gV:List V->List V->List V):Prop where
 to:∀(s:aL)(us ws:List aF),K.In s.heap->(g us ws).length=ps.length->BindsTo s fd ⟨us,ks.zip ws⟩ (ps.zip (g us ws))
 rel:∀{vs:List V}{us:List aF}{zs:List V}{ws:List aF},Vals vs us->Vals zs ws->Vals (gV vs zs) (g us ws)
variable{g:List aF->List aF->List aF}{gV:List V->List V->List V}
end
structure eX(N P:List Str)(sc:rR):Prop where
 kind:sc.kind=.function
 co:sc.isCoroutine=false
 gen:sc.isGenerator=false
 nd:N.Nodup
 pre:N.take P.length=P
 par:∀x∈P,sc.names.lookup x=some .local\/sc.names.lookup x=some .cell
 zcL:∀y∈sc.names,y.2≠.free
theorem Ln{kindOf:Str->Option uo}{x:Str}:∀{binds:List (Str×aF)}{m:Str->Option aF},(∀v,(x,v)∉binds)->bindL kindOf binds m x=m x
 | [],_,_=>rfl
 |(n,v)::r,m,h=>by
  unfold bindL;rw[Ln λw hw=>h w (bD _ hw)]
  split
  ·have:x≠n:=by rintro rfl;exact h v aY
   simp[this]
  ·rfl
theorem Lp{kindOf:Str->Option uo}{x:Str}:∀{binds:List (Str×aF)}{m:Str->Option aF},(∀v,(x,v)∉binds)->bindC kindOf binds m x=m x
 | [],_,_=>rfl
 |(n,v)::r,m,h=>by
  unfold bindC;rw[Lp λw hw=>h w (bD _ hw)]
  split
  ·rfl
  ·have:x≠n:=by rintro rfl;exact h v aY
   simp[this]
theorem Lq{kindOf:Str->Option uo}{x:Str}{v:aF}:∀{P:List Str}{vs:List aF}{i:Nat}{m:Str->Option aF},P.Nodup->P[i]?=some x->vs[i]?=some v->kindOf x=some .local->
  bindL kindOf (P.zip vs) m x=some v
 | [],_,_,_,_,h,_,_=>by simp at h
 |_::_,[],_,_,_,_,h,_=>by simp at h
 |p::P,w::vs,0,m,nd,h1,h2,hk=>by
  simp at h1 h2;subst h1;subst h2;show bindL kindOf ((p,w)::P.zip vs) m p=_;unfold bindL;rw[Ln λv hv=>(lG.mp nd).1 (zu hv).1,if_pos hk]
  simp
 |p::P,w::vs,i+1,m,nd,h1,h2,hk=>by
  show bindL kindOf ((p,w)::P.zip vs) m x=_;unfold bindL;exact Lq (i:=i) (lG.mp nd).2 (by simpa using h1) (by simpa using h2) hk
theorem Lr{kindOf:Str->Option uo}{x:Str}{v:aF}:∀{P:List Str}{vs:List aF}{i:Nat}{m:Str->Option aF},P.Nodup->P[i]?=some x->vs[i]?=some v->kindOf x≠some .local->
  bindC kindOf (P.zip vs) m x=some v
 | [],_,_,_,_,h,_,_=>by simp at h
 |_::_,[],_,_,_,_,h,_=>by simp at h
 |p::P,w::vs,0,m,nd,h1,h2,hk=>by
  simp at h1 h2;subst h1;subst h2;show bindC kindOf ((p,w)::P.zip vs) m p=_;unfold bindC;rw[Lp λv hv=>(lG.mp nd).1 (zu hv).1,if_neg hk]
  simp
 |p::P,w::vs,i+1,m,nd,h1,h2,hk=>by
  show bindC kindOf ((p,w)::P.zip vs) m x=_;unfold bindC;exact Lr (i:=i) (lG.mp nd).2 (by simpa using h1) (by simpa using h2) hk
def start(N:List Str)(vs:List V):St:=vs.map some++bN (N.length-vs.length) none
def Jd(CX:U6)(P:bL)(w:dB)(K:ao)(mg:Str->Option aF)(base:dW)(N:List Str)(qual:Str)(scope:rR)(f:aN)(cd:aF)(A:fW)(outer:List Env)(s:aL)(H:Hp)(E:XK):Cx where
 prog:=P
 w:=w
 K:=K
 mg:=mg
 base:=base
 A:=A.deeper (envOfC qual scope s.heap.objs.size f cd)
 N:=N
 s₀:=s
 H₀:=H
 env:=envOfC qual scope s.heap.objs.size f cd
 outer:=outer
 stack:=envOfC qual scope s.heap.objs.size f cd::outer
 ex:=[]
 calm:=true
 fn:=λ_=>true
 pn:=[]
 xe:=λe s'=>wpAny (model P w) (A.deeper (envOfC qual scope s.heap.objs.size f cd)) (leaving (envOfC qual scope s.heap.objs.size f cd) e) (λ_ s''=>CX outer H s E e s'') (λe' s''=>CX outer H s E e' s'') s'
theorem PX{sc:rR}{n:Nat}{x:Str}(h:sc.names.lookup x=some .cell):∃c,(cellsFrom n sc.names []).lookup x=some c:=by
 have q:=M7 sc.names n [] (.inl h);exact Option.isSome_iff_exists.mp q
theorem Wi{CX:U6}{P:bL}{w:dB}{K:ao}{mg:Str->Option aF}{base:dW}{N ps:List Str}{qual:Str}{scope:rR}{f:aN}{cd:aF}{A:fW}{outer:List Env}{s s1:aL}{H:Hp}{E:XK}{us:List aF}{vs:List V}
  (S:eX N ps scope)(hd:A.handled=none)(e0:R6 P w K mg base A outer s H)(hl:vs.length=ps.length)(r:Vals vs us)
  (x:InCallC s s.heap.objs.size (bindL (envOfC qual scope s.heap.objs.size f cd).kindOf (ps.zip us) λ_=>none) (cellsFrom (s.heap.objs.size+1) scope.names []) (bindC (envOfC qual scope s.heap.objs.size f cd).kindOf (ps.zip us) λ_=>none) s1):
  Inv (Jd CX P w K mg base N qual scope f cd A outer s H E) [] (start N vs) H s1:=by
 have hpl:ps.length<=N.length:=by have:=congrArg nY S.pre;rw[dO]at this;omega
 obtain⟨h1,tk,rfl,hk⟩:=x.done;have noA:∀b:aN,b∉(Jd CX P w K mg base N qual scope f cd A outer s H E).ex:=λb z=>absurd (show b∈([]:List aN)from z) (by simp)
 refine⟨⟨e0.mod,S.kind,rfl,rfl,aK _,λy z c h1 h2=>?_,λy hy=>?_,λy c _ h=>?_,λ_=>hd,fW.frames_deeper e0.frames,.inr ⟨rfl,rfl⟩,λb z=>absurd z (noA b),e0.bs,e0.Z5,λb _ _=>noA b,λb z=>absurd z (noA b),e0.yV,e0.XJ⟩,
  rfl,e0.bare,Un.kept hk,⟨_,x.toInCall.ns,λi y v h1 h2 h3=>?_⟩,λy c h=>⟨_,x.cell y c h⟩,e0.hok.fresh (aK _),λy c h=>?_,λp hp=>absurd (show p∈([]:List (aN×Obj))from hp) (by simp),e0.hok.kept hk,?_⟩
 ·exact name_of_addr x.apart (nM h1) (nM h2)
 ·have hy:scope.names.lookup y=some .cell\/scope.names.lookup y=some .free:=hy
  rcases hy with hy|hy
  ·exact PX hy
  ·exact absurd rfl (S.zcL _ (nM hy))
 ·exact vD (x.above y c (nM h))
 ·have hi:i<vs.length:=by
   unfold start at h2;by_cases hi:i<vs.length
   ·exact hi
   ·rw[eU (by simpa using hi)]at h2
    rw[h_]at h2
    split at h2<;>cases h2
  have ha:vs[i]?=some v:=by
   unfold start at h2;rw[fu (by simpa using hi),bh]at h2
   cases e:vs[i]? with
   |none=>rw[e]at h2;cases h2
   |some a=>rw[e]at h2;cases h2;rfl
  obtain⟨u,hu,rv⟩:=r.get ha;have hp:ps[i]?=some y:=by
   rw[<-S.pre,List.getElem?_take_of_lt (by omega)];exact h1
  have ndP:ps.Nodup:=by rw[<-S.pre];exact S.nd.sublist (List.take_sublist _ _)
  refine⟨u,rv,?_⟩
  rcases S.par y (dw hp)with k|k
  ·exact .inl ⟨k,Lq ndP hp hu k⟩
  ·obtain⟨c,e⟩:=PX (n:=s.heap.objs.size+1) k
   refine .inr ⟨.inl k,c,e,?_⟩
   have q:=x.cell y c e;rw[Lr ndP hp hu (by show scope.names.lookup y≠_;rw[k];decide)]at q
   exact q
 ·exact e0.hok.fresh (vD (x.above y c (nM h)))
 ·unfold start
  show _=N.length;rw[bK,aq,gF];omega
theorem zbJ{CX:U6}{P:bL}{w:dB}{K:ao}{mg:Str->Option aF}{base:dW}{k:Nat}{f:aN}{name qual:Str}{params:Arguments}{body:List mj}{scope:rR}{dV kV doc pm cdv ct oc:aF}{an od:Option aN}
  {osl:Array (Option aF)}{N ps:List Str}{sp:Sp}(lk:K.lookup f=some ⟨oc,od,.func (mR name qual params body scope dV kV doc pm an cdv ct),osl⟩)(hcd:qZ K cdv qual=true)(S:eX N ps scope)
  (len:∀vs H Q E,sp vs H Q E->vs.length=ps.length)
  (hbody:∀(A:fW)(outer:List Env)(s:aL)(H:Hp)(vs:List V)(Q:VK)(E:XK),jH k (A.deeper (envOfC qual scope s.heap.objs.size f cdv))->sp vs H Q E->
   ∃t,UJ (Jd CX P w K mg base N qual scope f cdv A outer s H E) body t/\t { nx:=λ_ H'=>Q .non H',rt:=Q } (start N vs) H) :
  i_ P w K mg base CX (k+1) f (mR name qual params body scope dV kV doc pm an cdv ct) ps sp:=by
 refine⟨len,λA outer s H args us vs Q E hr e0 hb r hsp=>?_⟩
 have hl:=len _ _ _ _ hsp;have KX:K.In s.heap:=e0.mod.kin.keeps λb o e=>(e0.bs b o e).1
 have lim:s.heap.NoLimit:=e0.mod.nolimit.keeps λb o e=>(e0.bs b o e).1
 have hkind:∀y∈ps.zip us,scope.names.lookup y.1=some .local\/(scope.names.lookup y.1=some .cell/\((cellsFrom (s.heap.objs.size+1) scope.names []).lookup y.1).isSome=true):=λ⟨n,v⟩ hy=>by
  rcases S.par n (zu hy).1 with q|q
  ·exact .inl q
  ·exact .inr ⟨q,M7 _ _ _ (.inl q)⟩
 refine codeAny_call_function hr.depth (KX _ _ lk) rfl S.co S.gen rfl (PySem.W.codeRec_of KX hcd) (hb _ _ _ _ ?_)
 refine wpAny_newFunctionEnv_cells S.kind hkind λenv he s1 x=>?_
 subst he;refine⟨lim.keeps x.toInCall.keep,codeAny_func ?_⟩
 obtain⟨t,ht,hq⟩:=hbody A outer s H vs Q E (hr.deeper _) hsp;have I:Inv (Jd CX P w K mg base N qual scope f cdv A outer s H E) [] (start N vs) H s1:=Wi S hr.hd e0 hl r x;refine iB (ht [] s1 (start N vs) H _ I hq) (λfl s' hs=>?_) λe s' hs=>hs
 have fin:∀{σ':St}{H':Hp}{v:V}{u:aF},Inv (Jd CX P w K mg base N qual scope f cdv A outer s H E) [] σ' H' s'->RelV v u->Q v H'->CE outer P w H s Q u s':=
  λ{σ' H' v u}J rv q=>⟨v,H',J.os,J.bare,J.base,J.hok,rv,q⟩
 cases fl with
 |ret u=>
  obtain⟨v,σ',H',J,rv,q⟩:=hs;exact fin J rv q
 |next=>
  obtain⟨σ',H',J,q⟩:=hs;exact fin (v:=V.non) (u:=iG) J rfl q
 |brk=>
  obtain⟨_,_,_,q⟩:=hs;exact iT q
 |cont=>
  obtain⟨_,_,_,q⟩:=hs;exact iT q
section
variable{X:Cx}{x:Str}{p pos:Pos}{e:dz}{es:List dz}{t:TA}{id T:String}{r:List V->Hp->VK->Prop}
def tCB(r:List V->Hp->VK->Prop)(t:TA):TE:=λσ H Q=>t σ H λvs H1=>r vs H1 Q
theorem rm(hc:pC X (.builtin id) r)(hg:Gl X x)(hm:X.mg x=none)(hv:bootBuiltins x=some (.builtin id))(ha:PA X (e::es) t)(hn:x≠"__name__":=by decide)(hdb:(x==("__debug__":Str))=false:=by decide)
  (he:starEach (e::es) X.env=(false,eval e X.env)::starEach es X.env:=by rfl)(hpl:(backTo pos (starEach es X.env)).any (·.1)=false:=by rfl):PE X (.Call (.Name x p) (e::es) [] pos) (tCB r t):=by
 intro pins s σ H Q I h;refine o9 (Ez I hg hm hv ?_ hn hdb)
 exact PyProof.Rows.callWith_builtin1 (jL (ha pos pins s σ H _ I h) λus s1 ⟨vs,H1,I1,r1,q1⟩=>hc pins s1 σ H1 vs us Q I1 r1 q1) he hpl
theorem Fd(hc:pC X (.type T) r)(hg:Gl X x)(hm:X.mg x=none)(hv:bootBuiltins x=some (.type T))(ha:PA X (e::es) t)(hn:x≠"__name__":=by decide)(hdb:(x==("__debug__":Str))=false:=by decide)
  (he:starEach (e::es) X.env=(false,eval e X.env)::starEach es X.env:=by rfl)(hpl:(backTo pos (starEach es X.env)).any (·.1)=false:=by rfl):PE X (.Call (.Name x p) (e::es) [] pos) (tCB r t):=by
 intro pins s σ H Q I h;refine o9 (Ez I hg hm hv ?_ hn hdb)
 exact nQ (jL (ha pos pins s σ H _ I h) λus s1 ⟨vs,H1,I1,r1,q1⟩=>hc pins s1 σ H1 vs us Q I1 r1 q1) he hpl
end
end L2
namespace HT
open PySem PyProof.Rows
section
open PySem.SeqAt
open PySem.AutoSeq1 (wpAny_loadPart')
open PySem.MeetsSeq PySem.MeetsSeq2 PySem.MeetsSeq3
end
section
variable{prog:bL}{w:dB}{A:fW}{E:aF->aL->Prop}{s:aL}
theorem zam{t b:aN}{vs ws:List aF}{Q:aF->aL->Prop}(ht:IsTup s.heap t vs.toArray)(hb:IsTup s.heap b ws.toArray)(hv:vs≠[])
  (h1:ws=[]->Q (.ref t) s)(h2:ws≠[]->Q (.ref s.heap.objs.size) { s with heap:=s.heap.push { cls:=.type "tuple",data:=.seq (vs++ws).toArray } })
  (hsz:vs.length+ws.length<=sizeLine):wpAny (model prog w) A (binaryOp .Add (.ref t) (.ref b)) Q E s:=by
 obtain⟨⟨cls,dd,data,sl⟩,ho,hc,n,hd⟩:=id ht;obtain⟨⟨cls2,dd2,data2,sl2⟩,ho2,hc2,n2,hd2⟩:=id hb;simp only at hc hd hc2 hd2;subst hc hd hc2 hd2;have e:vs.toArray++ws.toArray=(vs++ws).toArray:=by simp
 by_cases hw:ws=[]
 ·exact concat_meets ⟨_,ho,rfl⟩ ⟨_,ho2,rfl⟩ noFill_tuple_add seq_tuple_add M8 K8 (Ky _ _)
   (tuple_addW1 t b vs.toArray ws.toArray n n2 dd dd2 sl sl2 (by simpa using hv) (by simp[hw])) ⟨ho,ho2,h1 hw⟩
 ·refine concat_meets ⟨_,ho,rfl⟩ ⟨_,ho2,rfl⟩ noFill_tuple_add seq_tuple_add M8 K8 (Ky _ _)
   (tuple_addW2 t b vs.toArray ws.toArray n n2 dd dd2 sl sl2 (by simpa using hv) (by simpa using hw) (by rw[bM,bM];exact hsz)) ⟨ho,ho2,?_⟩
  rw[e];exact h2 hw
def rO(n d:Nat):Option Int->Nat
 |none=>d
 |some v=>if v<0 then(v+(n:Int)).toNat else min v.toNat n
theorem P0(n d:Nat):rO n d none=d:=rfl
theorem uK(n d k:Nat):rO n d (some (k:Int))=min k n:=by
 show(if(k:Int)<0 then((k:Int)+(n:Int)).toNat else min (k:Int).toNat n)=min k n
 rw[if_neg (by omega),jm]
theorem zcM(n d:Nat)(hd:d<=n)(o:Option Int):rO n d o<=n:=by
 cases o with
 |none=>exact hd
 |some v=>
  show(if v<0 then(v+(n:Int)).toNat else min v.toNat n)<=n
  by_cases hv:v<0
  ·rw[if_pos hv];omega
  ·rw[if_neg hv];exact Nat.min_le_right _ _
theorem U7(v:Int)(n d:Nat):(if v<0 then max (v+(n:Int)) 0 else min v (n:Int))=((rO n d (some v):Nat):Int):=by
 show(if v<0 then max (v+(n:Int)) 0 else min v (n:Int))=(((if v<0 then(v+(n:Int)).toNat else min v.toNat n):Nat):Int)
 by_cases hv:v<0
 ·simp only[if_pos hv];omega
 ·simp only[if_neg hv];omega
theorem R8(lo hi:Option Int)(n:Nat):uq lo hi 1 (n:Int)=(((rO n 0 lo:Nat):Int),((rO n n hi:Nat):Int)):=by
 have h1:¬((1:Int)<0):=by omega
 unfold uq;simp only[h1,if_false];refine Prod.ext ?_ ?_
 ·cases lo with
  |none=>rfl
  |some v=>exact U7 v n 0
 ·cases hi with
  |none=>rfl
  |some v=>exact U7 v n n
theorem R9(i j:Nat):oV (i:Int) (j:Int) 1=j-i:=by
 unfold oV;have h1:(1:Int)>0:=by omega
 simp only[h1,if_true,Int.ediv_one]
 split<;>omega
theorem Je{v:aF}{o:Option Int}{Q:Option Int->aL->Prop}(p:M9 v o)(h:Q o s):wpAny (model prog w) A (wL.Slice.slicePartIndex v) Q E s:=by
 cases p with
 |none=>exact slicePart_none h
 |int i t=>exact slicePart_int h
theorem Fe{sl:aN}{vl vu:aF}{lo hi:Option Int}{n:Nat}{Q:Int×Int×Nat->aL->Prop}(hs:s.heap.IsSliceOf sl vl vu .none)(pl:M9 vl lo)(pu:M9 vu hi)
  (h:Q (((rO n 0 lo:Nat):Int),1,rO n n hi-rO n 0 lo) s):wpAny (model prog w) A (CW (.ref sl) (pure (n:Int))) Q E s:=by
 obtain⟨os,hos,hcs,hds⟩:=id hs;unfold CW wL.Slice.sliceFields;refine aD (aD (iu hos hds (x:=vl) rfl (aD (iu hos hds (x:=vu) rfl (aD (iu hos hds (x:=.none) rfl (bA ?_)))))))
 refine aD (slicePart_none ?_)
 show wpAny _ _ (if((1:Int)==0)=true then _ else _) _ _ s
 rw[if_neg (by decide)]
 refine aD (Je pl (aD (Je pu (aD (bA ?_)))))
 show wpAny _ _ (match uq lo hi 1 (n:Int)with|(lo,hi)=>pure (lo,(1:Int),oV lo hi 1)) _ _ s
 rw[R8 lo hi n];show wpAny _ _ (pure (((rO n 0 lo:Nat):Int),(1:Int),oV ((rO n 0 lo:Nat):Int) ((rO n n hi:Nat):Int) 1)) _ _ s;rw[R9];exact bA h
theorem Yc(xs:Array aF)(i k:Nat):((dF k).filterMap λ(m:Nat)=>xs[((i:Int)+(m:Int)*1).toNat]?).toArray=((xs.toList.drop i).take k).toArray:=by
 have e:(λ(m:Nat)=>xs[((i:Int)+(m:Int)*1).toNat]?)=λm=>xs[i+m]?:=by
  funext m
  have:((i:Int)+(m:Int)*1).toNat=i+m:=by omega
  rw[this]
 rw[e];have:=pick_run xs i k;rw[dZ]at this;have e2:((λx=>xs[x]?)∘λx=>i+x)=λm=>xs[i+m]?:=rfl
 rw[e2]at this;rw[this]
theorem Dg{t sl:aN}{items:Array aF}{vl vu:aF}{lo hi:Option Int}{Q:aF->aL->Prop}(ht:IsTup s.heap t items)(hs:s.heap.IsSliceOf sl vl vu .none)(pl:M9 vl lo)(pu:M9 vu hi)
  (hw:¬(rO items.size 0 lo=0/\rO items.size items.size hi=items.size))
  (h:Q (.ref s.heap.objs.size) { s with heap:=s.heap.push { cls:=.type "tuple",data:=.seq ((items.toList.drop (rO items.size 0 lo)).take (rO items.size items.size hi-rO items.size 0 lo)).toArray } })
  (hsz:items.size<=sizeLine):wpAny (model prog w) A (getItem (.ref t) (.ref sl)) Q E s:=by
 have U8:sizeOk (.seq ((items.toList.drop (rO items.size 0 lo)).take (rO items.size items.size hi-rO items.size 0 lo)).toArray):=by
  show((items.toList.drop (rO items.size 0 lo)).take (rO items.size items.size hi-rO items.size 0 lo)).toArray.size<=sizeLine
  rw[bM,dO,fG,dX];omega
 have hj:rO items.size items.size hi<=items.size:=zcM _ _ (aK _) hi;obtain⟨os,hos,hcs,hds⟩:=id hs;have hTs:s.TypeIs (.ref sl) "slice":=⟨os,hos,hcs⟩;unfold getItem
 try with_reducible refine mK ?_
 first|refine aD (bA ?_)|skip
 refine aD (wpAny_sequenceKey ht.typeIs (by decide) ?_)
 refine aD (oJ (name:=vG "__getitem__") ht.typeIs qK
  (uW qK ht.typeIs entry_tuple_getitem ?_ (args_tuple_getitem _ _)))
 show wpAny _ _ (wL.Tuple.tupleItemsOf (.ref t) >>= _) _ _ s;refine aD (tupleItemsOf_ ht ?_)
 refine aD (wpAny_typeOf hTs ?_)
 rw[if_pos (by decide)]
 refine aD (Fe hs pl pu ?_)
 have hno:¬((((rO items.size 0 lo:Nat):Int)==0&&(1:Int)==1&&(rO items.size items.size hi-rO items.size 0 lo)==items.size)=true):=by
  intro q;rw[yK,yK]at q;have q1:((rO items.size 0 lo:Nat):Int)=0:=eq_of_beq q.1.1;have q2:rO items.size items.size hi-rO items.size 0 lo=items.size:=eq_of_beq q.2;exact hw ⟨by omega,by omega⟩
 show wpAny _ _ (if(((rO items.size 0 lo:Nat):Int)==0&&(1:Int)==1&&(rO items.size items.size hi-rO items.size 0 lo)==items.size)=true then _ else _) _ _ s
 rw[if_neg hno,Yc]
 first
  |exact aD (m:=o_ _) (iU (bA ⟨_,rfl,bA h⟩) U8)
  |exact aD (m:=o_ _) (iU (aD (bA (bA ⟨_,rfl,bA h⟩))) U8)
  |exact aD (aD (m:=o_ _) (iU (bA (bA ⟨_,rfl,bA h⟩)) U8))
  |exact aD (aD (m:=o_ _) (iU (bA ⟨_,rfl,bA h⟩) U8))
end
end HT
namespace L2
open PySem PySem.Spec PyProof.Rows
abbrev TO:=St->Hp->(Option Int->Hp->Prop)->Prop
def PO(X:Cx)(e:Option dz)(t:TO):Prop:=
 ∀(pins:List (aN×Obj))(s:aL)(σ:St)(H:Hp)(Q:Option Int->Hp->Prop),Inv X pins σ H s->t σ H Q->
  wpAny (model X.prog X.w) X.A (evalPart e X.env) (λu s'=>∃o H',Inv X pins σ H' s'/\M9 u o/\Q o H') X.xe s
def zan:TO:=λ_ H Q=>Q none H
def zeK(t:TE):TO:=λσ H Q=>t σ H λx H1=>∃i,x=.int i/\Q (some i) H1
theorem intsAre_of{ns:List Int}:∀{us:List aF},Vals (ns.map V.int) us->Kz us ns:=by
 induction ns with
 |nil=>intro us r;rw[lV]at r;cases r;exact .nil
 |cons n ns ih=>
  intro us r;rw[aZ]at r;cases r with
  |cons r1 r2=>
   obtain⟨t,e⟩:=r1;subst e;exact .cons n t (ih r2)
section
variable{X:Cx}{e:dz}{te:TE}{lo hi:Option dz}{tl th:TO}{pos p2:Pos}
theorem zao:PO X none zan:=by
 intro pins s σ H Q I h;rw[evalPart_none];exact bA ⟨none,H,I,.none,h⟩
theorem zap(h:PE X e te):PO X (some e) (zeK te):=by
 intro pins s σ H Q I hw;rw[evalPart_some];refine jL (h pins s σ H _ I hw) λu s1 ⟨x,H1,I1,r1,q1⟩=>?_
 obtain⟨i,rfl,q⟩:=q1;obtain⟨t,rfl⟩:=r1;exact⟨some i,H1,I1,.int i t,q⟩
def SlR(X:Cx)(r:V->Option Int->Option Int->Hp->VK->Prop):Prop:=
 ∀(pins:List (aN×Obj))(s:aL)(σ:St)(H:Hp)(x:V)(v vl vu:aF)(lo hi:Option Int)(sl:aN)(Q:VK),Inv X pins σ H s->RelV x v->s.heap.IsSliceOf sl vl vu .none->M9 vl lo->M9 vu hi->r x lo hi H Q->
  ∃T id,typeLookup (.type T) "__getitem__"=pure (some (.builtin id))/\s.TypeIs v T/\wpAny (model X.prog X.w) X.A (getItem v (.ref sl)) (EP X pins σ Q) X.xe s
def tSl(r:V->Option Int->Option Int->Hp->VK->Prop)(te:TE)(tl th:TO):TE:=λσ H Q=>te σ H λx H1=>tl σ H1 λl H2=>th σ H2 λu H3=>r x l u H3 Q
theorem Jf{r:V->Option Int->Option Int->Hp->VK->Prop}(hr:SlR X r)(he:PE X e te)(hl:PO X lo tl)(hu:PO X hi th):PE X (.Subscript e (.Slice lo hi none p2) pos) (tSl r te tl th):=by
 intro pins s σ H Q I h;refine Subscript_ (jL (he pins s σ H _ I h) λv s1 ⟨x,H1,I1,r1,q1⟩=>?_)
 refine wpAny_Slice (jL (hl pins s1 σ H1 _ I1 q1) λvl s2 ⟨l,H2,I2,pl,q2⟩=>jL (hu pins s2 σ H2 _ I2 q2) λvu s3 ⟨u,H3,I3,pu,q3⟩=>?_)
 rw[evalPart_none];refine bA ?_
 have I4:Inv X pins σ H3 { s3 with heap:=s3.heap.push { cls:=.type "slice",data:=.fields #[vl,vu,.none] } }:=I3.kept (t':=s3.toks) λb ob q=>aJ _ q
 obtain⟨T,id,hT,ht,hg⟩:=hr pins { s3 with heap:=s3.heap.push { cls:=.type "slice",data:=.fields #[vl,vu,.none] } } σ H3 x v vl vu l u s3.heap.objs.size Q I4 r1 (dW.IsSliceOf.new ..) pl pu q3
 show wpAny (model X.prog X.w) X.A (subscriptTail e (.Slice lo hi none p2) v (.ref s3.heap.objs.size)) (EP X pins σ Q) X.xe { s3 with heap:=s3.heap.push { cls:=.type "slice",data:=.fields #[vl,vu,.none] } }
 exact tail_any (ops:=[.ref s3.heap.objs.size,v]) ht hT hg (by with_unfolding_all rfl)
def P_(xs:List V)(lo hi:Option Int):List V:=(xs.drop (HT.rO xs.length 0 lo)).take (HT.rO xs.length xs.length hi-HT.rO xs.length 0 lo)
theorem Gm(xs:List V)(lo hi:Option Int):(P_ xs lo hi).length<=xs.length:=by
 unfold P_;rw[dO,fG];omega
def zhz(K:ao):V->Option Int->Option Int->Hp->VK->Prop:=λx lo hi H Q=>∃a xs,x=.ref a/\xZ K H a xs/\
 ¬(HT.rO xs.length 0 lo=0/\HT.rO xs.length xs.length hi=xs.length)/\∀p,H p=none->Q (.ref p) (upd H p (.tup (P_ xs lo hi)))
theorem zcN:SlR X (zhz X.K):=by
 intro pins s σ H x v vl vu lo hi sl Q I rx hs pl pu h;obtain⟨a,xs,rfl,hx,hw,q⟩:=h;cases rx;obtain⟨its,r,ht,hz⟩:=I.tuple hx;have hlen:its.toArray.size=xs.length:=by rw[bM];exact r.length.symm
 refine⟨"tuple",_,qK.lookup,ht.typeIs,?_⟩
 refine HT.Dg ht hs pl pu (by rw[hlen];exact hw) ?_ (by rw[hlen];exact hz)
 rw[hlen];refine⟨.ref s.heap.objs.size,_,I.laid (t':=s.toks) (o:=.tup (P_ xs lo hi)) (λb ob q=>aJ _ q) (aK _) ?_,rfl,q _ (I.hok.fresh (aK _))⟩
 exact⟨dD (Gm xs lo hi) hz,_,(r.drop (HT.rO xs.length 0 lo)).take (HT.rO xs.length xs.length hi-HT.rO xs.length 0 lo),Bl _ _⟩
def zeL(K:ao):R2:=λx y H Q=>∃a b xs ys,x=.ref a/\y=.ref b/\xZ K H a xs/\xZ K H b ys/\xs≠[]/\xs.length+ys.length<=sizeLine/\
 (ys=[]->Q (.ref a) H)/\(ys≠[]->∀p,H p=none->Q (.ref p) (upd H p (.tup (xs++ys))))
theorem Vals.HS{xs:List V}{us:List aF}(r:Vals xs us):us=[]↔xs=[]:=by
 cases r with
 |nil=>simp
 |cons _ _=>simp
theorem zaq:xU X (binaryOp .Add) (zeL X.K):=by
 intro pins s σ H x y v u Q I rx ry h;obtain⟨a,b,xs,ys,rfl,rfl,ha,hb,hx,hz,q1,q2⟩:=h;cases rx;cases ry;obtain⟨its,r1,p1,_⟩:=I.tuple ha;obtain⟨its2,r2,p2,_⟩:=I.tuple hb;refine HT.zam p1 p2 (λz=>hx (r1.HS.mp z)) (λz=>⟨.ref a,H,I,rfl,q1 (r2.HS.mp z)⟩) (λz=>?_) (by rw[<-r1.length,<-r2.length];exact hz)
 refine⟨.ref s.heap.objs.size,_,I.laid (t':=s.toks) (o:=.tup (xs++ys)) (λb ob q=>aJ _ q) (aK _) ?_,rfl,q2 (λw=>z (r2.HS.mpr w)) _ (I.hok.fresh (aK _))⟩
 exact⟨by rw[bK];exact hz,_,r1.append r2,Bl _ _⟩
end
def Z7(n:Nat)(i:Int):Option Nat:=if 0<=i then(if i<n then some i.toNat else none)else if -(n:Int)<=i then some (i+n).toNat else none
def yN{α:Type}(xs:List α)(i:Int):Option α:=(Z7 xs.length i).bind λj=>xs[j]?
theorem U9{n:Nat}{i:Int}{j:Nat}(h:Z7 n i=some j):seqIndex? i n=some j/\j<n/\-(n:Int)<=i/\i<n:=by
 unfold Z7 at h;by_cases h0:0<=i
 ·rw[if_pos h0]at h
  by_cases h1:i<n
  ·rw[if_pos h1]at h
   have e:i.toNat=j:=fM h;exact⟨by rw[seqIndex_of h0 h1,e],by omega,by omega,h1⟩
  ·rw[if_neg h1]at h;cases h
 ·rw[if_neg h0]at h
  by_cases h1:-(n:Int)<=i
  ·rw[if_pos h1]at h
   have e:(i+n).toNat=j:=fM h;exact⟨by rw[seqIndex_neg (by omega) h1,e],by omega,h1,by omega⟩
  ·rw[if_neg h1]at h;cases h
theorem Ny{α:Type}{xs:List α}{i:Int}{v:α}(h:yN xs i=some v):∃j,seqIndex? i xs.length=some j/\xs[j]?=some v/\j<xs.length/\-(xs.length:Int)<=i/\i<xs.length:=by
 unfold yN at h;cases e:Z7 xs.length i with
 |none=>rw[e]at h;cases h
 |some j=>
  rw[e]at h;obtain⟨h1,h2,h3,h4⟩:=U9 e;exact⟨j,h1,h,h2,h3,h4⟩
theorem cu{α:Type}{xs:List α}{j:Nat}{v:α}(h:xs[j]?=some v):yN xs (j:Int)=some v:=by
 have hj:j<xs.length:=(aV.mp h).1;have e:Z7 xs.length (j:Int)=some j:=by
  unfold Z7;rw[if_pos (by omega),if_pos (by omega)];simp
 unfold yN;rw[e];exact h
def yg(b:dz):Prop:=∀o i,subscripted b false o i=operate [o,i] (getItem o i)
def Z8(X:Cx)(r:R2):Prop:=
 ∀(value slice:dz)(pins:List (aN×Obj))(s:aL)(σ:St)(H:Hp)(x y:V)(v u:aF)(Q:VK),Inv X pins σ H s->RelV x v->RelV y u->r x y H Q->
  subscripted slice false v u=operate [v,u] (getItem v u)->wpAny (model X.prog X.w) X.A (subscriptTail value slice v u) (EP X pins σ Q) X.xe s
def MtR(X:Cx)(id:String)(r:V->List V->Hp->VK->Prop):Prop:=
 ∀(pins:List (aN×Obj))(s:aL)(σ:St)(H:Hp)(x:V)(xs:List V)(v:aF)(us:List aF)(Q:VK),Inv X pins σ H s->RelV x v->Vals xs us->r x xs H Q->
  wpAny (model X.prog X.w) X.A (call (.builtin id) (v::us)) (EP X pins σ Q) X.xe s
section
variable{X:Cx}{a b:dz}{ta tb:TE}{pos:Pos}
theorem Z8.or{r r':R2}(h:Z8 X r)(h':Z8 X r'):Z8 X (λx y H Q=>r x y H Q\/r' x y H Q):=by
 intro value slice pins s σ H x y v u Q I rx ry q hs;rcases q with q|q
 ·exact h value slice pins s σ H x y v u Q I rx ry q hs
 ·exact h' value slice pins s σ H x y v u Q I rx ry q hs
theorem Yd{r:R2}(hr:Z8 X r)(ha:PE X a ta)(hb:PE X b tb)(hs:yg b):PE X (.Subscript a b pos) (tOp r ta tb):=by
 intro pins s σ H Q I h;exact Subscript_ (zcD ha hb I h λv u s2 x y H2 I2 rx ry q=>hr a b pins s2 σ H2 x y v u Q I2 rx ry q (hs _ _))
def zeM(K:ao):R2:=λx y H Q=>∃p xs i v,x=.ref p/\y=.int i/\rW K H p xs/\yN xs i=some v/\Q v H
def zeN(K:ao):R2:=λx y H Q=>∃p xs i v,x=.ref p/\y=.int i/\xZ K H p xs/\yN xs i=some v/\Q v H
def zeO:R2:=λx y H Q=>∃z i c,x=.str z/\y=.int i/\z.length<=sizeLine/\yN z.cps.toList i=some c/\Q (.str ⟨#[c]⟩) H
theorem U_:Z8 X (zeM X.K):=by
 intro value slice pins s σ H x y v u Q I rx ry h hs;obtain⟨p,xs,i,z,rfl,rfl,hq,he,q⟩:=h;cases rx;obtain⟨t,rfl⟩:=ry;obtain⟨its,r,pl,hz⟩:=I.list hq;obtain⟨j,h1,h2,h3,h4,h5⟩:=Ny he;obtain⟨w,ew,yW⟩:=r.get h2;have hl:=r.length;have hn:=yd;have fin:EP X pins σ Q w s:=⟨z,H,I,yW,q⟩;by_cases h0:0<=i
 ·have hj:i.toNat=j:=by
   rw[seqIndex_of h0 h5]at h1;exact fM h1
  exact item_listR pl.isList h0 (by omega) (by rw[hj];simpa using ew) fin hs
 ·have hj:(i+(its.toArray.size:Int)).toNat=j:=by
   rw[seqIndex_neg (by omega) h4]at h1
   rw[bM,<-hl];exact fM h1
  exact subscriptTail_builtinR (x:=w) pl.isList.typeIs slot_list_getitem.lookup
   (wpAny_getItem_list_neg (Q:=λr s'=>r=w/\EP X pins σ Q r s') pl.isList (by omega) (by rw[bM]<;>omega) (by omega) (by rw[hj];simpa using ew) ⟨rfl,fin⟩) hs
theorem zcO:Z8 X (zeN X.K):=by
 intro value slice pins s σ H x y v u Q I rx ry h hs;obtain⟨p,xs,i,z,rfl,rfl,hq,he,q⟩:=h;cases rx;obtain⟨t,rfl⟩:=ry;obtain⟨its,r,pl,hz⟩:=I.tuple hq;obtain⟨j,h1,h2,h3,h4,h5⟩:=Ny he;obtain⟨w,ew,yW⟩:=r.get h2;have hl:=r.length;have hn:=yd;have fin:EP X pins σ Q w s:=⟨z,H,I,yW,q⟩;exact subscriptTail_builtinR (x:=w) pl.typeIs slot_tuple_getitem.lookup
  (getItem_tuple (j:=j) (Q:=λr s'=>r=w/\EP X pins σ Q r s') pl (by omega) (by omega) (by rw[bM,<-hl];exact h1) (by simpa using ew) ⟨rfl,fin⟩) hs
theorem zcP:Z8 X zeO:=by
 intro value slice pins s σ H x y v u Q I rx ry h hs;obtain⟨z,i,c,rfl,rfl,hz,he,q⟩:=h;obtain⟨t,rfl⟩:=rx;obtain⟨t',rfl⟩:=ry;obtain⟨j,h1,h2,h3,h4,h5⟩:=Ny he;have hl:z.cps.toList.length=z.length:=by simp[Str.length]
 rw[hl]at h1 h4 h5;have hn:=yd;exact tail_any (BP s z t) slot_str_getitem.lookup (getItem_str (c:=c) (by
  have e1:decide (i < -(2^63:Int))=false:=decide_eq_false (by omega)
  have e2:decide (i>=2^63)=false:=decide_eq_false (by omega)
  rw[e1,e2,Bool.or_false]) (by rw[h1];simpa using h2) ⟨.str ⟨#[c]⟩,H,I.tok _,⟨_,rfl⟩,q⟩) hs
def rIx(K:ao):R2:=λx y H Q=>zeM K x y H Q\/zeN K x y H Q\/zeO x y H Q
theorem Nz:Z8 X (rIx X.K):=U_.or (zcO.or zcP)
theorem R_(its:List aF)(n j:Nat)(u:aF):Et (·.setIfInBounds j u) { cls:=.type "list",data:=.seq its.toArray n }={ cls:=.type "list",data:=.seq (its.set j u).toArray n }:=by
 simp[Et]
theorem Inv.lst{pins:List (aN×Obj)}{σ:St}{H:Hp}{s:aL}{p:aN}{xs:List V}(I:Inv X pins σ H s)(h:H p=some (.lst xs)):
  ∃(its:List aF)(n:Nat),Vals xs its/\s.heap.get? p=some { cls:=.type "list",data:=.seq its.toArray n }/\xs.length<=sizeLine:=by
 obtain⟨z,its,n,r,e⟩:=I.hok p _ h;exact⟨its,n,r,e,z⟩
theorem Inv.zcQ{pins:List (aN×Obj)}{σ:St}{H:Hp}{s:aL}{p:aN}{xs ys:List V}{its its':List aF}{n n':Nat}{f:Obj->Obj}(I:Inv X pins σ H s)(h:H p=some (.lst xs))
  (ho:s.heap.get? p=some { cls:=.type "list",data:=.seq its.toArray n })(hf:f { cls:=.type "list",data:=.seq its.toArray n }={ cls:=.type "list",data:=.seq its'.toArray n' })(r:Vals ys its')(hz:ys.length<=sizeLine)(t:Nat):
  Inv X pins σ (upd H p (.lst ys)) { s with heap:=s.heap.update p f,toks:=t }:=by
 have e:(s.heap.update p f).get? p=some { cls:=.type "list",data:=.seq its'.toArray n' }:=by
  rw[jo f ho (by rw[hf]<;>rfl),hf]
 refine I.write (x:=p) (e:=p) (by rw[h];trivial) (.inl rfl) (λb u hb q=>(fV _ _ (cH hb)).trans q) ⟨_,e⟩ ?_
 exact⟨hz,its',n',r,e⟩
def zeP:V->V->V->Hp->(Hp->Prop)->Prop:=λo i v H Q=>∃p xs k j,o=.ref p/\i=.int k/\H p=some (.lst xs)/\Z7 xs.length k=some j/\Q (upd H p (.lst (xs.set j v)))
theorem set_list:zer X zeP:=by
 intro pins s σ H o i v ov iv u Q I ro ri rv h;obtain⟨p,xs,k,j,rfl,rfl,hp,hj,q⟩:=h;cases ro;obtain⟨t,rfl⟩:=ri;obtain⟨its,n,r,ho,hz⟩:=I.lst hp;obtain⟨h1,h2,h3,h4⟩:=U9 hj;have hl:=r.length;have hn:=yd;have I':Inv X pins σ (upd H p (.lst (xs.set j v))) { s with heap:=s.heap.update p (Et (·.setIfInBounds j u)) }:=
  I.zcQ hp ho (R_ its n j u) (r.set rv j) (by rw[uR];exact hz) s.toks
 by_cases h0:0<=k
 ·have hk:k.toNat=j:=by
   rw[seqIndex_of h0 h4]at h1;exact fM h1
  exact PySem.W.ki_setAt ho h0 (by omega) (by rw[bM,<-hl];exact h4) (by rw[hk];exact⟨_,I',q⟩)
 ·have hk:(k+(its.toArray.size:Int)).toNat=j:=by
   rw[seqIndex_neg (by omega) h3]at h1
   rw[bM,<-hl];exact fM h1
  exact PySem.W.ki_setBack ho (by omega) (by rw[bM,<-hl];exact h3) (by omega) (by rw[hk];exact⟨_,I',q⟩)
theorem NK(lo hi:Option Int)(n:Nat):(sliceBounds lo hi none n).1=((HT.rO n 0 lo:Nat):Int)/\(sliceBounds lo hi none n).2.1=((HT.rO n n hi:Nat):Int)/\(sliceBounds lo hi none n).2.2=1:=by
 refine⟨?_,?_,rfl⟩
 ·cases lo with
  |none=>simp[sliceBounds,HT.rO]
  |some i=>
   simp only[sliceBounds,HT.rO,Option.getD_none,show(1:Int)>0 by decide,if_true]
   by_cases h:i<0
   ·simp only[h,if_true]<;>omega
   ·simp only[h,if_false]<;>omega
 ·cases hi with
  |none=>simp[sliceBounds,HT.rO]
  |some i=>
   simp only[sliceBounds,HT.rO,Option.getD_none,show(1:Int)>0 by decide,if_true]
   by_cases h:i<0
   ·simp only[h,if_true]<;>omega
   ·simp only[h,if_false]<;>omega
theorem KQ(its:List aF)(lo hi:Option Int):slicePick its.toArray lo hi none=((its.drop (HT.rO its.length 0 lo)).take (HT.rO its.length its.length hi-HT.rO its.length 0 lo)).toArray:=by
 obtain⟨h1,h2,h3⟩:=NK lo hi its.toArray.size;unfold slicePick;rw[h1,h2,h3];simp only[sliceRange_one,pick_run,bM]<;>rfl
def zhA(K:ao):V->Option Int->Option Int->Hp->VK->Prop:=λx lo hi H Q=>∃a xs,x=.ref a/\rW K H a xs/\∀p,H p=none->Q (.ref p) (upd H p (.lst (P_ xs lo hi)))
theorem zar:SlR X (zhA X.K):=by
 intro pins s σ H x v vl vu lo hi sl Q I rx hs pl pu h;obtain⟨a,xs,rfl,hx,q⟩:=h;cases rx;obtain⟨its,r,ht,hz⟩:=I.list hx;have hlen:=r.length;refine⟨"list",_,slot_list_getitem.lookup,ht.isList.typeIs,?_⟩
 refine wpAny_getItem_list_slice ht.isList hs pl pu .none (by simp) ?_ (by rw[bM]<;>omega)
 rw[KQ,<-hlen];refine⟨.ref s.heap.objs.size,_,I.laid (t':=s.toks) (o:=.lst (P_ xs lo hi)) (λb ob q=>aJ _ q) (aK _) ?_,rfl,q _ (I.hok.fresh (aK _))⟩
 exact⟨dD (Gm xs lo hi) hz,_,0,(r.drop (HT.rO xs.length 0 lo)).take (HT.rO xs.length xs.length hi-HT.rO xs.length 0 lo),cD _ rfl⟩
theorem Dh:pC X (.builtin "len") (λxs H Q=>∃p ys,xs=[.ref p]/\(rW X.K H p ys\/xZ X.K H p ys)/\Q (.int ys.length) H):=by
 intro pins s σ H xs us Q I r h;obtain⟨p,ys,rfl,hq,q⟩:=h;obtain⟨u,rfl,rx⟩:=vals1 r;cases rx;have hn:=yd;rcases hq with hq|hq
 ·obtain⟨its,r',pl,hz⟩:=I.list hq
  have hlen:=r'.length;exact Calls.call_len_list pl.isList (by simp only[bM]<;>omega) ⟨.int ys.length,H,I.tok _,⟨s.toks+1,by rw[bM,hlen]⟩,q⟩
 ·obtain⟨its,r',pl,hz⟩:=I.tuple hq
  have hlen:=r'.length;exact len_tuple pl (by simp only[bM]<;>omega) ⟨.int ys.length,H,I.tok _,⟨s.toks+1,by rw[bM,hlen]⟩,q⟩
theorem NP:pC X (.builtin "len") (λxs H Q=>∃z,xs=[.str z]/\z.length<=sizeLine/\Q (.int z.length) H):=by
 intro pins s σ H xs us Q I r h;obtain⟨z,rfl,hz,q⟩:=h;obtain⟨u,rfl,t,rfl⟩:=vals1 r;have hn:=yd;exact len_str (by omega) ⟨.int z.length,H,I.tok _,⟨_,rfl⟩,q⟩
theorem pP:pC X (.type "list") (λxs H Q=>∃p ys,xs=[.ref p]/\(rW X.K H p ys\/xZ X.K H p ys)/\∀l,H l=none->Q (.ref l) (upd H l (.lst ys))):=by
 intro pins s σ H xs us Q I r h;obtain⟨p,ys,rfl,hq,q⟩:=h;obtain⟨u,rfl,rx⟩:=vals1 r;cases rx;have fin:∀(its:List aF),Vals ys its->ys.length<=sizeLine->∀(h':dW)(c':Nat),(∀b o',s.heap.get? b=some o'->h'.get? b=some o')->
   h'.get? s.heap.objs.size=some { cls:=.type "list",dict:=none,data:=.seq its.toArray c',slots:=#[] }->EP X pins σ Q (.ref s.heap.objs.size) { s with heap:=h' }:=λits r' hz h' c' kp e=>
  ⟨.ref s.heap.objs.size,_,I.laid (t':=s.toks) kp (aK _) (show lB X.prog X.w _ h' _ (.lst ys) from⟨hz,its,c',r',e⟩),rfl,q _ (I.hok.fresh (aK _))⟩
 rcases hq with hq|hq
 ·obtain⟨its,r',pl,hz⟩:=I.list hq
  have hlen:=r'.length;obtain⟨o,ho,hc,n,hd⟩:=pl.isList;exact call_list_seq p (.inl rfl) ho hc hd (λh' c' kp e=>fin its r' hz h' c' kp e) (by simp only[bM]<;>omega)
 ·obtain⟨its,r',pl,hz⟩:=I.tuple hq
  have hlen:=r'.length;obtain⟨o,ho,hc,n,hd⟩:=pl;exact call_list_seq p (.inr rfl) ho hc hd (λh' c' kp e=>fin its r' hz h' c' kp e) (by simp only[bM]<;>omega)
theorem tH:pC X (.type "tuple") (λxs H Q=>∃p ys,xs=[.ref p]/\((rW X.K H p ys/\∀l,H l=none->Q (.ref l) (upd H l (.tup ys)))\/(xZ X.K H p ys/\Q (.ref p) H))):=by
 intro pins s σ H xs us Q I r h;obtain⟨p,ys,rfl,h⟩:=h;obtain⟨u,rfl,rx⟩:=vals1 r;cases rx;rcases h with⟨hq,q⟩|⟨hq,q⟩
 ·obtain⟨its,r',pl,hz⟩:=I.list hq
  have hlen:=r'.length;refine call_tuple_list pl.isList (λh' kp=>?_) (by simp only[bM]<;>omega)
  have I1:Inv X pins σ H { s with heap:=h' }:=I.kept (t':=s.toks) kp
  have I2:Inv X pins σ (upd H h'.objs.size (.tup ys)) { s with heap:=h'.push { cls:=.type "tuple",data:=.seq its.toArray } }:=
   I1.laid (t':=s.toks) (λb o e=>aJ _ e) (aK _) (show lB X.prog X.w _ _ _ (.tup ys) from⟨hz,its,r',Bl _ _⟩)
  exact⟨.ref h'.objs.size,_,I2,rfl,q _ (I1.hok.fresh (aK _))⟩
 ·obtain⟨its,r',pl,hz⟩:=I.tuple hq
  exact call_tuple_same pl ⟨.ref p,H,I,rfl,q⟩
def tyV(K:ao)(T:String)(x:V)(H:Hp):Prop:=match x with
 | .str _=>T="str"
 | .int _=>T="int"
 | .ref p=>(T="list"/\∃xs,rW K H p xs)\/(T="tuple"/\∃o,K.lookup p=some o/\o.cls=.type "tuple"/\o.dict=none)\/
   (T="dict"/\((∃kvs,H p=some (.dK kvs))\/∃kvs,H p=some (.dT kvs)))\/(T="set"/\∃S n,H p=some (.set S n))
 |_=>False
theorem zcR{pins:List (aN×Obj)}{σ:St}{H:Hp}{s:aL}{T:String}{x:V}{v:aF}(I:Inv X pins σ H s)(r:RelV x v)(ty:tyV X.K T x H):
  s.TypeIs v T/\∀a,v=.ref a->∃ob,s.heap.get? a=some ob/\ob.dict=none:=by
 cases x with
 |str z=>
  obtain⟨t,rfl⟩:=r
  cases(show T="str" from ty)
  exact⟨BP s z t,λ_ e=>nomatch e⟩
 |int i=>
  obtain⟨t,rfl⟩:=r
  cases(show T="int" from ty)
  exact⟨typeIs_int s i t,λ_ e=>nomatch e⟩
 |ref p=>
  cases r;rcases ty with⟨rfl,xs,hq⟩|⟨rfl,o,hk,hc,hd⟩|⟨rfl,hk⟩|⟨rfl,S,n,hk⟩
  ·obtain⟨its,_,pl,_⟩:=I.list hq
   refine⟨pl.isList.typeIs,λa e=>?_⟩
   cases e;obtain⟨o,n,e,c,hd,_⟩:=pl;exact⟨o,e,hd⟩
  ·refine⟨⟨o,I.zm p o hk,hc⟩,λa e=>?_⟩
   cases e;exact⟨o,I.zm _ o hk,hd⟩
  ·have z:∃o,s.heap.get? p=some o/\o.ExactDict:=by
    rcases hk with⟨kvs,hk⟩|⟨kvs,hk⟩
    ·obtain⟨_,_,_,_,o,_,_,e,ex,_⟩:=I.hok p _ hk
     exact⟨o,e,ex⟩
    ·obtain⟨_,_,_,_,o,_,_,e,ex,_⟩:=I.hok p _ hk
     exact⟨o,e,ex⟩
   obtain⟨o,e,ex⟩:=z;refine⟨⟨o,e,ex.1⟩,λa e2=>?_⟩
   cases e2;exact⟨o,e,ex.2.1⟩
  ·obtain⟨o,_,_,_,e,ex,_⟩:=I.hok p _ hk
   refine⟨⟨o,e,ex.1⟩,λa e2=>?_⟩
   cases e2;exact⟨o,e,ex.2.1⟩
 |_=>exact iT ty
def tBM(K:ao)(T:String)(r:V->List V->Hp->VK->Prop)(to:TE)(t:TA):TE:=λσ H Q=>to σ H λx H1=>tyV K T x H1/\t σ H1 λxs H2=>r x xs H2 Q
variable{o e:dz}{es:List dz}{to:TE}{t:TA}{name:Str}{apos cpos:Pos}{T id:String}{r:V->List V->Hp->VK->Prop}
theorem Gn(pa:PlainAttrs T)(slot:Slot T name id)(hty:typeOf (.builtin id)=pure (.type "method_descriptor"))(hm:MtR X id r)(ho:PE X o to)(ha:PA X (e::es) t)
  (hbase:attributeBase o name X.env (eval o X.env)=eval o X.env:=by rfl)
  (hfew:((backTo cpos (starEach (e::es) X.env)).all (λx=>!x.1)&&(backToKw cpos (keywordEach [] X.env)).all (λx=>x.1.isSome)
   && decide ((e::es).length+([]:List lu).length+(if([]:List lu).isEmpty then 0 else 1)<30))=true:=by rfl)
  (hline:(apos.endLine==cpos.line)=true:=by rfl) (hs:starEach (e::es) X.env=(false,eval e X.env)::starEach es X.env:=by rfl) (hplain:(backTo cpos (starEach es X.env)).any (·.1)=false:=by rfl) :
  PE X (.Call (.Attribute o name apos) (e::es) [] cpos) (tBM X.K T r to t):=by
 intro pins s σ H Q I h;refine wpAny_Call_method_late hbase hfew hline rfl (jL (ho pins s σ H _ I h) λv s1 ⟨x,H1,I1,r1,ty,q1⟩=>?_)
 obtain⟨h1,h2⟩:=zcR I1 r1 ty;refine⟨T,id,pa,slot,hty,h1,h2,?_⟩
 have hA:=ha cpos pins s1 σ H1 _ I1 q1;rw[hs]at hA ⊢;refine yR (by show(false||(backTo cpos (starEach es X.env)).any (·.1))=false;rw[hplain]<;>rfl) (Bf ?_)
 exact jL hA λus s2 ⟨vs,H2,I2,r2,q2⟩=>hm pins s2 σ H2 x vs v us Q I2 r1 r2 q2
end
def MtM(X:Cx)(id:String)(r:V->List V->Hp->VK->Prop):Prop:=
 ∀(pins:List (aN×Obj))(s:aL)(σ:St)(H:Hp)(x:V)(xs:List V)(v:aF)(us:List aF)(Q:VK),Inv X pins σ H s->RelV x v->Vals xs us->r x xs H Q->
  wpAny (model X.prog X.w) X.A (call (.builtin id) (v::us)) (EP X pins σ Q) X.xe s
theorem Vals.one:∀{x:V}{us:List aF},Vals [x] us->∃u,us=[u]/\RelV x u
 |_,_,.cons r .nil=>⟨_,rfl,r⟩
theorem Vals.two:∀{x y:V}{us:List aF},Vals [x,y] us->∃u v,us=[u,v]/\RelV x u/\RelV y v
 |_,_,_,.cons r (.cons q .nil)=>⟨_,_,rfl,r,q⟩
theorem Vals.rep{xs:List V}{us:List aF}(h:Vals xs us):∀k:Nat,Vals (bN k xs).flatten (bN k us).flatten
 |0=>.nil
 |k+1=>by
  rw[g8,g8,jO,jO];exact Vals.append h (Vals.rep h k)
theorem foldl_rep(its:List aF):∀(k:Nat)(acc:List aF),
  List.foldl (λx1 x2=>x1++x2) acc.toArray (bN k its.toArray)=(acc++(bN k its).flatten).toArray
 |0,acc=>by simp
 |k+1,acc=>by
  have e:acc.toArray++its.toArray=(acc++its).toArray:=by simp
  have e2:(acc++its)++(bN k its).flatten=acc++(bN (k+1) its).flatten:=by
   rw[g8,jO,jh]
  rw[<-e2,<-foldl_rep its k (acc++its),<-e,g8,uT]
section
variable{X:Cx}{pins:List (aN×Obj)}{σ:St}{H:Hp}{s:aL}{l b:aN}{xs ys zs:List V}
theorem Inv.zeQ{its its':List aF}{n:Nat}{f:Array aF->Array aF}{t':Nat}(I:Inv X pins σ H s)(hH:H l=some (.lst xs))
  (e:s.heap.get? l=some { cls:=.type "list",data:=.seq its.toArray n })(hf:f its.toArray=its'.toArray)(hv:Vals ys its')(hz:ys.length<=sizeLine):
  Inv X pins σ (upd H l (.lst ys)) { s with heap:=s.heap.update l (Et f),toks:=t' }:=by
 have q:=PySem.IsL.update e f;rw[hf]at q;refine I.write (x:=l) (e:=l) (by rw[hH];exact trivial) (.inl rfl) (λb' u hb hu=>(fV s.heap (Et f) (cH hb)).trans hu) ⟨_,q⟩ ?_
 exact⟨hz,its',_,hv,q⟩
theorem Inv.zhB{its:List aF}{t':Nat}(I:Inv X pins σ H s)(hv:Vals ys its)(hz:ys.length<=sizeLine):
  Inv X pins σ (upd H s.heap.objs.size (.lst ys)) { s with heap:=s.heap.push { cls:=.type "list",data:=.seq its.toArray },toks:=t' }:=
 I.laid (λ_ _ q=>aJ _ q) (aK _) ⟨hz,its,0,hv,cD _ rfl⟩
theorem Inv.fresh(I:Inv X pins σ H s):H s.heap.objs.size=none:=I.hok.fresh (aK _)
theorem Inv.zeR(I:Inv X pins σ H s)(hH:H l=some (.lst xs)):xs.length<=sizeLine/\∃(its:List aF)(n:Nat),Vals xs its/\xs.length=its.length/\s.heap.get? l=some { cls:=.type "list",data:=.seq its.toArray n }:=by
 obtain⟨z,its,n,r,e⟩:=I.hok l _ hH;exact⟨z,its,n,r,r.length,e⟩
end
section
variable{X:Cx}
def zas:V->List V->Hp->VK->Prop:=λx vs H Q=>∃l xs y,x=.ref l/\vs=[y]/\H l=some (.lst xs)/\xs.length<sizeLine/\Q .non (upd H l (.lst (xs ++ [y])))
theorem Am:MtM X "list.append" zas:=by
 intro pins s σ H x vs v us Q I rx rv h;obtain⟨l,xs,y,rfl,rfl,hH,hz,q⟩:=h;cases rx;obtain⟨u,rfl,ru⟩:=rv.one;obtain⟨z,its,n,r,hl,e⟩:=I.zeR hH;refine qF F.slot_list_append ⟨_,e,rfl⟩ F.entry_list_append (F.args_list_append_2 _ _) (PySem.list_append l its.toArray n u (by rw[bM];omega)) ⟨e,?_⟩
 refine⟨.non,_,I.zeQ (its':=its ++ [u]) hH e (by simp) (r.append (.cons ru .nil)) ?_,rfl,q⟩
 rw[bK,tU];omega
theorem len_rep{α:Type}(xs:List α)(k:Nat):(bN k xs).flatten.length=k*xs.length:=by
 induction k with
 |zero=>simp
 |succ k ih=>rw[g8,jO,bK,ih,RN,Nat.add_comm]
end
section
variable{prog:bL}{w:dB}{A:fW}{E:aF->aL->Prop}{s:aL}
end
section
variable{X:Cx}
end
end L2
namespace Att
open PySem PySem.W PySem.Calls PyProof.Rows
theorem Hs{P:Im}{h:dW}:∀(ns:List Int)(vs:List aF),WellAll P h vs (ns.map WData.int)->Kz vs ns:=by
 intro ns
 induction ns with
 |nil=>
  intro vs w;rw[lV]at w;cases w;exact .nil
 |cons n ns ih=>
  intro vs w;rw[aZ]at w;cases w with
  |cons a b=>
   cases a;exact .cons _ _ (ih _ b)
theorem Wj{l:OpenLaw}{n:Nat}(hn:l.most=some n){P:Im}{h:dW}{args:List WData}{vals:List aF}
  (hpre:l.row.toRowW.claim.pre args=true)(hwl:WellAll P h vals args):
  ∃a vs ns,vals=[bR a]/\args=[WData.list (ns.map WData.int)]/\h.get? a=some { cls:=.type "list",data:=.seq vs.toArray }/\Kz vs ns/\ns.length<=n:=by
 have hsh:WShape.hasAll [] args [.list .int]=true:=(pre_splitW hpre).1;have hc:l.pre.holds [] { args:=args }=true:=(pre_splitW hpre).2;obtain⟨d,r,rfl,h1,h2⟩:=hasAllW_cons hsh;obtain rfl:=hasAllW_nil h2;obtain⟨xs,rfl,h3⟩:=hasW_list h1;obtain⟨ns,rfl⟩:=items_int h3;have hlen:ns.length<=n:=by
  unfold OpenLaw.pre at hc;have h4:(WTm.not (.lt (.lit (.int (n:Int))) (.len (.arg 0)))).holds [] { args:=[.list (ns.map .int)] }=true:=by
   have h4:=(holds_andW hc).1;rw[hn]at h4;exact h4
  have h5:=condW_of h4 (w_not (w_lt w_lit (w_len_list (w_arg rfl))));rw[aq]at h5;refine j5 λq=>?_
  have q':(n:Int)<((ns.length:Nat):Int):=by omega
  first
   |(rw[decide_eq_true q']at h5;exact absurd h5 (by decide))
   |(simp at h5;omega)
 cases hwl with
 |cons w1 w2=>
  cases w2;cases w1 with
  |list ho hall=>exact⟨_,_,ns,rfl,rfl,ho,Hs ns _ hall,hlen⟩
theorem Wk(l:OpenLaw)(args:List WData):l.row.toRowW.claim.post args (.bool true) args=true:=
 postW_of (r:=l.row.toRowW) (X:=(true==true))
  (show WShape.has [] (.bool true) .bool=true by first|rfl|decide|simp[WShape.has,WShape.arms,WShape.armsAll])
  (show(WTm.eq .res (.lit (.bool true))).value [] { args:=args,res:=some (.bool true),after:=args }=some (.bool (true==true))from w_eq_bool (w_res rfl) w_lit) rfl
theorem Qa{l:OpenLaw}{n:Nat}{q:bL}{loose:List Str}{XP:(Str->Option aF)->dW->Prop}{YP:dB->dW->Prop}{d:DefRec}
  (hn:l.most=some n)(hdf:d.params.defaults=[])
  (call:∀(w:dB)(s₀ s₁:aL)(mg mb:Str->Option aF)(fa:aN)(o:Obj)(pm cd doc:aF)(a:aN)(vs:List aF)(ns:List Int),
   Ground q loose [] XP w s₀ mg mb s₁.heap->YP w s₁.heap->
   s₁.heap.get? fa=some o->o.data=.func (docDef d.name d.params d.body d.scope pm cd doc)->s₁.heap.CodeRec cd d.name->mg d.name=some (.ref fa)->
   s₁.heap.get? a=some { cls:=.type "list",data:=.seq vs.toArray }->Kz vs ns->ns.length<=n->s₁.gens=#[]->
   codeAny (model l.prog w) callerA (.call (.ref fa) ⟨[.ref a],[]⟩) (λr s'=>r=.ok (.ret (.bool true))/\OldK s₁.heap s'.heap/\s'.os=s₁.os/\yZ s'.gens) s₁) :
  WalkO q loose XP YP l.row.toRowW d [] (λf vs=>PySem.call f vs):=by
 intro w s₀ s₁ mg mb G Y fa o pm cd doc dV kV ho hd hcd hD hmg hg args vals as hpre hlay hrd hwl hlo;obtain rfl:dV=.none:=Dflts.none hD hdf;obtain rfl:kV=.none:=Dflts.noKw hD;obtain⟨a,vs,ns,rfl,rfl,hobj,hints,hlen⟩:=Wj hn hpre hwl;refine enter_call (qR (call w s₀ s₁ mg mb fa o pm cd doc a vs ns G Y ho (fd_plain hd) hcd hmg hobj hints hlen hg) λr s' hq=>?_)
 obtain⟨rfl,h2,h3,h4⟩:=hq;exact⟨.inl ⟨.bool true,.bool true,[],rfl,λ_=>rfl,.bool true,Wk l _,λ_=>⟨List.Pairwise.nil,λ_ hm=>(nomatch hm)⟩⟩,h2,h3,h4⟩
section
variable{prog:bL}{w:dB}{A:fW}{E:aF->aL->Prop}{s:aL}{K:Frag}
end
end Att
namespace L2
open PySem PySem.Spec PyProof.Rows
theorem Ls:∀{vs:List aF}{ns:List Int},Kz vs ns->Vals (ns.map V.int) vs
 |_,_,.nil=>.nil
 |_,_,.cons n t h=>.cons ⟨t,rfl⟩ (Ls h)
def Only(H:Hp):Prop:=∀b,H b=none\/∃o xs,H b=some (.XD o (.lst xs))
theorem Ye{P:bL}{w:dB}{K:ao}{mg mb:Str->Option aF}{CX:U6}{k:Nat}{fa a:aN}{fd:cU}{x:Str}{sp:Sp}{s₁:aL}{vs:List aF}{ns:List Int}
  (KX:K.In s₁.heap)(hns:s₁.heap.Ns mainGlobals mg)(hb:s₁.heap.Ns builtinsNs mb)(hbb:∀x:Str,x≠"__name__"->mb x=bootBuiltins x)(hlim:s₁.heap.NoLimit)(hg:s₁.gens=#[])
  (ha:s₁.heap.get? a=some { cls:=.type "list",data:=.seq vs.toArray })(hi:Kz vs ns)(hl:ns.length<=sizeLine)(hr:jH k callerA)
  (F:∀base:dW,K.In base->base.Ns mainGlobals mg->i_ P w K mg base CX k fa fd [x] sp)(hbind:∀(s:aL)(u:aF),BindsTo s fd ⟨[u],[]⟩ [(x,u)])
  (hsp:∀H:Hp,Only H->rW K H a (ns.map V.int)->sp [.ref a] H (λv _=>v=.bl true) λ_ _ _=>False)
  (hCX:∀H e s',CX [] H s₁ (λ_ _ _=>False) e s'->False):
  codeAny (model P w) callerA (.call (.ref fa) ⟨[.ref a],[]⟩) (λr s'=>r=.ok (.ret (.bool true))/\OldK s₁.heap s'.heap/\s'.os=s₁.os/\yZ s'.gens) s₁:=by
 have rv:=Ls hi;have lenV:=hi.length;have core:∀H:Hp,Only H->rW K H a (ns.map V.int)->zj P w H s₁.heap->(∀b,H b≠none->b=a)->(H a≠none->K.lookup a=none)->
   codeAny (model P w) callerA (.call (.ref fa) ⟨[.ref a],[]⟩) (λr s'=>r=.ok (.ret (.bool true))/\OldK s₁.heap s'.heap/\s'.os=s₁.os/\yZ s'.gens) s₁:=by
  intro H hO hS hok hA hK;have Va:∀{b:aN}{o:Obj},s₁.heap.get? b=some o->H b=none->(Nr s₁.heap H).get? b=some o:=λe n=>XH e n
  have noA:∀{b:aN}{o:Obj}{es:Array M_}{ep:Nat},s₁.heap.get? b=some o->o.data=.dict es ep->H b=none:=λ{b o es ep}e d=>by
   cases q:H b with
   |none=>rfl
   |some u=>
    have e':b=a:=hA b (by rw[q];simp)
    subst e';rw[ha]at e;cases e;have d':Data.seq vs.toArray _=Data.dict es ep:=d;cases d'
  have nsK:∀{b:aN}{m:Str->Option aF},s₁.heap.Ns b m->(Nr s₁.heap H).Ns b m:=λ{b m}⟨o,es,ep,e,d,r⟩=>⟨o,es,ep,Va e (noA e d),d,r⟩
  have hKb:K.In (Nr s₁.heap H):=λb o e=>Va (KX b o e) (by
   cases q:H b with
   |none=>rfl
   |some u=>
    have e':b=a:=hA b (by rw[q];simp)
    subst e';rw[hK (by rw[q];simp)]at e;cases e)
  have hM:Mod K mg (Nr s₁.heap H):=⟨hKb,nsK hns,⟨mb,nsK hb,hbb⟩,let⟨mc,h1,h2⟩:=hlim;⟨mc,nsK h1,h2⟩⟩;have e0:R6 P w K mg (Nr s₁.heap H) callerA [] s₁ H:=⟨rfl,hM,λb o e=>zaf e,Nat.le_of_eq (V7 _ _),trivial,λb hb=>absurd (show b∈([]:List aN)from hb) (by simp),hok,.of_eq hg⟩
  refine qR ((F _ hKb (nsK hns)).run callerA [] s₁ H ⟨[.ref a],[]⟩ [.ref a] [.ref a] _ _ hr e0 (hbind s₁ (.ref a)) (.cons rfl .nil) (hsp H hO hS)) λr s' h=>?_
  cases r with
  |error e=>exact(hCX H e s' h).elim
  |ok fl=>
   cases fl with
   |next=>exact iT h
   |brk=>exact iT h
   |cont=>exact iT h
   |ret u=>
    obtain⟨v,H',os,bare,un,hok',r',q⟩:=h;have q':v=.bl true:=q;subst q';obtain rfl:u=aF.bool true:=r';refine⟨rfl,OldK.of_keep λb o e=>?_,os,bare⟩
    cases q:H b with
    |none=>exact un.keep b o e q (by intro z;exact absurd (show b∈([]:List aN)from z) (by simp)) (by simp)
    |some u=>
     rcases hO b with z|⟨ob,xs,z⟩
     ·rw[q]at z;cases z
     ·have z2:=un.Ey b ob _ z
      obtain⟨e1,_⟩:=hok b _ z;obtain⟨e2,_⟩:=hok' b _ z2;rw[e]at e1;cases e1;exact e2
 cases hk:K.lookup a with
 |some o=>
  have e:=KX a o hk;rw[ha]at e;cases e;refine core (λ_=>none) (λ_=>.inl rfl) (.inr ⟨_,vs.toArray,_,hk,rfl,rfl,rfl,by rw[bM,lenV];exact hl,by simpa using rv⟩) (λb u z=>by have z':(none:Option HO)=some u:=z;cases z') (λb z=>absurd rfl z) λz=>absurd rfl z
 |none=>
  refine core (λb=>if b=a then some (.XD { cls:=.type "list",data:=.seq vs.toArray } (.lst (ns.map V.int)))else none) (λb=>?_) (.inl (.inr ⟨{ cls:=.type "list",data:=.seq vs.toArray },if_pos rfl⟩)) (λb u z=>?_) (λb z=>?_) λ_=>hk
  ·by_cases hb:b=a
   ·exact .inr ⟨_,_,if_pos hb⟩
   ·exact .inl (if_neg hb)
  ·by_cases hb:b=a
   ·have z':=(if_pos hb).symm.trans z
    cases z';subst hb;exact⟨ha,by rw[aq];exact hl,vs,_,rv,ha⟩
   ·have z':=(if_neg hb).symm.trans z
    cases z'
  ·by_cases hb:b=a
   ·exact hb
   ·exact absurd (if_neg hb) z
theorem zat{l:PySem.W.OpenLaw}{n k:Nat}{q:bL}{loose:List Str}{XP:(Str->Option aF)->dW->Prop}{YP:dB->dW->Prop}{d:DefRec}{K:Im->ao}{CX:dB->U6}{sp:dB->Sp}{x:Str}
  (hn:l.most=some n)(hn2:n<=sizeLine)(hdf:d.params.defaults=[])(hr:jH k callerA)
  (hY:∀(w:dB)(h:dW),YP w h->(K w.params).In h)
  (F:∀(w:dB)(mg:Str->Option aF)(fa:aN)(h:dW),(K w.params).In h->h.Ns mainGlobals mg->mg d.name=some (.ref fa)->
   ∃fd:cU,(∀(s:aL)(u:aF),BindsTo s fd ⟨[u],[]⟩ [(x,u)])/\
    ∀base:dW,(K w.params).In base->base.Ns mainGlobals mg->i_ l.prog w (K w.params) mg base (CX w) k fa fd [x] (sp w))
  (hsp:∀(w:dB)(H:Hp)(a:aN)(ns:List Int),ns.length<=n->Only H->rW (K w.params) H a (ns.map V.int)->sp w [.ref a] H (λv _=>v=.bl true) λ_ _ _=>False)
  (hCX:∀(w:dB)(H:Hp)(s:aL)(e:aF)(s':aL),CX w [] H s (λ_ _ _=>False) e s'->False) :
  PySem.W.WalkO q loose XP YP l.row.toRowW d [] (λf vs=>PySem.call f vs):=by
 refine Att.Qa hn hdf λw s₀ s₁ mg mb fa o pm cd doc a vs ns G Y ho hd hcd hmg hobj hints hlen hg=>?_
 have KX:=hY w _ Y;obtain⟨fd,hb,hF⟩:=F w mg fa _ KX G.T.g hmg;exact Ye KX G.T.g G.T.b G.T.builtins G.T.nolimit hg hobj hints (dD hlen hn2) hr hF hb (λH hO hS=>hsp w H a ns hlen hO hS) λH e s'=>hCX w H s₁ e s'
def inClass(s:mj)(j:Nat):mj:=match s with
 | .ClassDef _ _ _ body _ _ _ _ _ _ _=>body.getD j (.Pass ⟨0,0,0,0⟩)
 |_=>.Pass ⟨0,0,0,0⟩
def vO(s:mj):Arguments:=match s with
 | .FunctionDef _ a _ _ _ _ _ _ _ _=>a
 |_=>{ posonlyargs:=[],args:=[],vararg:=none,kwonlyargs:=[],kw_defaults:=[],kwarg:=none,defaults:=[] }
def pQ(s:mj):List mj:=match s with
 | .FunctionDef _ _ b _ _ _ _ _ _ _=>b
 |_=>[]
def cP(s:mj):rR:=match s with
 | .FunctionDef _ _ _ _ _ _ sc _ _ _=>sc
 |_=>{ kind:=.function,names:=[],isGenerator:=false,isCoroutine:=false }
abbrev qz:U6:=λ_ _ _ _ _ _=>False
abbrev E0:XK:=λ_ _ _=>False
theorem Lw{X:Cx}:Passes qz X E0:=λ_ _ _ _ _ _ _ h=>h.elim
structure rP(K:ao)(x qual:Str)(st:mj)(f:aN)(fd:cU):Prop where
 ex:∃(oc:aF)(od:Option aN)(kV doc pm:aF)(an:Option aN)(cdv ct:aF)(osl:Array (Option aF)),
  fd=mR x qual (vO st) (pQ st) (cP st) .none kV doc pm an cdv ct/\K.lookup f=some ⟨oc,od,.func fd,osl⟩/\qZ K cdv qual=true
 kp:gZ K (.ref f)=true
section
variable{P:bL}{w:dB}{K:ao}{mg:Str->Option aF}{base:dW}
theorem rP.ok{x qual:Str}{st:mj}{f:aN}{fd:cU}{N ps:List Str}{k:Nat}{sp:Sp}(F:rP K x qual st f fd)(S:eX N ps (cP st))(len:∀vs H Q E,sp vs H Q E->vs.length=ps.length)
  (hbody:∀(cdv:aF)(A:fW)(outer:List Env)(s:aL)(H:Hp)(vs:List V)(Q:VK)(E:XK),jH k (A.deeper (envOfC qual (cP st) s.heap.objs.size f cdv))->sp vs H Q E->
   ∃t,UJ (Jd qz P w K mg base N qual (cP st) f cdv A outer s H E).nox (pQ st) t/\t { nx:=λ_ H'=>Q .non H',rt:=Q } (start N vs) H):i_ P w K mg base qz (k+1) f fd ps sp:=by
 obtain⟨oc,od,kV,doc,pm,an,cdv,ct,osl,rfl,lk,hcd⟩:=F.ex;refine zbJ lk hcd S len λA outer s H vs Q E hr hsp=>?_
 obtain⟨t,h,q⟩:=hbody cdv A outer s H vs Q E hr hsp;exact⟨t,h.nox,q⟩
theorem rP.binds{x qual:Str}{st:mj}{f:aN}{fd:cU}{ps:List Str}(F:rP K x qual st f fd)
  (h:∀(kV doc pm:aF)(an:Option aN)(cdv ct:aF)(us:List aF),us.length=ps.length->bindArgs (mR x qual (vO st) (pQ st) (cP st) .none kV doc pm an cdv ct) ⟨us,[]⟩=pure (ps.zip us)):Binds K fd ps []:=by
 obtain⟨oc,od,kV,doc,pm,an,cdv,ct,osl,rfl,lk,hcd⟩:=F.ex;exact .all (h kV doc pm an cdv ct)
theorem Sd{x qual:Str}{st:mj}{f:aN}{oc:aF}{od an:Option aN}{osl:Array (Option aF)}{kV doc pm cdv ct:aF}(l:K.lookup f=some ⟨oc,od,.func (mR x qual (vO st) (pQ st) (cP st) .none kV doc pm an cdv ct),osl⟩)
  (c:qZ K cdv qual=true)(k:gZ K (.ref f)=true):rP K x qual st f (mR x qual (vO st) (pQ st) (cP st) .none kV doc pm an cdv ct):=⟨⟨oc,od,kV,doc,pm,an,cdv,ct,osl,rfl,l,c⟩,k⟩
end
section
variable{X:Cx}
theorem pv(i:Nat){x:Str}{pos:Pos}(hN:X.N[i]?=some x:=by rfl)(hv:PK X.env.scope x:=by first|exact bG rfl|exact fj (bG rfl)|exact fj (fj rfl))(hd:(x==("__debug__":Str))=false:=by decide)
  (hcd:(x==("__classdict__":Str))=false:=by decide):PE X (.Name x pos) (zel i):=j8 hN hv hd hcd
end
theorem NQ{A B:Prop}(h:B):if false=true then A else B:=by
 rw[if_neg eY];exact h
theorem zcS{A B:Prop}(h:A):if true=true then A else B:=by
 rw[if_pos rfl];exact h
def Same(H H':Hp):Prop:=∀b o,H b=some o->H' b=some o
theorem Same.refl(H:Hp):Same H H:=λ_ _ h=>h
theorem Same.trans{H H1 H2:Hp}(a:Same H H1)(b:Same H1 H2):Same H H2:=λc o h=>b c o (a c o h)
theorem Same.free{H H':Hp}(e:Same H H'){l:aN}(h:H' l=Option.none):H l=Option.none:=by
 cases q:H l with
 |none=>rfl
 |some o=>
  rw[e l o q]at h;cases h
theorem Same.seq{K:ao}{H H':Hp}{a:aN}{xs:List V}(e:Same H H')(h:rW K H a xs):rW K H' a xs:=by
 rcases h with(h|⟨o,h⟩)|h
 ·exact .inl (.inl (e _ _ h))
 ·exact .inl (.inr ⟨o,e _ _ h⟩)
 ·exact .inr h
section
variable{κ:Type}[DecidableEq κ]
def oM(kvs:List (κ×V))(k:κ):Option V:=(kvs.find? λkv=>decide (kv.1=k)).map (·.2)
def putK(kvs:List (κ×V))(k:κ)(v:V):List (κ×V):=
 if(kvs.any λkv=>decide (kv.1=k))=true then kvs.map (λkv=>if kv.1=k then(kv.1,v)else kv)else kvs ++ [(k,v)]
theorem wO{p:κ×V}{r:List (κ×V)}{k:κ}(e:p.1=k):oM (p::r) k=some p.2:=by simp[oM,iY,e]
theorem tW{p:κ×V}{r:List (κ×V)}{k:κ}(e:¬p.1=k):oM (p::r) k=oM r k:=by simp[oM,iY,e]
theorem Jg(k:κ):∀kvs:List (κ×V),(kvs.any λkv=>decide (kv.1=k))=(oM kvs k).isSome
 | []=>rfl
 |p::r=>by
  rw[CZ];by_cases e:p.1=k
  ·simp only[wO e,decide_eq_true e,Bool.true_or,Option.isSome_some]
  ·rw[tW e,decide_eq_false e,Bool.false_or];exact Jg k r
theorem vP(kvs:List (κ×V))(k:κ)(v:V):(putK kvs k v).length<=kvs.length+1:=by
 unfold putK
 split
 ·rw[aq];omega
 ·rw[bK,bJ,dM];omega
theorem Di{kvs:List (κ×V)}{k:κ}(v:V)(h:oM kvs k=none):putK kvs k v=kvs ++ [(k,v)]:=by
 unfold putK;rw[Jg,h];exact if_neg (by decide)
theorem u5.wQ{o:Option V}{u:Option aF}(r:u5 o u):o.isSome=u.isSome:=by
 cases o with
 |none=>cases u with
  |none=>rfl
  |some _=>exact(show False from r).elim
 |some _=>cases u with
  |none=>exact(show False from r).elim
  |some _=>rfl
theorem u5.getD{o:Option V}{u:Option aF}{d:V}{d':aF}(r:u5 o u)(rd:RelV d d'):RelV (o.getD d) (u.getD d'):=by
 cases o with
 |none=>cases u with
  |none=>exact rd
  |some _=>exact(show False from r).elim
 |some _=>cases u with
  |none=>exact(show False from r).elim
  |some _=>exact r
theorem KV.val{kvs:List (κ×V)}{vs:List (κ×aF)}(r:KV kvs vs)(k:κ):u5 (oM kvs k) (valueAt vs k):=by
 unfold KV at r
 induction r with
 |nil=>exact iI
 | @cons p q ps qs h t ih=>
  obtain⟨h1,h2⟩:=h;by_cases e:p.1=k
  ·have e':q.1=k:=h1.symm.trans e
   have b:valueAt (q::qs) k=some q.2:=by simp[valueAt,iY,e']
   rw[wO e,b];exact h2
  ·have e':¬q.1=k:=λz=>e (h1.trans z)
   have b:valueAt (q::qs) k=valueAt qs k:=by simp[valueAt,iY,e']
   rw[tW e,b];exact ih
theorem KV.any{kvs:List (κ×V)}{vs:List (κ×aF)}(r:KV kvs vs)(k:κ):(kvs.any λkv=>decide (kv.1=k))=vs.any λkv=>decide (kv.1=k):=by
 unfold KV at r
 induction r with
 |nil=>rfl
 |cons h t ih=>rw[CZ,CZ,ih,h.1]
theorem KV.repl{kvs:List (κ×V)}{vs:List (κ×aF)}(r:KV kvs vs)(k:κ){y:V}{u:aF}(ry:RelV y u):
  KV (kvs.map λkv=>if kv.1=k then(kv.1,y)else kv) (vs.map λkv=>if kv.1=k then(kv.1,u)else kv):=by
 unfold KV at r ⊢
 induction r with
 |nil=>exact .nil
 | @cons p q ps qs h t ih=>
  rw[aZ,aZ];refine .cons ?_ ih
  obtain⟨h1,h2⟩:=h;by_cases e:p.1=k
  ·rw[if_pos e,if_pos (h1.symm.trans e)];exact⟨h1,ry⟩
  ·rw[if_neg e,if_neg (λz=>e (h1.trans z))];exact⟨h1,h2⟩
theorem KV.put{kvs:List (κ×V)}{vs:List (κ×aF)}(r:KV kvs vs)(k:κ){y:V}{u:aF}(ry:RelV y u):KV (putK kvs k y) (stored vs k u):=by
 unfold putK stored;rw[r.any k];by_cases e:(vs.any λkv=>decide (kv.1=k))=true
 ·rw[if_pos e,if_pos e];exact r.repl k ry
 ·rw[if_neg e,if_neg e];exact RK.snoc r ⟨rfl,ry⟩
theorem KV.length{kvs:List (κ×V)}{vs:List (κ×aF)}(r:KV kvs vs):kvs.length=vs.length:=BJ r
end
theorem Bp{P:bL}{w:dB}{k:Key}{u:aF}(r:RelV (kV k) u):(jg P w).is k u=true:=by
 cases k with
 |inl i=>obtain⟨t,e⟩:=(show ∃t,u=Pb i t from r);subst e;exact PJ P w i t
 |inr x=>obtain⟨t,e⟩:=(show ∃t,u=Pg x t from r);subst e;exact zJ P w x t
theorem Lx{P:bL}{w:dB}:∀{ks:List Key}{us:List aF},Vals (ks.map kV) us->ItemsAre (jg P w) ks us
 | [],_,r=>by rw[lV]at r;cases r;exact .nil
 |k::ks,_,r=>by
  rw[aZ]at r;cases r with
  |cons h t=>exact .cons (Bp h) (Lx t)
abbrev KT(H:Hp):List (List Key×V)->List (List Key×aN×aF)->Prop:=RK λp q=>p.1=q.1/\H q.2.1=some (.tup (p.1.map kV))/\RelV p.2 q.2.2
theorem KT.val{H:Hp}{kvs:List (List Key×V)}{xs:List (List Key×aN×aF)}(r:KT H kvs xs)(k:List Key):u5 (oM kvs k) ((atKey xs k).map (·.2)):=by
 induction r with
 |nil=>exact iI
 | @cons p q ps qs h t ih=>
  obtain⟨h1,_,h2⟩:=h;by_cases e:p.1=k
  ·have e':q.1=k:=h1.symm.trans e
   have b:atKey (q::qs) k=some q.2:=by simp[atKey,iY,e']
   rw[wO e,b];exact h2
  ·have e':¬q.1=k:=λz=>e (h1.trans z)
   have b:atKey (q::qs) k=atKey qs k:=by simp[atKey,iY,e']
   rw[tW e,b];exact ih
theorem KT.repl{H:Hp}{kvs:List (List Key×V)}{xs:List (List Key×aN×aF)}(r:KT H kvs xs)(k:List Key){y:V}{u:aF}(ry:RelV y u):
  KT H (kvs.map λkv=>if kv.1=k then(kv.1,y)else kv) (xs.map (putAt k u)):=by
 induction r with
 |nil=>exact .nil
 | @cons p q ps qs h t ih=>
  rw[aZ,aZ];refine .cons ?_ ih
  obtain⟨h1,h2,h3⟩:=h;unfold putAt;by_cases e:p.1=k
  ·rw[if_pos e,if_pos (h1.symm.trans e)];exact⟨h1,h2,ry⟩
  ·rw[if_neg e,if_neg (λz=>e (h1.trans z))];exact⟨h1,h2,h3⟩
theorem KT.put{H:Hp}{kvs:List (List Key×V)}{xs:List (List Key×aN×aF)}(r:KT H kvs xs)(k:List Key){b:aN}{y:V}{u:aF}(hb:H b=some (.tup (k.map kV)))(ry:RelV y u):
  KT H (putK kvs k y) (storedH xs k b u):=by
 have e:(kvs.any λkv=>decide (kv.1=k))=(atKey xs k).isSome:=by
  rw[Jg,(r.val k).wQ,Ej]
 unfold putK storedH;rw[e];by_cases q:(atKey xs k).isSome=true
 ·rw[if_pos q,if_pos q];exact r.repl k ry
 ·rw[if_neg q,if_neg q];exact RK.snoc r ⟨rfl,hb,ry⟩
theorem KT.keeps{H H':Hp}{kvs:List (List Key×V)}{xs:List (List Key×aN×aF)}(r:KT H kvs xs)(ht:∀b ys,H b=some (.tup ys)->H' b=some (.tup ys)):KT H' kvs xs:=
 RK.zcq r λ_ _ z=>⟨z.1,ht _ _ z.2.1,z.2.2⟩
section
variable{P:bL}{w:dB}{H:Hp}{h:dW}{a:aN}
theorem zbK{u:HO}(ok:zj P w H h)(e:Rd H a u):lB P w H h a u:=e.ok ok
theorem Jh{kvs:List (Key×V)}(ok:zj P w H h)(e:Rd H a (.dK kvs)):kvs.length<=sizeLine/\(a==sysModules)=false/\∃vs,KV kvs vs/\h.DictOf (jg P w) a vs:=
 show lB P w H h a (.dK kvs)from zbK ok e
theorem Vb{kvs:List (Key×V)}(ok:zj P w H h)(e:H a=some (.dK kvs)):kvs.length<=sizeLine/\(a==sysModules)=false/\∃vs,KV kvs vs/\h.DictOf (jg P w) a vs:=Jh ok (.inl e)
theorem Fg{ks:List Key}(ok:zj P w H h)(e:H a=some (.tup (ks.map kV))):(tupleKind (jg P w)).is h ks a:=by
 obtain⟨_,its,r,o,h1,h2,n,h3⟩:=(show lB P w H h a (.tup (ks.map kV))from ok a _ e)
 exact⟨o,its.toArray,n,h1,h2,h3,by simpa using Lx r⟩
theorem Ji{kvs:List (List Key×V)}(ok:zj P w H h)(e:Rd H a (.dT kvs)):kvs.length<=sizeLine/\(a==sysModules)=false/\
  ∃xs,KT H kvs xs/\h.DictOfH (tupleKind (jg P w)) a xs:=by
 obtain⟨z,y,xs,r,o,es,ep,h1,h2,h3,h4,h5⟩:=(show lB P w H h a (.dT kvs)from zbK ok e)
 refine⟨z,y,xs,r,o,es,ep,h1,h2,h3,h4,λx hx=>?_,h5⟩
 have all:∀{l:List (List Key×V)}{m:List (List Key×aN×aF)},KT H l m->∀x∈m,(tupleKind (jg P w)).is h x.1 x.2.1:=by
  intro l m q
  induction q with
  |nil=>intro x hx;exact nomatch hx
  | @cons p q ps qs hq t ih=>
   intro x hx;rcases aQ.mp hx with e|hx
   ·subst e
    exact Fg ok (by rw[<-hq.1];exact hq.2.1)
   ·exact ih x hx
 exact all r x hx
theorem zeS{kvs:List (List Key×V)}(ok:zj P w H h)(e:H a=some (.dT kvs)):kvs.length<=sizeLine/\(a==sysModules)=false/\
  ∃xs,KT H kvs xs/\h.DictOfH (tupleKind (jg P w)) a xs:=Ji ok (.inl e)
end
def zN(H:Hp)(a:aN)(y:V)(r:Option V):Prop:=
 (∃kvs k,Rd H a (.dK kvs)/\y=kV k/\r=oM kvs k)\/∃kvs k b,Rd H a (.dT kvs)/\y=.ref b/\H b=some (.tup (k.map kV))/\r=oM kvs k
def Qc(H:Hp)(a:aN)(y v:V)(H':Hp):Prop:=
 (∃kvs k,H a=some (.dK kvs)/\y=kV k/\kvs.length<sizeLine/\H'=upd H a (.dK (putK kvs k v)))\/
 ∃kvs k b,H a=some (.dT kvs)/\y=.ref b/\H b=some (.tup (k.map kV))/\kvs.length<sizeLine/\H'=upd H a (.dT (putK kvs k v))
theorem zN.k{H:Hp}{a:aN}{kvs:List (Key×V)}{k:Key}(e:H a=some (.dK kvs)):zN H a (kV k) (oM kvs k):=.inl ⟨kvs,k,.inl e,rfl,rfl⟩
theorem zN.t{H:Hp}{a b:aN}{kvs:List (List Key×V)}{k:List Key}(e:H a=some (.dT kvs))(eb:H b=some (.tup (k.map kV))):zN H a (.ref b) (oM kvs k):=.inr ⟨kvs,k,b,.inl e,rfl,eb,rfl⟩
theorem Qc.k{H:Hp}{a:aN}{kvs:List (Key×V)}{k:Key}{v:V}(e:H a=some (.dK kvs))(hl:kvs.length<sizeLine):Qc H a (kV k) v (upd H a (.dK (putK kvs k v))):=.inl ⟨kvs,k,e,rfl,hl,rfl⟩
theorem Qc.t{H:Hp}{a b:aN}{kvs:List (List Key×V)}{k:List Key}{v:V}(e:H a=some (.dT kvs))(eb:H b=some (.tup (k.map kV)))(hl:kvs.length<sizeLine):
  Qc H a (.ref b) v (upd H a (.dT (putK kvs k v))):=.inr ⟨kvs,k,b,e,rfl,eb,hl,rfl⟩
section
variable{X:Cx}{pins:List (aN×Obj)}{σ:St}{H:Hp}{s:aL}{a:aN}{y v:V}{u r:aF}{o:Option V}{A:fW}{E:aF->aL->Prop}
theorem Inv.big(I:Inv X pins σ H s):sysModules<s.heap.objs.size:=by
 have h:mainGlobals<s.heap.objs.size:=(I.mod.glob.keeps I.bk).lt;exact Nat.lt_trans (by decide) h
theorem Wm{Q:aF->aL->Prop}(hu:A.units+1<cLine)(I:Inv X pins σ H s)(g:zN H a y (some v))(ry:RelV y u)(h:∀w' s',Inv X pins σ H s'->RelV v w'->Q w' s'):
  wpAny (model X.prog X.w) A (getItem (.ref a) u) Q E s:=by
 rcases g with⟨kvs,k,e,ey,l⟩|⟨kvs,k,b,e,ey,eb,l⟩
 ·subst ey
  obtain⟨z,hd,vs,rel,dd⟩:=Jh I.hok e;obtain⟨w',hw,yW⟩:=u5.some_of (v:=v) (o:=valueAt vs k) (by rw[l];exact rel.val k)
  exact wpAny_getItem_of (Bp ry) dd.mapOf hw (h w' _ (I.tok _) yW)
 ·subst ey
  cases(show u=bR b from ry)
  obtain⟨z,hd,xs,rel,dd⟩:=Ji I.hok e;obtain⟨w',hw,yW⟩:=u5.some_of (v:=v) (o:=(atKey xs k).map (·.2)) (by rw[l];exact rel.val k)
  obtain⟨p,hp,hp2⟩:=Pk.mp hw;refine wpAny_getItem_heap (sI hu) (Fg I.hok eb) dd hp ?_
  rw[hp2];exact h w' _ (I.tok _) yW
theorem zhD{Q:aF->aL->Prop}(hu:A.units+1<cLine)(I:Inv X pins σ H s)(g:zN H a y o)(ry:RelV y u)(h:∀s',Inv X pins σ H s'->Q (.bool o.isSome) s'):
  wpAny (model X.prog X.w) A (compareOp .In u (.ref a)) Q E s:=by
 rcases g with⟨kvs,k,e,ey,l⟩|⟨kvs,k,b,e,ey,eb,l⟩
 ·subst ey
  obtain⟨z,hd,vs,rel,dd⟩:=Jh I.hok e;refine wpAny_in_of (Bp ry) hd dd.mapOf ?_
  rw[<-(rel.val k).wQ,<-l];exact h _ (I.tok _)
 ·subst ey
  cases(show u=bR b from ry)
  obtain⟨z,hd,xs,rel,dd⟩:=Ji I.hok e;refine wpAny_in_heap (sI hu) (Fg I.hok eb) hd dd ?_
  have q:=(rel.val k).wQ;rw[Ej]at q;rw[<-q,<-l];exact h _ (I.tok _)
theorem zau{Q:aF->aL->Prop}(hu:A.units+1<cLine)(I:Inv X pins σ H s)(g:zN H a y o)(ry:RelV y u)(h:∀s',Inv X pins σ H s'->Q (.bool (!o.isSome)) s'):
  wpAny (model X.prog X.w) A (compareOp .NotIn u (.ref a)) Q E s:=by
 rcases g with⟨kvs,k,e,ey,l⟩|⟨kvs,k,b,e,ey,eb,l⟩
 ·subst ey
  obtain⟨z,hd,vs,rel,dd⟩:=Jh I.hok e;refine wpAny_notIn_of (Bp ry) hd dd.mapOf ?_
  rw[<-(rel.val k).wQ,<-l];exact h _ (I.tok _)
 ·subst ey
  cases(show u=bR b from ry)
  obtain⟨z,hd,xs,rel,dd⟩:=Ji I.hok e;refine wpAny_notIn_heap (sI hu) (Fg I.hok eb) hd dd ?_
  have q:=(rel.val k).wQ;rw[Ej]at q;rw[<-q,<-l];exact h _ (I.tok _)
theorem HW{h':dW}{t':Nat}{ob:HO}(I:Inv X pins σ H s)(mu:Mut (H a))(hs:qj a s.heap h')(he:∃q,h'.get? a=some q)(new:lB X.prog X.w (upd H a ob) h' a ob):
  Inv X pins σ (upd H a ob) { s with heap:=h',toks:=t' }:=
 I.write (x:=a) (e:=a) mu (.inl rfl) (λb q hb z=>(hs.2 b hb).trans z) he new
theorem Sg{P:bL}{w:dB}{H':Hp}{h':dW}{kvs:List (Key×V)}{vs:List (Key×aF)}(z:kvs.length<=sizeLine)(hd:(a==sysModules)=false)(rel:KV kvs vs)(dd:h'.DictOf (jg P w) a vs):
  lB P w H' h' a (.dK kvs):=⟨z,hd,vs,rel,dd⟩
theorem Wn{H':Hp}{Q:Unit->aL->Prop}(hu:A.units+1<cLine)(I:Inv X pins σ H s)(g:Qc H a y v H')(ry:RelV y u)(rv:RelV v r)(h:∀s',Inv X pins σ H' s'->Q () s'):
  wpAny (model X.prog X.w) A (setItem (.ref a) u r) Q E s:=by
 rcases g with⟨kvs,k,e,ey,l,eH⟩|⟨kvs,k,b,e,ey,eb,l,eH⟩
 ·subst ey eH
  obtain⟨z,hd,vs,rel,dd⟩:=Vb I.hok e;have hz:vs.length<=sizeLine:=by rw[<-rel.length];exact z
  have hl:(putK kvs k v).length<=sizeLine:=by have:=vP kvs k v;omega
  refine wpAny_setItem_pairs (hsz:=hz) (Bp ry) dd λh' Sq hs=>h _ ?_
  have he:∃q,h'.get? a=some q:=let⟨q,_,_,hq,_⟩:=Sq;⟨q,hq⟩;exact HW I (by rw[e];exact iI) hs he (Sg hl hd (rel.put k rv) Sq)
 ·subst ey eH
  cases(show u=bR b from ry)
  obtain⟨z,hd,xs,rel,dd⟩:=zeS I.hok e;have hz:xs.length<=sizeLine:=by rw[<-BJ rel];exact z
  have hl:(putK kvs k v).length<=sizeLine:=by have:=vP kvs k v;omega
  refine wpAny_setItem_heap (hsz:=hz) (sI hu) (Fg I.hok eb) dd λh' Sq hs=>h _ ?_
  obtain⟨q,es,ep,hq,h2,h3,h4,_,h5⟩:=Sq;refine HW I (by rw[e];exact iI) hs ⟨q,hq⟩ ⟨hl,hd,_,(rel.put k eb rv).keeps λc ys ec=>?_,q,es,ep,hq,h2,h3,h4,h5⟩
  rw[bf (zeg ec e (λz=>nomatch z))]
  exact ec
end
section
variable{X:Cx}{pins:List (aN×Obj)}{σ:St}{H:Hp}{s:aL}{a:aN}{kvs:List (Key×V)}{k:Key}{u:aF}{A:fW}{E:aF->aL->Prop}
end
def zav(i:dz):Prop:=∀ov iv,subscripted i false ov iv=operate [ov,iv] (getItem ov iv)
theorem Vc{prog:bL}{w:dB}{A:fW}{E:aF->aL->Prop}{s:aL}{env:Env}{value slice:dz}{pos:Pos}{T id:String}{Q:aF->aL->Prop}
  (hl:typeLookup (.type T) "__getitem__"=pure (some (.builtin id)))(hs:zav slice)
  (h:wpAny (model prog w) A (eval value env) (λo s₁=>wpAny (model prog w) A (eval slice env) (λi s₂=>s₂.TypeIs o T/\wpAny (model prog w) A (getItem o i) Q E s₂) E s₁) E s):
  wpAny (model prog w) A (eval (.Subscript value slice pos) env) Q E s:=by
 refine Subscript_ (iB h (λo s₁ h₁=>iB h₁ (λi s₂ h₂=>?_) λ_ _ x=>x) λ_ _ x=>x)
 obtain⟨hT,h₂⟩:=h₂;unfold subscriptTail;refine aD ?_
 rw[getitemInPython_of_ne hT.not_modules];refine aD (wpAny_specialOf hT hl ?_)
 have fin:wpAny (model prog w) A (subscripted slice false o i) (λr s₃=>wpAny (model prog w) A (letTemporaryGo value o r >>= λ_=>pure r) Q E s₃) E s₂:=by
  rw[hs o i];exact wpAny_operating (iB h₂ (λr s₃ h₃=>aD (wpAny_letTemporaryGo (bA h₃))) λ_ _ x=>x)
 first
  |exact bA (aD fin)
  |exact aD (bA (aD fin))
  |exact aD fin
theorem Qd{X:Cx}{pins:List (aN×Obj)}{σ:St}{H:Hp}{s:aL}{a:aN}{y:V}{o:Option V}(I:Inv X pins σ H s)(g:zN H a y o):s.TypeIs (.ref a) "dict":=by
 rcases g with⟨kvs,k,e,_,_⟩|⟨kvs,k,b,e,_,_,_⟩
 ·obtain⟨_,_,vs,_,dd⟩:=Jh I.hok e
  exact dd.typeIs
 ·obtain⟨_,_,xs,_,dd⟩:=Ji I.hok e
  exact dd.typeIs
def zeT(td ty:TE):TE:=λσ H Q=>td σ H λx H1=>ty σ H1 λy H2=>∃a v,x=.ref a/\zN H2 a y (some v)/\Q v H2
def zhE(ty td:TE):TE:=λσ H Q=>ty σ H λy H1=>td σ H1 λx H2=>∃a o,x=.ref a/\zN H2 a y o/\Q (.bl o.isSome) H2
def zaw(ty td:TE):TE:=λσ H Q=>ty σ H λy H1=>td σ H1 λx H2=>∃a o,x=.ref a/\zN H2 a y o/\Q (.bl (!o.isSome)) H2
def zeU(td ty tv:TE):TS:=λD σ H=>tv σ H λv H1=>td σ H1 λx H2=>ty σ H2 λy H3=>∃a H4,x=.ref a/\Qc H3 a y v H4/\D.nx σ H4
section
variable{X:Cx}{o i e value:dz}{pos pos' tpos:Pos}{td ty tv:TE}
theorem zax(hu:X.A.units+1<cLine)(ho:PE X o td)(hi:PE X i ty)(hs:zav i):PE X (.Subscript o i pos) (zeT td ty):=by
 intro pins s σ H Q I h;refine Vc Kl.lookup hs (jL (ho pins s σ H _ I h) λu s1 ⟨x,H1,I1,rx,q1⟩=>jL (hi pins s1 σ H1 _ I1 q1) λiv s2 ⟨y,H2,I2,ry,a,v,ex,g,q2⟩=>?_)
 subst ex;obtain rfl:u=bR a:=rx;exact⟨Qd I2 g,Wm hu I2 g ry λw' s3 I3 yW=>⟨v,H2,I3,yW,q2⟩⟩
theorem Yg(hu:X.A.units+1<cLine)(hi:PE X i ty)(ho:PE X o td):PC X .In i o (zhE ty td):=by
 intro pins s σ H Q I h;refine jL (hi pins s σ H _ I h) λiv s1 ⟨y,H1,I1,ry,q1⟩=>jL (ho pins s1 σ H1 _ I1 q1) λu s2 ⟨x,H2,I2,rx,a,ov,ex,g,q2⟩=>?_
 subst ex;obtain rfl:u=bR a:=rx;exact zhD hu I2 g ry λs3 I3=>⟨.bl ov.isSome,H2,I3,rfl,q2⟩
theorem Wo(hu:X.A.units+1<cLine)(hi:PE X i ty)(ho:PE X o td):PC X .NotIn i o (zaw ty td):=by
 intro pins s σ H Q I h;refine jL (hi pins s σ H _ I h) λiv s1 ⟨y,H1,I1,ry,q1⟩=>jL (ho pins s1 σ H1 _ I1 q1) λu s2 ⟨x,H2,I2,rx,a,ov,ex,g,q2⟩=>?_
 subst ex;obtain rfl:u=bR a:=rx;exact zau hu I2 g ry λs3 I3=>⟨.bl (!ov.isSome),H2,I3,rfl,q2⟩
theorem Vd(hu:X.A.units+1<cLine)(ho:PE X o td)(hi:PE X i ty)(hv:PE X value tv)(hs:swapsWith value (some (.Subscript o i pos')) pos.line X.env=pure false):
  PS X (.Assign [.Subscript o i pos'] value pos) (zeU td ty tv):=by
 intro pins s σ H D I h;refine wpAny_Assign_Subscript (jL (hv pins s σ H _ I h) λr s1 ⟨v,H1,I1,rv,q1⟩=>jL (ho pins s1 σ H1 _ I1 q1) λu s2 ⟨x,H2,I2,rx,q2⟩=>jL (hi pins s2 σ H2 _ I2 q2) λiv s3 ⟨y,H3,I3,ry,a,H4,ex,g,q3⟩=>?_) hs
 subst ex;obtain rfl:u=bR a:=rx;exact Wn hu I3 g ry rv λs4 I4=>⟨σ,H4,I4,q3⟩
end
theorem Qe{P:bL}{w:dB}{H:Hp}(h:dW)(hb:sysModules<h.objs.size):lB P w H (h.push { cls:=.type "dict",data:=.dict #[] }) h.objs.size (.dK []):=
 ⟨cC _,beq_eq_false_iff_ne.mpr (cH (bQ hb)),[],.nil,dW.DictOf.new h⟩
theorem Yh{P:bL}{w:dB}{H:Hp}(h:dW)(hb:sysModules<h.objs.size):lB P w H (h.push { cls:=.type "dict",data:=.dict #[] }) h.objs.size (.dT []):=
 ⟨cC _,beq_eq_false_iff_ne.mpr (cH (bQ hb)),[],.nil,_,#[],0,cD _ rfl,⟨rfl,rfl,rfl⟩,rfl,rfl,K9⟩
def zcT:TE:=λ_ H Q=>∀p,H p=none->Q (.ref p) (upd H p (.dK []))
def zcU:TE:=λ_ H Q=>∀p,H p=none->Q (.ref p) (upd H p (.dT []))
section
variable{X:Cx}{pos:Pos}
theorem Dj:PE X (.Dict [] [] pos) zcT:=λpins s σ H Q I h=>
 wpAny_Dict_empty ⟨.ref s.heap.objs.size,_,I.laid (a:=s.heap.objs.size) (o:=.dK []) (t':=s.toks) (λ_ _ q=>aJ _ q) (aK _) (Qe s.heap I.big),rfl,h _ (I.hok.fresh (aK _))⟩
theorem Yi:PE X (.Dict [] [] pos) zcU:=λpins s σ H Q I h=>
 wpAny_Dict_empty ⟨.ref s.heap.objs.size,_,I.laid (a:=s.heap.objs.size) (o:=.dT []) (t':=s.toks) (λ_ _ q=>aJ _ q) (aK _) (Yh s.heap I.big),rfl,h _ (I.hok.fresh (aK _))⟩
end
def NT:List (TE×TE)->St->Hp->(List (V×V)->Hp->Prop)->Prop
 | [],_,H,Q=>Q [] H
 |(tk,tv)::r,σ,H,Q=>tk σ H λx H1=>tv σ H1 λy H2=>NT r σ H2 λps H3=>Q ((x,y)::ps) H3
abbrev VV:List (V×V)->List (aF×aF)->Prop:=RK λp q=>RelV p.1 q.1/\RelV p.2 q.2
def PPs(X:Cx)(pos:Pos)(keys:List (Option dz))(values:List dz)(Ve:List (TE×TE)):Prop:=
 ∀(pins:List (aN×Obj))(s:aL)(σ:St)(H:Hp)(Q:List (V×V)->Hp->Prop),Inv X pins σ H s->NT Ve σ H Q->
  wpAny (model X.prog X.w) X.A (evalPairs (pairTrees keys values X.env pos)) (λvs s'=>∃ps H',Inv X pins σ H' s'/\VV ps vs/\Q ps H') X.xe s
theorem zay{X:Cx}{pos:Pos}:PPs X pos [] [] []:=λpins s σ H Q I h=>pairTrees_nil_walk ⟨[],H,I,.nil,h⟩
theorem Yj{X:Cx}{pos:Pos}{k v:dz}{ks:List (Option dz)}{vs:List dz}{tk tv:TE}{Ve:List (TE×TE)}(hk:PE X k tk)(hv:PE X v tv)(hr:PPs X pos ks vs Ve):
  PPs X pos (some k::ks) (v::vs) ((tk,tv)::Ve):=λpins s σ H Q I h=>
 pairTrees_cons_walk (jL (hk pins s σ H _ I h) λu s1 ⟨x,H1,I1,rx,q1⟩=>jL (hv pins s1 σ H1 _ I1 q1) λw2 s2 ⟨y,H2,I2,ry,q2⟩=>
  jL (hr pins s2 σ H2 _ I2 q2) λws s3 ⟨ps,H3,I3,rel,q3⟩=>⟨(x,y)::ps,H3,I3,.cons ⟨rx,ry⟩ rel,q3⟩)
def zO(kvs more:List (Key×V)):List (Key×V):=more.foldl (λacc kv=>putK acc kv.1 kv.2) kvs
theorem KV.merge:∀{more:List (Key×V)}{rs:List (Key×aF)}{kvs:List (Key×V)}{vs:List (Key×aF)},KV more rs->KV kvs vs->KV (zO kvs more) (merged vs rs):=by
 intro more rs kvs vs r;unfold KV at r
 induction r generalizing kvs vs with
 |nil=>intro q;exact q
 | @cons p q ps qs h t ih=>
  intro r0;have e:KV (putK kvs p.1 p.2) (stored vs q.1 q.2):=by
   have:=r0.put p.1 h.2;rw[<-h.1];exact this
  exact ih e
theorem Bq:∀(more kvs:List (Key×V)),(zO kvs more).length<=kvs.length+more.length
 | [],kvs=>by show kvs.length<=kvs.length+0;omega
 |p::r,kvs=>by
  have h1:=Bq r (putK kvs p.1 p.2);have h2:=vP kvs p.1 p.2
  show(zO (putK kvs p.1 p.2) r).length<=_
  rw[bJ];omega
theorem Jj{P:bL}{w:dB}:∀{kvs:List (Key×V)}{ws:List (aF×aF)},VV (kvs.map λkv=>(kV kv.1,kv.2)) ws->∃rs,Carries (jg P w) ws rs/\KV kvs rs
 | [],_,r=>by rw[lV]at r;cases r;exact⟨[],iI,.nil⟩
 |p::kvs,_,r=>by
  rw[aZ]at r;cases r with
  | @cons a b as bs h t=>
   obtain⟨rs,c,q⟩:=Jj (P:=P) (w:=w) t;obtain⟨b1,b2⟩:=b;exact⟨(p.1,b2)::rs,⟨Bp h.1,rfl,c⟩,.cons ⟨rfl,h.2⟩ q⟩
def zeW(Ve:List (TE×TE)):TE:=λσ H Q=>∀p,H p=none->NT Ve σ (upd H p (.dK [])) λps H2=>H2 p=some (.dK [])/\∃kvs:List (Key×V),ps=kvs.map (λkv=>(kV kv.1,kv.2))/\kvs.length<=15/\Q (.ref p) (upd H2 p (.dK (zO [] kvs)))
theorem zaz{X:Cx}{pos:Pos}{keys:List (Option dz)}{values:List dz}{Ve:List (TE×TE)}(h:PPs X pos keys values Ve)(hall:keys.all (·.isSome)=true)(hl:keys.length=values.length)(h0:keys≠[])
  (h15:keys.length<=15):PE X (.Dict keys values pos) (zeW Ve):=by
 intro pins s σ H Q I q;have hn:=I.hok.fresh (aK s.heap.objs.size);have I1:=I.laid (a:=s.heap.objs.size) (o:=.dK []) (h':=s.heap.push { cls:=.type "dict",data:=.dict #[] }) (t':=s.toks) (λ_ _ q=>aJ _ q) (aK _) (Qe s.heap I.big)
 refine wpAny_Dict_walk (knd:=jg X.prog X.w) hall hl h0 h15 (jL (h pins _ σ _ _ I1 (q _ hn)) λws s2 ⟨ps,H2,I2,rel,e,kvs,ep,lk,q2⟩=>?_)
 subst ep;obtain⟨rs,c,rk⟩:=Jj (P:=X.prog) (w:=X.w) rel;obtain⟨z,hd,vs0,r0,dd⟩:=Vb I2.hok e;cases r0;refine⟨rs,c,dd,λh' Sq hs=>⟨.ref s.heap.objs.size,_,?_,rfl,q2⟩⟩
 have hz:(zO [] kvs).length<=sizeLine:=by
  have h1:=Bq kvs [];rw[dM]at h1;rw[fK];omega
 have he:∃q,h'.get? s.heap.objs.size=some q:=let⟨q,_,_,hq,_⟩:=Sq;⟨q,hq⟩;exact HW I2 (by rw[e];exact iI) hs he (Sg hz hd (rk.merge .nil) Sq)
structure M1(X:Cx)(o:dz)(m:Str)(apos:Pos)(e:dz)(cpos:Pos):Prop where
 base:attributeBase o m X.env (eval o X.env)=eval o X.env
 few:((backTo cpos (starEach [e] X.env)).all (λx=>!x.1)&&(backToKw cpos (keywordEach [] X.env)).all (λx=>x.1.isSome)
  && decide (([e]:List dz).length+([]:List lu).length+(if([]:List lu).isEmpty then 0 else 1)<30))=true
 line:(apos.endLine==cpos.line)=true
 trees:backTo cpos (starEach [e] X.env)=[(false,eval e X.env)]
structure M2(X:Cx)(o:dz)(m:Str)(apos:Pos)(e f:dz)(cpos:Pos):Prop where
 base:attributeBase o m X.env (eval o X.env)=eval o X.env
 few:((backTo cpos (starEach [e,f] X.env)).all (λx=>!x.1)&&(backToKw cpos (keywordEach [] X.env)).all (λx=>x.1.isSome)
  && decide (([e,f]:List dz).length+([]:List lu).length+(if([]:List lu).isEmpty then 0 else 1)<30))=true
 line:(apos.endLine==cpos.line)=true
 trees:backTo cpos (starEach [e,f] X.env)=[(false,eval e X.env),(false,eval f X.env)]
def IsD(H:Hp)(a:aN):Prop:=(∃kvs,Rd H a (.dK kvs))\/∃kvs,Rd H a (.dT kvs)
theorem Yk{X:Cx}{pins:List (aN×Obj)}{σ:St}{H:Hp}{s:aL}{a:aN}(I:Inv X pins σ H s)(d:IsD H a):
  s.TypeIs (.ref a) "dict"/\(∀b,bR a=.ref b->∃ob,s.heap.get? b=some ob/\ob.dict=none)/\(a==sysModules)=false:=by
 rcases d with⟨kvs,e⟩|⟨kvs,e⟩
 ·obtain⟨_,hd,vs,_,dd⟩:=Jh I.hok e
  refine⟨dd.typeIs,λb q=>?_,hd⟩
  cases q;obtain⟨ob,_,_,h1,h2,_⟩:=dd;exact⟨ob,h1,h2.2.1⟩
 ·obtain⟨_,hd,xs,_,dd⟩:=Ji I.hok e
  refine⟨dd.typeIs,λb q=>?_,hd⟩
  cases q;obtain⟨ob,_,_,h1,h2,_⟩:=dd;exact⟨ob,h1,h2.2.1⟩
section
variable{X:Cx}{pins:List (aN×Obj)}{σ:St}{H:Hp}{s:aL}{a:aN}{y d:V}{u r:aF}{o:Option V}{A:fW}{E:aF->aL->Prop}
theorem zcV{Q:aF->aL->Prop}(hu:A.units+1<cLine)(I:Inv X pins σ H s)(g:zN H a y o)(ry:RelV y u)(rd:RelV d r)(h:∀w' s',Inv X pins σ H s'->RelV (o.getD d) w'->Q w' s'):
  wpAny (model X.prog X.w) A (call (.builtin "dict.get") [.ref a,u,r]) Q E s:=by
 rcases g with⟨kvs,k,e,ey,l⟩|⟨kvs,k,b,e,ey,eb,l⟩
 ·subst ey
  obtain⟨z,hd,vs,rel,dd⟩:=Jh I.hok e;refine call_meetsIn yS dd.typeIs Nb (K_ _ _ _) (meets_dict_get_default (jg X.prog X.w) a (Bp ry) hd r) ⟨_,dd.mapOf,h _ _ (I.tok _) ?_⟩
  rw[l];exact(rel.val k).getD rd
 ·subst ey
  cases(show u=bR b from ry)
  obtain⟨z,hd,xs,rel,dd⟩:=Ji I.hok e;refine call_meetsIn yS dd.typeIs Nb (K_ _ _ _) (meetsH_dict_get_default (tupleKind (jg X.prog X.w)) a b hd r) ⟨sI hu,k,xs,Fg I.hok eb,dd,h _ _ (I.tok _) ?_⟩
  rw[l];exact(rel.val k).getD rd
end
def zcW(td ty tx:TE):TE:=λσ H Q=>td σ H λx H1=>∃a,x=.ref a/\IsD H1 a/\ty σ H1 λy H2=>tx σ H2 λz H3=>∃o,zN H3 a y o/\Q (o.getD z) H3
section
variable{X:Cx}{o e f:dz}{apos cpos:Pos}{td ty tx:TE}
theorem Yl(hu:X.A.units+1<cLine)(ho:PE X o td)(he:PE X e ty)(hf:PE X f tx)(m:M2 X o "get" apos e f cpos):PE X (.Call (.Attribute o "get" apos) [e,f] [] cpos) (zcW td ty tx):=by
 intro pins s σ H Q I h;refine wpAny_Call_method m.base m.few m.line La yS PySem.F.type_dict_get (jL (ho pins s σ H _ I h) λu s1 ⟨x,H1,I1,rx,a,ex,d,q1⟩=>?_)
 subst ex;obtain rfl:u=bR a:=rx;obtain⟨t1,t2,_⟩:=Yk I1 d;refine⟨t1,t2,?_⟩
 rw[m.trees];refine yR rfl (Bf (qQ (jL (he pins s1 σ H1 _ I1 q1) λiv s2 ⟨y,H2,I2,ry,q2⟩=>
  qQ (jL (hf pins s2 σ H2 _ I2 q2) λfv s3 ⟨z,H3,I3,rz,ov,g,q3⟩=>Es ?_))))
 exact zcV hu I3 g ry rz λw' s4 I4 yW=>⟨_,H3,I4,yW,q3⟩
end
section
variable{X:Cx}{pins:List (aN×Obj)}{σ:St}{H:Hp}{s:aL}{a:aN}{kvs:List (Key×V)}{A:fW}{E:aF->aL->Prop}
end
def zhG(o:Array (Option Nat)):Nat:=o.toList.countP Option.isSome
structure zj0(m n:Nat)(o:Array (Option Nat)):Prop where
 size:o.size=m+1
 cnt:zhG o=n
 lt:∀(j k:Nat),o[j]?=some (some k)->k<n
section
variable{prog:bL}{w:dB}{A:fW}{E:aF->aL->Prop}{s:aL}
end
section
variable{prog:bL}{w:dB}{A:fW}{R:BK->aL->Prop}{I:aN}{fp wr:List aN}{G:Array xV->Array xV->Prop}{n:Nat}{P:Nat->aF->Prop}{St:Nat->aL->Prop}
theorem Ym(W:WalksS prog w A.in1 I fp wr G n P St)(S:aN)(hSf:S∉fp)(T:Nat->dW->Prop)(keep:∀i h h',T i h->(∀b o,b∉wr->h.get? b=some o->h'.get? b=some o)->T i h')
  (add:∀i v (s:aL) (Q:Bool->aL->Prop) (E:aF->aL->Prop),i<n->P i v->T i s.heap->(∀h' tk b,s.toks<=tk->qj S s.heap h'->T (i+1) h'->Q b { s with heap:=h',toks:=tk })->wpAny (model prog w) A.in1 (setAdd S v) Q E s):
  ∀(k i:Nat)(s:aL),n-i=k->i<=n->St i s->T i s.heap->(∀s',Moved (S::wr) G s s'->T n s'.heap->R (.ok (.ret .none)) s')->
   codeAny (model prog w) A (.builtin "set.update.loop" ⟨[.ref S,.ref I],[]⟩) R s:=by
 have hSw:S∉wr:=λh=>hSf (W.sub _ h)
 have hsub:∀b∈wr,b∈S::wr:=λb hb=>bD _ hb
 intro k
 induction k with
 |zero=>
  intro i s hk hi hst hS hR;have hin:i=n:=by omega
  subst hin;refine CG Uv ?_
  rw[Ah zx _];show wpAny _ A.in1 (pyNext (.ref I) >>= _) _ _ s;refine aD (W.done s _ _ hst λs' hm=>?_)
  show wpAny _ A.in1 (ret iG) _ _ s';exact bA (hR s' (hm.mono hsub) (keep _ _ _ hS λb o hb e=>hm.heap b o hb e))
 |succ k ih=>
  intro i s hk hi hst hS hR;have hlt:i<n:=by omega
  refine CG Uv ?_
  rw[Ah zx _];show wpAny _ A.in1 (pyNext (.ref I) >>= _) _ _ s;refine aD (W.item i s _ _ hlt hst λv s' hP hst' hm=>?_)
  have hS':T i s'.heap:=keep _ _ _ hS λb o hb e=>hm.heap b o hb e
  show wpAny _ A.in1 (holding [v] (setAdd S v) >>= _) _ _ s';refine aD (mK ?_)
  refine add i v s' _ _ hlt hP hS' λh' tk b htk hsb hT=>?_
  refine bA ⟨plainId_quiet zx _,ih (i+1) _ (by omega) hlt (W.frame _ s' _ _ hst' htk λb hb o e=>?_) hT λs'' hm'' hS''=>?_⟩
  ·rw[hsb.2 b (λh:b=S=>hSf (by rw[<-h];exact hb))];exact e
  ·refine hR s'' (Moved.trans W.gtrans ((hm.mono hsub).then_heap htk λb o hb e=>?_) hm'') hS''
   rw[hsb.2 b (λh:b=S=>hb (by rw[h];exact aY))];exact e
end
section
variable{prog:bL}{w:dB}{A:fW}{E:aF->aL->Prop}{s:aL}
abbrev pD(led:Bool):Obj:={ cls:=.type "set",dict:=none,data:=.set #[] 0 (.fresh 0 0 led) }
end
end L2
namespace L2
open PySem
end L2
namespace L2
open PySem PySem.Spec PyProof.Rows
abbrev NoX:aF->aL->Prop:=λ_ _=>False
abbrev testsOf(ifs:List dz)(env:Env):Sem Bool:=
 forIn ifs true λc r=>if r=true then(do let ok <-isTrue c env (eval c env);pure (xO ok))else pure (xO r)
theorem Wq{P:bL}{w:dB}{A:fW}{R:BK->aL->Prop}{elt tg iter:dz}{ifs:List dz}{sc:rR}{pos:Pos}{it acc:aF}{env:Env}(J:Nat->aL->Prop)
  (turn:∀n s,J n s->wpAny (model P w) A (pyNext it) (λr s1=>match r with
   |none=>R (.ok .next) s1
   |some v=>wpAny (model P w) A (letOwnedTupleGo tg it v) (λ_ s2=>wpAny (model P w) A (assign tg env v) (λ_ s3=>
     wpAny (model P w) A (testsOf ifs env) (λok s4=>if ok=true then wpAny (model P w) A (eval elt env) (λx s5=>
       wpAny (model P w) A (call (.builtin "list.append") [acc,x]) (λ_ s6=>∃m,m<n/\J m s6) NoX s5) NoX s4
      else ∃m,m<n/\J m s4) NoX s3) NoX s2) NoX s1) NoX s)
  {n:Nat} {s:aL} (h:J n s):codeAny (model P w) A (.compLoop (.ListComp elt [⟨tg,iter,ifs,0⟩] sc pos) 0 it acc env) R s:=by
 refine codeAny_loop rfl J (λn s hJ=>?_) n h
 show wpAny _ A ((compTurn (.ListComp elt [⟨tg,iter,ifs,0⟩] sc pos) 0 it acc env).onRaise (λx=>do noteFrame x env;theTreesLotGoes x)) _ _ s
 refine wpAny_noted ?_
 rw[compTurn_list];refine aD (rT (aD (iB (turn n s hJ) (λr s1 h1=>?_) λ_ _ f=>f.elim)))
 cases r with
 |none=>exact bA h1
 |some v=>
  refine aD (iB h1 (λ_ s2 h2=>?_) λ_ _ f=>f.elim)
  refine aD (iB h2 (λ_ s3 h3=>?_) λ_ _ f=>f.elim)
  refine aD (iB h3 (λok s4 h4=>?_) λ_ _ f=>f.elim)
  cases ok with
  |false=>exact bA ⟨rfl,h4⟩
  |true=>
   refine aD (aD (iB h4 (λx s5 h5=>?_) λ_ _ f=>f.elim))
   exact aD (iB h5 (λ_ s6 h6=>bA (bA ⟨rfl,h6⟩)) λ_ _ f=>f.elim)
def wR(env:Env):List (Str×uo)->List (Str×aN)->Option (List (Str×aN))
  | [],acc=>some acc
  | (n,k)::r,acc=>if(k==g_)=true then(match env.cells.lookup n with
      | some c=>wR env r ((n,c)::acc)
      | none=>none)else wR env r acc
theorem NZ(env:Env):∀(names:List (Str×uo))(acc cl:List (Str×aN)),wR env names acc=some cl->
  (forIn names acc λ(x:Str×uo)(r:List (Str×aN))=>if(x.2==g_)=true then(do let c <-cellOf env x.1;pure (xO ((x.1,c)::r)))else pure (xO r):Sem (List (Str×aN)))=pure cl
 | [],acc,cl,h=>by
  simp only[wR,mq]at h;subst h;rfl
 |(n,k)::r,acc,cl,h=>by
  rw[Km];unfold wR at h;by_cases hk:(k==g_)=true
  ·rw[if_pos hk]at h
   rw[if_pos (show((n,k).2==g_)=true from hk)]
   cases e:env.cells.lookup n with
   |none=>rw[e]at h;cases h
   |some c=>
    rw[e]at h;have e2:cellOf env (n,k).1=pure c:=by unfold cellOf;rw[show qY (n,k).1 env.cells=some c from e]
    rw[e2,pure_bind,pure_bind];exact NZ env r _ cl h
  ·rw[if_neg hk]at h
   rw[if_neg (show ¬((n,k).2==g_)=true from hk),pure_bind]
   exact NZ env r acc cl h
theorem Vf{sc:rR}{env:Env}{cl:List (Str×aN)}(h:wR env sc.names []=some cl):closureFor sc env=pure cl:=by
 unfold closureFor;have:=NZ env sc.names [] cl h;simp only[bind_pure];exact this
theorem Dl{env:Env}:∀{names:List (Str×uo)}{acc cl:List (Str×aN)},wR env names acc=some cl->(∀x c,acc.lookup x=some c->env.cells.lookup x=some c)->∀x c,cl.lookup x=some c->env.cells.lookup x=some c
 | [],acc,cl,h,ha=>by
  simp only[wR,mq]at h;subst h;exact ha
 |(n,k)::r,acc,cl,h,ha=>by
  unfold wR at h;by_cases hk:(k==g_)=true
  ·rw[if_pos hk]at h
   cases e:env.cells.lookup n with
   |none=>rw[e]at h;cases h
   |some c=>
    rw[e]at h;refine Dl (names:=r) h λx d hx=>?_
    rw[gO]at hx;cases hxn:x==n with
    |true=>
     rw[hxn]at hx;have:x=n:=by simpa using hxn
     subst this;rw[e];exact hx
    |false=>rw[hxn]at hx;exact ha x d hx
  ·rw[if_neg hk]at h
   exact Dl (names:=r) h ha
theorem Dm{env:Env}:∀{names:List (Str×uo)}{acc cl:List (Str×aN)},wR env names acc=some cl->∀x,((x,g_)∈names\/∃c,acc.lookup x=some c)->∃c,cl.lookup x=some c
 | [],acc,cl,h,x,hx=>by
  simp only[wR,mq]at h;subst h;rcases hx with hx|hx
  ·exact absurd hx (by simp)
  ·exact hx
 |(n,k)::r,acc,cl,h,x,hx=>by
  unfold wR at h;by_cases hk:(k==g_)=true
  ·rw[if_pos hk]at h
   cases e:env.cells.lookup n with
   |none=>rw[e]at h;cases h
   |some c=>
    rw[e]at h;refine Dm (names:=r) h x ?_
    rcases hx with hx|⟨d,hx⟩
    ·rcases aQ.mp hx with hx|hx
     ·cases hx
      exact .inr ⟨c,by simp[gO]⟩
     ·exact .inl hx
    ·refine .inr ?_
     rw[gO];cases hxn:x==n with
     |true=>exact⟨_,rfl⟩
     |false=>exact⟨d,hx⟩
  ·rw[if_neg hk]at h
   refine Dm (names:=r) h x ?_
   rcases hx with hx|hx
   ·rcases aQ.mp hx with hx|hx
    ·cases hx;exact absurd rfl hk
    ·exact .inl hx
   ·exact .inr hx
theorem Dn{env:Env}:∀{names:List (Str×uo)}{x:Str},names.lookup x=some .free->
  (names.map λ(n,k)=>if(k==g_&&env.scope.kind == .function&&env.kindOf n==some .cell) then(n,qm) else(n,k)).lookup x=some .cell\/
   (names.map λ(n,k)=>if(k==g_&&env.scope.kind == .function&&env.kindOf n==some .cell) then(n,qm) else(n,k)).lookup x=some .free
 | [],x,h=>by simp at h
 |(n,k)::r,x,h=>by
  have ih:=@Dn env r x;rw[aZ]
  dsimp only
  by_cases hb:(k==g_&&env.scope.kind == .function&&env.kindOf n==some .cell)=true
  ·rw[if_pos hb]
   cases hx:x==n with
   |true=>simp[gO,hx]
   |false=>
    simp only[gO,hx]at h ⊢;exact ih h
  ·rw[if_neg hb]
   cases hx:x==n with
   |true=>
    simp only[gO,hx]at h ⊢;exact .inr h
   |false=>
    simp only[gO,hx]at h ⊢;exact ih h
theorem Gp{env:Env}:∀{names:List (Str×uo)}{x:Str},(∀y∈names,y.2≠qm)->
  ((names.map λ(n,k)=>if(k==g_&&env.scope.kind == .function&&env.kindOf n==some .cell) then(n,qm) else(n,k)).lookup x=some .cell\/
   (names.map λ(n,k)=>if(k==g_&&env.scope.kind == .function&&env.kindOf n==some .cell) then(n,qm) else(n,k)).lookup x=some .free)->(x,g_)∈names
 | [],x,_,h=>by simp at h
 |(n,k)::r,x,hc,h=>by
  have ih:=@Gp env r x λy hy=>hc y (bD _ hy)
  have hk0:k≠qm:=hc (n,k) aY;rw[aZ]at h
  dsimp only at h
  by_cases hb:(k==g_&&env.scope.kind == .function&&env.kindOf n==some .cell)=true
  ·have hk:k=g_:=by
    simp only[yK]at hb;simpa using hb.1.1
   rw[if_pos hb]at h;cases hx:x==n with
   |true=>
    have:x=n:=by simpa using hx
    subst this;rw[hk];exact aY
   |false=>
    simp only[gO,hx]at h;exact bD _ (ih h)
  ·rw[if_neg hb]at h
   cases hx:x==n with
   |true=>
    have:x=n:=by simpa using hx
    subst this;simp only[gO,beq_self_eq_true,mq]at h;rcases h with h|h
    ·exact absurd h hk0
    ·rw[h];exact aY
   |false=>
    simp only[gO,hx]at h;exact bD _ (ih h)
def lq(X:Cx)(sc:rR)(N:List Str)(cl:List (Str×aN))(fp:List aN)(s:aL)(H:Hp):Cx where
 prog:=X.prog
 w:=X.w
 K:=X.K
 mg:=X.mg
 base:=X.base
 A:=X.A
 N:=N
 s₀:=s
 H₀:=H
 env:=compEnvC sc cl s.heap.objs.size X.env
 outer:=X.stack
 stack:=X.stack
 ex:=fp
 fn:=λ_=>false
 calm:=X.calm
 pn:=[]
 xe:=NoX
structure sS(X:Cx)(sc:rR)(own:List Str)(cap:List Nat)(N:List Str)(cl:List (Str×aN)):Prop where
 kind:sc.kind=.function
 Yn:∀y∈sc.names,y.2≠qm
 loc:∀y∈sc.names,y.2=.local->sc.names.lookup y.1=some .local
 clos:wR X.env sc.names []=some cl
 names:N=own++cap.map λi=>X.N.getD i iy
 zeX:∀i∈cap,i<X.N.length/\(X.env.kindOf (X.N.getD i iy)=some .cell\/X.env.kindOf (X.N.getD i iy)=some .free)/\sc.names.lookup (X.N.getD i iy)=some .free
def uw(own:List Str)(cap:List Nat)(σ:St):St:=bN own.length none++cap.map λi=>σ.getD i none
section
variable{X:Cx}{pins:List (aN×Obj)}{σ:St}{H:Hp}{s:aL}{sc:rR}{own N:List Str}{cap:List Nat}{cl:List (Str×aN)}{fp:List aN}{tg:dz}{J:It}{it:aN}{tn:Nat->dW->Prop}
theorem Yo{h4:dW}{t4:Nat}(CS:sS X sc own cap N cl)(I:Inv X pins σ H s)(T:Turn X.prog X.w X.K tg J fp it tn)(st:tn 0 s.heap)(hf:∀b∈fp,Df X pins H b)
  (D:aN)(hD:D=s.heap.objs.size)(s3:aL)(h3:s3={ s with heap:=s.heap.push { cls:=.type "list",dict:=none,data:=.seq ([]:List aF).toArray } })
  (hns:h4.Ns s3.heap.objs.size (λ_=>none))(hk:∀b o,s3.heap.get? b=some o->h4.get? b=some o):
  Inv (lq X sc N cl fp s3 (upd H D (.lst []))) [] (uw own cap σ) (upd H D (.lst [])) { s3 with heap:=h4,toks:=t4 }:=by
 subst hD;have hDn:H s.heap.objs.size=none:=I.fresh;have k3:∀b o,s.heap.get? b=some o->s3.heap.get? b=some o:=λb o e=>by rw[h3];exact aJ _ e
 have z3:s3.heap.objs.size=s.heap.objs.size+1:=by rw[h3];exact jN ..
 have I3:Inv X pins σ (upd H s.heap.objs.size (.lst [])) s3:=by
  rw[h3];exact I.laid (t':=s.toks) (λb o e=>aJ _ e) (aK _) ⟨cC _,[],0,.nil,cD _ rfl⟩
 have zaB:∀b∈fp,b<s.heap.objs.size:=λb hb=>by
  obtain⟨o,e,_⟩:=T.obj 0 _ st b hb;exact bw e
 have zaC:∀b,b<s.heap.objs.size->b≠s3.heap.objs.size:=λb hb=>by rw[z3];exact bQ (sJ hb)
 have yh:∀x c,cl.lookup x=some c->X.env.cells.lookup x=some c:=Dl CS.clos λx c h=>by simp at h
 have ok:(lq X sc N cl fp s3 (upd H s.heap.objs.size (.lst []))).Ok:=by
  refine⟨I.ok.mod,CS.kind,I.ok.glob,I.ok.blt,aK _,λx y c hx hy=>I.ok.inj x y c (yh x c hx) (yh y c hy),λx hx=>?_,λx c hx _=>absurd (show false=true from hx) eY,I.ok.hd,I.ok.frames,.inl rfl,λb hb=>⟨?_,λx c hx=>?_⟩,λb o e=>?_,?_,λb o e hb=>?_,λb hb hs=>?_,?_,?_⟩
  ·exact Dm CS.clos x (.inl (Gp CS.Yn hx))
  ·exact zaC b (zaB b hb)
  ·exact(hf b hb).2.2.2.2.1 x c (yh x c hx)
  ·exact I3.bs b o e
  ·exact dD I.ok.Z5 (dD I.sz (by show s.heap.objs.size<=s3.heap.objs.size;rw[z3];exact k_ _))
  ·rcases(hf b hb).2.2.2.1 with z|z
   ·exact I.ok.RP b o e z
   ·exact absurd (cO (bw (I.ok.bs b o e).1) z) (nH _)
  ·rcases aQ.mp (I.Nt b hs)with z|z
   ·exact(hf b hb).2.1 z
   ·exact(hf b hb).2.2.1 z
  ·exact I3.stack
  ·exact I3.Uz
 have frC:∀b,s.heap.objs.size<b->(upd H s.heap.objs.size (.lst [])) b=none:=λb hb=>by
  rw[bf (jd hb)];exact I.hok.fresh (vD hb)
 refine⟨ok,?_,I3.bare,Un.kept hk,⟨_,hns,λi x v e1 e2 e3=>?_⟩,λx c hx=>?_,?_,λx c hx=>?_,λp hp=>absurd (show p∈([]:List (aN×Obj))from hp) (by simp),I3.hok.kept hk,?_⟩
 ·rfl
 ·have e2':(uw own cap σ)[i]?=some (some v):=e2
  have e1':N[i]?=some x:=e1;unfold uw at e2';by_cases hi:i<own.length
  ·rw[fu (by simpa using hi),h_]at e2'
   split at e2'<;>cases e2'
  ·rw[eU (by simpa using j5 hi),gF,bh]at e2'
   rw[CS.names,eU (j5 hi),bh]at e1';cases ec:cap[i-own.length]? with
   |none=>rw[ec]at e1';cases e1'
   |some j=>
    rw[ec]at e1' e2';have ex:X.N.getD j iy=x:=by simpa using e1'
    have ev:σ.getD j none=some v:=by simpa using e2'
    obtain⟨hj,hkind,hmem⟩:=CS.zeX j (dw ec);rw[ex]at hkind hmem;obtain⟨m,hn,hl⟩:=I.loc;have hxj:X.N[j]?=some x:=by
     rw[aG hj];rw[<-ex,aP,aG hj];rfl
    have hvj:σ[j]?=some (some v):=by
     have:j < σ.length:=by rw[I.len];exact hj
     rw[aP,aG this]at ev;rw[aG this];exact congrArg some ev
    obtain⟨u,r,l⟩:=hl j x v hxj hvj (by
     rcases hkind with z|z
     ·exact .inr (.inl z)
     ·exact .inr (.inr z))
    refine⟨u,r,?_⟩
    rcases l with⟨k,_⟩|⟨k,c,e,z⟩
    ·rcases hkind with z|z<;>(rw[z]at k;cases k)
    ·obtain⟨c',ec'⟩:=Dm CS.clos x (.inl (nM hmem))
     have:c'=c:=by
      have:=yh x c' ec';rw[e]at this;exact(fM this).symm
     subst this;refine .inr ⟨?_,c',ec',?_⟩
     ·exact Dn hmem
     ·obtain⟨o,ho,hd⟩:=z
      exact⟨o,hk _ _ (k3 _ _ ho),hd⟩
 ·obtain⟨v,o,ho,hd⟩:=I.cell x c (yh x c hx)
  exact⟨v,o,hk _ _ (k3 _ _ ho),hd⟩
 ·exact frC _ (by show s.heap.objs.size<s3.heap.objs.size;rw[z3];exact qp _)
 ·obtain⟨v,o,ho,hd⟩:=I.cell x c (yh x c hx)
  rw[bf (bQ (bw ho))];exact I.vM x c (yh x c hx)
 ·show(uw own cap σ).length=N.length
  unfold uw;rw[CS.names];simp
theorem Inv.HX{h':dW}{t':Nat}{ch:List aN}(I:Inv X pins σ H s)(k:∀b o,b∉ch->s.heap.get? b=some o->h'.get? b=some o)(hf:∀b∈ch,Df X pins H b):Inv X pins σ H { s with heap:=h',toks:=t' }:=by
 have nit:∀b u,H b=some u->b∉ch:=λb u e z=>by rw[(hf b z).1]at e;cases e
 refine I.step (g':=s.gens) (d':=s.drawn) (ch:=ch) (λb hb=>⟨(hf b hb).2.2.2.1,(hf b hb).2.1,(hf b hb).2.2.2.2.1,(hf b hb).2.2.2.2.2⟩) (λb o _ _ hc e _=>k b o hc e) (λb o _ _ hc e _=>⟨o.slots,k b o hc e⟩) (λ_ _ _ _ n=>n)
  (λb o hc e=>⟨o,k b o hc e⟩) (λ_ _ e=>e) (λ_ _ _ e=>e) (λb ps e=>⟨#[],by rw[e];simp⟩) (λm hm=>?_) (λb u e=>?_) I.bare
 ·obtain⟨o,es,ep,ho,r⟩:=hm
  exact⟨o,es,ep,k _ o (λz=>(hf _ z).2.1 rfl) ho,r⟩
 ·refine(I.hok b u e).stay (λc v hc q=>k c v ?_ q) (λ_ q=>q) λ_ _ q=>q
  rcases hc with z|z
  ·rw[z];exact nit b u e
  ·exact nit c _ z
theorem Inv.track{a:aN}{o:HO}(I:Inv X pins σ H s)(f:Df X pins H a)(new:lB X.prog X.w (upd H a o) s.heap a o):Inv X pins σ (upd H a o) s:=by
 obtain⟨f0,f1,f2,f3,f4,f5⟩:=f;have ne:∀b u,H b=some u->b≠a:=λb u e=>bV e f0
 refine⟨I.ok,I.os,I.bare,⟨I.base.keep,I.base.slot,λb ob e n hx=>?_,I.base.there,λb xs e=>?_,λb ob u e=>?_,λb ps e=>?_⟩,I.loc,I.cell,?_,λx c e=>?_,λp hp=>?_,λb u e=>?_,I.len⟩
 ·have nb:b≠a:=λz=>by
   subst z;rcases f3 with z|z
   ·exact hx z
   ·exact absurd (cO (bw e) z) (nH _)
  rw[bf nb];exact I.base.free b ob e n hx
 ·have q:=I.base.tups b xs e
  rw[bf (ne _ _ q)];exact q
 ·have q:=I.base.Ey b ob u e
  rw[bf (ne _ _ q)];exact q
 ·obtain⟨more,q⟩:=I.base.Hr b ps e
  exact⟨more,by rw[bf (ne _ _ q)];exact q⟩
 ·rw[bf (cH f1)]
  exact I.free
 ·rw[bf (f4 x c e)]
  exact I.vM x c e
 ·obtain⟨e,n,r⟩:=I.pin p hp
  exact⟨e,by rw[bf (f5 p hp)];exact n,r⟩
 ·by_cases hb:b=a
  ·subst hb
   rw[cQ]at e;cases e;exact new
  ·rw[bf hb]at e
   exact(I.hok b u e).stay (λ_ _ _ q=>q) (λc q=>by rw[bf (ne _ _ q)];exact q) λc xs q=>by rw[bf (ne _ _ q)];exact q
end
def PTs(X:Cx)(ifs:List dz)(t:TT):Prop:=
 ∀(pins:List (aN×Obj))(s:aL)(σ:St)(H:Hp)(Q:Bool->Hp->Prop),Inv X pins σ H s->t σ H Q->wpAny (model X.prog X.w) X.A (testsOf ifs X.env) (TP X pins σ Q) X.xe s
def zhH:TT:=λ_ H Q=>Q true H
theorem zaD{X:Cx}:PTs X [] zhH:=λ_ _ _ H _ I h=>wpAny_tests_nil ⟨H,I,h⟩
theorem zaE{X:Cx}{c:dz}{t:TT}(h:PT X c t):PTs X [c] t:=λpins s σ H Q I q=>wpAny_tests_one (h pins s σ H Q I q)
def Fj(J:It)(g:TG)(tc:TT)(te:TE)(σ:St)(H:Hp)(Q:VK):Prop:=
 ∀D,H D=none->∃W:Nat->Nat->List V->St->Hp->Prop,(∃m,W 0 m [] σ (upd H D (.lst [])))/\∀i m ys σ' H',W i m ys σ' H'->
  (J.stop i H'/\Q (.ref D) H')\/(J.go i H'/\∀x H2,J.yld i H' x H2->g x σ' H2 λσ3 H3=>tc σ3 H3 λb H4=>if b=true then te σ3 H4 λy H5=>
   H5 D=some (.lst ys)/\ys.length<sizeLine/\∃m',m'<m/\W (i+1) m' (ys ++ [y]) σ3 (upd H5 D (.lst (ys ++ [y])))else ∃m',m'<m/\W (i+1) m' ys σ3 H4)
def zbL(own:List Str)(cap:List Nat)(wi:TI)(g:TG)(tc:TT)(te:TE):TE:=λσ H Q=>wi σ H λJ H1=>Fj J g tc te (uw own cap σ) H1 Q
section
variable{X:Cx}{pins:List (aN×Obj)}{σ:St}{H:Hp}{s:aL}{sc:rR}{own N:List Str}{cap:List Nat}{cl:List (Str×aN)}{fp:List aN}{tg elt iter:dz}{ifs:List dz}{J:It}{it:aN}{tn:Nat->dW->Prop}{g:TG}{tc:TT}{te:TE}{wi:TI}{pos:Pos}
theorem Ly{RR:aF->aN->BK->aL->Prop}{E:aF->aL->Prop}{Q:VK}(hc:X.calm=true)(CS:sS X sc own cap N cl)(I:Inv X pins σ H s)(T:Turn X.prog X.w X.K tg J fp it tn)(st:tn 0 s.heap)(hf:∀b∈fp,Df X pins H b)
  (hg:∀f s3 H3,PG (lq X sc N cl f s3 H3) tg g)(ht:∀f s3 H3,PTs (lq X sc N cl f s3 H3) ifs tc)(he:∀f s3 H3,PE (lq X sc N cl f s3 H3) elt te)
  (h:Fj J g tc te (uw own cap σ) H Q)
  (fin:∀D C H' s',Inv X pins σ H' s'->(∃m,s'.heap.Ns C m)->Df X pins H' C->Q (.ref D) H'->RR (.ref D) C (.ok .next) s'):
  wpAny (model X.prog X.w) X.A (newList []) (λacc s₃=>wpAny (model X.prog X.w) X.A (newFunctionEnv sc X.env.globals cl [] X.env.qual none .none (some X.env)) (λcenv s₄=>
   codeAny (model X.prog X.w) X.A (.compStart (.ListComp elt [⟨tg,iter,ifs,0⟩] sc pos) 0 (.ref it) acc { cenv with scope:=relabel sc X.env }) (RR acc cenv.locals) s₄) E s₃) E s:=by
 refine iU (wpAny_newFunctionEnv CS.Yn (λy hy=>absurd hy (by simp)) (λh4 hns hsb=>?_) CS.kind)
 have hD:H s.heap.objs.size=none:=I.fresh;obtain⟨W,⟨m0,w0⟩,turn⟩:=h s.heap.objs.size hD
 generalize hs3:({ s with heap:=s.heap.push { cls:=.type "list",dict:=none,data:=.seq ([]:List aF).toArray } }:aL)=s3 at *
 have h3:=hs3.symm;have e3:s.heap.push { cls:=.type "list",dict:=none,data:=.seq ([]:List aF).toArray }=s3.heap:=by rw[h3]
 have z3:s3.heap.objs.size=s.heap.objs.size+1:=by rw[h3];exact jN ..
 have k3:∀b o,s.heap.get? b=some o->s3.heap.get? b=some o:=λb o e=>by rw[h3];exact aJ _ e
 have k4:∀b o,s3.heap.get? b=some o->h4.get? b=some o:=λb o e=>hsb.extBut b o (bQ (bw e)) (aJ _ e)
 have zaB:∀b∈fp,b<s.heap.objs.size:=λb hb=>by
  obtain⟨o,e,_⟩:=T.obj 0 _ st b hb;exact bw e
 have Ic:∀t4,Inv (lq X sc N cl fp s3 (upd H s.heap.objs.size (.lst []))) [] (uw own cap σ) (upd H s.heap.objs.size (.lst [])) { s3 with heap:=h4,toks:=t4 }:=λt4=>
  Yo (t4:=t4) CS I T st hf _ rfl s3 h3 (by simpa using hns) k4
 have st4:tn 0 h4:=T.keep _ _ _ st λb hb o e=>k4 b o (k3 b o e)
 have fr4:∀b∈fp,(upd H s.heap.objs.size (.lst [])) b=none:=λb hb=>by
  rw[bf (bQ (zaB b hb))];exact(hf b hb).1
 have stat:∀{H':Hp},(∀b∈fp,H' b=none)->∀b∈fp,Df (lq X sc N cl fp s3 (upd H s.heap.objs.size (.lst []))) [] H' b:=λ{H'}hn b hb=>by
  refine⟨hn b hb,?_,λhs=>?_,.inl hb,λx c hx=>?_,λp hp=>absurd (show p∈([]:List (aN×Obj))from hp) (by simp)⟩
  ·show b≠s3.heap.objs.size
   rw[z3];exact bQ (sJ (zaB b hb))
  ·rcases aQ.mp (I.Nt b hs)with z|z
   ·exact(hf b hb).2.1 z
   ·exact(hf b hb).2.2.1 z
  ·exact(hf b hb).2.2.2.2.1 x c (Dl CS.clos (λx c h=>by simp at h) x c hx)
 have loop:∀s5:aL,(∃t4,s5={ s3 with heap:=h4,toks:=t4 })->codeAny (model X.prog X.w) X.A (.compLoop (.ListComp elt [⟨tg,iter,ifs,0⟩] sc pos) 0 (.ref it) (.ref s.heap.objs.size) (compEnvC sc cl s3.heap.objs.size X.env))
   (RR (.ref s.heap.objs.size) s3.heap.objs.size) s5:=by
  rintro s5 ⟨t4,rfl⟩
  refine Wq (λn s'=>∃i ys σ' H',Inv (lq X sc N cl fp s3 (upd H s.heap.objs.size (.lst []))) [] σ' H' s'/\tn i s'.heap/\(∀b∈fp,H' b=none)/\W i n ys σ' H') ?_
   ⟨0,[],_,_,Ic t4,st4,fr4,w0⟩
  rintro n s' ⟨i,ys,σ',H',I',st',fr',w'⟩
  rcases turn i n ys σ' H' w' with⟨stop,q⟩|⟨go,step⟩
  ·refine jL (T.done (lq X sc N cl fp s3 (upd H s.heap.objs.size (.lst []))) rfl rfl rfl hc i [] s' σ' H' NoX I' (stat fr') st' stop) λr s6 ⟨hr,I6⟩=>?_
   subst hr;have bs:=I6.base;have un:Un (frs X.stack) fp H H' s.heap s6.heap:=by
    have neD:∀b o,s.heap.get? b=some o->b≠s.heap.objs.size:=λb o e=>bQ (bw e)
    refine⟨λb o e n hb hx=>bs.keep b o (k3 b o e) (by show upd H _ _ b=none;rw[bf (neD b o e)];exact n) hb hx,λb o e n hb hx=>bs.slot b o (k3 b o e) (by show upd H _ _ b=none;rw[bf (neD b o e)];exact n) hb hx,
     λb o e n hx=>bs.free b o (k3 b o e) (by show upd H _ _ b=none;rw[bf (neD b o e)];exact n) hx,λb o e hx=>bs.there b o (k3 b o e) hx,
     λb xs e=>bs.tups b xs (by show upd H _ _ b=_;rw[bf (bV e hD)];exact e),λb o u e=>bs.Ey b o u (by show upd H _ _ b=_;rw[bf (bV e hD)];exact e),λb ps e=>bs.Hr b ps (by show upd H _ _ b=_;rw[bf (bV e hD)];exact e)⟩
   have I7:Inv X pins σ H' s6:=I.call' (ch:=fp) (by rw[I6.os];show s3.os=s.os;rw[h3]) un I6.hok I6.bare λb hb=>⟨(hf b hb).2.2.2.1,(hf b hb).2.1,(hf b hb).2.2.2.2.1,(hf b hb).2.2.2.2.2⟩
   obtain⟨mC,nC,_⟩:=I6.loc;exact fin _ _ H' s6 I7 ⟨mC,nC⟩ (I.KN (by show s.heap.objs.size<=s3.heap.objs.size;rw[z3];exact k_ _) I6.free) q
  ·refine jL (T.item (lq X sc N cl fp s3 (upd H s.heap.objs.size (.lst []))) rfl rfl rfl hc i [] s' σ' H' NoX I' (stat fr') st' go) λr s6 ⟨u,hr,h6⟩=>?_
   subst hr;refine jL h6 λ_ s7 ⟨x,H7,I7,r7,y7,st7,fr7⟩=>?_
   have I7':=I7.pinned (stat fr7) (T.obj _ _ st7);have back:∀{σ8:St}{H8:Hp}{s8:aL},Inv (lq X sc N cl fp s3 (upd H s.heap.objs.size (.lst []))) ([]++IV fp s7.heap) σ8 H8 s8->tn (i+1) s8.heap/\∀b∈fp,H8 b=none:=λ{σ8 H8 s8}I8=>by
    refine⟨T.keep _ _ _ st7 λb hb o e=>(I8.pin (b,o) (eG _ (eG _ (yc hb e)))).1,λb hb=>?_⟩
    obtain⟨o,e,d⟩:=T.obj _ _ st7 b hb;exact(I8.pin (b,o) (eG _ (eG _ (yc hb e)))).2.1
   refine jL (hg _ _ _ _ s7 σ' H7 x u _ I7' r7 (step x H7 y7)) λ_ s8 ⟨σ8,H8,I8,q8⟩=>?_
   refine jL (ht _ _ _ _ s8 σ8 H8 _ I8 q8) λok s9 ⟨H9,I9,q9⟩=>?_
   cases ok with
   |false=>
    rw[if_neg eY]at q9 ⊢;obtain⟨m',hm,w9⟩:=q9;exact⟨m',hm,i+1,ys,σ8,H9,I9.zL,(back I9).1,(back I9).2,w9⟩
   |true=>
    rw[if_pos rfl]at q9 ⊢;refine jL (he _ _ _ _ s9 σ8 H9 _ I9 q9) λxv s10 ⟨y,H10,I10,r10,hDl,hz,m',hm,w10⟩=>?_
    refine jL (Am _ s10 σ8 H10 (.ref s.heap.objs.size) [y] (.ref s.heap.objs.size) [xv] (λ_ Ks=>Ks=upd H10 s.heap.objs.size (.lst (ys ++ [y]))) I10 rfl (.cons r10 .nil) ⟨_,ys,y,rfl,rfl,hDl,hz,rfl⟩) λ_ s11 ⟨_,H11,I11,_,e11⟩=>?_
    subst e11;exact⟨m',hm,i+1,ys ++ [y],σ8,_,I11.zL,(back I11).1,(back I11).2,w10⟩
 exact codeAny_compStart_list (loop _ ⟨_,rfl⟩) (T.self _ 0 _ _ _ st4 (loop _ ⟨_,rfl⟩))
theorem zaF(hc:X.calm=true)(CS:sS X sc own cap N cl)(hi:PI X tg iter wi)(hg:∀f s3 H3,PG (lq X sc N cl f s3 H3) tg g)(ht:∀f s3 H3,PTs (lq X sc N cl f s3 H3) ifs tc)(he:∀f s3 H3,PE (lq X sc N cl f s3 H3) elt te)
  (hs:∀x,foldedSetIterable iter X.env x=pure x:=by intro _;rfl):PE X (.ListComp elt [⟨tg,iter,ifs,0⟩] sc pos) (zbL own cap wi g tc te):=by
 intro pins s σ H Q I h;rw[eval_ListComp];refine wpAny_comprehension_free (use:=none) rfl hs (Vf CS.clos) CS.kind CS.loc (jL (hi pins s σ H _ I h) λv s1 h1=>jL h1 λitv s2 h2=>?_)
 obtain⟨it,fp,tn,J,H2,e,I2,T,st2,f2,q2⟩:=h2;subst e;refine Ly (RR:=λacc C=>compPost (model X.prog X.w) X.A X.xe none (EP X pins σ Q) acc C) (Q:=Q) hc CS I2 T st2 f2 hg ht he q2 ?_
 intro D C H' s' I' ⟨m,hn⟩ fC q;exact⟨m,hn,λh' sb=>⟨.ref D,H',I'.turned (t':=s'.toks) (λb o hb e=>(sb.2 b hb).trans e) fC.1 fC.2.1 fC.2.2.2.1 fC.2.2.2.2.1 fC.2.2.2.2.2,rfl,q⟩⟩
theorem Jk{i:Nat}{x:Str}{px spos:Pos}(hN:X.N.Nodup)(hxi:X.N[i]?=some x)(hx:Loc X.env.scope x)(hc:X.calm=true)(CS:sS X sc own cap N cl)(hi:PI X tg iter wi)(hg:∀f s3 H3,PG (lq X sc N cl f s3 H3) tg g)
  (ht:∀f s3 H3,PTs (lq X sc N cl f s3 H3) ifs tc)(he:∀f s3 H3,PE (lq X sc N cl f s3 H3) elt te)(hsw:swapsWith (.ListComp elt [⟨tg,iter,ifs,0⟩] sc pos) (some (.Name x px)) spos.line X.env=pure true:=by rfl)
  (hs:∀x,foldedSetIterable iter X.env x=pure x:=by intro _;rfl)(hf:X.fn x=true\/X.env.scope.names.lookup x=some .local:=by first|exact .inl rfl|exact .inr rfl|assumption):
  PS X (.Assign [.Name x px] (.ListComp elt [⟨tg,iter,ifs,0⟩] sc pos) spos) (zcB (zbL own cap wi g tc te) (Lj i)):=by
 intro pins s σ H D I h;rw[exec_Assign_Name_used _ _ _ _ hsw];refine aD (rT (aD (?_:wpAny _ _ _ _ _ _)))
 show wpAny _ X.A (do let _ <-comprehension (.ListComp elt [⟨tg,iter,ifs,0⟩] sc pos) sc X.env _ (newList []) false (eval iter X.env) (some (assign (.Name x px) X.env))) _ _ s
 refine aD (iB (wpAny_comprehension_free (use:=some (assign (.Name x px) X.env)) (Q:=λ_ s'=>SP X pins D .next s') rfl hs (Vf CS.clos) CS.kind CS.loc
  (jL (hi pins s σ H _ I h) λv s1 h1=>jL h1 λitv s2 h2=>?_)) (λ_ s' hq=>bA (bA hq)) λ_ _ e=>e)
 obtain⟨it,fp,tn,J,H2,e,I2,T,st2,f2,q2⟩:=h2;subst e;refine Ly (RR:=λacc C=>compPost (model X.prog X.w) X.A X.xe (some (assign (.Name x px) X.env)) (λ_ s'=>SP X pins D .next s') acc C) (Q:=λv H'=>Lj i v σ H' D.nx) hc CS I2 T st2 f2 hg ht he q2 ?_
 intro D' C H' s' I' ⟨m,hn⟩ fC q;show wpAny _ _ (assign (.Name x px) X.env (.ref D')) _ _ s';refine wpAny_assign_Name (Lh I' hN hxi hx (v:=.ref D') rfl (λs'' I'' ⟨a,sb,ha⟩=>?_) hf)
 have neC:C≠a:=by
  rcases ha with z|z
  ·rw[z];exact fC.2.1
  ·exact λy=>fC.2.2.2.2.1 x a z y.symm
 exact⟨m,hn.sameBut sb neC,λh' sb'=>⟨_,H',I''.turned (t':=s''.toks) (λb o hb e=>(sb'.2 b hb).trans e) fC.1 fC.2.1 fC.2.2.2.1 fC.2.2.2.2.1 fC.2.2.2.2.2,q⟩⟩
end
def Ite(K:ao)(a:aN):It:=
 ⟨λi H=>∃xs x,rW K H a xs/\xs[i]?=some x,λi H v H'=>∃t x,v=.ref t/\H t=none/\H'=upd H t (.tup [.int i,x])/\∀xs,rW K H a xs->xs[i]?=some x,λi H=>∃xs,rW K H a xs/\xs.length<=i⟩
theorem Wr{P:bL}{w:dB}{K:ao}{elts:List dz}{k}{tp:Pos}(a e it:aN)(hei:e≠it):Turn P w K (.Tuple elts k tp) (Ite K a) [e,it] e (λi h=>(∃old,IsEnum h e it (i:Nat) old)/\h.IsListIter it a i) where
 mem:=by simp
 obj:=λi h st b hb=>by
  obtain⟨⟨old,he⟩,⟨o,ho,c,d⟩⟩:=st;rcases aQ.mp hb with z|z
  ·subst z
   exact⟨_,he,λv z=>by cases z⟩
  ·have z':b=it:=by simpa using z
   subst z';exact⟨o,ho,λv z=>by rw[d]at z;cases z⟩
 keep:=λi h h' st kp=>⟨let⟨old,he⟩:=st.1;⟨old,kp e (by simp) _ he⟩,st.2.at λo q=>kp it (by simp) o q⟩
 item:=by
  intro X hP hw hK hc i pins s σ H E I hf st hg;subst hP hw hK;obtain⟨⟨old,he⟩,hit⟩:=st;obtain⟨xs,x,hq,hx⟩:=hg;obtain⟨its,rv,p,hz⟩:=I.list hq;obtain⟨u,hu,ru⟩:=rv.get hx;refine wpAny_pyNext_enum_item he hit p.isList (x:=u) (by simpa using hu) hei λh1 heo hit1 ht1 hz1 hk1=>?_
  refine⟨.ref s.heap.objs.size,rfl,wpAny_letOwnedTupleGo_enum heo λh2 he2 hs2=>?_⟩
  have elt:e<s.heap.objs.size:=bw he;have ilt:it<s.heap.objs.size:=by obtain⟨o,ho,_⟩:=id hit;exact bw ho
  have k2:∀b o,b∉[e,it]->s.heap.get? b=some o->h2.get? b=some o:=λb o hb q=>by
   have n1:b≠e:=λz=>hb (by simp[z])
   have n2:b≠it:=λz=>hb (by simp[z])
   exact(hs2.2 b n1).trans (hk1 b o n1 n2 q)
  have I2:Inv X pins σ H { s with heap:=h2,toks:=s.toks+1 }:=I.HX k2 hf
  have ht2:h2.get? s.heap.objs.size=some { cls:=.type "tuple",data:=.seq #[.int i s.toks,u] }:=(hs2.2 _ (jd elt)).trans ht1;have fT:Df X pins H s.heap.objs.size:=I.KN (aK _) I.fresh;have I3:Inv X pins σ (upd H s.heap.objs.size (.tup [.int i,x])) { s with heap:=h2,toks:=s.toks+1 }:=
   I2.track fT ⟨by show 2<=sizeLine;rw[fK];decide,[.int i s.toks,u],.cons ⟨_,rfl⟩ (.cons ru .nil),⟨_,ht2,rfl,_,rfl⟩⟩
  refine⟨.ref s.heap.objs.size,_,I3,rfl,⟨_,x,rfl,I.fresh,rfl,λys hy=>by rw[I.Iz hy hq];exact hx⟩,⟨⟨_,by simpa using he2⟩,hit1.at λo q=>(hs2.2 it hei.symm).trans q⟩,λb hb=>?_⟩
  rcases aQ.mp hb with z|z
  ·subst z
   rw[bf (bQ elt)];exact(hf b hb).1
  ·have z':b=it:=by simpa using z
   subst z';rw[bf (bQ ilt)];exact(hf b hb).1
 done:=by
  intro X hP hw hK hc i pins s σ H E I hf st hg;subst hP hw hK;obtain⟨⟨old,he⟩,hit⟩:=st;obtain⟨xs,hq,hx⟩:=hg;obtain⟨its,rv,p,hz⟩:=I.list hq;have hl:=rv.length;exact wpAny_pyNext_enum_end (I.ok.hd hc) he hit p.isList (by simp;omega) λh' eb=>⟨rfl,I.HX (ch:=[e,it]) (t':=s.toks) (λb o hb q=>eb b o (λz=>hb (by simp[z])) q) hf⟩
 self:=λ_ _ _ _ _ st h=>let⟨⟨_,he⟩,_⟩:=st;wpAny_pyIter_enum he h
def ze0(K:ao)(ta:TA):TI:=λσ H R=>ta σ H λvs H1=>∃a,vs=[.ref a]/\(∃xs,rW K H1 a xs)/\R (Ite K a) H1
theorem zaG{X:Cx}{a:dz}{ta:TA}{p pos tp:Pos}{elts:List dz}{k}(hg:Gl X "enumerate")(hm:X.mg "enumerate"=none)(ha:PA X [a] ta)(hs:starEach [a] X.env=[(false,eval a X.env)]:=by rfl):
  PI X (.Tuple elts k tp) (.Call (.Name "enumerate" p) [a] [] pos) (ze0 X.K ta):=by
 intro pins s σ H R I h;refine Call_ (Ez I hg hm boot_enumerate (nQ (jL (ha pos pins s σ H _ I h) λus s1 ⟨vs,H1,I1,r1,q1⟩=>?_) hs rfl))
 obtain⟨l,e,⟨xs,hq⟩,q⟩:=q1;subst e;obtain⟨u,rfl,rx⟩:=vals1 r1;cases rx;obtain⟨its,rv,pl,hz⟩:=I1.list hq;refine call_enumerate_list pl.isList λh' he hit hsz hk=>wpAny_pyIter_enum he ?_
 have I2:Inv X pins σ H1 { s1 with heap:=h' }:=I1.kept (t':=s1.toks) hk
 refine⟨_,[s1.heap.objs.size+1,s1.heap.objs.size],_,_,H1,rfl,I2,Wr l _ _ (Nat.succ_ne_self _),⟨⟨_,he⟩,hit⟩,λb hb=>?_,q⟩
 rcases aQ.mp hb with z|z
 ·subst z
  exact I1.KN (k_ _) (I1.hok.fresh (k_ _))
 ·have z':b=s1.heap.objs.size:=by simpa using z
  subst z';exact I1.KN (aK _) I1.fresh
def N5:Key->aA
 | .inl i=>.int i
 | .inr x=>.str x
mutual
inductive Rep(K:ao)(H:Hp):V->aA->Prop
 |non:Rep K H .non .none
 |bl (b:Bool):Rep K H (.bl b) (.bool b)
 |int (i:Int):Rep K H (.int i) (.int i)
 |str (x:Str):Rep K H (.str x) (.str x)
 |lst {a:aN} {xs:List V} {ds:List aA}:rW K H a xs->fX K H xs ds->Rep K H (.ref a) (.list ds)
 |tup {a:aN} {xs:List V} {ds:List aA}:xZ K H a xs->fX K H xs ds->Rep K H (.ref a) (.tuple ds)
 |dct {a:aN} {kvs:List (Key×V)} {ds:List (aA×aA)}:H a=some (.dK kvs)->ds.map (·.1)=kvs.map (λp=>N5 p.1)->fX K H (kvs.map (·.2)) (ds.map (·.2))->Rep K H (.ref a) (.dict ds)
 |dcT {a:aN} {kvs:List (List Key×V)} {ds:List (aA×aA)}:H a=some (.dT kvs)->ds.map (·.1)=kvs.map (λp=>jZ (p.1.map N5))->fX K H (kvs.map (·.2)) (ds.map (·.2))->Rep K H (.ref a) (.dict ((.none,.bool true)::ds))
 |obj {a C dx:aN} {fs:List (Str×V)} {ds:List (aA×aA)}:H a=some (.ins C dx fs)->Cls K C->(∀f∈fs.map (·.1),jG K C f)->ds.map (·.1)=fs.map (λp=>aW p.1)->fX K H (fs.map (·.2)) (ds.map (·.2))->Rep K H (.ref a) (.dict ((.none,.none)::ds))
inductive fX(K:ao)(H:Hp):List V->List aA->Prop
 |nil:fX K H [] []
 |cons {x:V} {d:aA} {xs:List V} {ds:List aA}:Rep K H x d->fX K H xs ds->fX K H (x::xs) (d::ds)
end
theorem Same.yj{K:ao}{H H':Hp}{a:aN}{xs:List V}(e:Same H H')(h:xZ K H a xs):xZ K H' a xs:=by
 rcases h with(h|⟨o,h⟩)|h
 ·exact .inl (.inl (e _ _ h))
 ·exact .inl (.inr ⟨o,e _ _ h⟩)
 ·exact .inr h
theorem Rep.mono{K:ao}{H H':Hp}(s:Same H H'){d:aA}{v:V}(r:Rep K H v d):Rep K H' v d:=
 Rep.rec (motive_1:=λv d _=>Rep K H' v d) (motive_2:=λxs ds _=>fX K H' xs ds) .non (λb=>.bl b) (λi=>.int i) (λx=>.str x) (λh _ t=>.lst (s.seq h) t) (λh _ t=>.tup (s.yj h) t) (λh k _ t=>.dct (s _ _ h) k t) (λh k _ t=>.dcT (s _ _ h) k t) (λh c n k _ t=>.obj (s _ _ h) c n k t) .nil (λ_ _ a t=>.cons a t) r
theorem fX.mono{K:ao}{H H':Hp}(s:Same H H'):∀{ds:List aA}{xs:List V},fX K H xs ds->fX K H' xs ds
 | [],_,r=>by cases r;exact .nil
 |d::ds,_,r=>by cases r with|cons a t=>exact .cons (a.mono s) (fX.mono s t)
section
variable{K:ao}{H:Hp}
theorem fX.length:∀{xs:List V}{ds:List aA},fX K H xs ds->xs.length=ds.length
 | [],_,r=>by cases r;rfl
 |x::xs,_,r=>by cases r with|cons a t=>simp[fX.length t]
theorem fX.get:∀{xs:List V}{ds:List aA}{i:Nat}{d:aA},fX K H xs ds->ds[i]?=some d->∃x,xs[i]?=some x/\Rep K H x d
 | [],_,_,_,r,e=>by cases r;simp at e
 |x::xs,_,i,d,r,e=>by
  cases r with
  |cons a t=>
   cases i with
   |zero=>simp at e;subst e;exact⟨x,rfl,a⟩
   |succ i=>simpa using fX.get (i:=i) t (by simpa using e)
theorem fX.at{xs:List V}{ds:List aA}{i:Nat}{d:aA}{x:V}(r:fX K H xs ds)(e:ds[i]?=some d)(h:xs[i]?=some x):Rep K H x d:=by
 obtain⟨y,h1,h2⟩:=r.get e;rw[h]at h1;cases h1;exact h2
theorem fX.append:∀{xs ys:List V}{ds es:List aA},fX K H xs ds->fX K H ys es->fX K H (xs++ys) (ds++es)
 | [],_,_,_,r,s=>by cases r;exact s
 |x::xs,_,_,_,r,s=>by cases r with|cons a t=>exact .cons a (fX.append t s)
theorem fX.take:∀{xs:List V}{ds:List aA}(n:Nat),fX K H xs ds->fX K H (xs.take n) (ds.take n)
 |_,_,0,_=>by simpa using fX.nil
 | [],_,_+1,r=>by cases r;exact .nil
 |x::xs,_,n+1,r=>by cases r with|cons a t=>exact .cons a (fX.take n t)
theorem fX.drop:∀{xs:List V}{ds:List aA}(n:Nat),fX K H xs ds->fX K H (xs.drop n) (ds.drop n)
 |_,_,0,r=>r
 | [],_,_+1,r=>by cases r;exact .nil
 |x::xs,_,n+1,r=>by cases r with|cons a t=>exact fX.drop n t
end
mutual
theorem pF{X:Cx}{pins:List (aN×Obj)}{σ:St}{H:Hp}{s:aL}(I:Inv X pins σ H s):∀(d:aA){v:V}{u:aF},d.canLay0=true->Rep X.K H v d->RelV v u->∃as,Reads s.heap u d as
 | .none,_,_,_,r,q=>by cases r;cases q;exact⟨_,.none⟩
 | .bool b,_,_,_,r,q=>by cases r;cases q;exact⟨_,.bool b⟩
 | .int i,_,_,_,r,q=>by cases r;obtain⟨t,rfl⟩:=q;exact⟨_,.int i t⟩
 | .str x,_,_,_,r,q=>by cases r;obtain⟨t,rfl⟩:=q;exact⟨_,.str x t⟩
 | .list ds,_,_,hc,r,q=>by
  cases r with
  |lst h t=>
   cases q;obtain⟨its,rv,⟨o,n,e,c,_,dt⟩,_⟩:=I.list h;obtain⟨as,ra⟩:=tX I ds hc t rv;exact⟨_,.list e c dt (by simpa using ra)⟩
 | .tuple ds,_,_,hc,r,q=>by
  cases r with
  |tup h t=>
   cases q;obtain⟨its,rv,⟨o,e,c,n,dt⟩,_⟩:=I.tuple h;obtain⟨as,ra⟩:=tX I ds hc t rv;exact⟨_,.tuple e c dt (by simpa using ra)⟩
 | .dict _,_,_,hc,_,_=>by cases hc
theorem tX{X:Cx}{pins:List (aN×Obj)}{σ:St}{H:Hp}{s:aL}(I:Inv X pins σ H s):∀(ds:List aA){xs:List V}{us:List aF},wu ds=true->fX X.K H xs ds->Vals xs us->∃as,ReadsAll s.heap us ds as
 | [],_,_,_,r,q=>by cases r;cases q;exact⟨_,.nil⟩
 |d::ds,_,_,hc,r,q=>by
  have hc':(d.canLay0&&wu ds)=true:=hc;rw[yK]at hc';cases r with
  |cons a t=>
   cases q with
   |cons b w=>
    obtain⟨as,h1⟩:=pF I d hc'.1 a b;obtain⟨bs,h2⟩:=tX I ds hc'.2 t w;exact⟨_,.cons h1 h2⟩
end
def Lay(n:Nat)(d:aA):Prop:=d.canLay0=true/\d.depth<=n
inductive Slot where
 |un
 |val (d:aA)
 |own (ds:List aA)
 |ref (a:aN)
structure gR(H0 H iM H':Hp):Prop where
 big:Same H H'
 j9:Same H0 iM
 sub:Same iM H'
 new:∀a,iM a≠none->H0 a≠none\/H a=none
theorem gR.refl{H0 H:Hp}(s:Same H0 H):gR H0 H H0 H:=⟨Same.refl _,Same.refl _,s,λ_ h=>.inl h⟩
theorem Same.ne{H H':Hp}(s:Same H H'){a:aN}(h:H a≠none):H' a≠none:=by
 cases e:H a with
 |none=>exact absurd e h
 |some o=>rw[s a o e];simp
theorem gR.trans{A B C D E F:Hp}(x:gR A B C D)(y:gR C D E F):gR A B E F:=
 ⟨x.big.trans y.big,x.j9.trans y.j9,y.sub,λa h=>(y.new a h).elim (x.new a) λz=>.inr (x.big.free z)⟩
theorem gR.laid{H0 H:Hp}(s:Same H0 H){p:aN}{o:HO}(h:H p=none):gR H0 H (upd H0 p o) (upd H p o):=by
 have h0:H0 p=none:=s.free h;refine⟨λb u e=>?_,λb u e=>?_,λb u e=>?_,λb e=>?_⟩
 ·rw[bf (bV e h)];exact e
 ·rw[bf (bV e h0)];exact e
 ·by_cases hb:b=p
  ·subst hb;rw[cQ]at e ⊢;exact e
  ·rw[bf hb]at e ⊢;exact s b u e
 ·by_cases hb:b=p
  ·subst hb;exact .inr h
  ·rw[bf hb]at e;exact .inl e
theorem gR.loose{H0 H:Hp}(s:Same H0 H){p:aN}{o:HO}(h:H p=none):gR H0 H H0 (upd H p o):=
 ⟨λb u e=>by rw[bf (bV e h)];exact e,Same.refl _,λb u e=>by rw[bf (bV (s b u e) h)];exact s b u e,λ_ e=>.inl e⟩
def Yp(K:ao)(B H0 H:Hp):Slot->Option (Option V)->Prop
 | .un,_=>True
 | .val d,o=>∃v,o=some (some v)/\Rep K H0 v d
 | .own ds,o=>∃p xs,o=some (some (.ref p))/\H p=some (.lst xs)/\H0 p=none/\B p=none/\fX K H0 xs ds
 | .ref a,o=>o=some (some (.ref a))
structure kj(K:ao)(B0 B H0 H:Hp)(σ:St)(δ:List Slot):Prop where
 ent:gR B0 B H0 H
 len:σ.length=δ.length
 slot:∀(i:Nat)sl,δ[i]?=some sl->Yp K B H0 H sl σ[i]?
 apart:∀(i j:Nat)ds es p,i≠j->δ[i]?=some (.own ds)->δ[j]?=some (.own es)->σ[i]?=some (some (.ref p))->σ[j]?≠some (some (.ref p))
section
variable{K:ao}{B0 B H0 H iM H':Hp}{σ:St}{δ:List Slot}
theorem kj.sub(f:kj K B0 B H0 H σ δ):Same H0 H:=f.ent.sub
theorem kj.grow(f:kj K B0 B H0 H σ δ)(g:gR H0 H iM H'):kj K B0 B iM H' σ δ:=by
 refine⟨f.ent.trans g,f.len,λi sl e=>?_,f.apart⟩
 have q:=f.slot i sl e;cases sl with
 |un=>trivial
 |ref a=>exact q
 |val d=>obtain⟨v,h1,h2⟩:=q;exact⟨v,h1,h2.mono g.j9⟩
 |own ds=>
  obtain⟨p,xs,h1,h2,h3,h4,h5⟩:=q;refine⟨p,xs,h1,g.big _ _ h2,?_,h4,h5.mono g.j9⟩
  cases e2:iM p with
  |none=>rfl
  |some o=>
   rcases g.new p (by rw[e2];simp)with z|z
   ·exact absurd h3 z
   ·rw[h2]at z;cases z
theorem kj.val(f:kj K B0 B H0 H σ δ){i:Nat}{d:aA}(h:δ[i]?=some (.val d)):∃v,σ[i]?=some (some v)/\Rep K H0 v d:=f.slot i _ h
theorem kj.set(f:kj K B0 B H0 H σ δ){i:Nat}{d:aA}{v:V}(r:Rep K H0 v d):kj K B0 B H0 H (σ.set i (some v)) (δ.set i (.val d)):=by
 refine⟨f.ent,by simp[f.len],λj sl e=>?_,λj k ds es p hjk e1 e2 e3=>?_⟩
 ·by_cases hj:j=i
  ·subst hj
   have hl:j < δ.length:=by
    have:=(aV.mp e).1;simpa using this
   rw[bF hl]at e;cases e;rw[bF (by rw[f.len];exact hl)]
   exact⟨v,rfl,r⟩
  ·rw[bB (cH hj)]at e
   rw[bB (cH hj)];exact f.slot j sl e
 ·have nj:j≠i:=λz=>by
   subst z;have hl:j < δ.length:=by simpa using(aV.mp e1).1
   rw[bF hl]at e1;cases e1
  have nk:k≠i:=λz=>by
   subst z;have hl:k < δ.length:=by simpa using(aV.mp e2).1
   rw[bF hl]at e2;cases e2
  rw[bB (cH nj)]at e1 e3;rw[bB (cH nk)]at e2 ⊢;exact f.apart j k ds es p hjk e1 e2 e3
theorem kj.N6(f:kj K B0 B H0 H σ δ){i:Nat}{ds:List aA}{p:aN}{xs:List V}(h1:H p=some (.lst xs))(h2:H0 p=none)(h3:B p=none)(r:fX K H0 xs ds)(hn:∀(j:Nat)es,δ[j]?=some (.own es)->σ[j]?≠some (some (.ref p))):
  kj K B0 B H0 H (σ.set i (some (.ref p))) (δ.set i (.own ds)):=by
 refine⟨f.ent,by simp[f.len],λj sl e=>?_,λj k ds' es q hjk e1 e2 e3=>?_⟩
 ·by_cases hj:j=i
  ·subst hj
   have hl:j < δ.length:=by simpa using(aV.mp e).1
   rw[bF hl]at e;cases e;rw[bF (by rw[f.len];exact hl)]
   exact⟨p,xs,rfl,h1,h2,h3,r⟩
  ·rw[bB (cH hj)]at e
   rw[bB (cH hj)];exact f.slot j sl e
 ·have hlj:j < δ.length:=by simpa using(aV.mp e1).1
  have hlk:k < δ.length:=by simpa using(aV.mp e2).1
  by_cases nj:j=i
  ·subst nj
   rw[bF (by rw[f.len];exact hlj)]at e3
   cases e3;rw[bB hjk]at e2 ⊢;exact hn k es e2
  ·rw[bB (cH nj)]at e1 e3
   by_cases nk:k=i
   ·subst nk
    rw[bF (by rw[f.len];exact hlk)]
    intro z;cases z;exact hn j ds' e1 e3
   ·rw[bB (cH nk)]at e2 ⊢
    exact f.apart j k ds' es q hjk e1 e2 e3
theorem kj.push(f:kj K B0 B H0 H σ δ){i:Nat}{ds:List aA}{p:aN}{xs:List V}{y:V}{d:aA}(hi:δ[i]?=some (.own ds))(hp:σ[i]?=some (some (.ref p)))(h1:H p=some (.lst xs))(ry:Rep K H0 y d):
  kj K B0 B H0 (upd H p (.lst (xs ++ [y]))) σ (δ.set i (.own (ds ++ [d]))):=by
 obtain⟨p',xs',e1,e2,e3,e4,e5⟩:=f.slot i _ hi;rw[hp]at e1;cases e1;rw[h1]at e2;cases e2;have hl:i < δ.length:=(aV.mp hi).1;refine⟨⟨λb u e=>?_,f.ent.j9,λb u e=>?_,f.ent.new⟩,by simp[f.len],λj sl e=>?_,λj k ds' es q hjk a1 a2 a3=>?_⟩
 ·have:b≠p:=bV e e4
  rw[bf this];exact f.ent.big b u e
 ·have:b≠p:=bV e e3
  rw[bf this];exact f.ent.sub b u e
 ·by_cases hj:j=i
  ·subst hj
   rw[bF hl]at e;cases e;exact⟨p,xs ++ [y],hp,cQ,e3,e4,e5.append (.cons ry .nil)⟩
  ·rw[bB (cH hj)]at e
   have q:=f.slot j sl e;cases sl with
   |un=>trivial
   |ref a=>exact q
   |val d=>exact q
   |own ds'=>
    obtain⟨p2,xs2,g1,g2,g3,g4,g5⟩:=q;have:p2≠p:=λz=>by subst z;exact f.apart i j ds ds' p2 (cH hj) hi e hp g1
    exact⟨p2,xs2,g1,by rw[bf this];exact g2,g3,g4,g5⟩
 ·have c1:∃Z9,δ[j]?=some (.own Z9):=by
   by_cases hj:j=i
   ·subst hj;exact⟨_,hi⟩
   ·rw[bB (cH hj)]at a1;exact⟨_,a1⟩
  have c2:∃Z9,δ[k]?=some (.own Z9):=by
   by_cases hk:k=i
   ·subst hk;exact⟨_,hi⟩
   ·rw[bB (cH hk)]at a2;exact⟨_,a2⟩
  obtain⟨d1,c1⟩:=c1;obtain⟨d2,c2⟩:=c2;exact f.apart j k d1 d2 q hjk c1 c2 a3
theorem kj.freeze(f:kj K B0 B H0 H σ δ){i:Nat}{ds:List aA}{p:aN}{xs:List V}(hi:δ[i]?=some (.own ds))(hp:σ[i]?=some (some (.ref p)))(h1:H p=some (.lst xs)):
  kj K B0 B (upd H0 p (.lst xs)) H σ (δ.set i (.val (.list ds)))/\Same H0 (upd H0 p (.lst xs)):=by
 obtain⟨p',xs',e1,e2,e3,e4,e5⟩:=f.slot i _ hi;rw[hp]at e1;cases e1;rw[h1]at e2;cases e2;have hl:i < δ.length:=(aV.mp hi).1;have sm:Same H0 (upd H0 p (.lst xs)):=λb u e=>by rw[bf (bV e e3)];exact e
 refine⟨⟨⟨f.ent.big,f.ent.j9.trans sm,λb u e=>?_,λb e=>?_⟩,by simp[f.len],λj sl e=>?_,λj k ds' es q hjk a1 a2 a3=>?_⟩,sm⟩
 ·by_cases hb:b=p
  ·subst hb;rw[cQ]at e;rw[<-e];exact h1
  ·rw[bf hb]at e;exact f.ent.sub b u e
 ·by_cases hb:b=p
  ·subst hb;exact .inr e4
  ·rw[bf hb]at e;exact f.ent.new b e
 ·by_cases hj:j=i
  ·subst hj
   rw[bF hl]at e;cases e;exact⟨.ref p,hp,.lst (rW.of cQ) (e5.mono sm)⟩
  ·rw[bB (cH hj)]at e
   have q:=f.slot j sl e;cases sl with
   |un=>trivial
   |ref a=>exact q
   |val d=>obtain⟨v,g1,g2⟩:=q;exact⟨v,g1,g2.mono sm⟩
   |own ds'=>
    obtain⟨p2,xs2,g1,g2,g3,g4,g5⟩:=q;have:p2≠p:=λz=>by subst z;exact f.apart i j ds ds' p2 (cH hj) hi e hp g1
    exact⟨p2,xs2,g1,g2,by rw[bf this];exact g3,g4,g5.mono sm⟩
 ·have nj:j≠i:=λz=>by subst z;rw[bF hl]at a1;cases a1
  have nk:k≠i:=λz=>by subst z;rw[bF hl]at a2;cases a2
  rw[bB (cH nj)]at a1;rw[bB (cH nk)]at a2;exact f.apart j k ds' es q hjk a1 a2 a3
end
def cE(X:Cx)(e:dz):TE:=λσ H Q=>∀pins s,Inv X pins σ H s->wpAny (model X.prog X.w) X.A (eval e X.env) (EP X pins σ Q) X.xe s
def cT(X:Cx)(e:dz):TT:=λσ H Q=>∀pins s,Inv X pins σ H s->wpAny (model X.prog X.w) X.A (isTrue e X.env (eval e X.env)) (TP X pins σ Q) X.xe s
def cS(X:Cx)(st:mj):TS:=λD σ H=>∀pins s,Inv X pins σ H s->wpAny (model X.prog X.w) X.A (exec st X.env) (SP X pins D) X.xe s
def Vg(X:Cx)(st:List mj):TS:=λD σ H=>∀pins s,Inv X pins σ H s->wpAny (model X.prog X.w) X.A (execs st X.env) (SP X pins D) X.xe s
theorem fZ{X:Cx}{e:dz}:PE X e (cE X e):=λpins s _ _ _ I h=>h pins s I
theorem wU{X:Cx}{e:dz}:PT X e (cT X e):=λpins s _ _ _ I h=>h pins s I
theorem Yq{X:Cx}{e:mj}:PS X e (cS X e):=λpins s _ _ _ I h=>h pins s I
theorem tY{X:Cx}{e:List mj}:UJ X e (Vg X e):=λpins s _ _ _ I h=>h pins s I
def VE(X:Cx)(e:dz)(δ:List Slot)(d:aA):Prop:=∀B0 B σ H0 H Q,kj X.K B0 B H0 H σ δ->(∀v iM H',gR H0 H iM H'->Rep X.K iM v d->Q v H')->cE X e σ H Q
def VO(X:Cx)(e:dz)(δ:List Slot)(ds:List aA):Prop:=∀B0 B σ H0 H Q,kj X.K B0 B H0 H σ δ->
 (∀p xs iM H',gR H0 H iM H'->H p=none->iM p=none->H' p=some (.lst xs)->fX X.K iM xs ds->Q (.ref p) H')->cE X e σ H Q
def VT(X:Cx)(e:dz)(δ:List Slot)(b:Bool):Prop:=∀B0 B σ H0 H Q,kj X.K B0 B H0 H σ δ->(∀iM H',gR H0 H iM H'->Q b H')->cT X e σ H Q
def VA(X:Cx)(es:List dz)(δ:List Slot)(ds:List aA):Prop:=∃t,PA X es t/\∀B0 B σ H0 H Q,kj X.K B0 B H0 H σ δ->(∀vs iM H',gR H0 H iM H'->fX X.K iM vs ds->Q vs H')->t σ H Q
theorem VE.of{X:Cx}{e:dz}{δ:List Slot}{d:aA}{t:TE}(h:PE X e t)(q:∀B0 B σ H0 H Q,kj X.K B0 B H0 H σ δ->(∀v iM H',gR H0 H iM H'->Rep X.K iM v d->Q v H')->t σ H Q):VE X e δ d:=
 λB0 B σ H0 H Q f k pins s I=>h pins s σ H Q I (q B0 B σ H0 H Q f k)
theorem VO.of{X:Cx}{e:dz}{δ:List Slot}{ds:List aA}{t:TE}(h:PE X e t)(q:∀B0 B σ H0 H Q,kj X.K B0 B H0 H σ δ->
  (∀p xs iM H',gR H0 H iM H'->H p=none->iM p=none->H' p=some (.lst xs)->fX X.K iM xs ds->Q (.ref p) H')->t σ H Q):VO X e δ ds:=
 λB0 B σ H0 H Q f k pins s I=>h pins s σ H Q I (q B0 B σ H0 H Q f k)
theorem VT.of{X:Cx}{e:dz}{δ:List Slot}{b:Bool}{t:TT}(h:PT X e t)(q:∀B0 B σ H0 H Q,kj X.K B0 B H0 H σ δ->(∀iM H',gR H0 H iM H'->Q b H')->t σ H Q):VT X e δ b:=
 λB0 B σ H0 H Q f k pins s I=>h pins s σ H Q I (q B0 B σ H0 H Q f k)
theorem VO.ve{X:Cx}{e:dz}{δ:List Slot}{ds:List aA}(h:VO X e δ ds):VE X e δ (.list ds):=λB0 B σ H0 H Q f k=>h B0 B σ H0 H Q f λp xs iM H' g h1 h2 h3 r=>by
 have sm:Same iM (upd iM p (.lst xs)):=λb u e=>by rw[bf (bV e h2)];exact e
 refine k (.ref p) (upd iM p (.lst xs)) H' ⟨g.big,g.j9.trans sm,λb u e=>?_,λb e=>?_⟩ (.lst (rW.of cQ) (r.mono sm))
 ·by_cases hb:b=p
  ·subst hb;rw[cQ]at e;rw[<-e];exact h3
  ·rw[bf hb]at e;exact g.sub b u e
 ·by_cases hb:b=p
  ·subst hb;exact .inr h1
  ·rw[bf hb]at e;exact g.new b e
def HY(K:ao)(r:R2)(d1 d2 d:aA):Prop:=∀x y H0 H Q,Same H0 H->Rep K H0 x d1->Rep K H0 y d2->(∀v iM H',gR H0 H iM H'->Rep K iM v d->Q v H')->r x y H Q
section
variable{X:Cx}{a b c e:dz}{δ:List Slot}{d d1 d2 d3:aA}{pos:Pos}
theorem aj(i:Nat){x:Str}(h:δ[i]?=some (.val d))(hN:X.N[i]?=some x:=by rfl)(hv:PK X.env.scope x:=by first|exact bG rfl|exact fj (bG rfl)|exact fj (fj rfl))(hd:(x==("__debug__":Str))=false:=by decide)
  (hcd:(x==("__classdict__":Str))=false:=by decide):VE X (.Name x pos) δ d:=
 .of (j8 hN hv hd hcd) λB0 B σ H0 H Q f k=>let⟨v,h1,h2⟩:=f.val h;⟨v,h1,k v H0 H (.refl f.sub) h2⟩
theorem aH{i:Int}{j}:VE X (.Constant (.int i) j pos) δ (.int i):=.of zcs λ_ _ _ _ _ _ f k=>k _ _ _ (.refl f.sub) (.int i)
theorem Gq{i:Bool}{j}:VE X (.Constant (.bool i) j pos) δ (.bool i):=.of zem λ_ _ _ _ _ _ f k=>k _ _ _ (.refl f.sub) (.bl i)
theorem lJ{j}:VE X (.Constant .none j pos) δ .none:=.of zct λ_ _ _ _ _ _ f k=>k _ _ _ (.refl f.sub) .non
theorem aU{i:Str}{j}:VE X (.Constant (.str i) j pos) δ (.str i):=.of zcu λ_ _ _ _ _ _ f k=>k _ _ _ (.refl f.sub) (.str i)
theorem two_d{r:R2}(hd:HY X.K r d1 d2 d)(h1:VE X a δ d1)(h2:VE X b δ d2):∀B0 B σ H0 H Q,kj X.K B0 B H0 H σ δ->(∀v iM H',gR H0 H iM H'->Rep X.K iM v d->Q v H')->tOp r (cE X a) (cE X b) σ H Q:=λB0 B σ H0 H Q f k=>
 h1 B0 B σ H0 H _ f λv H1 gY g1 r1=>h2 B0 B σ H1 gY _ (f.grow g1) λu H2 nA g2 r2=>hd v u H2 nA Q g2.sub (r1.mono g2.j9) r2 λw H3 CN g3 r3=>k w H3 CN ((g1.trans g2).trans g3) r3
theorem BZ{op:Operator}{r:R2}(ho:xU X (binaryOp op) r)(hd:HY X.K r d1 d2 d)(h1:VE X a δ d1)(h2:VE X b δ d2):VE X (.BinOp a op b pos) δ d:=.of (UW ho fZ fZ) (two_d hd h1 h2)
theorem B_{op:Hw}{r:R2}(ho:xU X (compareOp op) r)(hd:HY X.K r d1 d2 d)(h1:VE X a δ d1)(h2:VE X b δ d2)(hm:behindInMarks op b=false):VE X (.Compare a [op] [b] pos) δ d:=.of (U3 ho fZ fZ hm) (two_d hd h1 h2)
theorem lK{op:Hw}{r:R2}{k:Bool}(ho:xU X (compareOp op) r)(hd:HY X.K r d1 d2 (.bool k))(h1:VE X a δ d1)(h2:VE X b δ d2)(hm:behindInMarks op b=false):VT X (.Compare a [op] [b] pos) δ k:=
 .of (zak ho fZ fZ hm) λB0 B σ H0 H Q f q=>two_d hd h1 h2 B0 B σ H0 H _ f λv iM H' g r=>by cases r;exact⟨_,rfl,q iM H' g⟩
theorem Ss{r:R2}(ho:Z8 X r)(hd:HY X.K r d1 d2 d)(h1:VE X a δ d1)(h2:VE X b δ d2)(hs:yg b:=by intro _ _;rfl):VE X (.Subscript a b pos) δ d:=.of (Yd ho fZ fZ hs) (two_d hd h1 h2)
end
theorem ze1{K:ao}{g:Int->Int->Int}(i j:Int):HY K (Z6 λi j=>.int (g i j)) (.int i) (.int j) (.int (g i j)):=λx y H0 H Q s r1 r2 k=>by cases r1;cases r2;exact⟨_,_,rfl,rfl,k _ _ _ (.refl s) (.int _)⟩
theorem Ht{K:ao}{g:Int->Int->Bool}(i j:Int):HY K (Z6 λi j=>.bl (g i j)) (.int i) (.int j) (.bool (g i j)):=λx y H0 H Q s r1 r2 k=>by cases r1;cases r2;exact⟨_,_,rfl,rfl,k _ _ _ (.refl s) (.bl _)⟩
theorem zcX{K:ao}{C:Int->Int->Prop}{g:Int->Int->Int}(i j:Int)(h:C i j):HY K (rI C λi j=>.int (g i j)) (.int i) (.int j) (.int (g i j)):=λx y H0 H Q s r1 r2 k=>by cases r1;cases r2;exact⟨_,_,rfl,rfl,h,k _ _ _ (.refl s) (.int _)⟩
def zcY(K:ao)(n:Nat)(g:aA->aA->Bool):R2:=λx y H Q=>∃dx dy,Rep K H x dx/\Rep K H y dy/\Lay n dx/\Lay n dy/\Q (.bl (g dx dy)) H
theorem Sv{X:Cx}{n:Nat}(hu:X.A.units+n+2<cLine):xU X (compareOp .Eq) (zcY X.K n λx y=>fD x y):=by
 intro pins s σ H x y v u Q I rx ry ⟨dx,dy,r1,r2,l1,l2,q⟩;obtain⟨as,ra⟩:=pF I dx l1.1 r1 rx;obtain⟨bs,rb⟩:=pF I dy l2.1 r2 ry;have h1:=l1.2;exact SeqAt.compareEq_reads ra rb l1.1 l2.1 (by omega) ⟨.bl _,H,I,rfl,q⟩
theorem Yr{X:Cx}{n:Nat}(hu:X.A.units+n+2<cLine):xU X (compareOp .NotEq) (zcY X.K n λx y=>!fD x y):=by
 intro pins s σ H x y v u Q I rx ry ⟨dx,dy,r1,r2,l1,l2,q⟩;obtain⟨as,ra⟩:=pF I dx l1.1 r1 rx;obtain⟨bs,rb⟩:=pF I dy l2.1 r2 ry;have h1:=l1.2;exact SeqAt.neOverData X.prog X.w X.A X.xe s v u dx dy as bs _ ra rb l1.1 l2.1 (by omega) ⟨.bl _,H,I,rfl,q⟩
def Dp(d:aA):aA->Bool
 | .list xs=>xs.any λy=>fD y d
 | .tuple xs=>xs.any λy=>fD y d
 |_=>false
def isSeq:aA->Bool
 | .list _=>true
 | .tuple _=>true
 |_=>false
def zcZ(K:ao)(n:Nat)(neg:Bool):R2:=λx y H Q=>∃dx dy,Rep K H x dx/\Rep K H y dy/\isSeq dy=true/\Lay n dx/\Lay n dy/\Q (.bl (if neg then !Dp dx dy else Dp dx dy)) H
theorem Ys{X:Cx}{n:Nat}(hu:X.A.units+n+2<cLine):xU X (compareOp .In) (zcZ X.K n false):=by
 intro pins s σ H x y v u Q I rx ry ⟨dx,dy,r1,r2,hs,l1,l2,q⟩;obtain⟨as,ra⟩:=pF I dx l1.1 r1 rx;obtain⟨bs,rb⟩:=pF I dy l2.1 r2 ry;have h1:=l1.2;cases dy with
 |list ys=>exact SeqAt.in_list_reads rb ra l2.1 l1.1 (by omega) ⟨.bl _,H,I,rfl,q⟩
 |tuple ys=>exact SeqAt.in_tuple_reads rb ra l2.1 l1.1 (by omega) ⟨.bl _,H,I,rfl,q⟩
 |_=>cases hs
theorem Ws{X:Cx}{n:Nat}(hu:X.A.units+n+2<cLine):xU X (compareOp .NotIn) (zcZ X.K n true):=by
 intro pins s σ H x y v u Q I rx ry ⟨dx,dy,r1,r2,hs,l1,l2,q⟩;obtain⟨as,ra⟩:=pF I dx l1.1 r1 rx;obtain⟨bs,rb⟩:=pF I dy l2.1 r2 ry;have h1:=l1.2;cases dy with
 |list ys=>exact SeqAt.notIn_list_reads rb ra l2.1 l1.1 (by omega) ⟨.bl _,H,I,rfl,q⟩
 |tuple ys=>exact SeqAt.notIn_tuple_reads rb ra l2.1 l1.1 (by omega) ⟨.bl _,H,I,rfl,q⟩
 |_=>cases hs
theorem Qf{K:ao}{n:Nat}{g:aA->aA->Bool}{d1 d2:aA}(l1:Lay n d1)(l2:Lay n d2):HY K (zcY K n g) d1 d2 (.bool (g d1 d2)):=λx y H0 H Q s r1 r2 k=>⟨d1,d2,r1.mono s,r2.mono s,l1,l2,k _ _ _ (.refl s) (.bl _)⟩
theorem zc0{K:ao}{n:Nat}{neg:Bool}{d1 d2:aA}(hs:isSeq d2=true)(l1:Lay n d1)(l2:Lay n d2):HY K (zcZ K n neg) d1 d2 (.bool (if neg then !Dp d1 d2 else Dp d1 d2)):=λx y H0 H Q s r1 r2 k=>
 ⟨d1,d2,r1.mono s,r2.mono s,hs,l1,l2,k _ _ _ (.refl s) (.bl _)⟩
theorem zhN{K:ao}{ds:List aA}{i:Int}{d:aA}(h:yN ds i=some d):HY K (rIx K) (.list ds) (.int i) d:=λx y H0 H Q s r1 r2 k=>by
 cases r2;cases r1 with
 |lst hq r=>
  rename_i p xs
  have hl:=r.length;unfold yN at h;cases e:Z7 ds.length i with
  |none=>rw[e]at h;cases h
  |some j=>
   rw[e]at h;obtain⟨v,hv,rv⟩:=r.get (i:=j) (d:=d) h;exact .inl ⟨p,xs,i,v,rfl,rfl,s.seq hq,by unfold yN;rw[hl,e];exact hv,k v _ _ (.refl s) rv⟩
theorem ze2{K:ao}{ds:List aA}{i:Int}{d:aA}(h:yN ds i=some d):HY K (rIx K) (.tuple ds) (.int i) d:=λx y H0 H Q s r1 r2 k=>by
 cases r2;cases r1 with
 |tup hq r=>
  rename_i p xs
  have hl:=r.length;unfold yN at h;cases e:Z7 ds.length i with
  |none=>rw[e]at h;cases h
  |some j=>
   rw[e]at h;obtain⟨v,hv,rv⟩:=r.get (i:=j) (d:=d) h;exact .inr (.inl ⟨p,xs,i,v,rfl,rfl,s.yj hq,by unfold yN;rw[hl,e];exact hv,k v _ _ (.refl s) rv⟩)
def ze3(K:ao):R2:=λx y H Q=>∃l b xs zs,x=.ref l/\y=.ref b/\rW K H l xs/\rW K H b zs/\xs.length+zs.length<=sizeLine/\∀p,H p=none->Q (.ref p) (upd H p (.lst (xs++zs)))
theorem zaH{X:Cx}:xU X (binaryOp .Add) (ze3 X.K):=by
 intro pins s σ H x y v u Q I rx ry h;obtain⟨l,b,xs,zs,rfl,rfl,hl,hb,hz,q⟩:=h;cases rx;cases ry;obtain⟨its,r1,⟨⟨cls,dd,data,sl⟩,n,e1,c1,_,d1⟩,z1⟩:=I.list hl;obtain⟨its2,r2,⟨⟨cls2,dd2,data2,sl2⟩,n2,e2,c2,_,d2⟩,z2⟩:=I.list hb;simp only at c1 d1 c2 d2;subst c1 d1 c2 d2;have l1:=r1.length;have l2:=r2.length;refine concat_meets ⟨_,e1,rfl⟩ ⟨_,e2,rfl⟩ noFill_list_add seq_list_add PySem.F.slot_list_add PySem.F.entry_list_add (PySem.F.args_list_add_2 _ _) (list_addW l b its.toArray its2.toArray n n2 dd dd2 sl sl2 (by rw[bM,bM];omega)) ⟨e1,e2,?_⟩
 rw[show its.toArray++its2.toArray=(its++its2).toArray by simp]
 exact⟨.ref _,_,I.zhB (t':=s.toks) (r1.append r2) (by rw[bK];omega),rfl,q _ I.fresh⟩
section
variable{X:Cx}{a b c e:dz}{es:List dz}{δ:List Slot}{d d1 d2 d3:aA}{ds:List aA}{pos:Pos}{i j:Int}{k:Nat}
theorem iQ(h1:VE X a δ (.int i))(h2:VE X b δ (.int j)):VE X (.BinOp a .Add b pos) δ (.int (i+j)):=BZ zcE (ze1 i j) h1 h2
theorem Sw(h1:VE X a δ (.int i))(h2:VE X b δ (.int j)):VE X (.BinOp a .Sub b pos) δ (.int (i-j)):=BZ zcF (ze1 i j) h1 h2
theorem zP(h1:VE X a δ (.int i))(h2:VE X b δ (.int j))(h:zai i j):VE X (.BinOp a .Mult b pos) δ (.int (i*j)):=BZ zcG (zcX i j h) h1 h2
theorem eZ(h1:VE X a δ (.int i))(h2:VE X b δ (.int j))(h:0<j):VE X (.BinOp a .Mod b pos) δ (.int (i%j)):=BZ zcH (zcX i j h) h1 h2
theorem jJ(h1:VE X a δ (.int i))(h2:VE X b δ (.int j))(h:zeB i j):VE X (.BinOp a .FloorDiv b pos) δ (.int (i/j)):=BZ zaj (zcX i j h) h1 h2
theorem ze4(h1:VE X a δ (.int i))(h2:VE X b δ (.int j)):VE X (.Compare a [.Gt] [b] pos) δ (.bool (decide (j<i))):=B_ zbH (Ht i j) h1 h2 (jQ _)
theorem yO(h1:VE X a δ (.int i))(h2:VE X b δ (.int j)):VT X (.Compare a [.Lt] [b] pos) δ (decide (i<j)):=lK zeC (Ht i j) h1 h2 (jQ _)
theorem Lz(h1:VE X a δ (.int i))(h2:VE X b δ (.int j)):VT X (.Compare a [.Gt] [b] pos) δ (decide (j<i)):=lK zbH (Ht i j) h1 h2 (jQ _)
theorem zbM(h1:VE X a δ (.int i))(h2:VE X b δ (.int j)):VT X (.Compare a [.GtE] [b] pos) δ (decide (j<=i)):=lK zeD (Ht i j) h1 h2 (jQ _)
theorem KR(hr:jH k X.A):X.A.units+20+2<cLine:=by have:=hr.un;omega
theorem c7(hr:jH k X.A)(l1:Lay 20 d1)(l2:Lay 20 d2)(h1:VE X a δ d1)(h2:VE X b δ d2):VT X (.Compare a [.Eq] [b] pos) δ (fD d1 d2):=lK (Sv (KR hr)) (Qf l1 l2) h1 h2 (jQ _)
theorem qu(hr:jH k X.A)(l1:Lay 20 d1)(l2:Lay 20 d2)(h1:VE X a δ d1)(h2:VE X b δ d2):VT X (.Compare a [.NotEq] [b] pos) δ (!fD d1 d2):=lK (Yr (KR hr)) (Qf l1 l2) h1 h2 (jQ _)
theorem Dq(hr:jH k X.A)(l1:Lay 20 d1)(l2:Lay 20 d2)(h1:VE X a δ d1)(h2:VE X b δ d2):VE X (.Compare a [.Eq] [b] pos) δ (.bool (fD d1 d2)):=B_ (Sv (KR hr)) (Qf l1 l2) h1 h2 (jQ _)
theorem ze5(hr:jH k X.A)(hs:isSeq d2=true)(l1:Lay 20 d1)(l2:Lay 20 d2)(h1:VE X a δ d1)(h2:VE X b δ d2)(hm:behindInMarks .In b=false:=by with_unfolding_all rfl):VT X (.Compare a [.In] [b] pos) δ (Dp d1 d2):=lK (Ys (KR hr)) (zc0 (neg:=false) hs l1 l2) h1 h2 hm
theorem nZ(hr:jH k X.A)(hs:isSeq d2=true)(l1:Lay 20 d1)(l2:Lay 20 d2)(h1:VE X a δ d1)(h2:VE X b δ d2)(hm:behindInMarks .NotIn b=false:=by with_unfolding_all rfl):VT X (.Compare a [.NotIn] [b] pos) δ (!Dp d1 d2):=lK (Ws (KR hr)) (zc0 (neg:=true) hs l1 l2) h1 h2 hm
theorem lD(h1:VE X a δ (.list ds))(h2:VE X b δ (.int i))(h:yN ds i=some d)(hs:yg b:=by intro _ _;rfl):VE X (.Subscript a b pos) δ d:=Ss Nz (zhN h) h1 h2 hs
theorem cY(h1:VE X a δ (.tuple ds))(h2:VE X b δ (.int i))(h:yN ds i=some d)(hs:yg b:=by intro _ _;rfl):VE X (.Subscript a b pos) δ d:=Ss Nz (ze2 h) h1 h2 hs
theorem zQ:PT X e (λ_ _ _=>False):=λ_ _ _ _ _ _ h=>h.elim
theorem u6{k:Bool}(h:VT X a δ k):VT X (.UnaryOp .Not a pos) δ (!k):=.of (EY wU) λB0 B σ H0 H Q f q=>h B0 B σ H0 H _ f q
theorem qd{k1 k2:Bool}(h1:VT X a δ k1)(h2:k1=true->VT X b δ k2):VT X (.BoolOp .And [a,b] pos) δ (k1&&k2):=by
 cases k1 with
 |true=>
  exact .of (pw_and wU (pw_and1 wU)).pt λB0 B σ H0 H Q f q=>h1 B0 B σ H0 H _ f λH1 gY g=>by
   rw[if_pos rfl];exact h2 rfl B0 B σ H1 gY _ (f.grow g) λH2 nA g2=>q H2 nA (g.trans g2)
 |false=>
  exact .of (pw_and wU (pw_and1 zQ)).pt λB0 B σ H0 H Q f q=>h1 B0 B σ H0 H _ f λH1 gY g=>by
   rw[if_neg eY];exact q H1 gY g
theorem oW{k1 k2:Bool}(h1:VT X a δ k1)(h2:k1=false->VT X b δ k2):VT X (.BoolOp .Or [a,b] pos) δ (k1||k2):=by
 cases k1 with
 |false=>
  exact .of (pw_or wU (pw_or1 wU)).pt λB0 B σ H0 H Q f q=>h1 B0 B σ H0 H _ f λH1 gY g=>by
   rw[if_neg eY];exact h2 rfl B0 B σ H1 gY _ (f.grow g) λH2 nA g2=>q H2 nA (g.trans g2)
 |true=>
  exact .of (pw_or wU (pw_or1 zQ)).pt λB0 B σ H0 H Q f q=>h1 B0 B σ H0 H _ f λH1 gY g=>by
   rw[if_pos rfl];exact q H1 gY g
theorem Yt{k1 k2 k3:Bool}(h1:VT X a δ k1)(h2:k1=false->VT X b δ k2)(h3:k1=false->k2=false->VT X c δ k3):VT X (.BoolOp .Or [a,b,c] pos) δ (k1||(k2||k3)):=by
 cases k1 with
 |true=>
  exact .of (pw_or wU (pw_or zQ (pw_or1 zQ))).pt λB0 B σ H0 H Q f q=>h1 B0 B σ H0 H _ f λH1 gY g=>by
   rw[if_pos rfl];exact q H1 gY g
 |false=>
  cases k2 with
  |true=>
   exact .of (pw_or wU (pw_or wU (pw_or1 zQ))).pt λB0 B σ H0 H Q f q=>h1 B0 B σ H0 H _ f λH1 gY g=>by
    rw[if_neg eY];refine h2 rfl B0 B σ H1 gY _ (f.grow g) λH2 nA g2=>?_
    rw[if_pos rfl];exact q H2 nA (g.trans g2)
  |false=>
   exact .of (pw_or wU (pw_or wU (pw_or1 wU))).pt λB0 B σ H0 H Q f q=>h1 B0 B σ H0 H _ f λH1 gY g=>by
    rw[if_neg eY];refine h2 rfl B0 B σ H1 gY _ (f.grow g) λH2 nA g2=>?_
    rw[if_neg eY];exact h3 rfl rfl B0 B σ H2 nA _ ((f.grow g).grow g2) λH3 CN g3=>q H3 CN ((g.trans g2).trans g3)
def zhO:aA->Option Bool
 | .none=>some false
 | .bool b=>some b
 | .int i=>some (i != 0)
 | .list ds=>some (!ds.isEmpty)
 | .tuple ds=>some (!ds.isEmpty)
 |_=>none
theorem fX.empty{K:ao}{H:Hp}{xs:List V}{ds:List aA}(r:fX K H xs ds):xs.isEmpty=ds.isEmpty:=by cases r<;>rfl
theorem qe{t:Bool}(h:VE X a δ d)(ht:zhO d=some t)(he:∀whole,isTrue a X.env whole=(do let v <-whole;standAt a.pos;holding [v] (truthy v)):=by intro _;rfl):VT X a δ t:=
 .of (X7 fZ he) λB0 B σ H0 H Q f q=>h B0 B σ H0 H _ f λv H1 gY g r=>by
  refine⟨t,?_,q H1 gY g⟩
  cases r with
  |non=>cases ht;exact(rfl:false=false)
  |bl b=>cases ht;exact(rfl:t=t)
  |int i=>cases ht;exact(rfl:(i != 0)=(i != 0))
  |str x=>cases ht
  |lst hq r=>cases ht;exact .inl ⟨_,g.sub.seq hq,by rw[r.empty]⟩
  |tup hq r=>cases ht;exact .inr (.inl ⟨_,g.sub.yj hq,by rw[r.empty]⟩)
  |dct _ _ _=>cases ht
  |dcT _ _ _=>cases ht
  |obj _ _ _ _ _=>cases ht
theorem N7{k:Bool}(h:VT X c δ k)(h1:k=true->VE X a δ d)(h2:k=false->VE X b δ d):VE X (.IfExp c a b pos) δ d:=
 .of (XS wU fZ fZ) λB0 B σ H0 H Q f q=>h B0 B σ H0 H _ f λH1 gY g=>by
  cases k with
  |true=>
   rw[if_pos rfl];exact h1 rfl B0 B σ H1 gY _ (f.grow g) λv H2 nA g2 r=>q v H2 nA (g.trans g2) r
  |false=>
   rw[if_neg eY];exact h2 rfl B0 B σ H1 gY _ (f.grow g) λv H2 nA g2 r=>q v H2 nA (g.trans g2) r
theorem aX:VA X [] δ []:=⟨_,je,λ_ _ _ _ _ _ f q=>q _ _ _ (.refl f.sub) .nil⟩
theorem au(h:VE X e δ d)(hr:VA X es δ ds)(hs:starEach (e::es) X.env=(false,eval e X.env)::starEach es X.env:=by rfl):VA X (e::es) δ (d::ds):=by
 obtain⟨t,p,ht⟩:=hr;exact⟨_,eV fZ p hs,λB0 B σ H0 H Q f q=>h B0 B σ H0 H _ f λv H1 gY g r=>ht B0 B σ H1 gY _ (f.grow g) λvs H2 nA g2 rs=>q _ _ _ (g.trans g2) (.cons (r.mono g2.j9) rs)⟩
theorem jj{x1}(h:VA X es δ ds)(hz:ds.length<=sizeLine:=by(simp only[nY];rw[fK];decide)):VE X (.Tuple es x1 pos) δ (.tuple ds):=by
 obtain⟨t,p,ht⟩:=h;exact .of (Jc p) λB0 B σ H0 H Q f q=>ht B0 B σ H0 H _ f λvs H1 gY g r=>⟨by rw[r.length];exact hz,λa ha=>q _ _ _ (g.trans (.laid g.sub ha)) (.tup (xZ.of cQ) (r.mono (gR.laid g.sub ha).j9))⟩
theorem jf(h:VA X es δ ds)(hz:ds.length<=sizeLine:=by(simp only[nY];rw[fK];decide)):VO X (.List es pos) δ ds:=by
 obtain⟨t,p,ht⟩:=h;exact .of (Nx p) λB0 B σ H0 H Q f q=>ht B0 B σ H0 H _ f λvs H1 gY g r=>⟨by rw[r.length];exact hz,λa ha=>q a vs H1 _ (g.trans (.loose g.sub ha)) (g.big.free ha) (g.sub.free ha) cQ r⟩
def cutD{α:Type}(xs:List α)(lo hi:Option Int):List α:=(xs.drop (HT.rO xs.length 0 lo)).take (HT.rO xs.length xs.length hi-HT.rO xs.length 0 lo)
theorem fX.cut{K:ao}{H:Hp}{xs:List V}(r:fX K H xs ds)(lo hi:Option Int):fX K H (P_ xs lo hi) (cutD ds lo hi):=by
 unfold P_ cutD;rw[r.length];exact(r.drop _).take _
inductive Br(X:Cx)(δ:List Slot):Option dz->Option Int->Prop
 |no:Br X δ none none
 |yes {e:dz} {i:Int}:VE X e δ (.int i)->Br X δ (some e) (some i)
theorem Br.ok{o:Option dz}{p:Option Int}(h:Br X δ o p):∃t,PO X o t/\∀B0 B σ H0 H Q,kj X.K B0 B H0 H σ δ->(∀iM H',gR H0 H iM H'->Q p H')->t σ H Q:=by
 cases h with
 |no=>exact⟨_,zao,λ_ _ _ _ _ _ f q=>q _ _ (.refl f.sub)⟩
 |yes h=>exact⟨_,zap fZ,λB0 B σ H0 H Q f q=>h B0 B σ H0 H _ f λv H1 gY g r=>by cases r;exact⟨_,rfl,q _ _ g⟩⟩
theorem n_{lo hi:Option dz}{l u:Option Int}{p2:Pos}(h:VE X a δ (.list ds))(hl:Br X δ lo l)(hh:Br X δ hi u):VO X (.Subscript a (.Slice lo hi none p2) pos) δ (cutD ds l u):=by
 obtain⟨tl,pl,ql⟩:=hl.ok;obtain⟨th,ph,qh⟩:=hh.ok;refine .of (Jf zar fZ pl ph) λB0 B σ H0 H Q f q=>h B0 B σ H0 H _ f λv H1 gY g r=>ql B0 B σ H1 gY _ (f.grow g) λH2 nA g2=>qh B0 B σ H2 nA _ ((f.grow g).grow g2) λH3 CN g3=>?_
 cases r with
 |lst hq r=>
  refine⟨_,_,rfl,g3.sub.seq ((g2.j9.trans g3.j9).seq hq),λp hp=>?_⟩
  have gg:=(g.trans g2).trans g3;exact q p _ H3 _ (gg.trans (.loose g3.sub hp)) (gg.big.free hp) (g3.sub.free hp) cQ ((r.mono (g2.j9.trans g3.j9)).cut l u)
theorem Fo{lo hi:Option dz}{l u:Option Int}{p2:Pos}(h:VE X a δ (.tuple ds))(hl:Br X δ lo l)(hh:Br X δ hi u)(hw:¬(HT.rO ds.length 0 l=0/\HT.rO ds.length ds.length u=ds.length)):
  VE X (.Subscript a (.Slice lo hi none p2) pos) δ (.tuple (cutD ds l u)):=by
 obtain⟨tl,pl,ql⟩:=hl.ok;obtain⟨th,ph,qh⟩:=hh.ok;refine .of (Jf zcN fZ pl ph) λB0 B σ H0 H Q f q=>h B0 B σ H0 H _ f λv H1 gY g r=>ql B0 B σ H1 gY _ (f.grow g) λH2 nA g2=>qh B0 B σ H2 nA _ ((f.grow g).grow g2) λH3 CN g3=>?_
 cases r with
 |tup hq r=>
  refine⟨_,_,rfl,g3.sub.yj ((g2.j9.trans g3.j9).yj hq),by rw[r.length];exact hw,λp hp=>?_⟩
  have gg:=(g.trans g2).trans g3;exact q _ _ _ (gg.trans (.laid g3.sub hp)) (.tup (xZ.of cQ) (((r.mono (g2.j9.trans g3.j9)).cut l u).mono (gR.laid g3.sub hp).j9))
def CallD(K:ao)(r:List V->Hp->VK->Prop)(ds:List aA)(d:aA):Prop:=∀vs H0 H Q,Same H0 H->fX K H0 vs ds->(∀v iM H',gR H0 H iM H'->Rep K iM v d->Q v H')->r vs H Q
def Vh(K:ao)(r:List V->Hp->VK->Prop)(ds es:List aA):Prop:=∀vs H0 H Q,Same H0 H->fX K H0 vs ds->
 (∀p xs iM H',gR H0 H iM H'->H p=none->iM p=none->H' p=some (.lst xs)->fX K iM xs es->Q (.ref p) H')->r vs H Q
theorem oh{x:Str}{id:String}{r:List V->Hp->VK->Prop}{p:Pos}(hc:pC X (.builtin id) r)(hd:CallD X.K r ds d)(ha:VA X (e::es) δ ds)(hm:X.mg x=none)(hv:bootBuiltins x=some (.builtin id))(hg:Gl X x:=by rfl)(hn:x≠"__name__":=by decide)(hdb:(x==("__debug__":Str))=false:=by decide)
  (he:starEach (e::es) X.env=(false,eval e X.env)::starEach es X.env:=by rfl)(hpl:(backTo pos (starEach es X.env)).any (·.1)=false:=by rfl):VE X (.Call (.Name x p) (e::es) [] pos) δ d:=by
 obtain⟨t,pa,ht⟩:=ha;exact .of (rm hc hg hm hv pa hn hdb he hpl) λB0 B σ H0 H Q f q=>ht B0 B σ H0 H _ f λvs H1 gY g r=>hd vs H1 gY Q g.sub r λv H2 nA g2 r2=>q v H2 nA (g.trans g2) r2
theorem sU{x:Str}{id:String}{r:List V->Hp->VK->Prop}{p:Pos}(hc:pC X (.type id) r)(hd:CallD X.K r ds d)(ha:VA X (e::es) δ ds)(hm:X.mg x=none)(hv:bootBuiltins x=some (.type id))(hg:Gl X x:=by rfl)(hn:x≠"__name__":=by decide)(hdb:(x==("__debug__":Str))=false:=by decide)
  (he:starEach (e::es) X.env=(false,eval e X.env)::starEach es X.env:=by rfl)(hpl:(backTo pos (starEach es X.env)).any (·.1)=false:=by rfl):VE X (.Call (.Name x p) (e::es) [] pos) δ d:=by
 obtain⟨t,pa,ht⟩:=ha;exact .of (Fd hc hg hm hv pa hn hdb he hpl) λB0 B σ H0 H Q f q=>ht B0 B σ H0 H _ f λvs H1 gY g r=>hd vs H1 gY Q g.sub r λv H2 nA g2 r2=>q v H2 nA (g.trans g2) r2
theorem qM{x:Str}{id:String}{r:List V->Hp->VK->Prop}{p:Pos}{zs:List aA}(hc:pC X (.type id) r)(hd:Vh X.K r ds zs)(ha:VA X (e::es) δ ds)(hm:X.mg x=none)(hv:bootBuiltins x=some (.type id))(hg:Gl X x:=by rfl)(hn:x≠"__name__":=by decide)(hdb:(x==("__debug__":Str))=false:=by decide)
  (he:starEach (e::es) X.env=(false,eval e X.env)::starEach es X.env:=by rfl)(hpl:(backTo pos (starEach es X.env)).any (·.1)=false:=by rfl):VO X (.Call (.Name x p) (e::es) [] pos) δ zs:=by
 obtain⟨t,pa,ht⟩:=ha;exact .of (Fd hc hg hm hv pa hn hdb he hpl) λB0 B σ H0 H Q f q=>ht B0 B σ H0 H _ f λvs H1 gY g r=>hd vs H1 gY Q g.sub r λv xs H2 nA g2 a1 a2 a3 a4=>q v xs H2 nA (g.trans g2) (g.big.free a1) a2 a3 a4
theorem fX.one{K:ao}{H:Hp}{vs:List V}(r:fX K H vs [d]):∃v,vs=[v]/\Rep K H v d:=by
 cases r with|cons a t=>cases t;exact⟨_,rfl,a⟩
theorem fX.two{K:ao}{H:Hp}{vs:List V}(r:fX K H vs [d1,d2]):∃v w,vs=[v,w]/\Rep K H v d1/\Rep K H w d2:=by
 cases r with|cons a t=>cases t with|cons b t=>cases t;exact⟨_,_,rfl,a,b⟩
theorem ze6{K:ao}:CallD K (λxs H Q=>∃p ys,xs=[.ref p]/\(rW K H p ys\/xZ K H p ys)/\Q (.int ys.length) H) [.list ds] (.int ds.length):=λvs H0 H Q s r k=>by
 obtain⟨v,rfl,r1⟩:=r.one;cases r1 with|lst hq r=>exact⟨_,_,rfl,.inl (s.seq hq),k _ _ _ (.refl s) (by rw[r.length];exact .int _)⟩
theorem zc1{K:ao}:CallD K (λxs H Q=>∃p ys,xs=[.ref p]/\(rW K H p ys\/xZ K H p ys)/\Q (.int ys.length) H) [.tuple ds] (.int ds.length):=λvs H0 H Q s r k=>by
 obtain⟨v,rfl,r1⟩:=r.one;cases r1 with|tup hq r=>exact⟨_,_,rfl,.inr (s.yj hq),k _ _ _ (.refl s) (by rw[r.length];exact .int _)⟩
theorem Jl{K:ao}:Vh K (λxs H Q=>∃p ys,xs=[.ref p]/\(rW K H p ys\/xZ K H p ys)/\∀l,H l=none->Q (.ref l) (upd H l (.lst ys))) [.list ds] ds:=λvs H0 H Q s r k=>by
 obtain⟨v,rfl,r1⟩:=r.one;cases r1 with|lst hq r=>exact⟨_,_,rfl,.inl (s.seq hq),λl hl=>k l _ H0 _ (.loose s hl) hl (s.free hl) cQ r⟩
theorem H_{K:ao}:CallD K (λxs H Q=>∃p ys,xs=[.ref p]/\((rW K H p ys/\∀l,H l=none->Q (.ref l) (upd H l (.tup ys)))\/(xZ K H p ys/\Q (.ref p) H))) [.list ds] (.tuple ds):=λvs H0 H Q s r k=>by
 obtain⟨v,rfl,r1⟩:=r.one;cases r1 with|lst hq r=>exact⟨_,_,rfl,.inl ⟨s.seq hq,λl hl=>k _ _ _ (.laid s hl) (.tup (xZ.of cQ) (r.mono (gR.laid s hl).j9))⟩⟩
theorem pG{p:Pos}(h:VE X a δ (.list ds))(hm:X.mg "len"=none)(hg:Gl X "len":=by rfl)(hs:starEach [a] X.env=(false,eval a X.env)::starEach [] X.env:=by rfl):VE X (.Call (.Name "len" p) [a] [] pos) δ (.int ds.length):=oh Dh ze6 (au h aX hs) hm Bg hg (he:=hs)
theorem vQ{p:Pos}(h:VE X a δ (.tuple ds))(hm:X.mg "len"=none)(hg:Gl X "len":=by rfl)(hs:starEach [a] X.env=(false,eval a X.env)::starEach [] X.env:=by rfl):VE X (.Call (.Name "len" p) [a] [] pos) δ (.int ds.length):=oh Dh zc1 (au h aX hs) hm Bg hg (he:=hs)
theorem ux{d1 d2:List aA}(h1:VE X a δ (.list d1))(h2:VE X b δ (.list d2))(hz:d1.length+d2.length<=sizeLine):VO X (.BinOp a .Add b pos) δ (d1++d2):=by
 refine .of (UW zaH fZ fZ) λB0 B σ H0 H Q f q=>h1 B0 B σ H0 H _ f λv H1 gY g1 r1=>h2 B0 B σ H1 gY _ (f.grow g1) λu H2 nA g2 r2=>?_
 cases r1 with
 |lst hq r1=>
  cases r2 with
  |lst hq2 r2=>
   have gg:=g1.trans g2;refine⟨_,_,_,_,rfl,rfl,g2.sub.seq (g2.j9.seq hq),g2.sub.seq hq2,by rw[r1.length,r2.length];exact hz,λp hp=>?_⟩
   exact q p _ H2 _ (gg.trans (.loose g2.sub hp)) (gg.big.free hp) (g2.sub.free hp) cQ ((r1.mono g2.j9).append r2)
end
inductive Sx where
 |one (i:Nat)
 |tup (is:List Nat)
def Sy:List Nat->TGs
 | []=>zes
 |i::r=>zbG (Lj i) (Sy r)
def Z_(K:ao):Sx->TG
 | .one i=>Lj i
 | .tup is=>zet K is.length (Sy is)
def yp:List Nat->List aA->List Slot->List Slot
 |i::r,d::ds,δ=>yp r ds (δ.set i (.val d))
 |_,_,δ=>δ
def Jm:Sx->aA->List Slot->Option (List Slot)
 | .one i,d,δ=>some (δ.set i (.val d))
 | .tup is,.tuple ds,δ=>if ds.length=is.length then some (yp is ds δ)else none
 |_,_,_=>none
section
variable{K:ao}{B0 B H0 H:Hp}
theorem Qg:∀{is:List Nat}{xs:List V}{ds:List aA}{σ:St}{δ:List Slot}{Q:St->Hp->Prop},kj K B0 B H0 H σ δ->fX K H0 xs ds->ds.length=is.length->(∀σ',kj K B0 B H0 H σ' (yp is ds δ)->Q σ' H)->Sy is xs σ H Q
 | [],xs,ds,σ,δ,Q,f,r,hl,q=>by
  have:ds=[]:=ji hl;subst this;cases r;exact⟨rfl,q σ f⟩
 |i::is,xs,ds,σ,δ,Q,f,r,hl,q=>by
  cases r with
  |nil=>cases hl
  |cons a t=>exact⟨_,_,rfl,Qg (is:=is) (f.set a) t (by simpa using hl) q⟩
theorem yq{tgt:Sx}{d:aA}{v:V}{σ:St}{δ δ':List Slot}{Q:St->Hp->Prop}(f:kj K B0 B H0 H σ δ)(r:Rep K H0 v d)(h:Jm tgt d δ=some δ')(q:∀σ',kj K B0 B H0 H σ' δ'->Q σ' H):Z_ K tgt v σ H Q:=by
 cases tgt with
 |one i=>cases h;exact q _ (f.set r)
 |tup is=>
  cases r with
  |tup hq r=>
   rename_i ds
   have h':(if ds.length=is.length then some (yp is ds δ)else none)=some δ':=h
   by_cases hl:ds.length=is.length
   ·rw[if_pos hl]at h'
    cases h';exact⟨_,_,rfl,f.sub.yj hq,by rw[r.length,hl],Qg f r hl q⟩
   ·rw[if_neg hl]at h';cases h'
  |_=>cases h
end
def ItD(K:ao)(J:It)(H0:Hp)(ds:List aA):Prop:=∀iM H',Same H0 iM->Same iM H'->∀i,(i<ds.length->J.go i H')/\(ds.length<=i->J.stop i H')/\
 ∀x Ks d,ds[i]?=some d->J.yld i H' x Ks->∃ze7,gR iM H' ze7 Ks/\Rep K ze7 x d
def VI(X:Cx)(tg iter:dz)(δ:List Slot)(ds:List aA):Prop:=∃wi,PI X tg iter wi/\∀B0 B σ H0 H R,kj X.K B0 B H0 H σ δ->(∀J iM H',gR H0 H iM H'->ItD X.K J iM ds->R J H')->wi σ H R
def Gs(ds:List aA):List aA:=ds.zipIdx.map λp=>.tuple [.int p.2,p.1]
theorem fB(ds:List aA):(Gs ds).length=ds.length:=by simp[Gs]
theorem kJ{ds:List aA}{i:Nat}{d:aA}(h:(Gs ds)[i]?=some d):∃x,ds[i]?=some x/\d=.tuple [.int i,x]:=by
 unfold Gs at h;rw[bh,m_]at h;cases e:ds[i]? with
 |none=>rw[e]at h;simp at h
 |some x=>rw[e]at h;simp at h;exact⟨x,rfl,h.symm⟩
def qH(n:Nat):List aA:=(dF n).map λ(i:Nat)=>.int (i:Int)
section
variable{X:Cx}{tg a b:dz}{δ:List Slot}{ds:List aA}{pos:Pos}
theorem lN(h:VE X a δ (.list ds)):VI X tg a δ ds:=⟨_,zag fZ,λB0 B σ H0 H R f q=>h B0 B σ H0 H _ f λv H1 gY g r=>by
 cases r with
 |lst hq r=>
  refine⟨_,rfl,⟨_,g.sub.seq hq⟩,q _ H1 gY g λHa Hb s1 s2 i=>?_⟩
  have hl:=r.length;have hS:=(s1.trans s2).seq hq;refine⟨λhi=>?_,λhi=>⟨_,hS,by omega⟩,λx Ks d hd ⟨e,y⟩=>?_⟩
  ·obtain⟨x,hx,_⟩:=r.get (i:=i) (d:=ds[i]) (by simp[hi])
   exact⟨_,x,hS,hx⟩
  ·subst e
   exact⟨Ha,.refl s2,(r.mono s1).at hd (y _ hS)⟩⟩
theorem Jo(h:VE X a δ (.tuple ds)):VI X tg a δ ds:=⟨_,zcC fZ,λB0 B σ H0 H R f q=>h B0 B σ H0 H _ f λv H1 gY g r=>by
 cases r with
 |tup hq r=>
  refine⟨_,rfl,⟨_,g.sub.yj hq⟩,q _ H1 gY g λHa Hb s1 s2 i=>?_⟩
  have hl:=r.length;have hS:=(s1.trans s2).yj hq;refine⟨λhi=>?_,λhi=>⟨_,hS,by omega⟩,λx Ks d hd ⟨e,y⟩=>?_⟩
  ·obtain⟨x,hx,_⟩:=r.get (i:=i) (d:=ds[i]) (by simp[hi])
   exact⟨_,x,hS,hx⟩
  ·subst e
   exact⟨Ha,.refl s2,(r.mono s1).at hd (y _ hS)⟩⟩
theorem Jp{p:Pos}{n:Int}(h:VE X a δ (.int n))(hm:X.mg "range"=none)(h1:-(2^62)<=n)(h2:n<2^62)(hg:Gl X "range":=by rfl)(hs:starEach [a] X.env=[(false,eval a X.env)]:=by rfl):VI X tg (.Call (.Name "range" p) [a] [] pos) δ (qH n.toNat):=
 ⟨_,V_ hg hm (eV fZ je hs) hs,λB0 B σ H0 H R f q=>h B0 B σ H0 H _ f λv H1 gY g r=>by
  cases r;refine⟨n,rfl,h1,h2,q _ H1 gY g λHa Hb s1 s2 i=>⟨λhi=>(show i<n.toNat from by simpa[qH]using hi),λhi=>(show n.toNat<=i from by simpa[qH]using hi),λx Ks d hd ⟨e,y⟩=>?_⟩⟩
  subst e;subst y;unfold qH at hd;rw[bh]at hd;have hi:i<n.toNat:=by
   rcases Nat.lt_or_ge i n.toNat with z|z
   ·exact z
   ·rw[mG (by simpa using z)]at hd;cases hd
  rw[uX hi]at hd;cases hd;exact⟨Ha,.refl s2,by rw[Int.zero_add];exact .int _⟩⟩
theorem qC{p tp:Pos}{elts:List dz}{k}(h:VE X a δ (.list ds))(hm:X.mg "enumerate"=none)(hg:Gl X "enumerate":=by rfl)(hs:starEach [a] X.env=[(false,eval a X.env)]:=by rfl):VI X (.Tuple elts k tp) (.Call (.Name "enumerate" p) [a] [] pos) δ (Gs ds):=
 ⟨_,zaG hg hm (eV fZ je hs) hs,λB0 B σ H0 H R f q=>h B0 B σ H0 H _ f λv H1 gY g r=>by
  cases r with
  |lst hq r=>
   refine⟨_,rfl,⟨_,g.sub.seq hq⟩,q _ H1 gY g λHa Hb s1 s2 i=>?_⟩
   have hl:=r.length;have hS:=(s1.trans s2).seq hq;refine⟨λhi=>?_,λhi=>⟨_,hS,by rw[fB]at hi;omega⟩,λx Ks d hd ⟨t,y,e1,e2,e3,e4⟩=>?_⟩
   ·rw[fB]at hi
    obtain⟨x,hx,_⟩:=r.get (i:=i) (d:=ds[i]) (by simp[hi])
    exact⟨_,x,hS,hx⟩
   ·obtain⟨z,hz,rfl⟩:=kJ hd
    subst e1;subst e3;refine⟨upd Ha t (.tup [.int i,y]),.laid s2 e2,.tup (xZ.of cQ) (.cons (.int _) (.cons ?_ .nil))⟩
    exact((r.mono s1).at hz (e4 _ hS)).mono (gR.laid s2 e2).j9⟩
end
def cTs(X:Cx)(ifs:List dz):TT:=λσ H Q=>∀pins s,Inv X pins σ H s->wpAny (model X.prog X.w) X.A (testsOf ifs X.env) (TP X pins σ Q) X.xe s
def VTs(X:Cx)(ifs:List dz)(δ:List Slot)(b:Bool):Prop:=∀B0 B σ H0 H Q,kj X.K B0 B H0 H σ δ->(∀iM H',gR H0 H iM H'->Q b H')->cTs X ifs σ H Q
theorem jz{X:Cx}{δ:List Slot}:VTs X [] δ true:=λ_ _ _ _ _ _ f q pins s I=>zaD pins s _ _ _ I (q _ _ (.refl f.sub))
theorem N8{X:Cx}{c:dz}{δ:List Slot}{b:Bool}(h:VT X c δ b):VTs X [c] δ b:=λB0 B σ H0 H Q f q pins s I=>zaE (t:=cT X c) wU pins s σ H Q I (h B0 B σ H0 H Q f q)
def keepV:Slot->Slot
 | .val d=>.val d
 |_=>.un
def tZ(own:List Str)(cap:List Nat)(δ:List Slot):List Slot:=bN own.length .un++cap.map λi=>keepV (δ.getD i .un)
section
variable{K:ao}{B0 B H0 H:Hp}{σ:St}{δ:List Slot}
theorem kj.comp(f:kj K B0 B H0 H σ δ)(own:List Str)(cap:List Nat):kj K B0 B H0 H (uw own cap σ) (tZ own cap δ):=by
 have noOwn:∀(i:Nat)ds,(tZ own cap δ)[i]?≠some (.own ds):=λi ds e=>by
  unfold tZ at e;by_cases hi:i<own.length
  ·rw[fu (by simpa using hi),h_]at e
   split at e<;>cases e
  ·rw[eU (by simpa using j5 hi),bh]at e
   cases q:cap[i-(bN own.length Slot.un).length]? with
   |none=>rw[q]at e;cases e
   |some j=>
    rw[q]at e;simp only[uF,mq]at e
    revert e
    cases δ.getD j .un<;>(intro e;cases e)
 refine⟨f.ent,by simp[uw,tZ],λi sl e=>?_,λi j ds es p _ a1=>absurd a1 (noOwn i ds)⟩
 unfold tZ at e;unfold uw;by_cases hi:i<own.length
 ·rw[fu (by simpa using hi),h_]at e
  split at e<;>cases e<;>trivial
 ·rw[eU (by simpa using j5 hi),bh,gF]at e
  rw[eU (by simpa using j5 hi),bh,gF]
  cases q:cap[i-own.length]? with
  |none=>rw[q]at e;cases e
  |some j=>
   rw[q]at e;simp only[uF,mq]at e ⊢;cases w:δ[j]? with
   |none=>rw[aP,w]at e;subst e;trivial
   |some sl'=>
    rw[aP,w]at e;cases sl' with
    |un=>subst e;trivial
    |ref a=>subst e;trivial
    |own ds=>subst e;trivial
    |val d=>
     subst e;obtain⟨v,h1,h2⟩:=f.slot j _ w;exact⟨v,by rw[aP,h1];rfl,h2⟩
theorem kj.forget{δ':List Slot}(f:kj K B0 B H0 H σ δ)(hl:δ'.length=δ.length)(h:∀(i:Nat)sl,δ'[i]?=some sl->sl=.un\/δ[i]?=some sl):kj K B0 B H0 H σ δ':=by
 refine⟨f.ent,by rw[hl];exact f.len,λi sl e=>?_,λi j ds es p hij a1 a2 a3=>?_⟩
 ·rcases h i sl e with rfl|z
  ·trivial
  ·exact f.slot i sl z
 ·rcases h i _ a1 with z|z
  ·cases z
  ·rcases h j _ a2 with y|y
   ·cases y
   ·exact f.apart i j ds es p hij z y a3
theorem kj.touch{D:aN}{o:HO}(f:kj K B0 B H0 H σ δ)(h0:H0 D=none)(hB:B D=none)(hn:∀(i:Nat)ds,δ[i]?≠some (.own ds)):kj K B0 B H0 (upd H D o) σ δ:=by
 refine⟨⟨λb u e=>by rw[bf (bV e hB)];exact f.ent.big b u e,f.ent.j9,λb u e=>by rw[bf (bV e h0)];exact f.ent.sub b u e,f.ent.new⟩,f.len,λi sl e=>?_,f.apart⟩
 have q:=f.slot i sl e;cases sl with
 |un=>trivial
 |ref a=>exact q
 |val d=>exact q
 |own ds=>exact absurd e (hn i ds)
end
theorem Bs:∀(is:List Nat)(ds:List aA)(δ:List Slot),(yp is ds δ).length=δ.length
 | [],_,_=>rfl
 |_::_,[],_=>rfl
 |i::is,d::ds,δ=>by
  show(yp is ds (δ.set i (.val d))).length=_
  rw[Bs];simp
theorem Jq:∀(is:List Nat)(ds:List aA)(δ:List Slot)(j:Nat),j∉is->(yp is ds δ)[j]?=δ[j]?
 | [],_,_,_,_=>rfl
 |_::_,[],_,_,_=>rfl
 |i::is,d::ds,δ,j,h=>by
  show(yp is ds (δ.set i (.val d)))[j]?=_
  rw[Jq is ds _ j λz=>h (bD _ z),bB (λ(z:i=j)=>h (by rw[z];exact aY))]
def LC(n:Nat):Sx->Bool
 | .one i=>decide (i<n)
 | .tup is=>is.all λi=>decide (i<n)
theorem comp_back{own:List Str}{cap:List Nat}{δ δ':List Slot}{tgt:Sx}{d:aA}(ht:LC own.length tgt=true)(h:Jm tgt d (tZ own cap δ)=some δ'):
  δ'.length=(tZ own cap δ).length/\∀(i:Nat)sl,(tZ own cap δ)[i]?=some sl->sl=.un\/δ'[i]?=some sl:=by
 have low:∀(i:Nat)sl,i<own.length->(tZ own cap δ)[i]?=some sl->sl=.un:=λi sl hi e=>by
  unfold tZ at e;rw[fu (by simpa using hi),h_]at e
  split at e<;>cases e<;>rfl
 cases tgt with
 |one i=>
  cases h;refine⟨by simp,λj sl e=>?_⟩
  have hi:i<own.length:=by simpa[LC]using ht
  by_cases hj:j<own.length
  ·exact .inl (low j sl hj e)
  ·exact .inr (by rw[bB (by omega)];exact e)
 |tup is=>
  cases d with
  |tuple ds=>
   have h':(if ds.length=is.length then some (yp is ds (tZ own cap δ))else none)=some δ':=h
   by_cases hl:ds.length=is.length
   ·rw[if_pos hl]at h'
    cases h';refine⟨Bs _ _ _,λj sl e=>?_⟩
    by_cases hj:j<own.length
    ·exact .inl (low j sl hj e)
    ·refine .inr ?_
     rw[Jq _ _ _ _ λz=>hj ?_]
     ·exact e
     ·have:=iC.mp ht j z
      simpa using this
   ·rw[if_neg hl]at h';cases h'
  |_=>cases h
theorem vR{own:List Str}{cap:List Nat}{δ:List Slot}(i:Nat)(ds:List aA):(tZ own cap δ)[i]?≠some (.own ds):=λe=>by
 unfold tZ at e;by_cases hi:i<own.length
 ·rw[fu (by simpa using hi),h_]at e
  split at e<;>cases e
 ·rw[eU (by simpa using j5 hi),bh]at e
  cases q:cap[i-(bN own.length Slot.un).length]? with
  |none=>rw[q]at e;cases e
  |some j=>
   rw[q]at e;simp only[uF,mq]at e
   revert e
   cases δ.getD j .un<;>(intro e;cases e)
section
variable{X:Cx}{sc:rR}{own N:List Str}{cap:List Nat}{cl:List (Str×aN)}{tg elt iter:dz}{ifs:List dz}{δ:List Slot}{ds:List aA}{pos:Pos}{tgt:Sx}
def SJ(X:Cx)(sc:rR)(own:List Str)(cap:List Nat)(N:List Str)(cl:List (Str×aN))(tgt:Sx)(elt:dz)(ifs:List dz)(δ:List Slot)(F:aA->Option aA)(d:aA):Prop:=
 ∃δ',Jm tgt d (tZ own cap δ)=some δ'/\(∀f s3 H3,VTs (lq X sc N cl f s3 H3) ifs δ' (F d).isSome)/\∀r,F d=some r->∀f s3 H3,VE (lq X sc N cl f s3 H3) elt δ' r
def teC(X:Cx)(sc:rR)(N:List Str)(cl:List (Str×aN))(elt:dz):TE:=λσ H Q=>∀f s3 H3,cE (lq X sc N cl f s3 H3) elt σ H Q
def tcC(X:Cx)(sc:rR)(N:List Str)(cl:List (Str×aN))(ifs:List dz):TT:=λσ H Q=>∀f s3 H3,cTs (lq X sc N cl f s3 H3) ifs σ H Q
theorem Gu{F:aA->Option aA}(ht:LC own.length tgt=true)(hz:ds.length<=sizeLine)(step:∀d∈ds,SJ X sc own cap N cl tgt elt ifs δ F d){J:It}{B0 B H0 H:Hp}{σ:St}{Q:VK}(f:kj X.K B0 B H0 H σ δ)(it:ItD X.K J H0 ds)
  (q:∀p xs iM H',gR H0 H iM H'->H p=none->iM p=none->H' p=some (.lst xs)->fX X.K iM xs (ds.filterMap F)->Q (.ref p) H'):
  Fj J (Z_ X.K tgt) (tcC X sc N cl ifs) (teC X sc N cl elt) (uw own cap σ) H Q:=by
 intro D hD;have hBD:B D=none:=f.ent.big.free hD;refine⟨λi m ys σ' H'=>i<=ds.length/\m=ds.length-i/\ys.length<=i/\∃Ha,gR H0 H Ha H'/\kj X.K B0 B Ha H' σ' (tZ own cap δ)/\Ha D=none/\H' D=some (.lst ys)/\fX X.K Ha ys ((ds.take i).filterMap F),
  ⟨ds.length,cC _,rfl,aK _,H0,.loose f.sub hD,(f.comp own cap).touch (f.sub.free hD) hBD vR,f.sub.free hD,cQ,by simpa using fX.nil⟩,?_⟩
 rintro i m ys σ' H' ⟨hi,rfl,hy,Ha,g,fa,hDa,hDl,rs⟩
 obtain⟨i1,i2,i3⟩:=it Ha H' g.j9 g.sub i;by_cases hlt:i<ds.length
 ·refine .inr ⟨i1 hlt,λx H2 y=>?_⟩
  have hd:ds[i]?=some ds[i]:=by simp[hlt]
  obtain⟨Hb,g2,rx⟩:=i3 x H2 ds[i] hd y;obtain⟨δ',e1,e2,e3⟩:=step ds[i] (fY hlt);obtain⟨k1,k2⟩:=comp_back ht e1;have noD:∀{Hx Hy:Hp},gR Ha H' Hx Hy->Hx D=none:=λ{Hx Hy}gg=>by
   cases e:Hx D with
   |none=>rfl
   |some o=>
    rcases gg.new D (by rw[e];simp)with z|z
    ·exact absurd hDa z
    ·rw[hDl]at z;cases z
  have tk:(ds.take (i+1)).filterMap F=(ds.take i).filterMap F++(F ds[i]).toList:=by
   rw[gP,hd,Ai];cases eF:F ds[i]<;>simp[lQ,eF]
  refine yq (fa.grow g2) rx e1 λσ3 f3=>?_
  intro fp s3 H3;refine e2 fp s3 H3 B0 B σ3 Hb H2 _ f3 λHc H4 g4=>?_
  have g24:=g2.trans g4;cases eF:F ds[i] with
  |none=>
   rw[show(none:Option aA).isSome=false from rfl,if_neg eY]
   refine⟨ds.length-(i+1),by omega,hlt,rfl,by omega,Hc,g.trans g24,(f3.grow g4).forget k1.symm k2,noD g24,g24.big _ _ hDl,?_⟩
   rw[tk,eF];simpa using rs.mono g24.j9
  |some r=>
   rw[show(some r:Option aA).isSome=true from rfl,if_pos rfl]
   intro fp' s3' CN;refine e3 r eF fp' s3' CN B0 B σ3 Hc H4 _ (f3.grow g4) λw Hd H5 g5 r5=>?_
   have g25:=g24.trans g5;have hD5:Hd D=none:=noD g25;refine⟨g25.big _ _ hDl,by omega,ds.length-(i+1),by omega,hlt,rfl,by simp;omega,Hd,?_,((f3.grow g4).grow g5 |>.forget k1.symm k2).touch hD5 hBD vR,hD5,cQ,?_⟩
   ·have gg:=g.trans g25
    exact⟨λb u e=>by rw[bf (bV e hD)];exact gg.big b u e,gg.j9,λb u e=>by rw[bf (bV e hD5)];exact gg.sub b u e,gg.new⟩
   ·rw[tk,eF]
    exact(rs.mono g25.j9).append (.cons r5 .nil)
 ·have e:i=ds.length:=by omega
  subst e;refine .inl ⟨i2 (aK _),q D ys Ha H' g hD hDa hDl ?_⟩
  simpa using rs
theorem jA{F:aA->Option aA}(hc:X.calm=true)(CS:sS X sc own cap N cl)(hi:VI X tg iter δ ds)(hg:∀f s3 H3,PG (lq X sc N cl f s3 H3) tg (Z_ X.K tgt))(ht:LC own.length tgt=true)(hz:ds.length<=sizeLine)
  (step:∀d∈ds,SJ X sc own cap N cl tgt elt ifs δ F d)(hs:∀x,foldedSetIterable iter X.env x=pure x:=by intro _;rfl):VO X (.ListComp elt [⟨tg,iter,ifs,0⟩] sc pos) δ (ds.filterMap F):=by
 obtain⟨wi,pi,qi⟩:=hi;refine .of (zaF (tc:=tcC X sc N cl ifs) (te:=teC X sc N cl elt) hc CS pi hg (λf s3 H3 pins s σ H Q I h=>h f s3 H3 pins s I) (λf s3 H3 pins s σ H Q I h=>h f s3 H3 pins s I) hs) λB0 B σ H0 H Q f q=>?_
 refine qi B0 B σ H0 H _ f λJ H1 gY g it=>?_
 exact Gu ht hz step (f.grow g) it λp xs Ha Hb g2 a1 a2 a3 a4=>q p xs Ha Hb (g.trans g2) (g.big.free a1) a2 a3 a4
end
inductive Out where
 |nx (δ:List Slot)|bk (δ:List Slot)|ct (δ:List Slot)
 |rt (d:aA)|ro (ds:List aA)|r2 (ds:List aA) (d:aA)
def Bh(K:ao)(B0 B H0:Hp)(D:Ends):Out->Prop
 | .nx δ=>∀σ' iM H',Same H0 iM->kj K B0 B iM H' σ' δ->D.nx σ' H'
 | .bk δ=>∀σ' iM H',Same H0 iM->kj K B0 B iM H' σ' δ->D.bk σ' H'
 | .ct δ=>∀σ' iM H',Same H0 iM->kj K B0 B iM H' σ' δ->D.ct σ' H'
 | .rt d=>∀v iM H',gR B0 B iM H'->Rep K iM v d->D.rt v H'
 | .ro ds=>∀p xs iM H',gR B0 B iM H'->B p=none->iM p=none->H' p=some (.lst xs)->fX K iM xs ds->D.rt (.ref p) H'
 | .r2 ds d=>∀t p xs v iM H',gR B0 B iM H'->B p=none->iM p=none->H' p=some (.lst xs)->fX K iM xs ds->B t=none->iM t=none->H' t=some (.tup [.ref p,v])->Rep K iM v d->D.rt (.ref t) H'
def Yu:Out->Bool
 | .rt _=>true | .ro _=>true | .r2 _ _=>true|_=>false
theorem Bh.mono{K:ao}{B0 B H0 iM:Hp}{D:Ends}(s:Same H0 iM):∀{o:Out},Bh K B0 B H0 D o->Bh K B0 B iM D o
 | .nx _,h=>λσ a b s' f=>h σ a b (s.trans s') f
 | .bk _,h=>λσ a b s' f=>h σ a b (s.trans s') f
 | .ct _,h=>λσ a b s' f=>h σ a b (s.trans s') f
 | .rt _,h=>h
 | .ro _,h=>h
 | .r2 _ _,h=>h
theorem Bh.ret{K:ao}{B0 B H0 iM:Hp}{D D':Ends}(e:D.rt=D'.rt):∀{o:Out},Yu o=true->Bh K B0 B H0 D o->Bh K B0 B iM D' o
 | .rt _,_,h=>by unfold Bh at *;rw[<-e];exact h
 | .ro _,_,h=>by unfold Bh at *;rw[<-e];exact h
 | .r2 _ _,_,h=>by unfold Bh at *;rw[<-e];exact h
 | .nx _,z,_=>by cases z
 | .bk _,z,_=>by cases z
 | .ct _,z,_=>by cases z
def VS(X:Cx)(st:mj)(δ:List Slot)(o:Out):Prop:=∀B0 B σ H0 H D,kj X.K B0 B H0 H σ δ->Bh X.K B0 B H0 D o->cS X st D σ H
def Em(X:Cx)(st:List mj)(δ:List Slot)(o:Out):Prop:=∀B0 B σ H0 H D,kj X.K B0 B H0 H σ δ->Bh X.K B0 B H0 D o->Vg X st D σ H
section
variable{X:Cx}{st:mj}{rest body orelse:List mj}{δ δ':List Slot}{o:Out}{a b c e:dz}{d:aA}{ds:List aA}{pos px:Pos}{x:Str}
theorem b_:Em X [] δ (.nx δ):=λ_ _ σ H0 H _ f ok pins s I=>Ak pins s σ H _ I (ok σ H0 H (Same.refl _) f)
theorem aO(h1:VS X st δ (.nx δ'))(h2:Em X rest δ' o):Em X (st::rest) δ o:=λB0 B σ H0 H D f ok pins s I=>
 q_ Yq tY pins s σ H D I (h1 B0 B σ H0 H _ f λσ' Ha Hb sm f'=>h2 B0 B σ' Ha Hb D f' (ok.mono sm))
theorem fJ(h1:VS X st δ o)(hr:Yu o=true):Em X (st::rest) δ o:=λB0 B σ H0 H D f ok pins s I=>
 q_ Yq pO pins s σ H D I (h1 B0 B σ H0 H _ f (Bh.ret (D:=D) (by rfl) hr ok))
theorem bH(h1:VS X st δ o):Em X [st] δ o:=λB0 B σ H0 H D f ok pins s I=>HJ Yq pins s σ H D I (h1 B0 B σ H0 H D f ok)
theorem dU(i:Nat)(h:VE X e δ d)(hN:X.N.Nodup)(hi:X.N[i]?=some x:=by rfl)(hx:Loc X.env.scope x:=by first|exact bG rfl|exact fj rfl)(hs:swapsWith e (some (.Name x px)) pos.line X.env=pure false:=by rfl)(hf:X.fn x=true\/X.env.scope.names.lookup x=some .local:=by first|exact .inl rfl|exact .inr rfl):
  VS X (.Assign [.Name x px] e pos) δ (.nx (δ.set i (.val d))):=λB0 B σ H0 H D f ok pins s I=>
 E_ (i:=i) hN hi hx fZ hs hf pins s σ H D I (h B0 B σ H0 H _ f λv H1 gY g r=>ok _ H1 gY g.j9 ((f.grow g).set r))
theorem rA(i:Nat)(h:VO X e δ ds)(hN:X.N.Nodup)(hi:X.N[i]?=some x:=by rfl)(hx:Loc X.env.scope x:=by first|exact bG rfl|exact fj rfl)(hs:swapsWith e (some (.Name x px)) pos.line X.env=pure false:=by rfl)(hf:X.fn x=true\/X.env.scope.names.lookup x=some .local:=by first|exact .inl rfl|exact .inr rfl):
  VS X (.Assign [.Name x px] e pos) δ (.nx (δ.set i (.own ds))):=λB0 B σ H0 H D f ok pins s I=>
 E_ (i:=i) hN hi hx fZ hs hf pins s σ H D I (h B0 B σ H0 H _ f λp xs H1 gY g h1 h2 h3 r=>ok _ H1 gY g.j9 ((f.grow g).N6 h3 h2 (f.ent.big.free h1) r λj es e2 e3=>by
  obtain⟨p',xs',g1,g2,_⟩:=f.slot j _ e2;rw[e3]at g1;cases g1;rw[h1]at g2;cases g2))
theorem gj(h:VT X c δ true)(h1:Em X body δ o):VS X (.If c body orelse pos) δ o:=λB0 B σ H0 H D f ok pins s I=>
 Gi wU tY pO pins s σ H D I (h B0 B σ H0 H _ f λH1 gY g=>zcS (h1 B0 B σ H1 gY D (f.grow g) (ok.mono g.j9)))
theorem cW(h:VT X c δ false)(h1:Em X orelse δ o):VS X (.If c body orelse pos) δ o:=λB0 B σ H0 H D f ok pins s I=>
 Gi wU pO tY pins s σ H D I (h B0 B σ H0 H _ f λH1 gY g=>NQ (h1 B0 B σ H1 gY D (f.grow g) (ok.mono g.j9)))
theorem ze9{k:Bool}(h:VT X c δ k)(h1:k=true->Em X body δ o)(h2:k=false->Em X orelse δ o):VS X (.If c body orelse pos) δ o:=by
 cases k with
 |true=>exact gj h (h1 rfl)
 |false=>exact cW h (h2 rfl)
theorem dG(h:VE X e δ d):VS X (.Return (some e) pos) δ (.rt d):=λB0 B σ H0 H D f ok pins s I=>IK fZ pins s σ H D I (h B0 B σ H0 H _ f λv H1 gY g r=>ok v H1 gY (f.ent.trans g) r)
theorem Ia(h:VO X e δ ds):VS X (.Return (some e) pos) δ (.ro ds):=λB0 B σ H0 H D f ok pins s I=>IK fZ pins s σ H D I (h B0 B σ H0 H _ f λp xs H1 gY g a1 a2 a3 a4=>ok p xs H1 gY (f.ent.trans g) (f.ent.big.free a1) a2 a3 a4)
theorem Dr(i:Nat)(h:δ[i]?=some (.own ds))(hN:X.N[i]?=some x:=by rfl)(hv:PK X.env.scope x:=by first|exact bG rfl|exact fj (bG rfl)|exact fj (fj rfl))(hd:(x==("__debug__":Str))=false:=by decide)(hcd:(x==("__classdict__":Str))=false:=by decide):
  VS X (.Return (some (.Name x px)) pos) δ (.ro ds):=λB0 B σ H0 H D f ok pins s I=>IK (j8 hN hv hd hcd) pins s σ H D I (by
 obtain⟨p,xs,h1,h2,h3,h4,h5⟩:=f.slot i _ h;exact⟨_,h1,ok p xs H0 H f.ent h4 h3 h2 h5⟩)
theorem oG(i:Nat){ap:Pos}{p0:Pos}(hi:δ[i]?=some (.own ds))(h:VE X e δ d)(hz:ds.length<sizeLine)(hN:X.N[i]?=some x:=by rfl)(hv:PK X.env.scope x:=by first|exact bG rfl|exact fj (bG rfl)|exact fj (fj rfl))(hd:(x==("__debug__":Str))=false:=by decide)(hcd:(x==("__classdict__":Str))=false:=by decide)
  (hs:starEach [e] X.env=(false,eval e X.env)::starEach [] X.env:=by rfl)(hbase:attributeBase (.Name x p0) "append" X.env (eval (.Name x p0) X.env)=eval (.Name x p0) X.env:=by rfl)
  (hfew:((backTo px (starEach [e] X.env)).all (λx=>!x.1)&&(backToKw px (keywordEach [] X.env)).all (λx=>x.1.isSome)&&decide (([e]:List dz).length+([]:List lu).length+(if([]:List lu).isEmpty then 0 else 1)<30))=true:=by rfl)
  (hline:(ap.endLine==px.line)=true:=by rfl)(hplain:(backTo px (starEach [] X.env)).any (·.1)=false:=by rfl)(hsw:swapsWith (.Call (.Attribute (.Name x p0) "append" ap) [e] [] px) none pos.line X.env=pure false:=by rfl):
  VS X (.Expr (.Call (.Attribute (.Name x p0) "append" ap) [e] [] px) pos) δ (.nx (δ.set i (.own (ds ++ [d])))):=λB0 B σ H0 H D f ok pins s I=>by
 refine Al (Gn kI wz wA Am (j8 hN hv hd hcd) (eV fZ je hs) hbase hfew hline hs hplain) hsw pins s σ H D I ?_
 obtain⟨p,xs,h1,h2,h3,h4,h5⟩:=f.slot i _ hi;refine⟨_,h1,.inl ⟨rfl,_,rW.of h2⟩,?_⟩
 refine h B0 B σ H0 H _ f λv H1 gY g r=>?_
 refine⟨p,xs,v,rfl,rfl,g.big _ _ h2,by rw[h5.length];exact hz,ok σ H1 _ g.j9 ((f.grow g).push hi h1 (g.big _ _ h2) r)⟩
theorem mW(i:Nat)(hi:δ[i]?=some (.own ds))(h:Em X rest (δ.set i (.val (.list ds))) o):Em X rest δ o:=λB0 B σ H0 H D f ok=>by
 obtain⟨p,xs,h1,h2,h3,h4,h5⟩:=f.slot i _ hi;obtain⟨f',sm⟩:=f.freeze hi h1 h2;exact h B0 B σ _ H D f' (ok.mono sm)
def Fgt:List Slot->List Slot->Prop
 | [],[]=>True
 |a::l,b::m=>(b=.un\/a=b)/\Fgt l m
 |_,_=>False
theorem Fgt.len:∀{l m:List Slot},Fgt l m->m.length=l.length
 | [],[],_=>rfl
 |_::_,_::_,h=>by simp[Fgt.len h.2]
 | [],_::_,h=>h.elim
 |_::_,[],h=>h.elim
theorem Fgt.at:∀{l m:List Slot},Fgt l m->∀(i:Nat)sl,m[i]?=some sl->sl=.un\/l[i]?=some sl
 | [],[],_,_,_,e=>by simp at e
 |a::l,b::m,h,0,sl,e=>by
  simp at e;subst e;rcases h.1 with z|z
  ·exact .inl z
  ·exact .inr (by simp[z])
 |a::l,b::m,h,i+1,sl,e=>by simpa using Fgt.at h.2 i sl (by simpa using e)
 | [],_::_,h,_,_,_=>h.elim
 |_::_,[],h,_,_,_=>h.elim
theorem mU{δ2:List Slot}(h:Em X rest δ (.nx δ'))(hf:Fgt δ' δ2):Em X rest δ (.nx δ2):=λB0 B σ H0 H D f ok=>h B0 B σ H0 H D f λσ' Ha Hb sm f'=>ok σ' Ha Hb sm (f'.forget hf.len hf.at)
theorem rB{tg iter:dz}{tgt:Sx}(hp:M4 (model X.prog X.w) X.A X.env X.xe)(hc:X.calm=true)(hi:VI X tg iter δ ds)(hg:PG X tg (Z_ X.K tgt))(δs:Nat->List Slot)(m:Nat)(h0:δs 0=δ)(hm:m<=ds.length)
  (step:∀k d,k<m->ds[k]?=some d->∃δ',Jm tgt d (δs k)=some δ'/\Em X body δ' (.nx (δs (k+1))))
  (fin:(m=ds.length/\o=.nx (δs m))\/∃d δ',ds[m]?=some d/\Jm tgt d (δs m)=some δ'/\Yu o=true/\Em X body δ' o)
  (hs:∀x,foldedSetIterable iter X.env x=pure x:=by intro _;rfl):VS X (.For tg iter body [] pos) δ o:=λB0 B σ H0 H D f ok pins s I=>by
 obtain⟨wi,pi,qi⟩:=hi;refine Nu hp hc pi hg tY hs pins s σ H D I ?_
 refine qi B0 B σ H0 H _ f λJ H1 gY g it=>?_
 refine⟨λi mm σ' H'=>i<=m/\mm=m+1-i/\∃Ha,Same H1 Ha/\kj X.K B0 B Ha H' σ' (δs i),⟨m+1,cC _,rfl,H1,Same.refl _,by rw[h0];exact f.grow g⟩,?_⟩
 rintro i mm σ' H' ⟨hi,rfl,Ha,sm,fa⟩
 obtain⟨i1,i2,i3⟩:=it Ha H' sm fa.sub i;by_cases hlt:i<m
 ·refine .inr ⟨i1 (by omega),λσ'' Ks=>∃Hb,Same H1 Hb/\kj X.K B0 B Hb Ks σ'' (δs (i+1)),λσ'' Ks ⟨Hb,z1,z2⟩=>⟨m+1-(i+1),by omega,hlt,rfl,Hb,z1,z2⟩,λv H2 y=>?_⟩
  have hd:ds[i]?=some (ds[i]'(by omega)):=by simp
  obtain⟨Hb,g2,rx⟩:=i3 v H2 _ hd y;obtain⟨δ',e1,e2⟩:=step i _ hlt hd;refine yq (fa.grow g2) rx e1 λσ3 f3=>?_
  exact e2 B0 B σ3 Hb H2 _ f3 λσ4 Hc H4 s4 f4=>⟨Hc,(sm.trans g2.j9).trans s4,f4⟩
 ·have e:i=m:=by omega
  subst e;rcases fin with⟨e1,e2⟩|⟨d,δ',hd,e1,hr,e2⟩
  ·subst e2
   exact .inl ⟨i2 (by omega),ok σ' Ha H' (g.j9.trans sm) fa⟩
  ·have hlt':i<ds.length:=(aV.mp hd).1
   refine .inr ⟨i1 hlt',λ_ _=>False,λ_ _ z=>z.elim,λv H2 y=>?_⟩
   obtain⟨Hb,g2,rx⟩:=i3 v H2 _ hd y;refine yq (fa.grow g2) rx e1 λσ3 f3=>?_
   exact e2 B0 B σ3 Hb H2 _ f3 (Bh.ret (D:=D) (by rfl) hr ok)
end
def mX(K:ao)(R:List aA->aA->Prop):Sp:=λvs H Q _=>∃H0 ds d,Same H0 H/\fX K H0 vs ds/\R ds d/\∀v iM H',gR H0 H iM H'->Rep K iM v d->Q v H'
def LK(K:ao)(R:List aA->List aA->Prop):Sp:=λvs H Q _=>∃H0 ds es,Same H0 H/\fX K H0 vs ds/\R ds es/\
 ∀p xs iM H',gR H0 H iM H'->H p=none->iM p=none->H' p=some (.lst xs)->fX K iM xs es->Q (.ref p) H'
def cG(P:bL)(w:dB)(K:ao)(mg:Str->Option aF)(base:dW)(k:Nat)(x:Str)(ps:List Str)(sp:Sp):Prop:=
 ∃f fd,i_ P w K mg base qz k f fd ps sp/\mg x=some (.ref f)/\gZ K (.ref f)=true/\Binds K fd ps []
section
variable{X:Cx}{x:Str}{e:dz}{es:List dz}{δ:List Slot}{ds zs:List aA}{d:aA}{p pos:Pos}{k:Nat}{ps:List Str}
theorem cF{R:List aA->aA->Prop}(C:cG X.prog X.w X.K X.mg X.base k x ps (mX X.K R))(hr:jH k X.A)(ha:VA X (e::es) δ ds)(hp:R ds d)(hg:Gl X x:=by rfl)(hdb:(x==("__debug__":Str))=false:=by decide)
  (he:starEach (e::es) X.env=(false,eval e X.env)::starEach es X.env:=by rfl)(hpl:(backTo pos (starEach es X.env)).any (·.1)=false:=by rfl):VE X (.Call (.Name x p) (e::es) [] pos) δ d:=by
 obtain⟨f,fd,F,hm,hk,hb⟩:=C;obtain⟨t,pa,qa⟩:=ha;exact .of (HN F hr hg hm hk hb .nil Lw pa hdb he hpl) λB0 B σ H0 H Q fr q=>qa B0 B σ H0 H _ fr λvs H1 gY g1 rs=>by
  rw[gK];exact⟨H1,ds,d,g1.sub,rs,hp,λv H2 nA g2 r=>q v H2 nA (g1.trans g2) r⟩
theorem rC{R:List aA->List aA->Prop}(C:cG X.prog X.w X.K X.mg X.base k x ps (LK X.K R))(hr:jH k X.A)(ha:VA X (e::es) δ ds)(hp:R ds zs)(hg:Gl X x:=by rfl)(hdb:(x==("__debug__":Str))=false:=by decide)
  (he:starEach (e::es) X.env=(false,eval e X.env)::starEach es X.env:=by rfl)(hpl:(backTo pos (starEach es X.env)).any (·.1)=false:=by rfl):VO X (.Call (.Name x p) (e::es) [] pos) δ zs:=by
 obtain⟨f,fd,F,hm,hk,hb⟩:=C;obtain⟨t,pa,qa⟩:=ha;exact .of (HN F hr hg hm hk hb .nil Lw pa hdb he hpl) λB0 B σ H0 H Q fr q=>qa B0 B σ H0 H _ fr λvs H1 gY g1 rs=>by
  rw[gK];exact⟨H1,ds,zs,g1.sub,rs,hp,λv xs H2 nA g2 a1 a2 a3 a4=>q v xs H2 nA (g1.trans g2) (g1.big.free a1) a2 a3 a4⟩
end
def Ca(N:List Str)(ds:List aA):List Slot:=ds.map .val++bN (N.length-ds.length) .un
theorem kj.start{K:ao}{H0 H:Hp}{N:List Str}{vs:List V}{ds:List aA}(s:Same H0 H)(r:fX K H0 vs ds):kj K H0 H H0 H (start N vs) (Ca N ds):=by
 have hl:=r.length;refine⟨.refl s,by simp[L2.start,Ca,hl],λi sl e=>?_,λi j a b p _ e=>?_⟩
 ·unfold Ca at e
  unfold L2.start;by_cases hi:i<ds.length
  ·rw[fu (by simpa using hi),bh]at e
   have hd:ds[i]?=some ds[i]:=by simp[hi]
   rw[hd]at e;cases e;obtain⟨v,h1,h2⟩:=r.get hd;exact⟨v,by rw[fu (by simp;omega),bh,h1];rfl,h2⟩
  ·rw[eU (by simpa using j5 hi),h_]at e
   split at e<;>cases e
   trivial
 ·unfold Ca at e
  by_cases hi:i<ds.length
  ·rw[fu (by simpa using hi),bh]at e
   have hd:ds[i]?=some ds[i]:=by simp[hi]
   rw[hd]at e;cases e
  ·rw[eU (by simpa using j5 hi),h_]at e
   split at e<;>cases e
section
variable{P:bL}{w:dB}{K:ao}{mg:Str->Option aF}{base:dW}{x qual:Str}{st:mj}{f:aN}{fd:cU}{N ps:List Str}{k:Nat}
abbrev Qh(P:bL)(w:dB)(K:ao)(mg:Str->Option aF)(base:dW)(N:List Str)(qual:Str)(st:mj)(f:aN)(k:Nat)(ds:List aA)(o:Out):Prop:=
 ∀cdv A outer s H E,jH k (A.deeper (envOfC qual (cP st) s.heap.objs.size f cdv))->Em (Jd qz P w K mg base N qual (cP st) f cdv A outer s H E).nox (pQ st) (Ca N ds) o
theorem qg{R:List aA->aA->Prop}(F:rP K x qual st f fd)(S:eX N ps (cP st))(hl:∀ds d,R ds d->ds.length=ps.length)(hb:∀ds d,R ds d->Qh P w K mg base N qual st f k ds (.rt d)):i_ P w K mg base qz (k+1) f fd ps (mX K R):=by
 refine F.ok S (λvs H Q E h=>?_) (λcdv A outer s H vs Q E hr h=>?_)
 ·obtain⟨H0,ds,d,_,r,hp,_⟩:=h
  rw[r.length,hl ds d hp]
 ·obtain⟨H0,ds,d,sm,r,hp,q⟩:=h
  exact⟨_,tY,hb ds d hp cdv A outer s H E hr H0 H _ H0 H _ (.start sm r) q⟩
theorem Qi{R:List aA->List aA->Prop}(F:rP K x qual st f fd)(S:eX N ps (cP st))(hl:∀ds d,R ds d->ds.length=ps.length)(hb:∀ds d,R ds d->Qh P w K mg base N qual st f k ds (.ro d)):i_ P w K mg base qz (k+1) f fd ps (LK K R):=by
 refine F.ok S (λvs H Q E h=>?_) (λcdv A outer s H vs Q E hr h=>?_)
 ·obtain⟨H0,ds,d,_,r,hp,_⟩:=h
  rw[r.length,hl ds d hp]
 ·obtain⟨H0,ds,d,sm,r,hp,q⟩:=h
  exact⟨_,tY,hb ds d hp cdv A outer s H E hr H0 H _ H0 H _ (.start sm r) q⟩
end
end L2
namespace L2.Srt
open PySem PySem.W PyProof.Rows
structure Ord(lt:Nat->Nat->Bool):Prop where
 irr:∀i,lt i i=false
 asy:∀i j,lt i j=true->lt j i=false
 tra:∀i j k,lt j i=false->lt k j=false->lt k i=false
section
variable{N:Nat}{lt:Nat->Nat->Bool}
end
end L2.Srt
namespace L2
open PySem PySem.Spec PyProof.Rows PySem.W
section
variable{P:bL}{w:dB}{A:fW}{E:aF->aL->Prop}{s:aL}
end
theorem fX.ints{K:ao}{H:Hp}:∀{ns:List Int}{xs:List V},fX K H xs (ns.map .int)->xs=ns.map V.int
 | [],_,r=>by cases r;rfl
 |n::ns,_,r=>by cases r with|cons a t=>cases a;rw[aZ,fX.ints t]
theorem Vals.getD:∀{xs:List V}{us:List aF}(i:Nat),Vals xs us->RelV (xs.getD i .non) (us.getD i iG)
 |_,_,_,.nil=>by simp;rfl
 |_,_,0,.cons r _=>by simpa using r
 |_,_,i+1,.cons _ t=>by simpa using Vals.getD i t
end L2
namespace L2
open PySem PySem.Spec PyProof.Rows
section
variable{X:Cx}{a b c e:dz}{es:List dz}{δ:List Slot}{d d1 d2 d3:aA}{ds:List aA}{pos:Pos}{k:Nat}
def zbN:aA->Bool
 | .none=>true
 | .bool _=>true
 | .int _=>true
 | .str _=>true
 |_=>false
theorem Rep.zhQ{K:ao}{H H':Hp}{v:V}(r:Rep K H v d)(h:zbN d=true):Rep K H' v d:=by
 cases r with
 |non=>exact .non
 |bl b=>exact .bl b
 |int i=>exact .int i
 |str x=>exact .str x
 |_=>cases h
def zc2(K:ao)(n:Nat):V->List V->Hp->VK->Prop:=λx vs H Q=>∃p ds y d j,x=.ref p/\vs=[y]/\Rep K H (.ref p) (.list ds)/\Rep K H y d/\Lay n (.list ds)/\Lay n d/\(∃h:j<ds.length,fD ds[j] d=true)/\
 (∀m (h:m<ds.length),m<j->fD ds[m] d=false)/\Q (.int j) H
theorem Yv{n:Nat}(hu:X.A.units+n+2<cLine):MtM X "list.index" (zc2 X.K n):=by
 intro pins s σ H x vs v us Q I rx rv h;obtain⟨p,ds,y,d,j,rfl,rfl,r1,r2,l1,l2,⟨hj,hit⟩,hno,q⟩:=h;cases rx;obtain⟨u,rfl,ru⟩:=rv.one;obtain⟨bs,rb⟩:=pF I d l2.1 r2 ru;cases r1 with
 |lst hq rs=>
  obtain⟨its,rvs,⟨⟨cls,dd,data,sl⟩,m,eo,ec,_,ed⟩,hz⟩:=I.list hq;simp only at ec ed;subst ec ed;obtain⟨as,ra⟩:=tX I ds l1.1 rs rvs;have hl:=rvs.length;have hl2:=rs.length;have hm:=SeqAt.readsAll_map ds its as l1.1 ra;have rd:∀i (h1:i<its.length) (h2:i<ds.length),pY s.heap its[i]=ds[i]:=λi h1 h2=>by
   have e1:(its.map (pY s.heap))[i]?=some (pY s.heap its[i]):=by simp[h1]
   rw[hm]at e1;rw[aG h2]at e1;exact(fM e1).symm
  have h1:=l2.2;have hn:=yd;have zhR:sizeLine=16777216:=fK;refine qF F.slot_list_index ⟨_,eo,rfl⟩ F.entry_list_index (F.args_list_index_2 _ _) (SeqAt.list_indexAt p its.toArray m dd sl u (λy=>fD (pY s.heap y) d) j (by simp;omega) (by omega) ?_ ?_) ⟨eo,?_,?_⟩
  ·have:=rd j (by omega) hj
   simp only[uG];rw[this];exact hit
  ·intro i hi hij
   simp only[bM]at hi;have:=rd i hi (by omega)
   simp only[uG];rw[this];exact hno i (by omega) hij
  ·exact SeqAt.items_eqAt (by simpa using ra) rb l1.1 l2.1 (by omega)
  ·exact⟨.int j,H,I.tok _,⟨_,rfl⟩,q⟩
theorem Yw{j:Nat}{ap:Pos}(hr:jH k X.A)(h1:VE X a δ (.list ds))(h2:VE X b δ d)(l1:Lay 20 (.list ds))(l2:Lay 20 d)(hj:∃h:j<ds.length,fD ds[j] d=true)(hno:∀m (h:m<ds.length),m<j->fD ds[m] d=false)
  (hs:starEach [b] X.env=(false,eval b X.env)::starEach [] X.env:=by rfl)(hbase:attributeBase a "index" X.env (eval a X.env)=eval a X.env:=by rfl)
  (hfew:((backTo pos (starEach [b] X.env)).all (λx=>!x.1)&&(backToKw pos (keywordEach [] X.env)).all (λx=>x.1.isSome)&&decide (([b]:List dz).length+([]:List lu).length+(if([]:List lu).isEmpty then 0 else 1)<30))=true:=by rfl)
  (hline:(ap.endLine==pos.line)=true:=by rfl)(hplain:(backTo pos (starEach [] X.env)).any (·.1)=false:=by rfl):VE X (.Call (.Attribute a "index" ap) [b] [] pos) δ (.int j):=
 .of (Gn kI Lb Ld (Yv (KR hr)) fZ (eV fZ je hs) hbase hfew hline hs hplain) λB0 B σ H0 H Q f q=>h1 B0 B σ H0 H _ f λv H1 gY g r1=>by
  cases r1 with
  |lst hq rs=>
   refine⟨.inl ⟨rfl,_,g.sub.seq hq⟩,h2 B0 B σ H1 gY _ (f.grow g) λu H2 nA g2 r2=>?_⟩
   exact⟨_,ds,u,d,j,rfl,rfl,.lst (g2.sub.seq (g2.j9.seq hq)) (rs.mono (g2.j9.trans g2.sub)),r2.mono g2.sub,l1,l2,hj,hno,q _ H2 nA (g.trans g2) (.int _)⟩
def tyD:aA->Option String
 | .none=>some "NoneType"
 | .bool _=>some "bool"
 | .int _=>some "int"
 | .str _=>some "str"
 | .list _=>some "list"
 | .tuple _=>some "tuple"
 |_=>none
theorem Vi{t tn:String}{kb:Bool}(ht:tyD d=some t)(hk:dR X.K (.type t) (.type tn)=some kb):pC X (.builtin "isinstance") (λxs H Q=>∃x,xs=[x,.ty tn]/\Rep X.K H x d/\Q (.bl kb) H):=by
 intro pins s σ H xs us Q I r h;obtain⟨x,rfl,rx,q⟩:=h;obtain⟨u,w',rfl,r1,r2⟩:=vals2 r;cases r2;have fin:∀tk,EP X pins σ Q (.bool kb) { s with toks:=tk }:=λtk=>⟨.bl kb,H,I.tok tk,rfl,q⟩
 cases rx with
 |non=>cases ht;cases r1;exact mL PySem.W.kitx_none I.zm iI hk (λz=>nomatch z) fin
 |bl b=>cases ht;cases r1;exact mL PySem.W.kitx_bool I.zm iI hk (λz=>nomatch z) fin
 |int i=>cases ht;obtain⟨t,rfl⟩:=r1;exact mL PySem.W.kitx_int I.zm iI hk (λz=>nomatch z) fin
 |str y=>cases ht;obtain⟨t,rfl⟩:=r1;exact mL PySem.W.kitx_str I.zm iI hk (λz=>nomatch z) fin
 |lst hq rs=>
  cases ht;cases r1;obtain⟨its,_,⟨o,n,e,c,_⟩,_⟩:=I.list hq;exact mL PySem.W.kitx_list I.zm ⟨o,e,c⟩ hk (λz=>nomatch z) fin
 |tup hq rs=>
  cases ht;cases r1;obtain⟨its,_,⟨o,e,c,_⟩,_⟩:=I.tuple hq;exact mL PySem.W.kitx_tuple I.zm ⟨o,e,c⟩ hk (λz=>nomatch z) fin
 |dct _ _ _=>cases ht
 |dcT _ _ _=>cases ht
 |obj _ _ _ _ _=>cases ht
theorem N_{x:Str}{t tn:String}{kb:Bool}{p p2:Pos}(h:VE X a δ d)(ht:tyD d=some t)(hk:dR X.K (.type t) (.type tn)=some kb)(hb:bootBuiltins x=some (.type tn))(m1:X.mg "isinstance"=none)(m2:X.mg x=none)(hv:bootBuiltins "isinstance"=some (.builtin "isinstance"))
  (hg:Gl X "isinstance":=by rfl)(hg2:Gl X x:=by rfl)(hn:x≠"__name__":=by decide)(hdb:(x==("__debug__":Str))=false:=by decide)(hs:starEach [a,.Name x p2] X.env=(false,eval a X.env)::starEach [.Name x p2] X.env:=by rfl)(hs2:starEach [.Name x p2] X.env=(false,eval (.Name x p2) X.env)::starEach [] X.env:=by rfl)
  (hpl:(backTo pos (starEach [.Name x p2] X.env)).any (·.1)=false:=by rfl):VE X (.Call (.Name "isinstance" p) [a,.Name x p2] [] pos) δ (.bool kb):=
 .of (rm (Vi ht hk) hg m1 hv (eV fZ (eV (Dd hg2 m2 hb (v:=.ty tn) rfl hn hdb) je hs2) hs) (by decide) (by decide) hs hpl) λB0 B σ H0 H Q f q=>h B0 B σ H0 H _ f λv H1 gY g r=>⟨v,rfl,r.mono g.sub,q _ H1 gY g (.bl _)⟩
theorem zhS{P:bL}{w:dB}{A:fW}{E:aF->aL->Prop}{s:aL}{l:aN}{vs:List aF}{ns:List Int}{Q:aF->aL->Prop}(hh:A.handled=none)(hl:s.heap.IsList l vs.toArray)(hi:Kz vs ns)(hne:ns≠[])
  (h:∀h' M (t:Tok) tk,(∀b o,s.heap.get? b=some o->h'.get? b=some o)->M∈ns->(∀z,z∈ns->z<=M)->Q (.int M t) { s with heap:=h',toks:=tk }):wpAny (model P w) A (call (.builtin "max") [.ref l]) Q E s:=by
 obtain⟨xs,ex⟩:=hi.allInts.items;have hns:ns=xs.toList.map (·.1):=by rw[<-hi.numsOf,<-nums_intItems,<-ex]
 have hz:0<xs.size:=by
  rcases Eu xs.size with z|z
  ·exfalso
   apply hne;rw[hns,Array.eq_empty_of_size_eq_zero z];rfl
  ·exact z
 rw[ex]at hl;refine max_intList hh hl hz λv h' tk hv hk=>?_
 obtain⟨t,rfl⟩:=intItems_at hv;obtain⟨g1,g2⟩:=argBest_gt (numAt xs) (xs.size-1);refine h h' _ t tk hk ?_ λz hzm=>?_
 ·rw[hns,numAt_eq]
  exact getD_mem (by rw[aq,dX];omega)
 ·rw[hns]at hzm
  obtain⟨j,hj,rfl⟩:=mem_getD hzm;rw[aq,dX]at hj;rw[<-numAt_eq];exact g2 j (by omega)
theorem Wt(hc:X.calm=true):pC X (.builtin "max") (λxs H Q=>∃p ns,xs=[.ref p]/\rW X.K H p (ns.map V.int)/\ns≠[]/\∀M,M∈ns->(∀z,z∈ns->z<=M)->Q (.int M) H):=by
 intro pins s σ H xs us Q I r h;obtain⟨p,ns,rfl,hq,hne,q⟩:=h;obtain⟨u,rfl,rx⟩:=vals1 r;cases rx;obtain⟨its,rv,pl,hz⟩:=I.list hq;exact zhS (I.ok.hd hc) pl.isList (intsAre_of rv) hne λh' M t tk hk h1 h2=>⟨.int M,H,I.kept hk,⟨_,rfl⟩,q M h1 h2⟩
theorem zfa{K:ao}{ns:List Int}{M:Int}(h1:M∈ns)(h2:∀z,z∈ns->z<=M):CallD K (λxs H Q=>∃p ns,xs=[.ref p]/\rW K H p (ns.map V.int)/\ns≠[]/\∀M,M∈ns->(∀z,z∈ns->z<=M)->Q (.int M) H) [.list (ns.map .int)] (.int M):=λvs H0 H Q s r q=>by
 obtain⟨v,rfl,r1⟩:=r.one;cases r1 with
 |lst hq rs=>
  have e:=rs.ints;subst e;refine⟨_,ns,rfl,s.seq hq,(λz=>by rw[z]at h1;cases h1),λM' g1 g2=>q _ _ _ (.refl s) ?_⟩
  have:M'=M:=Int.le_antisymm (h2 M' g1) (g2 M h1);rw[this];exact .int _
end
section
variable{X:Cx}{sc:rR}{own N:List Str}{cap:List Nat}{cl:List (Str×aN)}{tg elt iter:dz}{ifs:List dz}{δ:List Slot}{ds:List aA}{pos px spos:Pos}{tgt:Sx}{x:Str}
theorem Vj(i:Nat){F:aA->Option aA}(hc:X.calm=true)(CS:sS X sc own cap N cl)(hi:VI X tg iter δ ds)(hg:∀f s3 H3,PG (lq X sc N cl f s3 H3) tg (Z_ X.K tgt))(ht:LC own.length tgt=true)(hz:ds.length<=sizeLine)
  (step:∀d∈ds,SJ X sc own cap N cl tgt elt ifs δ F d)(hN:X.N.Nodup)(hxi:X.N[i]?=some x:=by rfl)(hx:Loc X.env.scope x:=by first|exact bG rfl|exact fj rfl)
  (hsw:swapsWith (.ListComp elt [⟨tg,iter,ifs,0⟩] sc pos) (some (.Name x px)) spos.line X.env=pure true:=by rfl)(hs:∀x,foldedSetIterable iter X.env x=pure x:=by intro _;rfl)(hf:X.fn x=true\/X.env.scope.names.lookup x=some .local:=by first|exact .inl rfl|exact .inr rfl):
  VS X (.Assign [.Name x px] (.ListComp elt [⟨tg,iter,ifs,0⟩] sc pos) spos) δ (.nx (δ.set i (.own (ds.filterMap F)))):=λB0 B σ H0 H D f ok pins s I=>by
 obtain⟨wi,pi,qi⟩:=hi;refine Jk (i:=i) (tc:=tcC X sc N cl ifs) (te:=teC X sc N cl elt) hN hxi hx hc CS pi hg (λf s3 H3 pins s σ H Q I h=>h f s3 H3 pins s I) (λf s3 H3 pins s σ H Q I h=>h f s3 H3 pins s I) hsw hs hf pins s σ H D I ?_
 refine qi B0 B σ H0 H _ f λJ H1 gY g it=>?_
 refine Gu ht hz step (f.grow g) it λp xs Ha Hb g2 a1 a2 a3 a4=>?_
 have gg:=g.trans g2;have hp:H p=none:=g.big.free a1;refine ok _ Ha Hb gg.j9 ((f.grow gg).N6 a3 a2 (f.ent.big.free hp) a4 λj es e2 e3=>?_)
 obtain⟨p',xs',g1,g2',_⟩:=f.slot j _ e2;rw[e3]at g1;cases g1;rw[hp]at g2';cases g2'
end
theorem VT.to{X:Cx}{c:dz}{δ:List Slot}{k k':Bool}(h:VT X c δ k')(e:k'=k):VT X c δ k:=e▸h
theorem VE.to{X:Cx}{c:dz}{δ:List Slot}{k k':aA}(h:VE X c δ k')(e:k'=k):VE X c δ k:=e▸h
theorem VO.to{X:Cx}{c:dz}{δ:List Slot}{k k':List aA}(h:VO X c δ k')(e:k'=k):VO X c δ k:=e▸h
theorem dY(n:Nat)(i:Int):Lay n (.int i):=⟨rfl,cC _⟩
theorem bZ{n:Nat}{x:Str}(h:eN (.str x)=true):Lay n (.str x):=⟨h,cC _⟩
theorem SM{n:Nat}:∀{ds:List aA},(∀d∈ds,Lay n d)->wu ds=true/\aA.depthAll ds<=n
 | [],_=>⟨rfl,cC _⟩
 |d::ds,h=>by
  obtain⟨h1,h2⟩:=SM λe he=>h e (bD _ he)
  obtain⟨h3,h4⟩:=h d aY;refine⟨by simp[wu,h1,h3],?_⟩
  show max d.depth (aA.depthAll ds)<=n;omega
theorem Ib{n:Nat}{ds:List aA}(h:∀d∈ds,Lay n d):Lay (n+1) (.list ds):=by
 obtain⟨h1,h2⟩:=SM h;exact⟨h1,Io h2⟩
theorem Oa{n:Nat}{ds:List aA}(h:∀d∈ds,Lay n d):Lay (n+1) (.tuple ds):=by
 obtain⟨h1,h2⟩:=SM h;exact⟨h1,Io h2⟩
theorem filterMap_some{α β:Type}{F:α->Option β}{g:α->β}:∀{l:List α},(∀a∈l,F a=some (g a))->l.filterMap F=l.map g
 | [],_=>rfl
 |a::l,h=>by
  rw[iD (h a aY),aZ,filterMap_some λb hb=>h b (bD _ hb)]
def isOwn:Slot->Bool
 | .own _=>true
 |_=>false
def noOwn(δ:List Slot):Bool:=δ.all λs=>!isOwn s
theorem wV{δ:List Slot}(h:noOwn δ=true)(i:Nat)(ds:List aA):δ[i]?≠some (.own ds):=λe=>by
 have:=iC.mp h _ (dw e);cases this
section
variable{K:ao}{B0 B H0 H iM H' C0 C Ha Hb:Hp}{σ σ':St}{δ δ':List Slot}
theorem kj.SN(f:kj K B0 B H0 H σ δ){i:Nat}{v:V}{sl:Slot}(hs:Yp K B H0 H sl (some (some v)))(hn:isOwn sl=false):kj K B0 B H0 H (σ.set i (some v)) (δ.set i sl):=by
 refine⟨f.ent,by simp[f.len],λj sl' e=>?_,λj k ds es p hjk e1 e2 e3=>?_⟩
 ·by_cases hj:j=i
  ·subst hj
   have hl:j < δ.length:=by simpa using(aV.mp e).1
   rw[bF hl]at e;cases e;rw[bF (by rw[f.len];exact hl)]
   exact hs
  ·rw[bB (cH hj)]at e
   rw[bB (cH hj)];exact f.slot j sl' e
 ·have nj:j≠i:=λz=>by
   subst z;have hl:j < δ.length:=by simpa using(aV.mp e1).1
   rw[bF hl]at e1;cases e1;cases hn
  have nk:k≠i:=λz=>by
   subst z;have hl:k < δ.length:=by simpa using(aV.mp e2).1
   rw[bF hl]at e2;cases e2;cases hn
  rw[bB (cH nj)]at e1 e3;rw[bB (cH nk)]at e2 ⊢;exact f.apart j k ds es p hjk e1 e2 e3
theorem kj.re(f:kj K B0 B H0 H σ δ)(hn:noOwn δ=true)(g:gR C0 C H0 H):kj K C0 C H0 H σ δ:=by
 refine⟨g,f.len,λi sl e=>?_,f.apart⟩
 have q:=f.slot i sl e;cases sl with
 |own ds=>exact absurd e (wV hn i ds)
 |_=>exact q
theorem gR.still(g:gR H0 H Ha Hb){p:aN}{o:HO}(h0:H0 p=none)(h:H p=some o):Ha p=none:=by
 cases e:Ha p with
 |none=>rfl
 |some u=>
  rcases g.new p (by rw[e];simp)with z|z
  ·exact absurd h0 z
  ·rw[h]at z;cases z
theorem gR.far(s:Same H0 H)(b:Same H Hb):gR H0 H H0 Hb:=⟨b,Same.refl _,s.trans b,λ_ z=>.inl z⟩
end
section
variable{X:Cx}{st:mj}{rest body orelse:List mj}{δ δ':List Slot}{o:Out}{a b c e arg:dz}{d d1 d2 da:aA}{ds zs:List aA}{pos px py:Pos}{x y:Str}
theorem Yx{i:Int}(h:VE X a δ (.int i)):VE X (.UnaryOp .USub a pos) δ (.int (-i)):=.of (zez zcI fZ) λB0 B σ H0 H Q f q=>h B0 B σ H0 H _ f λv H1 gY g r=>by
 cases r;exact⟨_,rfl,q _ H1 gY g (.int _)⟩
theorem wC(n:Nat):(qH n).length=n:=by simp[qH]
theorem Yy(tgt:Sx){tg:dz}(h:VE X e δ d)(hg:PG X tg (Z_ X.K tgt))(ha:Jm tgt d δ=some δ')(hs:swapsWithSole [tg] e pos.line X.env=pure false:=by rfl)(hw:swappedStores [tg] e X.env=pure none:=by rfl)
  (h1:(assignEach [tg] X.env).map (·.2)=[assign tg X.env]:=by rfl):VS X (.Assign [tg] e pos) δ (.nx δ'):=λB0 B σ H0 H D f ok pins s I=>
 X3 fZ hg hs hw h1 pins s σ H D I (h B0 B σ H0 H _ f λv H1 gY g r=>yq (f.grow g) r ha λσ' f'=>ok σ' H1 gY g.j9 f')
theorem Yz(i j:Nat){pt RT:Pos}{kt k2}(h1:VE X a δ d1)(h2:VE X b δ d2)(hc:X.calm=true)(hN:X.N.Nodup)(hij:i≠j)(hi:X.N[i]?=some x:=by rfl)(hj:X.N[j]?=some y:=by rfl)(hx:X.env.scope.names.lookup x=some .local:=by rfl)(hy:X.env.scope.names.lookup y=some .local:=by rfl)
  (hw:swappedStores [.Tuple [.Name x px,.Name y py] kt pt] (.Tuple [a,b] k2 RT) X.env=pure (some [x,y]):=by rfl)(hs:swapsWithSole [.Tuple [.Name x px,.Name y py] kt pt] (.Tuple [a,b] k2 RT) pos.line X.env=pure false:=by rfl)
  (hs1:starEach [a,b] X.env=(false,eval a X.env)::starEach [b] X.env:=by rfl)(hs2:starEach [b] X.env=(false,eval b X.env)::starEach [] X.env:=by rfl):
  VS X (.Assign [.Tuple [.Name x px,.Name y py] kt pt] (.Tuple [a,b] k2 RT) pos) δ (.nx ((δ.set i (.val d1)).set j (.val d2))):=λB0 B σ H0 H D f ok pins s I=>by
 obtain⟨t,pa,qa⟩:=au h1 (au h2 aX hs2) hs1;refine X4 hc hN hi hj hij hx hy pa hw hs pins s σ H D I (qa B0 B σ H0 H _ f λvs H1 gY g rs=>?_)
 obtain⟨v,w,rfl,r1,r2⟩:=rs.two;exact⟨v,w,rfl,ok _ H1 gY g.j9 (((f.grow g).set r1).set r2)⟩
end
structure En(K:ao)(B0 B:Hp)(a:aN)(ps:List aN)(gs:List (List aA))(H0 H:Hp)(σ:St)(δ:List Slot):Prop where
 fr:kj K B0 B H0 H σ δ
 no:noOwn δ=true
 arr:H a=some (.lst (ps.map V.ref))
 a0:H0 a=none
 aB:B a=none
 na:a∉ps
 nd:ps.Nodup
 len:ps.length=gs.length
 cell:∀(i:Nat)p ds,ps[i]?=some p->gs[i]?=some ds->H0 p=none/\B p=none/\∃xs,H p=some (.lst xs)/\fX K H0 xs ds
section
variable{K:ao}{B0 B H0 H iM H' C0 C Ha Hb:Hp}{σ σ':St}{δ δ':List Slot}{a:aN}{ps:List aN}{gs:List (List aA)}
theorem En.go(G:En K B0 B a ps gs H0 H σ δ)(f':kj K H0 H Ha Hb σ' δ')(hn:noOwn δ'=true):En K B0 B a ps gs Ha Hb σ' δ' where
 fr:=f'.re hn (G.fr.ent.trans f'.ent)
 no:=hn
 arr:=f'.ent.big _ _ G.arr
 a0:=f'.ent.still G.a0 G.arr
 aB:=G.aB
 na:=G.na
 nd:=G.nd
 len:=G.len
 cell:=λi p ds e1 e2=>by
  obtain⟨h1,h2,xs,h3,h4⟩:=G.cell i p ds e1 e2;exact⟨f'.ent.still h1 h3,h2,xs,f'.ent.big _ _ h3,h4.mono f'.ent.j9⟩
theorem En.from(G:En K B0 B a ps gs H0 H σ δ)(g:gR C0 B H0 H):En K C0 B a ps gs H0 H σ δ where
 fr:=G.fr.re G.no g
 no:=G.no
 arr:=G.arr
 a0:=G.a0
 aB:=G.aB
 na:=G.na
 nd:=G.nd
 len:=G.len
 cell:=G.cell
theorem En.own(G:En K B0 B a ps gs H0 H σ δ):kj K H0 H H0 H σ δ:=G.fr.re G.no (.refl G.fr.sub)
theorem En.forget(G:En K B0 B a ps gs H0 H σ δ)(hf:Fgt δ δ')(hn:noOwn δ'=true):En K B0 B a ps gs H0 H σ δ':=G.go (G.own.forget hf.len hf.at) hn
end
section
variable{X:Cx}{B0 B H0 H iM H' Ha Hb:Hp}{σ σ':St}{D:Ends}{st:mj}{rest body orelse:List mj}{δ δ':List Slot}{a:aN}{ps:List aN}{gs:List (List aA)}{e c tg iter:dz}{d:aA}{ds:List aA}{pos px spos:Pos}{x y:Str}
def Ends.tail(D:Ends)(u:St->Hp->Prop):Ends:={ D with nx:=u }
theorem gk(h:cS X st (D.tail λσ H=>Vg X rest D σ H) σ H):Vg X (st::rest) D σ H:=λpins s I=>q_ Yq tY pins s σ H D I h
theorem gU(h:cS X st D σ H):Vg X [st] D σ H:=λpins s I=>HJ Yq pins s σ H D I h
theorem YB(G:En X.K B0 B a ps gs H0 H σ δ)(h:VS X st δ (.nx δ'))(hn:noOwn δ'=true)(q:∀σ' iM H',En X.K B0 B a ps gs iM H' σ' δ'->D.nx σ' H'):cS X st D σ H:=
 h H0 H σ H0 H D G.own λσ' Ha Hb sm f'=>q σ' Ha Hb (G.go f' hn)
theorem zfb{tgt:Sx}(G:En X.K B0 B a ps gs H0 H σ δ)(hp:M4 (model X.prog X.w) X.A X.env X.xe)(hc:X.calm=true)(hi:VI X tg iter δ ds)(hg:PG X tg (Z_ X.K tgt))(gss:Nat->List (List aA))(h0:gss 0=gs)
  (step:∀k d,ds[k]?=some d->∃δ',Jm tgt d δ=some δ'/\noOwn δ'=true/\∀(D:Ends)C0 σ' iM H',En X.K C0 B a ps (gss k) iM H' σ' δ'->(∀σ2 Ha Hb,En X.K C0 B a ps (gss (k+1)) Ha Hb σ2 δ->D.nx σ2 Hb)->Vg X body D σ' H')
  (q:∀σ2 Ha Hb,En X.K B0 B a ps (gss ds.length) Ha Hb σ2 δ->D.nx σ2 Hb)
  (hs:∀x,foldedSetIterable iter X.env x=pure x:=by intro _;rfl):cS X (.For tg iter body [] pos) D σ H:=λpins s I=>by
 obtain⟨wi,pi,qi⟩:=hi;refine Nu hp hc pi hg tY hs pins s σ H D I ?_
 refine qi H0 H σ H0 H _ G.own λJ H1 gY g it=>?_
 have G1:=G.go (G.own.grow g) G.no;refine⟨λi mm σ' H'=>i<=ds.length/\mm=ds.length-i/\∃Ha,En X.K H1 B a ps (gss i) Ha H' σ' δ,⟨ds.length,cC _,rfl,H1,by rw[h0];exact G1.from ⟨G1.fr.ent.big,Same.refl _,G1.fr.sub,λ_ z=>.inl z⟩⟩,?_⟩
 rintro i mm σ' H' ⟨hi,rfl,Ha,Ga⟩
 obtain⟨i1,i2,i3⟩:=it Ha H' Ga.fr.ent.j9 Ga.fr.sub i;by_cases hlt:i<ds.length
 ·have hd:ds[i]?=some ds[i]:=by simp[hlt]
  obtain⟨δ',e1,e2,e3⟩:=step i _ hd;refine .inr ⟨i1 hlt,λσ'' Ks=>∃Hb,En X.K H1 B a ps (gss (i+1)) Hb Ks σ'' δ,λσ'' Ks ⟨Hb,z⟩=>⟨ds.length-(i+1),by omega,hlt,rfl,Hb,z⟩,λv H2 y=>?_⟩
  obtain⟨Hb,g2,rx⟩:=i3 v H2 _ hd y;refine yq (Ga.own.grow g2) rx e1 λσ3 f3=>?_
  exact e3 _ H1 σ3 Hb H2 (Ga.go f3 e2) λσ2 Hc Hd z=>⟨Hc,z⟩
 ·have e:i=ds.length:=by omega
  subst e;refine .inl ⟨i2 (aK _),q σ' Ha H' (Ga.from ⟨Ga.fr.ent.big,G1.fr.ent.j9.trans Ga.fr.ent.j9,Ga.fr.sub,λb z=>?_⟩)⟩
  rcases Ga.fr.ent.new b z with z|z
  ·exact G1.fr.ent.new b z
  ·exact .inr z
end
section
variable{X:Cx}{sc:rR}{own N:List Str}{cap:List Nat}{cl:List (Str×aN)}{tg iter:dz}{δ:List Slot}{ds:List aA}{pos px spos lp:Pos}{tgt:Sx}{x:Str}{B0 B H0 H:Hp}{σ:St}{D:Ends}
theorem zaJ(i:Nat)(f:kj X.K B0 B H0 H σ δ)(hno:noOwn δ=true)(hc:X.calm=true)(CS:sS X sc own cap N cl)(hi:VI X tg iter δ ds)(hg:∀f s3 H3,PG (lq X sc N cl f s3 H3) tg (Z_ X.K tgt))(ht:LC own.length tgt=true)(hz:ds.length<=sizeLine)
  (step:∀d∈ds,∃δ',Jm tgt d (tZ own cap δ)=some δ')(hN:X.N.Nodup)(q:∀σ' a ps iM H',En X.K B0 B a ps (bN ds.length []) iM H' σ' (δ.set i (.ref a))->D.nx σ' H')(hn:∀a,noOwn (δ.set i (.ref a))=true)(hxi:X.N[i]?=some x:=by rfl)(hx:Loc X.env.scope x:=by first|exact bG rfl|exact fj rfl)
  (hsw:swapsWith (.ListComp (.List [] lp) [⟨tg,iter,[],0⟩] sc pos) (some (.Name x px)) spos.line X.env=pure true:=by rfl)(hs:∀x,foldedSetIterable iter X.env x=pure x:=by intro _;rfl)(hf:X.fn x=true\/X.env.scope.names.lookup x=some .local:=by first|exact .inl rfl|exact .inr rfl):
  cS X (.Assign [.Name x px] (.ListComp (.List [] lp) [⟨tg,iter,[],0⟩] sc pos) spos) D σ H:=λpins s I=>by
 obtain⟨wi,pi,qi⟩:=hi;refine Jk (i:=i) (tc:=tcC X sc N cl []) (te:=teC X sc N cl (.List [] lp)) hN hxi hx hc CS pi hg (λf s3 H3 pins s σ H Q I h=>h f s3 H3 pins s I) (λf s3 H3 pins s σ H Q I h=>h f s3 H3 pins s I) hsw hs hf pins s σ H D I ?_
 refine qi B0 B σ H0 H _ f λJ H1 gY g it=>?_
 have f1:=f.grow g;intro L hL;have hBL:B L=none:=f1.ent.big.free hL;refine⟨λi m ys σ' H'=>i<=ds.length/\m=ds.length-i/\∃Ha ps,gR H1 gY Ha H'/\kj X.K B0 B Ha H' σ' (tZ own cap δ)/\Ha L=none/\ys=ps.map V.ref/\H' L=some (.lst ys)/\L∉ps/\ps.Nodup/\ps.length=i/\∀p∈ps,B p=none/\Ha p=none/\H' p=some (.lst []),
  ⟨ds.length,cC _,rfl,H1,[],.loose f1.sub hL,(f1.comp own cap).touch (f1.sub.free hL) hBL vR,f1.sub.free hL,rfl,cQ,by simp,by simp,rfl,λp hp=>by cases hp⟩,?_⟩
 rintro n m ys σ' H' ⟨hn1,rfl,Ha,ps,g1,fa,hLa,rfl,hLl,hLp,hnd,hpl,hps⟩
 obtain⟨i1,i2,i3⟩:=it Ha H' g1.j9 g1.sub n;by_cases hlt:n<ds.length
 ·refine .inr ⟨i1 hlt,λv H2 y=>?_⟩
  have hd:ds[n]?=some ds[n]:=by simp[hlt]
  obtain⟨Hb,g2,rx⟩:=i3 v H2 ds[n] hd y;obtain⟨δ',e1⟩:=step ds[n] (fY hlt);obtain⟨k1,k2⟩:=comp_back ht e1;refine yq (fa.grow g2) rx e1 λσ3 f3=>?_
  intro fp s3 H3;refine jz B0 B σ3 Hb H2 _ f3 λHc H4 g4=>?_
  rw[if_pos rfl];intro fp' s3' CN;have vo:VO (lq X sc N cl fp' s3' CN) (.List [] lp) δ' []:=jf (ds:=[]) aX;refine vo B0 B σ3 Hc H4 _ (f3.grow g4) λp xs Hd H5 g5 a1 a2 a3 a4=>?_
  cases a4;have g25:=(g2.trans g4).trans g5;have hL5:Hd L=none:=g25.still hLa hLl;have nLp:L≠p:=λz=>by
   have:=(g2.trans g4).big _ _ hLl;rw[z,a1]at this;cases this
  have pB:B p=none:=(f3.grow g4).ent.big.free a1;refine⟨g25.big _ _ hLl,by rw[aq,hpl];omega,ds.length-(n+1),by omega,hlt,rfl,Hd,ps ++ [p],?_,((f3.grow g4).grow g5 |>.forget k1.symm k2).touch hL5 hBL vR,hL5,by simp,cQ,by simp[hLp,nLp],?_,by simp[hpl],λp' hp'=>?_⟩
  ·have gg:=g1.trans g25
   exact⟨λb u e=>by rw[bf (bV e hL)];exact gg.big b u e,gg.j9,λb u e=>by rw[bf (bV e hL5)];exact gg.sub b u e,gg.new⟩
  ·rw[iJ]
   refine⟨hnd,by simp,λb hb c hc=>?_⟩
   simp only[bW]at hc;subst hc;intro z;subst z;have:=(g2.trans g4).big _ _ (hps b hb).2.2;rw[a1]at this;cases this
  ·rcases dJ.mp hp' with h|h
   ·obtain⟨h1,h2,h3⟩:=hps p' h
    have np:p'≠L:=λz=>hLp (by rw[<-z];exact h)
    exact⟨h1,g25.still h2 h3,by rw[bf np];exact g25.big _ _ h3⟩
   ·simp only[bW]at h
    subst h;exact⟨pB,a2,by rw[bf (cH nLp)];exact a3⟩
 ·have e:n=ds.length:=by omega
  subst e;refine .inl ⟨i2 (aK _),q _ L ps Ha H' ?_⟩
  have gg:=g.trans g1;refine⟨(f.grow gg).SN (v:=.ref L) (sl:=.ref L) rfl rfl,hn L,hLl,hLa,hBL,hLp,hnd,by simp[hpl],λj p es e1 e2=>?_⟩
  obtain⟨h1,h2,h3⟩:=hps p (dw e1);rw[h_]at e2
  split at e2<;>cases e2
  exact⟨h2,h1,[],h3,.nil⟩
end
section
variable{X:Cx}{B0 B H0 H:Hp}{σ:St}{D:Ends}{δ:List Slot}{a:aN}{ps:List aN}{gs:List (List aA)}{pos px:Pos}{x:Str}
end
theorem YC{ds:List aA}{i:Nat}{x:aA}(h:ds[i]?=some x):(Gs ds)[i]?=some (.tuple [.int i,x]):=by
 unfold Gs;rw[bh,m_,h];simp
theorem Qj{α:Type}(l:List α)(n:Nat):cutD l none (some (n:Int))=l.take n:=by
 unfold cutD;rw[HT.P0,HT.uK,rZ,Nat.sub_zero];by_cases h:n<=l.length
 ·rw[uY h]
 ·rw[Nat.min_eq_right (by omega),gw (aK _),gw (by omega)]
theorem Vk:Lay 20 (.list []):=Ib (n:=19) λd hd=>by cases hd
structure Nm(mg:Str->Option aF):Prop where
 len:mg "len"=none
 Wu:mg "enumerate"=none
 srt:mg "sorted"=none
 max:mg "max"=none
 min:mg "min"=none
 rng:mg "range"=none
 sum:mg "sum"=none
 isi:mg "isinstance"=none
 tup:mg "tuple"=none
 lst:mg "list"=none
 int:mg "int"=none
 bool:mg "bool"=none
structure Kt(K:ao):Prop where
 tt:dR K (.type "tuple") (.type "tuple")=some true
 ll:dR K (.type "list") (.type "list")=some true
 ii:dR K (.type "int") (.type "int")=some true
 ib:dR K (.type "int") (.type "bool")=some false
section
variable{P:bL}{w:dB}{A:fW}{R:BK->aL->Prop}{it S:aN}{fp wr:List aN}{n:Nat}{V:Nat->aF->Prop}{St:Nat->dW->Prop}{Kp:dW->Prop}{bt:Nat->Nat->Bool}
end
section
variable{P:bL}{w:dB}{A:fW}{E:aF->aL->Prop}{s:aL}
end
section
variable{X:Cx}
end
def Wv(l:aN)(n:Nat):dW->Prop:=λh=>∃o es ep t,h.get? l=some o/\o.ExactSet/\o.data=.set es ep t/\t.fits es.size=true/\es.size=n
theorem Wv.ok{P:bL}{w:dB}{H:Hp}{h:dW}{l:aN}{n:Nat}(x:Wv l n h):lB P w H h l (.ext (Wv l n)):=by
 refine⟨x,?_,λh1 h2 y k=>?_⟩
 ·obtain⟨o,_,_,_,e,_⟩:=x
  exact⟨o,e⟩
 ·obtain⟨o,es,ep,t,e,r⟩:=y
  exact⟨o,es,ep,t,k o e,r⟩
section
variable{X:Cx}
def dd:List Str->List Str->List Str
 |acc,[]=>acc
 |acc,x::l=>dd (if decide (x∈acc)=true then acc else acc ++ [x]) l
theorem LQ:∀(l:List Str)(acc m:List Str),dd acc (l++m)=dd (dd acc l) m
 | [],_,_=>rfl
 |x::l,acc,m=>LQ l _ m
theorem Fp:∀(l acc:List Str),(dd acc l).length<=acc.length+l.length
 | [],_=>aK _
 |x::l,acc=>by
  have:=Fp l (if decide (x∈acc)=true then acc else acc ++ [x])
  unfold dd
  split at this
  ·rename_i h;rw[if_pos h];simp;omega
  ·rename_i h;rw[if_neg h];simp at this ⊢;omega
theorem Qk:∀{l acc:List Str},(acc++l).Nodup->dd acc l=acc++l
 | [],acc,_=>by rw[gK];rfl
 |x::l,acc,h=>by
  unfold dd;have hx:x∉acc:=λz=>by
   rw[iJ]at h;exact h.2.2 x z x aY rfl
  rw[if_neg (by simpa using hx),Qk (by simpa using h)]
  simp
theorem LR:∀{ss:List Str}{its:List aF},Vals (ss.map V.str) its->∀(i:Nat)v,its[i]?=some v->∃x t,ss[i]?=some x/\v=.str x t
 | [],_,r,i,v,e=>by cases r;simp at e
 |x::ss,_,r,i,v,e=>by
  cases r with
  |cons a t=>
   cases i with
   |zero=>obtain⟨t,rfl⟩:=a;simp at e;exact⟨x,t,rfl,e.symm⟩
   |succ i=>simpa using LR t i v (by simpa using e)
theorem SetOf.zhW{P:bL}{w:dB}{h:dW}{l:aN}{S:Str->Bool}{n:Nat}(x:h.SetOf (strKind P w) l S n):Wv l n h:=by
 obtain⟨o,es,ep,t,ho,hex,hd,_,_,_,hf,hn⟩:=x;exact⟨o,es,ep,t,ho,hex,hd,hf,hn⟩
theorem KY:pC X (.builtin "len") (λxs H Q=>∃p n,xs=[.ref p]/\H p=some (.ext (Wv p n))/\n<10000/\Q (.int n) H):=by
 intro pins s σ H xs us Q I r h;obtain⟨p,n,rfl,hp,hn,q⟩:=h;obtain⟨u,rfl,rx⟩:=vals1 r;cases rx;obtain⟨⟨o,es,ep,t,ho,hex,hd,hf,hz⟩,_⟩:=I.hok p _ hp;exact call_len_set ho hex hd hf (by omega) ⟨.int n,H,I.tok _,⟨_,by rw[hz]⟩,q⟩
end
section
variable{X:Cx}{a b c e:dz}{δ:List Slot}{d d1 d2 d3:aA}{ds:List aA}{pos p p2 pos2:Pos}{k:Nat}
theorem fX.strs{K:ao}{H:Hp}:∀{ss:List Str}{xs:List V},fX K H xs (ss.map .str)->xs=ss.map V.str
 | [],_,r=>by cases r;rfl
 |x::ss,_,r=>by cases r with|cons a t=>cases a;rw[fX.strs t];rfl
theorem Ds:PE X e (λ_ _ _=>False):=λ_ _ _ _ _ _ h=>h.elim
theorem qI{op}(h:VE X a δ d):VE X (.BoolOp op [a] pos) δ d:=.of (zcw fZ) λB0 B σ H0 H Q f q=>h B0 B σ H0 H Q f q
theorem wD{k1 k2:Bool}{rest:List dz}(h1:VE X a δ (.bool k1))(h2:k1=true->VE X (.BoolOp .And (b::rest) pos) δ (.bool k2)):VE X (.BoolOp .And (a::b::rest) pos) δ (.bool (k1&&k2)):=by
 cases k1 with
 |true=>
  refine .of (XR fZ fZ) λB0 B σ H0 H Q f q=>h1 B0 B σ H0 H _ f λv H1 gY g r=>?_
  cases r;refine⟨true,rfl,?_⟩
  rw[if_pos rfl];exact h2 rfl B0 B σ H1 gY _ (f.grow g) λu H2 nA g2 r2=>q u H2 nA (g.trans g2) r2
 |false=>
  refine .of (XR fZ Ds) λB0 B σ H0 H Q f q=>h1 B0 B σ H0 H _ f λv H1 gY g r=>?_
  cases r;refine⟨false,rfl,?_⟩
  rw[if_neg eY];exact q _ H1 gY g (.bl false)
theorem Dt{k1 k2:Bool}{rest:List dz}(h1:VE X a δ (.bool k1))(h2:k1=false->VE X (.BoolOp .Or (b::rest) pos) δ (.bool k2)):VE X (.BoolOp .Or (a::b::rest) pos) δ (.bool (k1||k2)):=by
 cases k1 with
 |false=>
  refine .of (zbD fZ fZ) λB0 B σ H0 H Q f q=>h1 B0 B σ H0 H _ f λv H1 gY g r=>?_
  cases r;refine⟨false,rfl,?_⟩
  rw[if_neg eY];exact h2 rfl B0 B σ H1 gY _ (f.grow g) λu H2 nA g2 r2=>q u H2 nA (g.trans g2) r2
 |true=>
  refine .of (zbD fZ Ds) λB0 B σ H0 H Q f q=>h1 B0 B σ H0 H _ f λv H1 gY g r=>?_
  cases r;refine⟨true,rfl,?_⟩
  rw[if_pos rfl];exact q _ H1 gY g (.bl true)
theorem Ql{op op':Hw}{r r':R2}{k1 k2:Bool}(ho:xU X (compareOp op) r)(ho':xU X (compareOp op') r')(od1:HY X.K r d1 d2 (.bool k1))(od2:HY X.K r' d2 d3 (.bool k2))(h1:VE X a δ d1)(h2:VE X b δ d2)(h3:k1=true->VE X c δ d3)
  (hm:lastMarks [op,op'] [b,c]=false:=by with_unfolding_all rfl):VT X (.Compare a [op,op'] [b,c] pos) δ (k1&&k2):=by
 cases k1 with
 |true=>
  refine .of (PN ho ho' fZ fZ fZ hm) λB0 B σ H0 H Q f q=>h1 B0 B σ H0 H _ f λv H1 gY g1 r1=>h2 B0 B σ H1 gY _ (f.grow g1) λu H2 nA g2 r2=>od1 v u H2 nA _ g2.sub (r1.mono g2.j9) r2 λz H3 CN g3 r3=>?_
  cases r3;refine⟨true,rfl,?_⟩
  rw[if_pos rfl];exact h3 rfl B0 B σ H3 CN _ (((f.grow g1).grow g2).grow g3) λx H4 H4' g4 r4=>od2 u x H4 H4' _ g4.sub ((r2.mono g3.j9).mono g4.j9) r4 λy H5 H5' g5 r5=>by
   cases r5;exact⟨k2,rfl,q H5 H5' ((((g1.trans g2).trans g3).trans g4).trans g5)⟩
 |false=>
  refine .of (PN ho ho' fZ fZ Ds hm) λB0 B σ H0 H Q f q=>h1 B0 B σ H0 H _ f λv H1 gY g1 r1=>h2 B0 B σ H1 gY _ (f.grow g1) λu H2 nA g2 r2=>od1 v u H2 nA _ g2.sub (r1.mono g2.j9) r2 λz H3 CN g3 r3=>?_
  cases r3;refine⟨false,rfl,?_⟩
  rw[if_neg eY];exact⟨false,rfl,q H3 CN ((g1.trans g2).trans g3)⟩
def wW:List Bool->Bool:=λl=>l.all id
theorem wX(hc:X.calm=true):pC X (.builtin "all") (λxs H Q=>∃p bs,xs=[.ref p]/\rW X.K H p (bs.map V.bl)/\Q (.bl (wW bs)) H):=by
 intro pins s σ H xs us Q I r h;obtain⟨p,bs,rfl,hq,q⟩:=h;obtain⟨u,rfl,rx⟩:=vals1 r;cases rx;obtain⟨its,rv,pl,hz⟩:=I.list hq;have hl:=rv.length;simp only[aq]at hl;refine call_all_walkS (za pl.isList ?_)
 have hne:p≠s.heap.objs.size:=bQ (bw pl.isList.choose_spec.1);have hbl:∀(i:Nat)v,its.toArray[i]?=some v->v=.bool (bs.getD i false):=λi v hv=>by
  have hv':its[i]?=some v:=by simpa using hv
  have e:=rv.getD i;have e2:its.getD i iG=v:=by rw[aP,hv'];rfl
  have hi:i<bs.length:=by have:=(aV.mp hv').1;omega
  have e3:(bs.map V.bl).getD i .non=.bl (bs.getD i false):=by
   rw[aP,bh,aP,aG hi];rfl
  rw[e2,e3]at e;exact e
 refine⟨_,_,_,_,_,_,_,λi=>bs.getD i false,rfl,(Walks.list (by simp[I.ok.hd hc]) _ p hne its.toArray).toS,⟨⟨_,cD _ rfl,rfl,rfl⟩,pl.isList.push _⟩,?_,λs' hm=>?_⟩
 ·intro i v Q' E' s' hv q'
  rw[hbl i v hv];exact iw q'
 ·have ea:(dF its.toArray.size).all (λi=>bs.getD i false)=wW bs:=by
   rw[bM,<-hl];unfold wW;rw[lH,iC,iC]
   constructor
   ·intro h x hx
    obtain⟨i,hi⟩:=Aj.mp hx;have:=h i (gq.mpr (aV.mp hi).1);rw[aP,hi]at this;exact this
   ·intro h i hi
    have hi:=gq.mp hi;rw[aP,aG hi];exact h _ (fY hi)
  rw[ea];obtain⟨h',g',d',tk',os'⟩:=s';have eg:g'=s.gens:=hm.gens;have ed:d'=s.drawn:=hm.drawn;have eo:os'=s.os:=hm.os;subst eg;subst ed;subst eo;refine⟨.bl _,H,I.kept (t':=tk') λb o e=>hm.heap b o ?_ (aJ _ e),rfl,q⟩
  have:=bw e;simp only[bW];exact bQ this
theorem fX.bls{K:ao}{H:Hp}:∀{bs:List Bool}{xs:List V},fX K H xs (bs.map .bool)->xs=bs.map V.bl
 | [],_,r=>by cases r;rfl
 |x::ss,_,r=>by cases r with|cons a t=>cases a;rw[fX.bls t];rfl
theorem L_{K:ao}{bs:List Bool}:CallD K (λxs H Q=>∃p bs,xs=[.ref p]/\rW K H p (bs.map V.bl)/\Q (.bl (wW bs)) H) [.list (bs.map .bool)] (.bool (wW bs)):=λvs H0 H Q s r q=>by
 obtain⟨v,rfl,r1⟩:=r.one;cases r1 with
 |lst hq rs=>
  have e:=rs.bls;subst e;exact⟨_,bs,rfl,s.seq hq,q _ _ _ (.refl s) (.bl _)⟩
theorem zbO(hr:jH k X.A)(hs:isSeq d2=true)(l1:Lay 20 d1)(l2:Lay 20 d2)(h1:VE X a δ d1)(h2:VE X b δ d2)(hm:behindInMarks .In b=false:=by with_unfolding_all rfl):VE X (.Compare a [.In] [b] pos) δ (.bool (Dp d1 d2)):=B_ (Ys (KR hr)) (zc0 (neg:=false) hs l1 l2) h1 h2 hm
theorem YD(hr:jH k X.A)(l1:Lay 20 d1)(l2:Lay 20 d2)(h1:VE X a δ d1)(h2:VE X b δ d2):VE X (.Compare a [.NotEq] [b] pos) δ (.bool (!fD d1 d2)):=B_ (Yr (KR hr)) (Qf l1 l2) h1 h2 (jQ _)
end
end L2
namespace L2
open PySem PySem.Spec PyProof.Rows PySem.Builtin PySem.Builtin.Str
section
variable{X:Cx}
def zc3:V->List V->Hp->VK->Prop:=λx vs H Q=>∃z y,x=.str z/\vs=[.str y]/\(y.length==0)=false/\z.length+2<=sizeLine/\∀l,H l=none->Q (.ref l) (upd H l (.lst ((eO z y).map V.str)))
theorem Du:∀(l:List (Str×Tok)),Vals ((l.map (·.1)).map V.str) (strValues l)
 | []=>.nil
 |(x,t)::l=>.cons ⟨t,rfl⟩ (Du l)
theorem split_len{z y:Str}(hz:z.length+2<=sizeLine):(eO z y).length<=sizeLine/\(partsBetween z (occurrences z y 0 z.length (z.length+1)) y.length).length<=sizeLine:=by
 have e1:=Pn z y 0 z.length (z.length+1);have e2:(partsBetween z (occurrences z y 0 z.length (z.length+1)) y.length).length<=sizeLine:=by rw[G8];omega
 refine⟨?_,e2⟩
 unfold eO
 split
 ·show 1<=sizeLine;omega
 ·split
  ·show 1<=sizeLine;omega
  ·exact e2
theorem YF:MtM X "str.split" zc3:=by
 intro pins s σ H x vs v us Q I rx rv h;obtain⟨z,y,rfl,rfl,hy,hz,q⟩:=h;obtain⟨t,rfl⟩:=rx;obtain⟨u,rfl,ru⟩:=rv.one;obtain⟨tu,rfl⟩:=ru;obtain⟨sl,sp⟩:=split_len (y:=y) hz;have fin:∀(l:List (Str×Tok))(k:Nat),l.map (·.1)=eO z y->EP X pins σ Q (.ref s.heap.objs.size) { s with heap:=s.heap.push { cls:=.type "list",data:=.seq (strValues l).toArray },toks:=k }:=λl k e=>by
  refine⟨.ref s.heap.objs.size,_,I.laid (λb o e=>aJ _ e) (aK _) (show lB X.prog X.w _ _ _ (.lst ((eO z y).map V.str)) from⟨by rw[aq];exact sl,strValues l,0,by rw[<-e];exact Du l,cD _ rfl⟩),rfl,q _ (I.hok.fresh (aK _))⟩
 cases h1:(decide (z.length<y.length)||decide (strKind z<strKind y)) with
 |true=>exact qF KC (BP _ _ _) Ip (G9 _ _) (meets_str_split_cannot_occur z y t tu h1) (fin [(z,t)] s.toks (by unfold eO;rw[if_pos h1];rfl))
 |false=>
  cases hf:(occurrences z y 0 z.length (z.length+1)).isEmpty with
  |true=>exact qF KC (BP _ _ _) Ip (G9 _ _) (meets_str_split_not_found z y t tu h1 hy hf) (fin [(z,t)] s.toks (by unfold eO;rw[if_neg (by rw[h1];decide),if_pos hf];rfl))
  |false=>
   refine qF KC (BP _ _ _) Ip (G9 _ _) (meets_str_split_sep z y t tu h1 hy hf (by omega) sp) ?_
   rw[strsFrom_eq];exact fin (numbered s.toks _) _ ((numbered_texts _ _).trans (by unfold eO;rw[if_neg (by rw[h1];decide),if_neg (by rw[hf];decide)]))
def rJoin(K:ao):V->List V->Hp->VK->Prop:=λx vs H Q=>∃y p zs,x=.str y/\vs=[.ref p]/\(rW K H p (zs.map V.str)\/xZ K H p (zs.map V.str))/\(zs.map (·.length)).sum+zs.length*y.length<=16777216/\Q (.str (fQ y zs)) H
theorem Jr:∀{zs:List Str}{us:List aF},Vals (zs.map V.str) us->StrsAre us zs
 | [],_,r=>by cases r;exact .nil
 |z::zs,_,r=>by cases r with|cons a t=>obtain⟨tk,rfl⟩:=a;exact .cons z tk (Jr t)
theorem zaL:MtM X "str.join" (rJoin X.K):=by
 intro pins s σ H x vs v us Q I rx rv h;obtain⟨y,p,zs,rfl,rfl,hq,hz,q⟩:=h;obtain⟨t,rfl⟩:=rx;obtain⟨u,rfl,ru⟩:=rv.one;cases ru;have e:Txt.join y zs=fQ y zs:=StrLaws.glued_eq_join y zs;rcases hq with hq|hq
 ·obtain⟨its,r,pl,_⟩:=I.list hq
  exact join_list pl.isList (by simpa using Jr r) hz λt' k=>⟨.str _,H,I.tok k,⟨t',by rw[e]⟩,q⟩
 ·obtain⟨its,r,pl,_⟩:=I.tuple hq
  exact join_tuple pl (by simpa using Jr r) hz λt' k=>⟨.str _,H,I.tok k,⟨t',by rw[e]⟩,q⟩
theorem KZ:pC X (.type "int") (λxs H Q=>∃x n,xs=[.str x]/\intText? x=some n/\x.length<=640/\Q (.int n) H):=by
 intro pins s σ H xs us Q I r h;obtain⟨x,n,rfl,hn,hl,q⟩:=h;obtain⟨u,rfl,t,rfl⟩:=vals1 r;exact PySem.W.KIN.call_text hn hl ⟨.int n,H,I.tok _,⟨_,rfl⟩,q⟩
def oZ(x:Str):Nat->Str
 |0=>iy
 |n+1=>x++oZ x n
theorem Vl(x:Str):∀(n:Nat)(acc:Array Nat),(bN n x.cps).foldl (· ++ ·) acc=acc++(oZ x n).cps
 |0,acc=>by show acc=acc ++ #[];simp
 |n+1,acc=>by
  rw[g8,uT,Vl x n];show acc++x.cps++(oZ x n).cps=acc++(x.cps++(oZ x n).cps);rw[Array.append_assoc]
theorem Vm(x:Str):∀n,(oZ x n).length=n*x.length
 |0=>by show(iy).length=_;simp[iy,Str.length]
 |n+1=>by
  show(x++oZ x n).length=_
  rw[dI,Vm x n,RN,Nat.add_comm]
theorem zaM:xU X (binaryOp .Mult) (λx y H Q=>∃z n,x=.str z/\y=.int n/\0<=n/\n<=1000/\z.length<=1000/\Q (.str (oZ z n.toNat)) H):=by
 intro pins s σ H x y v u Q I rx ry h;obtain⟨z,n,rfl,rfl,h0,h1,hz,q⟩:=h;obtain⟨t,rfl⟩:=rx;obtain⟨t',rfl⟩:=ry;have h63:(1000:Int)<2^63:=by decide
 have e63:(2:Int)^63=9223372036854775808:=by decide
 refine PySem.P.mul_str (by rw[decide_eq_false (by omega),decide_eq_false (by omega)];rfl) (λha _=>?_) (λ_ _=>?_) ?_
 ·have:((2:Int)^63-1)/n>=1000:=by
   rw[ge_iff_le,Int.le_ediv_iff_mul_le (by omega)]
   omega
  omega
 ·unfold tooLong
  rw[decide_eq_false];rw[fK];have:z.length*n.toNat<=1000*1000:=nR hz (by omega)
  omega
 ·by_cases hn:n<1
  ·rw[if_pos hn]
   have:n.toNat=0:=by omega
   rw[this]at q;exact⟨by decide,.str _,H,I.tok _,⟨_,rfl⟩,q⟩
  ·rw[if_neg hn]
   by_cases hc:(n==1||z.length==0)=true
   ·rw[if_pos hc]
    have e:oZ z n.toNat=z:=by
     rw[Ko]at hc;rcases hc with hc|hc
     ·have:n=1:=by simpa using hc
      subst this;show z++iy=z;cases z with|mk c=>show(⟨c ++ #[]⟩:Str)=⟨c⟩;simp
     ·have hz0:z.length=0:=by simpa using hc
      have:z=iy:=by cases z with|mk c=>simp[Str.length]at hz0;simp[iy,hz0]
      subst this;have:∀m,oZ iy m=iy:=by
       intro m
       induction m with
       |zero=>rfl
       |succ m ih=>show iy++oZ iy m=_;rw[ih];rfl
      exact this _
    rw[e]at q;exact⟨.str _,H,I.tok _,⟨_,rfl⟩,q⟩
   ·rw[if_neg hc]
    have e:(⟨(bN n.toNat z.cps).foldl (· ++ ·) #[]⟩:Str)=oZ z n.toNat:=by rw[Vl];simp
    rw[e];refine⟨?_,.str _,H,I.tok _,⟨_,rfl⟩,q⟩
    rw[Vm,fK];have:n.toNat*z.length<=1000*1000:=nR (by omega) hz
    omega
def Its(x:Str):It:=⟨λi _=>i<x.cps.size,λi H v H'=>H'=H/\∃c,x.cps[i]?=some c/\v=.str ⟨#[c]⟩,λi _=>x.cps.size<=i⟩
theorem YG{P:bL}{w:dB}{K:ao}{tg:dz}(it:aN)(x:Str)(t:Tok){ty:String}(hty:ty="str_ascii_iterator"\/ty="str_iterator"):Turn P w K tg (Its x) [it] it (λi h=>h.IsStrIter it ty x t i) where
 mem:=by simp
 obj:=λi h st b hb=>by
  have e:b=it:=by simpa using hb
  subst e;obtain⟨o,e,c,d⟩:=st;exact⟨o,e,λv z=>by rw[d]at z;cases z⟩
 keep:=λi h h' st k=>let⟨o,e,r⟩:=st;⟨o,k it (by simp) o e,r⟩
 item:=by
  intro X hP hw hK hc i pins s σ H E I hf st hg;subst hP hw hK;obtain⟨f0,f1,f2,f3,f4,f5⟩:=hf it (by simp)
  have hn:["enumerate","zip","dict_itemiterator","dict_reverseitemiterator","odict_iterator","itertools.zip_longest","itertools.pairwise"].contains ty=false:=by rcases hty with rfl|rfl<;>decide
  have fin:∀v h' tk,SignAt x i v->h'.IsStrIter it ty x t (i+1)->(∀b o,b∉[it]->s.heap.get? b=some o->h'.get? b=some o)->∃u,some v=some u/\wpAny (model X.prog X.w) X.A (letOwnedTupleGo tg (.ref it) u) (λ_ s2=>∃y H',Inv X pins σ H' s2/\RelV y u/\(Its x).yld i H y H'/\s2.heap.IsStrIter it ty x t (i+1)/\∀b∈[it],H' b=none) E { s with heap:=h',toks:=tk }:=by
   intro v h' tk hv st' kk;obtain⟨c,u,hcu,rfl⟩:=hv;have I1:Inv X pins σ H { s with heap:=h',toks:=tk }:=I.turned (λb o hb e=>kk b o (by simpa using hb) e) f0 f1 f3 f4 f5
   obtain⟨o,e,cc,d⟩:=id st';exact⟨_,rfl,UL (s:={ s with heap:=h',toks:=tk }) e cc d hn ⟨.str ⟨#[c]⟩,H,I1,⟨u,rfl⟩,⟨rfl,c,hcu,rfl⟩,st',λb hb=>(hf b hb).1⟩⟩
  rcases hty with rfl|rfl
  ·exact(Walks.strAscii (prog:=X.prog) (w:=X.w) (I.ok.hd hc) it x t).item i s _ _ hg st λv h' tk hv st' kk=>fin v h' tk hv st' kk
  ·exact(Walks.strWide (prog:=X.prog) (w:=X.w) (I.ok.hd hc) it x t).item i s _ _ hg st λv h' tk hv st' kk=>fin v h' tk hv st' kk
 done:=by
  intro X hP hw hK hc i pins s σ H E I hf st hg;subst hP hw hK;obtain⟨f0,f1,f2,f3,f4,f5⟩:=hf it (by simp)
  have hge:x.cps.size<=i:=hg;rcases hty with rfl|rfl
  ·exact wpAny_pyNext_ascii_end (I.ok.hd hc) st (by simp;exact hge) λh' eb=>⟨rfl,I.turned (t':=s.toks) (λb o hb e=>eb b o hb e) f0 f1 f3 f4 f5⟩
  ·exact wpAny_pyNext_wide_end (I.ok.hd hc) st (by simp;exact hge) λh' eb=>⟨rfl,I.turned (t':=s.toks) (λb o hb e=>eb b o hb e) f0 f1 f3 f4 f5⟩
 self:=λ_ _ _ _ _ st h=>by
  rcases hty with rfl|rfl
  ·exact wpAny_pyIter_striter_ascii st h
  ·exact wpAny_pyIter_striter_wide st h
def zh0(tl:TE):TI:=λσ H R=>tl σ H λv H1=>∃x,v=.str x/\R (Its x) H1
theorem zc4{tg l:dz}{tl:TE}(hl:PE X l tl):PI X tg l (zh0 tl):=by
 intro pins s σ H R I h;refine jL (hl pins s σ H _ I h) λv s1 ⟨y,H1,I1,r1,q1⟩=>?_
 obtain⟨x,e,q⟩:=q1;subst e;obtain⟨t,rfl⟩:=r1;have go:∀ty,(ty="str_ascii_iterator"\/ty="str_iterator")->∀o:Obj,o.cls=.type ty->o.data=.fields #[.str x t,.int (0:Nat) 0]->o.isFreed=false->PIE X pins σ tg R (.ref s1.heap.objs.size) { s1 with heap:=s1.heap.push o }:=λty hty o c d fr=>
  ⟨s1.heap.objs.size,[s1.heap.objs.size],_,_,H1,rfl,I1.kept (t':=s1.toks) λb o e=>aJ _ e,YG _ x t hty,⟨o,cD _ fr,c,d⟩,λb hb=>by
   have e:b=s1.heap.objs.size:=by simpa using hb
   subst e;exact I1.KN (aK _) (I1.hok.fresh (aK _)),q⟩
 cases ha:x.cps.all (·<128)
 ·exact wpAny_pyIter_wide ha (go "str_iterator" (.inr rfl) _ rfl rfl rfl)
 ·exact wpAny_pyIter_ascii ha (go "str_ascii_iterator" (.inl rfl) _ rfl rfl rfl)
end
section
variable{X:Cx}{tg a b c e:dz}{es:List dz}{δ:List Slot}{d d1 d2 d3:aA}{ds:List aA}{pos p p2 pos2:Pos}{k:Nat}{x y z:Str}
def uy(x:Str):List aA:=x.cps.toList.map λc=>.str ⟨#[c]⟩
theorem YH(h:VE X a δ (.str x)):VI X tg a δ (uy x):=⟨_,zc4 fZ,λB0 B σ H0 H R f q=>h B0 B σ H0 H _ f λv H1 gY g r=>by
 cases r;have hl:(uy x).length=x.cps.size:=by unfold uy;rw[aq,dX]
 refine⟨x,rfl,q _ H1 gY g λHa Hb s1 s2 i=>⟨λhi=>(show i<x.cps.size by omega),λhi=>(show x.cps.size<=i by omega),λv Ks d hd ⟨e,c,hc,ev⟩=>?_⟩⟩
 subst e;subst ev;unfold uy at hd;rw[bh,Rz,hc]at hd;cases hd;exact⟨Ha,.refl s2,.str _⟩⟩
theorem odS{K:ao}(h:x.length+y.length<=sizeLine):HY K (λx y H Q=>∃i j,x=.str i/\y=.str j/\i.length+j.length<=sizeLine/\Q (.str (i++j)) H) (.str x) (.str y) (.str (x++y)):=λv u H0 H Q s r1 r2 k=>by cases r1;cases r2;exact⟨_,_,rfl,rfl,h,k _ _ _ (.refl s) (.str _)⟩
theorem lY(h1:VE X a δ (.str x))(h2:VE X b δ (.str y))(h:x.length+y.length<=sizeLine):VE X (.BinOp a .Add b pos) δ (.str (x++y)):=BZ RZ (odS h) h1 h2
theorem zc5{K:ao}{n:Int}(h0:0<=n)(h1:n<=1000)(hz:x.length<=1000):HY K (λx y H Q=>∃z n,x=.str z/\y=.int n/\0<=n/\n<=1000/\z.length<=1000/\Q (.str (oZ z n.toNat)) H) (.str x) (.int n) (.str (oZ x n.toNat)):=λv u H0 H Q s r1 r2 k=>by cases r1;cases r2;exact⟨_,_,rfl,rfl,h0,h1,hz,k _ _ _ (.refl s) (.str _)⟩
theorem Vn{n:Int}(h1:VE X a δ (.str x))(h2:VE X b δ (.int n))(h0:0<=n)(hn:n<=1000)(hz:x.length<=1000):VE X (.BinOp a .Mult b pos) δ (.str (oZ x n.toNat)):=BZ zaM (zc5 h0 hn hz) h1 h2
theorem zfe{K:ao}{i:Int}{c:Nat}(hz:x.length<=sizeLine)(h:yN x.cps.toList i=some c):HY K (rIx K) (.str x) (.int i) (.str ⟨#[c]⟩):=λv u H0 H Q s r1 r2 k=>by
 cases r1;cases r2;exact .inr (.inr ⟨x,i,c,rfl,rfl,hz,h,k _ _ _ (.refl s) (.str _)⟩)
theorem Ob{i:Int}{c:Nat}(h1:VE X a δ (.str x))(h2:VE X b δ (.int i))(hz:x.length<=sizeLine)(h:yN x.cps.toList i=some c)(hs:yg b:=by intro _ _;rfl):VE X (.Subscript a b pos) δ (.str ⟨#[c]⟩):=Ss Nz (zfe hz h) h1 h2 hs
def Oc(x y:Str):Bool:=!(occurrences y x 0 y.length 1).isEmpty
theorem zff{K:ao}:HY K (λx y H Q=>∃i j,x=.str i/\y=.str j/\Q (.bl (!(occurrences j i 0 j.length 1).isEmpty)) H) (.str x) (.str y) (.bool (Oc x y)):=λv u H0 H Q s r1 r2 k=>by cases r1;cases r2;exact⟨_,_,rfl,rfl,k _ _ _ (.refl s) (.bl _)⟩
theorem YJ(h1:VE X a δ (.str x))(h2:VE X b δ (.str y))(hm:behindInMarks .In b=false:=by with_unfolding_all rfl):VE X (.Compare a [.In] [b] pos) δ (.bool (Oc x y)):=B_ Wc zff h1 h2 hm
theorem zc6{K:ao}(hz:x.length<=sizeLine):CallD K (λxs H Q=>∃z,xs=[.str z]/\z.length<=sizeLine/\Q (.int z.length) H) [.str x] (.int x.length):=λvs H0 H Q s r k=>by
 obtain⟨v,rfl,r1⟩:=r.one;cases r1;exact⟨x,rfl,hz,k _ _ _ (.refl s) (.int _)⟩
theorem Ie(h:VE X a δ (.str x))(hz:x.length<=sizeLine)(hm:X.mg "len"=none)(hg:Gl X "len":=by rfl)(hs:starEach [a] X.env=(false,eval a X.env)::starEach [] X.env:=by rfl):VE X (.Call (.Name "len" p) [a] [] pos) δ (.int x.length):=oh NP (zc6 hz) (au h aX hs) hm Bg hg (he:=hs)
theorem zc7{K:ao}{i:Int}(h:i.natAbs.log2<1920):CallD K (λxs H Q=>∃i,xs=[.int i]/\i.natAbs.log2<1920/\Q (.str (toString i)) H) [.int i] (.str (toString i)):=λvs H0 H Q s r k=>by
 obtain⟨v,rfl,r1⟩:=r.one;cases r1;exact⟨i,rfl,h,k _ _ _ (.refl s) (.str _)⟩
theorem zc8{K:ao}{n:Int}(h:intText? x=some n)(hl:x.length<=640):CallD K (λxs H Q=>∃x n,xs=[.str x]/\intText? x=some n/\x.length<=640/\Q (.int n) H) [.str x] (.int n):=λvs H0 H Q s r k=>by
 obtain⟨v,rfl,r1⟩:=r.one;cases r1;exact⟨x,n,rfl,h,hl,k _ _ _ (.refl s) (.int _)⟩
theorem Ao{i:Int}(h:VE X a δ (.int i))(hl:i.natAbs.log2<1920)(hm:X.mg "str"=none)(hg:Gl X "str":=by rfl)(hs:starEach [a] X.env=(false,eval a X.env)::starEach [] X.env:=by rfl):VE X (.Call (.Name "str" p) [a] [] pos) δ (.str (toString i)):=sU Nv (zc7 hl) (au h aX hs) hm rfl hg (he:=hs)
theorem zaN{n:Int}(h:VE X a δ (.str x))(hn:intText? x=some n)(hl:x.length<=640)(hm:X.mg "int"=none)(hg:Gl X "int":=by rfl)(hs:starEach [a] X.env=(false,eval a X.env)::starEach [] X.env:=by rfl):VE X (.Call (.Name "int" p) [a] [] pos) δ (.int n):=sU KZ (zc8 hn hl) (au h aX hs) hm rfl hg (he:=hs)
theorem zR{ap:Pos}(h1:VE X a δ (.str x))(h2:VE X b δ (.str y))(hy:(y.length==0)=false)(hz:x.length+2<=sizeLine)
  (hs:starEach [b] X.env=(false,eval b X.env)::starEach [] X.env:=by rfl)(hbase:attributeBase a "split" X.env (eval a X.env)=eval a X.env:=by rfl)
  (hfew:((backTo pos (starEach [b] X.env)).all (λx=>!x.1)&&(backToKw pos (keywordEach [] X.env)).all (λx=>x.1.isSome)&&decide (([b]:List dz).length+([]:List lu).length+(if([]:List lu).isEmpty then 0 else 1)<30))=true:=by rfl)
  (hline:(ap.endLine==pos.line)=true:=by rfl)(hplain:(backTo pos (starEach [] X.env)).any (·.1)=false:=by rfl):VO X (.Call (.Attribute a "split" ap) [b] [] pos) δ ((eO x y).map .str):=
 .of (Gn Nf PySem.F.slot_str_split PySem.F.type_str_split YF fZ (eV fZ je hs) hbase hfew hline hs hplain) λB0 B σ H0 H Q f q=>h1 B0 B σ H0 H _ f λv H1 gY g r1=>by
  cases r1;refine⟨rfl,h2 B0 B σ H1 gY _ (f.grow g) λu H2 nA g2 r2=>?_⟩
  cases r2;refine⟨x,y,rfl,rfl,hy,hz,λl hl=>?_⟩
  have gg:=g.trans g2;refine q l _ H2 _ (gg.trans (.loose g2.sub hl)) (gg.big.free hl) (g2.sub.free hl) cQ ?_
  have go:∀l:List Str,fX X.K H2 (l.map V.str) (l.map aW):=by
   intro l
   induction l with
   |nil=>exact .nil
   |cons z l ih=>exact .cons (.str z) ih
  exact go _
theorem Aq{ap:Pos}{zs:List Str}(h1:VE X a δ (.str y))(h2:VE X b δ (.list (zs.map .str)))(hz:(zs.map (·.length)).sum+zs.length*y.length<=16777216)
  (hs:starEach [b] X.env=(false,eval b X.env)::starEach [] X.env:=by rfl)(hbase:attributeBase a "join" X.env (eval a X.env)=eval a X.env:=by rfl)
  (hfew:((backTo pos (starEach [b] X.env)).all (λx=>!x.1)&&(backToKw pos (keywordEach [] X.env)).all (λx=>x.1.isSome)&&decide (([b]:List dz).length+([]:List lu).length+(if([]:List lu).isEmpty then 0 else 1)<30))=true:=by rfl)
  (hline:(ap.endLine==pos.line)=true:=by rfl)(hplain:(backTo pos (starEach [] X.env)).any (·.1)=false:=by rfl):VE X (.Call (.Attribute a "join" ap) [b] [] pos) δ (.str (fQ y zs)):=
 .of (Gn Nf PySem.F.slot_str_join PySem.F.type_str_join zaL fZ (eV fZ je hs) hbase hfew hline hs hplain) λB0 B σ H0 H Q f q=>h1 B0 B σ H0 H _ f λv H1 gY g r1=>by
  cases r1;refine⟨rfl,h2 B0 B σ H1 gY _ (f.grow g) λu H2 nA g2 r2=>?_⟩
  cases r2 with
  |lst hq rs=>
   have e:=rs.strs;subst e;exact⟨y,_,zs,rfl,rfl,.inl (g2.sub.seq hq),hz,q _ H2 nA (g.trans g2) (.str _)⟩
end
end L2
namespace L2
open PySem PySem.Spec PyProof.Rows
def Cd(kvs:List (Str×aA)):aA:=.dict (kvs.map λp=>(.str p.1,p.2))
def YK(kvs:List ((Str×Str)×aA)):aA:=.dict ((.none,.bool true)::kvs.map λp=>(.tuple [.str p.1.1,.str p.1.2],p.2))
def zaO(fs:List (Str×aA)):aA:=.dict ((.none,.none)::fs.map λp=>(.str p.1,p.2))
def qw{κ:Type}[DecidableEq κ](kvs:List (κ×aA))(k:κ):Option aA:=(kvs.find? λp=>decide (p.1=k)).map (·.2)
theorem j_{κ:Type}[DecidableEq κ]{p:κ×aA}{r:List (κ×aA)}{k:κ}(e:p.1=k):qw (p::r) k=some p.2:=by simp[qw,iY,e]
theorem fP{κ:Type}[DecidableEq κ]{p:κ×aA}{r:List (κ×aA)}{k:κ}(e:¬p.1=k):qw (p::r) k=qw r k:=by simp[qw,iY,e]
def Qm(K:ao)(H:Hp):Option V->Option aA->Prop
 |none,none=>True
 |some v,some d=>Rep K H v d
 |_,_=>False
theorem Qm.some_of{K:ao}{H:Hp}{o:Option V}{d:aA}(h:Qm K H o (some d)):∃v,o=some v/\Rep K H v d:=by
 cases o with
 |none=>exact h.elim
 |some v=>exact⟨v,rfl,h⟩
theorem Qm.isSome{K:ao}{H:Hp}{o:Option V}{d:Option aA}(h:Qm K H o d):o.isSome=d.isSome:=by
 cases o<;>cases d<;>first|rfl|exact h.elim
theorem Qm.getD{K:ao}{H:Hp}{o:Option V}{d:Option aA}{v:V}{e:aA}(h:Qm K H o d)(r:Rep K H v e):Rep K H (o.getD v) (d.getD e):=by
 cases o<;>cases d<;>first|exact r|exact h|exact h.elim
section
variable{K:ao}{H:Hp}{v:V}
theorem Rep.zT{kvs:List (Str×aA)}(r:Rep K H v (Cd kvs)):∃a ws,v=.ref a/\H a=some (.dK ws)/\ws.map (·.1)=kvs.map (λp=>(dN p.1:Key))/\fX K H (ws.map (·.2)) (kvs.map (·.2)):=by
 unfold Cd at r
 generalize e:kvs.map (λp=>(aW p.1,p.2))=ds at r
 cases r with
 |dct h k t=>
  rename_i a ws
  refine⟨a,ws,rfl,h,?_,?_⟩
  ·have k2:ws.map (λp=>N5 p.1)=kvs.map λp=>aW p.1:=by rw[<-k,<-e,bU];rfl
   clear k t h e
   induction ws generalizing kvs with
   |nil=>cases kvs with|nil=>rfl|cons p l=>simp at k2
   |cons q ws ih=>
    cases kvs with
    |nil=>simp at k2
    |cons p l=>
     rw[aZ,aZ]at k2 ⊢
     injection k2 with h1 h2
     rw[ih h2]
     congr 1
     cases eq:q.1 with
     |inl i=>rw[eq]at h1;cases h1
     |inr x=>rw[eq]at h1;injection h1 with h1;rw[h1]
  ·rw[<-e,bU]at t
   exact t
 |dcT _ _ _=>cases kvs with|nil=>simp at e|cons p l=>simp at e
 |obj _ _ _ _ _=>cases kvs with|nil=>simp at e|cons p l=>simp at e
theorem Js:∀{kvs:List (Str×aA)}{ws:List (Key×V)},ws.map (·.1)=kvs.map (λp=>(dN p.1:Key))->fX K H (ws.map (·.2)) (kvs.map (·.2))->∀k,Qm K H (oM ws (dN k)) (qw kvs k)
 | [],ws,e,_,k=>by
  have:ws=[]:=by simpa using e
  subst this;exact iI
 |p::kvs,ws,e,r,k=>by
  cases ws with
  |nil=>simp at e
  |cons q ws=>
   rw[aZ,aZ]at e r
   injection e with e1 e2
   cases r with
   |cons r1 r2=>
    by_cases h:p.1=k
    ·rw[j_ h,wO (by rw[e1,h])];exact r1
    ·rw[fP h,tW (λz=>h (by rw[e1]at z;injection z))];exact Js e2 r2 k
def Fq(p:Str×Str):List Key:=[.inr p.1,.inr p.2]
theorem Qn{p q:Str×Str}(e:Fq p=Fq q):p=q:=by
 unfold Fq at e
 injection e with e1 e2
 injection e2 with e2 _
 injection e1 with e1
 injection e2 with e2
 exact Prod.ext e1 e2
theorem Rep.YL{kvs:List ((Str×Str)×aA)}(r:Rep K H v (YK kvs)):∃a ws,v=.ref a/\H a=some (.dT ws)/\ws.map (·.1)=kvs.map (λp=>Fq p.1)/\fX K H (ws.map (·.2)) (kvs.map (·.2)):=by
 unfold YK at r
 generalize e:kvs.map (λp=>(jZ [.str p.1.1,.str p.1.2],p.2))=ds at r
 cases r with
 |dct h k t=>
  rename_i a ws
  exfalso
  cases ws with
  |nil=>simp at k
  |cons q ws=>
   rw[aZ,aZ]at k
   injection k with k1 _
   cases eq:q.1 with
   |inl i=>rw[eq]at k1;cases k1
   |inr x=>rw[eq]at k1;cases k1
 |dcT h k t=>
  rename_i a ws
  refine⟨a,ws,rfl,h,?_,?_⟩
  ·have k2:ws.map (λp=>jZ (p.1.map N5))=kvs.map λp=>jZ [.str p.1.1,.str p.1.2]:=by rw[<-k,<-e,bU];rfl
   clear k t h e
   induction ws generalizing kvs with
   |nil=>cases kvs with|nil=>rfl|cons p l=>simp at k2
   |cons q ws ih=>
    cases kvs with
    |nil=>simp at k2
    |cons p l=>
     rw[aZ,aZ]at k2 ⊢
     injection k2 with h1 h2
     rw[ih h2]
     congr 1
     injection h1 with h1
     have one:∀(k:Key)(x:Str),N5 k=.str x->k=.inr x:=λk x h=>by
      cases k with
      |inl i=>cases h
      |inr y=>injection h with h;rw[h]
     cases e0:q.1 with
     |nil=>rw[e0]at h1;cases h1
     |cons k1 l1=>
      rw[e0]at h1;rw[aZ]at h1
      injection h1 with g1 g2
      cases l1 with
      |nil=>cases g2
      |cons k2 l2=>
       rw[aZ]at g2
       injection g2 with g2 g3
       have:l2=[]:=by simpa using g3
       subst this;rw[one k1 _ g1,one k2 _ g2];rfl
  ·rw[<-e,bU]at t
   exact t
theorem YM:∀{kvs:List ((Str×Str)×aA)}{ws:List (List Key×V)},ws.map (·.1)=kvs.map (λp=>Fq p.1)->fX K H (ws.map (·.2)) (kvs.map (·.2))->∀k,Qm K H (oM ws (Fq k)) (qw kvs k)
 | [],ws,e,_,k=>by
  have:ws=[]:=by simpa using e
  subst this;exact iI
 |p::kvs,ws,e,r,k=>by
  cases ws with
  |nil=>simp at e
  |cons q ws=>
   rw[aZ,aZ]at e r
   injection e with e1 e2
   cases r with
   |cons r1 r2=>
    by_cases h:p.1=k
    ·rw[j_ h,wO (by rw[e1,h])];exact r1
    ·rw[fP h,tW (λz=>h (Qn (by rw[<-e1];exact z)))];exact YM e2 r2 k
theorem Rep.YQ{fs:List (Str×aA)}(r:Rep K H v (zaO fs)):∃a C dx ws,v=.ref a/\H a=some (.ins C dx ws)/\Cls K C/\(∀f∈ws.map (·.1),jG K C f)/\ws.map (·.1)=fs.map (·.1)/\fX K H (ws.map (·.2)) (fs.map (·.2)):=by
 unfold zaO at r
 generalize e:fs.map (λp=>(aW p.1,p.2))=ds at r
 cases r with
 |dct h k t=>
  rename_i a ws
  exfalso
  cases ws with
  |nil=>simp at k
  |cons q ws=>
   rw[aZ,aZ]at k
   injection k with k1 _
   cases eq:q.1 with
   |inl i=>rw[eq]at k1;cases k1
   |inr x=>rw[eq]at k1;cases k1
 |obj h c nn k t=>
  rename_i a C dx ws
  refine⟨a,C,dx,ws,rfl,h,c,nn,?_,?_⟩
  ·have k2:ws.map (λp=>aW p.1)=fs.map λp=>aW p.1:=by rw[<-k,<-e,bU];rfl
   clear k t h e nn
   induction ws generalizing fs with
   |nil=>cases fs with|nil=>rfl|cons p l=>simp at k2
   |cons q ws ih=>
    cases fs with
    |nil=>simp at k2
    |cons p l=>
     rw[aZ,aZ]at k2 ⊢
     injection k2 with h1 h2
     injection h1 with h1
     rw[ih h2,h1]
  ·rw[<-e,bU]at t
   exact t
theorem YS:∀{fs:List (Str×aA)}{ws:List (Str×V)},ws.map (·.1)=fs.map (·.1)->fX K H (ws.map (·.2)) (fs.map (·.2))->∀k d,qw fs k=some d->∃u,ws.lookup k=some u/\k∈ws.map (·.1)/\Rep K H u d
 | [],ws,e,_,k,d,h=>by cases h
 |p::fs,ws,e,r,k,d,h=>by
  cases ws with
  |nil=>simp at e
  |cons q ws=>
   obtain⟨q1,q2⟩:=q;rw[aZ,aZ]at e r
   injection e with e1 e2
   have e1:q1=p.1:=e1;cases r with
   |cons r1 r2=>
    by_cases hk:p.1=k
    ·rw[j_ hk]at h
     cases h;refine⟨q2,?_,?_,r1⟩
     ·rw[gO,e1,hk];simp
     ·rw[aZ,e1,hk];exact aY
    ·rw[fP hk]at h
     obtain⟨u,h1,h2,h3⟩:=YS e2 r2 k d h;refine⟨u,?_,bD _ h2,h3⟩
     rw[gO];have:(k==q1)=false:=by rw[beq_eq_false_iff_ne,e1];exact λz=>hk z.symm
     rw[this];exact h1
end
section
variable{X:Cx}{a b c e:dz}{δ:List Slot}{d d1 d2 d3:aA}{ds:List aA}{pos ap:Pos}{k:Nat}{kvs fs:List (Str×aA)}{tvs:List ((Str×Str)×aA)}{x y z:Str}
theorem hu1(hr:jH k X.A):X.A.units+1<cLine:=by have:=hr.un;omega
theorem sV{f:Str}(h:VE X a δ (zaO fs))(hf:qw fs f=some d)(hb:attributeBase a f X.env (eval a X.env)=eval a X.env:=by rfl):VE X (.Attribute a f pos) δ d:=
 .of (Ja fZ hb) λB0 B σ H0 H Q fr q=>h B0 B σ H0 H _ fr λv H1 gY g r=>by
  obtain⟨p,C,dx,ws,rfl,hp,cl,nn,ke,rs⟩:=r.YQ;obtain⟨u,h1,h2,h3⟩:=YS ke rs f d hf;exact⟨p,C,dx,ws,u,rfl,g.sub _ _ hp,cl,nn f h2,h1,q u H1 gY g h3⟩
theorem jX(hr:jH k X.A)(h1:VE X a δ (Cd kvs))(h2:VE X b δ (.str x))(hx:qw kvs x=some d)(hs:zav b:=by intro _ _;rfl):VE X (.Subscript a b pos) δ d:=
 .of (zax (hu1 hr) fZ fZ hs) λB0 B σ H0 H Q fr q=>h1 B0 B σ H0 H _ fr λv H1 gY g r=>h2 B0 B σ H1 gY _ (fr.grow g) λu H2 nA g2 r2=>by
  obtain⟨p,ws,rfl,hp,ke,rs⟩:=r.zT;cases r2;have o:=Js ke rs x;rw[hx]at o;obtain⟨w,hw,yW⟩:=o.some_of;refine⟨p,w,rfl,?_,q w H2 nA (g.trans g2) (yW.mono g2.j9)⟩
  rw[<-hw];exact zN.k (k:=.inr x) (g2.sub _ _ (g2.j9 _ _ hp))
theorem SQ(hr:jH k X.A)(h2:VE X b δ (.str x))(h1:VE X a δ (Cd kvs))(hm:behindInMarks .In a=false:=by with_unfolding_all rfl):VE X (.Compare b [.In] [a] pos) δ (.bool (qw kvs x).isSome):=
 .of (RQ (Yg (hu1 hr) fZ fZ) hm) λB0 B σ H0 H Q fr q=>h2 B0 B σ H0 H _ fr λu H1 gY g r2=>h1 B0 B σ H1 gY _ (fr.grow g) λv H2 nA g2 r=>by
  obtain⟨p,ws,rfl,hp,ke,rs⟩:=r.zT;cases r2;refine⟨p,oM ws (.inr x),rfl,zN.k (k:=.inr x) (g2.sub _ _ hp),q _ H2 nA (g.trans g2) ?_⟩
  rw[(Js ke rs x).isSome];exact .bl _
theorem Ww(hr:jH k X.A)(h2:VE X b δ (.str x))(h1:VE X a δ (Cd kvs))(hm:behindInMarks .NotIn a=false:=by with_unfolding_all rfl):VE X (.Compare b [.NotIn] [a] pos) δ (.bool (!(qw kvs x).isSome)):=
 .of (RQ (Wo (hu1 hr) fZ fZ) hm) λB0 B σ H0 H Q fr q=>h2 B0 B σ H0 H _ fr λu H1 gY g r2=>h1 B0 B σ H1 gY _ (fr.grow g) λv H2 nA g2 r=>by
  obtain⟨p,ws,rfl,hp,ke,rs⟩:=r.zT;cases r2;refine⟨p,oM ws (.inr x),rfl,zN.k (k:=.inr x) (g2.sub _ _ hp),q _ H2 nA (g.trans g2) ?_⟩
  rw[(Js ke rs x).isSome];exact .bl _
theorem zaP{x1}{tp:Pos}(hr:jH k X.A)(h1:VE X a δ (.str x))(h2:VE X b δ (.str y))(h3:VE X c δ (YK tvs))(hm:behindInMarks .In c=false:=by with_unfolding_all rfl)
  (hs:starEach [a,b] X.env=(false,eval a X.env)::starEach [b] X.env:=by rfl)(hs2:starEach [b] X.env=(false,eval b X.env)::starEach [] X.env:=by rfl):VE X (.Compare (.Tuple [a,b] x1 tp) [.In] [c] pos) δ (.bool (qw tvs (x,y)).isSome):=
 .of (RQ (Yg (hu1 hr) (Jc (eV fZ (eV fZ je hs2) hs)) fZ) hm) λB0 B σ H0 H Q fr q=>h1 B0 B σ H0 H _ fr λv H1 gY g r1=>h2 B0 B σ H1 gY _ (fr.grow g) λu H2 nA g2 r2=>by
  cases r1;cases r2;refine⟨by show 2<=sizeLine;rw[fK];decide,λt ht=>?_⟩
  have g3:=(g.trans g2).trans (gR.loose (o:=HO.tup [.str x,.str y]) g2.sub ht);refine h3 B0 B σ H2 _ _ (fr.grow g3) λv H4 H4' g4 r=>?_
  obtain⟨p,ws,rfl,hp,ke,rs⟩:=r.YL;refine⟨p,oM ws (Fq (x,y)),rfl,zN.t (k:=Fq (x,y)) (g4.sub _ _ hp) (g4.big _ _ cQ),q _ H4 H4' (g3.trans g4) ?_⟩
  rw[(YM ke rs (x,y)).isSome];exact .bl _
end
section
variable{prog:bL}{w:dB}{A:fW}{E:aF->aL->Prop}{s:aL}
theorem zfg{l:aN}:(bR l==iG)=false:=rfl
theorem SX{it l:aN}{i:Nat}{items:Array aF}{x:aF}{Q:aF->aL->Prop}(hit:s.heap.IsTupleIter it l i)(hl:s.heap.IsTuple l items)(hx:items[i]?=some x)
  (hQ:∀h',h'.IsTupleIter it l (i+1)->qj it s.heap h'->Q x { s with heap:=h' }):wpAny (model prog w) A (fU (.ref it)) Q E s:=by
 obtain⟨o,ho,hc,hd⟩:=id hit;obtain⟨ol,hol,hcl,nl,hdl⟩:=hl;unfold fU;refine aD (oJ (name:=vG "__next__") hit.typeIs qt (uW qt hit.typeIs Pq ?_ (Nh _)))
 show wpAny _ _ (field (.ref it) 0 >>= _) _ _ s;refine aD (iu ho hd (x:=.ref l) rfl ?_)
 show wpAny _ _ (if(bR l==iG)=true then _ else _) _ _ s
 rw[if_neg (by rw[zfg];decide)]
 show wpAny _ _ (field (.ref it) 1 >>= _) _ _ s;refine aD (iu ho hd (x:=.int i 0) rfl ?_)
 show wpAny _ _ (seqItems? (.ref l) >>= _) _ _ s;refine aD (oK hol hdl ?_)
 simp only[jm,hx];refine aD (ur ho hd (by simp) (bA ⟨x,rfl,bA (hQ _ ?_ (KD ..))⟩))
 refine⟨_,jo _ ho (pq (j7 hd _)),(Obj.cls_mapFields ..).trans hc,?_⟩
 rw[j7 hd];simp[rawInt]
theorem Wx{it l:aN}{i:Nat}{items:Array aF}{Q:aF->aL->Prop}(hh:A.handled=none)(hit:s.heap.IsTupleIter it l i)(hl:s.heap.IsTuple l items)(hx:items[i]?=none)
  (hE:∀h' e,dW.ExtBut it s.heap h'->(∃o,h'.get? e=some o/\o.cls=.type "StopIteration")->E (.ref e) { s with heap:=h' }):wpAny (model prog w) A (fU (.ref it)) Q E s:=by
 obtain⟨o,ho,hc,hd⟩:=id hit;obtain⟨ol,hol,hcl,nl,hdl⟩:=hl;unfold fU;refine aD (oJ (name:=vG "__next__") hit.typeIs qt (uW qt hit.typeIs Pq ?_ (Nh _)))
 show wpAny _ _ (field (.ref it) 0 >>= _) _ _ s;refine aD (iu ho hd (x:=.ref l) rfl ?_)
 show wpAny _ _ (if(bR l==iG)=true then _ else _) _ _ s
 rw[if_neg (by rw[zfg];decide)]
 show wpAny _ _ (field (.ref it) 1 >>= _) _ _ s;refine aD (iu ho hd (x:=.int i 0) rfl ?_)
 show wpAny _ _ (seqItems? (.ref l) >>= _) _ _ s;refine aD (oK hol hdl ?_)
 simp only[jm,hx];refine aD (Ij (aD (ur ho hd (by simp) ?_)))
 show wpAny _ _ (newExc (.type "StopIteration") [] >>= _) _ _ _;refine aD ?_
 simp only[newExc,newTuple];refine aD (iU ?_ (by size_fits))
 refine aD (m:=firstArgMember _ _) (wpAny_of_eq (a:=iG) (by first|rfl|(simp only[firstArgMember];rfl)) ?_)
 refine iU ?_ (by size_fits)
 simp only[raiseNew];refine aD (wpAny_handled ?_)
 first|rw[show A.in1.handled=none from hh]|rw[hh]
 refine aD (bA (wpAny_throw ?_))
 exact hE _ _ (((KD ..).extBut.push _).push _) ⟨_,cD _ rfl,rfl⟩
end
inductive Ce where|lst|tup
def wY(k:Ce)(h:dW)(l:aN)(xs:Array aF):Prop:=match k with | .lst=>h.IsList l xs | .tup=>h.IsTuple l xs
def Cg(k:Ce)(h:dW)(i l:aN)(n:Nat):Prop:=match k with | .lst=>h.IsListIter i l n | .tup=>h.IsTupleIter i l n
theorem Cg.at{k:Ce}{h h':dW}{i l:aN}{n:Nat}(x:Cg k h i l n)(e:∀o,h.get? i=some o->h'.get? i=some o):Cg k h' i l n:=by
 cases k with
 |lst=>obtain⟨o,a,r⟩:=(show h.IsListIter i l n from x);exact(⟨o,e o a,r⟩:h'.IsListIter i l n)
 |tup=>obtain⟨o,a,r⟩:=(show h.IsTupleIter i l n from x);exact(⟨o,e o a,r⟩:h'.IsTupleIter i l n)
theorem wY.at{k:Ce}{h h':dW}{l:aN}{xs:Array aF}(x:wY k h l xs)(e:∀o,h.get? l=some o->h'.get? l=some o):wY k h' l xs:=by
 cases k with
 |lst=>obtain⟨o,a,r⟩:=(show h.IsList l xs from x);exact(⟨o,e o a,r⟩:h'.IsList l xs)
 |tup=>obtain⟨o,a,r⟩:=(show h.IsTuple l xs from x);exact(⟨o,e o a,r⟩:h'.IsTuple l xs)
theorem Cg.get{k:Ce}{h:dW}{i l:aN}{n:Nat}(x:Cg k h i l n):∃o,h.get? i=some o/\∀v,o.data≠.cell v:=by
 cases k with
 |lst=>obtain⟨o,a,_,d⟩:=(show h.IsListIter i l n from x);exact⟨o,a,λv z=>by rw[d]at z;cases z⟩
 |tup=>obtain⟨o,a,_,d⟩:=(show h.IsTupleIter i l n from x);exact⟨o,a,λv z=>by rw[d]at z;cases z⟩
theorem wY.get{k:Ce}{h:dW}{l:aN}{xs:Array aF}(x:wY k h l xs):∃o,h.get? l=some o:=by
 cases k with
 |lst=>obtain⟨o,a,_⟩:=(show h.IsList l xs from x);exact⟨o,a⟩
 |tup=>obtain⟨o,a,_⟩:=(show h.IsTuple l xs from x);exact⟨o,a⟩
section
variable{prog:bL}{w:dB}{A:fW}{E:aF->aL->Prop}{s:aL}
theorem next_item{k:Ce}{it l:aN}{i:Nat}{items:Array aF}{x:aF}{Q:aF->aL->Prop}(hit:Cg k s.heap it l i)(hl:wY k s.heap l items)(hx:items[i]?=some x)
  (hQ:∀h',Cg k h' it l (i+1)->qj it s.heap h'->Q x { s with heap:=h' }):wpAny (model prog w) A (fU (.ref it)) Q E s:=by
 cases k with
 |lst=>exact wpAny_nextOf_list_item hit hl hx hQ
 |tup=>exact SX hit hl hx hQ
theorem next_end{k:Ce}{it l:aN}{i:Nat}{items:Array aF}{Q:aF->aL->Prop}(hh:A.handled=none)(hit:Cg k s.heap it l i)(hl:wY k s.heap l items)(hx:items[i]?=none)
  (hE:∀h' e,dW.ExtBut it s.heap h'->(∃o,h'.get? e=some o/\o.cls=.type "StopIteration")->E (.ref e) { s with heap:=h' }):wpAny (model prog w) A (fU (.ref it)) Q E s:=by
 cases k with
 |lst=>exact wpAny_nextOf_list_end hh hit hl hx hE
 |tup=>exact Wx hh hit hl hx hE
structure Zp(k1 k2:Ce)(h:dW)(z TI TO i1 i2 l1 l2:aN)(f0:aF)(a b:aF)(n1 n2:Nat)(xs ys:Array aF):Prop where
 hz:Pr h z TI TO f0
 hTI:zy h TI (.ref i1) (.ref i2)
 hTO:zy h TO a b
 h1:Cg k1 h i1 l1 n1
 h2:Cg k2 h i2 l2 n2
 s1:wY k1 h l1 xs
 s2:wY k2 h l2 ys
theorem Wy{k1 k2:Ce}{z TI TO i1 i2 l1 l2:aN}{n1 n2:Nat}{xs ys:Array aF}{x y a b:aF}{Q:Option aF->aL->Prop}(D:ZipApart z TI TO i1 i2 l1 l2)(Z:Zp k1 k2 s.heap z TI TO i1 i2 l1 l2 .none a b n1 n2 xs ys)(hx:xs[n1]?=some x)(hy:ys[n2]?=some y)
  (hQ:∀h',Zp k1 k2 h' z TI TO i1 i2 l1 l2 (rawInt s.heap.objs.size) x y (n1+1) (n2+1) xs ys->zy h' s.heap.objs.size x y->(∀c o,c≠z->c≠TO->c≠i1->c≠i2->s.heap.get? c=some o->h'.get? c=some o)->Q (some (.ref s.heap.objs.size)) { s with heap:=h' }):
  wpAny (model prog w) A (pyNext (.ref z)) Q E s:=by
 obtain⟨hz,hTI,hTO,h1,h2,s1,s2⟩:=Z;have hT:s.TypeIs (.ref z) "zip":=⟨_,hz,rfl⟩;unfold pyNext;refine aD (Hz (oJ (name:=vG "__next__") hT Bo (uW Bo hT F.entry_zip_next ?_ (F.args_zip_next_1 _))))
 show wpAny _ _ (field (.ref z) 2 >>= _) _ _ _;refine aD (iu hz rfl (x:=.bool false) rfl ?_)
 show wpAny _ _ (field (.ref z) 3 >>= _) _ _ _;refine aD (iu hz rfl (x:=.ref TI) rfl (aD (oK hTI rfl ?_)))
 show wpAny _ _ (jW (.ref z) >>= _) _ _ _;refine aD ?_
 unfold jW;refine aD (iu hz rfl (x:=.none) rfl (bA ?_))
 simp only[if_true];refine aD (Ij (aD (iu hz rfl (x:=.ref TO) rfl (aD (pA hz (by simp) λha hza sa=>?_)))))
 replace hza:Pr ha z TI TO .ellipsis:=hza
 refine aD ?_
 simp only[HB,List.zipIdx_nil,Km,List.forIn_nil];refine aD (aD (zA ?_))
 show wpAny _ _ (fU (.ref i1) >>= _) _ _ _;refine aD (next_item (h1.at λo e=>sa.extBut _ o D.i1z e) (s1.at λo e=>sa.extBut _ o D.l1z e) hx λhb h1b sb=>bA ?_)
 have tb:zy hb TO a b:=sb.extBut _ _ D.TOi1 (sa.extBut _ _ D.TOz hTO);refine aD (oK tb rfl (aD (Ew tb λhc tc sc=>?_)))
 replace tc:zy hc TO x b:=tc
 refine aD (Pu (bA (aD (aD (zA ?_)))))
 show wpAny _ _ (fU (.ref i2) >>= _) _ _ _;refine aD (next_item (h2.at λo e=>sc.extBut _ o D.TOi2.symm (sb.extBut _ o D.i12.symm (sa.extBut _ o D.i2z e))) (s2.at λo e=>sc.extBut _ o D.l2TO (sb.extBut _ o D.l2i1 (sa.extBut _ o D.l2z e))) hy λhd h2d sd=>bA ?_)
 have td:zy hd TO x b:=sd.extBut _ _ D.TOi2 tc;refine aD (oK td rfl (aD (Ew td λhe te se=>?_)))
 replace te:zy he TO x y:=te
 refine aD (Pu (bA (bA (aD (oK te rfl (aD (wpAny_newTuple ?_)))))))
 have hsz:he.objs.size=s.heap.objs.size:=by rw[se.1,sd.1,sc.1,sb.1,sa.1]
 have kp:∀c o,c≠z->c≠TO->c≠i1->c≠i2->s.heap.get? c=some o->he.get? c=some o:=λc o c1 c2 c3 c4 e=>se.extBut _ _ c2 (sd.extBut _ _ c4 (sc.extBut _ _ c2 (sb.extBut _ _ c3 (sa.extBut _ _ c1 e))))
 have ze:Pr he z TI TO .ellipsis:=se.extBut _ _ D.TOz.symm (sd.extBut _ _ D.i2z.symm (sc.extBut _ _ D.TOz.symm (sb.extBut _ _ D.i1z.symm hza)));have h1e:Cg k1 he i1 l1 (n1+1):=h1b.at λo e=>se.extBut _ o D.TOi1.symm (sd.extBut _ o D.i12 (sc.extBut _ o D.TOi1.symm e))
 have h2e:Cg k2 he i2 l2 (n2+1):=h2d.at λo e=>se.extBut _ o D.TOi2.symm e
 show wpAny _ _ (vK (.ref z) (.ref he.objs.size) >>= _) _ _ _;refine aD ?_
 unfold vK;have zf:Pr (he.push { cls:=.type "tuple",data:=.seq #[x,y] }) z TI TO .ellipsis:=aJ _ ze;refine aD (pA zf (by simp) λhg zg sg=>?_)
 replace zg:Pr hg z TI TO (rawInt he.objs.size):=zg
 refine pA zg (by simp) λhi zi si=>?_
 replace zi:Pr hi z TI TO (rawInt he.objs.size):=zi
 have up:∀c o,c≠z->he.get? c=some o->hi.get? c=some o:=λc o c1 e=>si.extBut _ _ c1 (sg.extBut _ _ c1 (aJ _ e))
 have ti:zy hi he.objs.size x y:=si.extBut _ _ (jd (bw ze)) (sg.extBut _ _ (jd (bw ze)) (cD _ rfl));rw[hsz]at zi ti;refine bA ⟨_,rfl,?_⟩
 show wpAny _ _ (pure (some (bR he.objs.size))) _ _ _;rw[hsz];refine bA (hQ hi ⟨zi,up _ _ D.TIz (kp _ _ D.TIz D.TITO D.TIi1 D.TIi2 hTI),up _ _ D.TOz te,h1e.at λo e=>up _ o D.i1z e,h2e.at λo e=>up _ o D.i2z e,s1.at λo e=>up _ o D.l1z (kp _ o D.l1z D.l1TO D.l1i1 D.l1i2 e),s2.at λo e=>up _ o D.l2z (kp _ o D.l2z D.l2TO D.l2i1 D.l2i2 e)⟩ ti λc o c1 c2 c3 c4 e=>up c o c1 (kp c o c1 c2 c3 c4 e))
theorem YT{k1 k2:Ce}{z TI TO i1 i2 l1 l2:aN}{n1 n2:Nat}{xs ys:Array aF}{a b:aF}{Q:Option aF->aL->Prop}(hh:A.handled=none)(D:ZipApart z TI TO i1 i2 l1 l2)(Z:Zp k1 k2 s.heap z TI TO i1 i2 l1 l2 .none a b n1 n2 xs ys)(hend:xs[n1]?=none\/ys[n2]?=none)
  (hQ:∀h',(∀c o,c≠z->c≠TO->c≠i1->c≠i2->s.heap.get? c=some o->h'.get? c=some o)->Q none { s with heap:=h' }):wpAny (model prog w) A (pyNext (.ref z)) Q E s:=by
 obtain⟨hz,hTI,hTO,h1,h2,s1,s2⟩:=Z;have hT:s.TypeIs (.ref z) "zip":=⟨_,hz,rfl⟩;have fin:∀h' e,(∀c o,c≠z->c≠TO->c≠i1->c≠i2->s.heap.get? c=some o->h'.get? c=some o)->(∃o,h'.get? e=some o/\o.cls=.type "StopIteration")->wpAny (model prog w) A (do if <-isInstance (.ref e) (.type "StopIteration")then pure none else throw (.ref e)) Q E { s with heap:=h' }:=by
  intro h' e hk ⟨o,ho,hc⟩;exact aD (wpAny_isInstance (T:="StopIteration") (b:=true) (s:={ s with heap:=h' }) ⟨o,ho,hc⟩ isSubtype_stop (bA (hQ _ hk)))
 unfold pyNext;refine aD (Hz (oJ (name:=vG "__next__") hT Bo (uW Bo hT F.entry_zip_next ?_ (F.args_zip_next_1 _))))
 show wpAny _ _ (field (.ref z) 2 >>= _) _ _ _;refine aD (iu hz rfl (x:=.bool false) rfl ?_)
 show wpAny _ _ (field (.ref z) 3 >>= _) _ _ _;refine aD (iu hz rfl (x:=.ref TI) rfl (aD (oK hTI rfl ?_)))
 show wpAny _ _ (jW (.ref z) >>= _) _ _ _;refine aD ?_
 unfold jW;refine aD (iu hz rfl (x:=.none) rfl (bA ?_))
 simp only[if_true];refine aD (Ij (aD (iu hz rfl (x:=.ref TO) rfl (aD (pA hz (by simp) λha hza sa=>?_)))))
 replace hza:Pr ha z TI TO .ellipsis:=hza
 refine aD ?_
 simp only[HB,List.zipIdx_nil,Km,List.forIn_nil];refine aD (aD (zA ?_))
 show wpAny _ _ (fU (.ref i1) >>= _) _ _ _;cases hx:xs[n1]? with
 |none=>
  refine aD (next_end hh (h1.at λo e=>sa.extBut _ o D.i1z e) (s1.at λo e=>sa.extBut _ o D.l1z e) hx λhb e sb he=>?_)
  obtain⟨oe,hoe,hce⟩:=he;have zb:Pr hb z TI TO .ellipsis:=sb _ _ D.i1z.symm hza;have ne:e≠z:=λx=>by subst x;rw[zb]at hoe;cases hoe;simp at hce
  exact pA zb (by simp) λhc _ sc=>fin hc e (λc o c1 _ c3 _ x=>sc.extBut _ _ c1 (sb _ _ c3 (sa.extBut _ _ c1 x))) ⟨oe,sc.extBut _ _ ne hoe,hce⟩
 |some x=>
  have hy:ys[n2]?=none:=by
   rcases hend with h|h
   ·rw[hx]at h;cases h
   ·exact h
  refine aD (next_item (h1.at λo e=>sa.extBut _ o D.i1z e) (s1.at λo e=>sa.extBut _ o D.l1z e) hx λhb h1b sb=>bA ?_)
  have tb:zy hb TO a b:=sb.extBut _ _ D.TOi1 (sa.extBut _ _ D.TOz hTO);refine aD (oK tb rfl (aD (Ew tb λhc tc sc=>?_)))
  refine aD (Pu (bA (aD (aD (zA ?_)))))
  show wpAny _ _ (fU (.ref i2) >>= _) _ _ _;refine aD (next_end hh (h2.at λo e=>sc.extBut _ o D.TOi2.symm (sb.extBut _ o D.i12.symm (sa.extBut _ o D.i2z e))) (s2.at λo e=>sc.extBut _ o D.l2TO (sb.extBut _ o D.l2i1 (sa.extBut _ o D.l2z e))) hy λhd e sd he=>?_)
  obtain⟨oe,hoe,hce⟩:=he;have zd:Pr hd z TI TO .ellipsis:=sd _ _ D.i2z.symm (sc.extBut _ _ D.TOz.symm (sb.extBut _ _ D.i1z.symm hza));have ne:e≠z:=λx=>by subst x;rw[zd]at hoe;cases hoe;simp at hce
  exact pA zd (by simp) λhg _ sg=>fin hg e (λc o c1 c2 c3 c4 x=>sg.extBut _ _ c1 (sd _ _ c4 (sc.extBut _ _ c2 (sb.extBut _ _ c3 (sa.extBut _ _ c1 x))))) ⟨oe,sg.extBut _ _ ne hoe,hce⟩
def yP(k:Ce)(l:aN):Obj:=match k with | .lst=>{ cls:=.type "list_iterator",data:=.fields #[.ref l,.int 0 0] } | .tup=>{ cls:=.type "tuple_iterator",data:=.fields #[.ref l,.int 0 0] }
theorem Vo{k:Ce}{l:aN}{xs:Array aF}{Q:aF->aL->Prop}(hl:wY k s.heap l xs)(h:Q (.ref s.heap.objs.size) { s with heap:=s.heap.push (yP k l) }):wpAny (model prog w) A (pyIter (.ref l)) Q E s:=by
 cases k with
 |lst=>exact za hl h
 |tup=>exact Ik hl h
def RG(k1 k2:Ce)(h:dW)(l1 l2:aN):dW:=(h.push (yP k1 l1)).push (yP k2 l2)
def zH5(k1 k2:Ce)(h:dW)(l1 l2:aN):dW:=(((RG k1 k2 h l1 l2).push { cls:=.type "tuple",data:=.seq #[.ref h.objs.size,.ref (h.push (yP k1 l1)).objs.size] }).push { cls:=.type "tuple",data:=.seq #[.none,.none] }).push
 { cls:=.type "zip",data:=.fields #[.none,.bool false,.bool false,.ref (RG k1 k2 h l1 l2).objs.size,.ref ((RG k1 k2 h l1 l2).push { cls:=.type "tuple",data:=.seq #[.ref h.objs.size,.ref (h.push (yP k1 l1)).objs.size] }).objs.size] }
theorem wY.push{k:Ce}{h:dW}{l:aN}{xs:Array aF}(x:wY k h l xs)(o:Obj):wY k (h.push o) l xs:=x.at λ_ e=>aJ _ e
theorem S5(k1 k2:Ce)(l1 l2:aN)(xs ys:Array aF):Meets (wL.«zip.__new__» ⟨[.type "zip",.ref l1,.ref l2],[]⟩) (λ_ R s=>wY k1 s.heap l1 xs/\wY k2 s.heap l2 ys/\
  R (.ok (.ret (.ref (((RG k1 k2 s.heap l1 l2).push { cls:=.type "tuple",data:=.seq #[.ref s.heap.objs.size,.ref (s.heap.push (yP k1 l1)).objs.size] }).push { cls:=.type "tuple",data:=.seq #[.none,.none] }).objs.size))) { s with heap:=zH5 k1 k2 s.heap l1 l2 }):=
 .of_wp λprog w A R s h=>by
  obtain⟨hp,g,d,tk,os⟩:=s;obtain⟨hl1,hl2,h⟩:=h;have hsub:=sub_zip;have a1:wY k1 (aL.heap ⟨hp,g,d,tk,os⟩) l1 xs:=hl1;have a2:wY k2 (aL.heap ⟨hp.push (yP k1 l1),g,d,tk,os⟩) l2 ys:=hl2.push _
  wp_walk using Vo a1,Vo a2
  exact⟨_,rfl,h⟩
theorem Qo{k:Ce}{h:dW}{i l:aN}(e:h.get? i=some (yP k l)):Cg k h i l 0:=by
 cases k with
 |lst=>exact(⟨_,e,rfl,rfl⟩:h.IsListIter i l 0)
 |tup=>exact(⟨_,e,rfl,rfl⟩:h.IsTupleIter i l 0)
theorem Jt(k:Ce)(l:aN):(yP k l).isFreed=false:=by cases k<;>rfl
theorem Wz{k1 k2:Ce}{l1 l2:aN}{xs ys:Array aF}{Q:aF->aL->Prop}(hl1:wY k1 s.heap l1 xs)(hl2:wY k2 s.heap l2 ys)
  (h:∀h',Zp k1 k2 h' (s.heap.objs.size+4) (s.heap.objs.size+2) (s.heap.objs.size+3) s.heap.objs.size (s.heap.objs.size+1) l1 l2 .none .none .none 0 0 xs ys->(∀c o,s.heap.get? c=some o->h'.get? c=some o)->Q (.ref (s.heap.objs.size+4)) { s with heap:=h' }):
  wpAny (model prog w) A (call (.type "zip") [.ref l1,.ref l2]) Q E s:=by
 refine callType_new F.called_zip (by decide) (F.typeCall_zip_2 _ _) (F.newCall_zip_2 _ _) (λobj=>F.args_object_init_3 obj _ _) F.entry_zip_new (S5 k1 k2 l1 l2 xs ys) ⟨hl1,hl2,?_⟩
 have z1:(s.heap.push (yP k1 l1)).objs.size=s.heap.objs.size+1:=jN ..;have z2:(RG k1 k2 s.heap l1 l2).objs.size=s.heap.objs.size+2:=by unfold RG;rw[jN,z1]
 generalize hT:({ cls:=.type "tuple",data:=.seq #[.ref s.heap.objs.size,.ref (s.heap.push (yP k1 l1)).objs.size] }:Obj)=tI
 generalize hT2:({ cls:=.type "tuple",data:=.seq #[.none,.none] }:Obj)=tO
 have z3:((RG k1 k2 s.heap l1 l2).push tI).objs.size=s.heap.objs.size+3:=by rw[jN,z2]
 have z4:(((RG k1 k2 s.heap l1 l2).push tI).push tO).objs.size=s.heap.objs.size+4:=by rw[jN,z3]
 have fI:tI.isFreed=false:=by rw[<-hT];rfl
 have fO:tO.isFreed=false:=by rw[<-hT2];rfl
 have eq:zH5 k1 k2 s.heap l1 l2=(((RG k1 k2 s.heap l1 l2).push tI).push tO).push { cls:=.type "zip",data:=.fields #[.none,.bool false,.bool false,.ref (s.heap.objs.size+2),.ref (s.heap.objs.size+3)] }:=by
  unfold zH5;rw[hT,hT2,z2,z3]
 rw[eq,z4];have g5:((((RG k1 k2 s.heap l1 l2).push tI).push tO).push { cls:=.type "zip",data:=.fields #[.none,.bool false,.bool false,.ref (s.heap.objs.size+2),.ref (s.heap.objs.size+3)] }).get? (s.heap.objs.size+4)=some { cls:=.type "zip",data:=.fields #[.none,.bool false,.bool false,.ref (s.heap.objs.size+2),.ref (s.heap.objs.size+3)] }:=by
  rw[<-z4];exact cD _ rfl
 have up3:∀c o,((RG k1 k2 s.heap l1 l2).push tI).get? c=some o->((((RG k1 k2 s.heap l1 l2).push tI).push tO).push { cls:=.type "zip",data:=.fields #[.none,.bool false,.bool false,.ref (s.heap.objs.size+2),.ref (s.heap.objs.size+3)] }).get? c=some o:=λc o e=>aJ _ (aJ _ e)
 have up2:∀c o,(RG k1 k2 s.heap l1 l2).get? c=some o->_:=λc o e=>up3 c o (aJ _ e)
 have up0:∀c o,s.heap.get? c=some o->(RG k1 k2 s.heap l1 l2).get? c=some o:=λc o e=>aJ _ (aJ _ e)
 refine⟨⟨_,g5,rfl⟩,h _ ⟨g5,?_,?_,?_,?_,?_,?_⟩ λc o e=>up2 c o (up0 c o e)⟩
 ·refine up3 _ _ ?_
  rw[<-z2];have:=cD (RG k1 k2 s.heap l1 l2) fI;rw[this,<-hT,z1]
 ·refine aJ _ ?_
  rw[<-z3];have:=cD ((RG k1 k2 s.heap l1 l2).push tI) fO;rw[this,<-hT2]
 ·exact Qo (up2 _ _ (aJ _ (cD _ (Jt k1 l1))))
 ·refine Qo (up2 _ _ ?_)
  have:=cD (s.heap.push (yP k1 l1)) (Jt k2 l2);rw[z1]at this;exact this
 ·exact hl1.at λo e=>up2 _ o (up0 _ o e)
 ·exact hl2.at λo e=>up2 _ o (up0 _ o e)
end
def Vp(k:Ce)(K:ao)(H:Hp)(a:aN)(xs:List V):Prop:=match k with | .lst=>rW K H a xs | .tup=>xZ K H a xs
theorem Inv.sq{X:Cx}{pins:List (aN×Obj)}{σ:St}{H:Hp}{s:aL}{k:Ce}{a:aN}{xs:List V}(I:Inv X pins σ H s)(h:Vp k X.K H a xs):∃its,Vals xs its/\wY k s.heap a its.toArray/\xs.length<=sizeLine:=by
 cases k with
 |lst=>obtain⟨its,r,p,z⟩:=I.list h;exact⟨its,r,p.isList,z⟩
 |tup=>obtain⟨its,r,p,z⟩:=I.tuple h;exact⟨its,r,(show s.heap.IsTuple a its.toArray from p),z⟩
theorem Inv.YW{X:Cx}{pins:List (aN×Obj)}{σ:St}{H:Hp}{s:aL}{k:Ce}{a:aN}{xs ys:List V}(I:Inv X pins σ H s)(h:Vp k X.K H a xs)(h':Vp k X.K H a ys):xs=ys:=by
 cases k with
 |lst=>exact I.Iz h h'
 |tup=>exact I.Li h h'
theorem Same.sqV{K:ao}{k:Ce}{H H':Hp}{a:aN}{xs:List V}(e:Same H H')(h:Vp k K H a xs):Vp k K H' a xs:=by
 cases k with
 |lst=>exact e.seq h
 |tup=>exact e.yj h
def Itz(k1 k2:Ce)(K:ao)(a b:aN):It:=
 ⟨λi H=>∃xs x ys y,Vp k1 K H a xs/\xs[i]?=some x/\Vp k2 K H b ys/\ys[i]?=some y,
  λi H v H'=>∃t x y,v=.ref t/\H t=none/\H'=upd H t (.tup [x,y])/\(∀xs,Vp k1 K H a xs->xs[i]?=some x)/\∀ys,Vp k2 K H b ys->ys[i]?=some y,
  λi H=>∃xs ys,Vp k1 K H a xs/\Vp k2 K H b ys/\(xs.length<=i\/ys.length<=i)⟩
theorem YX{P:bL}{w:dB}{K:ao}{elts:List dz}{kk}{tp:Pos}{k1 k2:Ce}{z TI TO i1 i2 l1 l2:aN}(D:ZipApart z TI TO i1 i2 l1 l2):
  Turn P w K (.Tuple elts kk tp) (Itz k1 k2 K l1 l2) [z,TI,TO,i1,i2] z (λi h=>Pr h z TI TO .none/\zy h TI (.ref i1) (.ref i2)/\(∃a b,zy h TO a b)/\Cg k1 h i1 l1 i/\Cg k2 h i2 l2 i) where
 mem:=by simp
 obj:=λi h st b hb=>by
  obtain⟨hz,hTI,⟨a,c,hTO⟩,h1,h2⟩:=st;simp only[aQ,cL,or_false]at hb;rcases hb with rfl|rfl|rfl|rfl|rfl
  ·exact⟨_,hz,λv z=>by cases z⟩
  ·exact⟨_,hTI,λv z=>by cases z⟩
  ·exact⟨_,hTO,λv z=>by cases z⟩
  ·exact h1.get
  ·exact h2.get
 keep:=λi h h' st kp=>by
  obtain⟨hz,hTI,⟨a,c,hTO⟩,h1,h2⟩:=st;exact⟨kp z (by simp) _ hz,kp TI (by simp) _ hTI,⟨a,c,kp TO (by simp) _ hTO⟩,h1.at λo e=>kp i1 (by simp) o e,h2.at λo e=>kp i2 (by simp) o e⟩
 item:=by
  intro X hP hw hK hc i pins s σ H E I hf st hg;subst hP hw hK;obtain⟨hz,hTI,⟨a,c,hTO⟩,h1,h2⟩:=st;obtain⟨xs,x,ys,y,hq1,hx,hq2,hy⟩:=hg;obtain⟨its,rv,p1,_⟩:=I.sq hq1;obtain⟨jts,rv2,p2,_⟩:=I.sq hq2;obtain⟨u,hu,ru⟩:=rv.get hx;obtain⟨u2,hu2,ru2⟩:=rv2.get hy;refine Wy D ⟨hz,hTI,hTO,h1,h2,p1,p2⟩ (x:=u) (y:=u2) (by simpa using hu) (by simpa using hu2) λha Z ht hk=>?_
  obtain⟨az,aTI,aTO,a1,a2,_,_⟩:=Z;refine⟨.ref s.heap.objs.size,rfl,wpAny_letOwnedTupleGo_zip az λhb bz sb=>?_⟩
  have zlt:z<s.heap.objs.size:=bw hz;have k2:∀b o,b∉[z,TI,TO,i1,i2]->s.heap.get? b=some o->hb.get? b=some o:=λb o nb q=>by
   have n1:b≠z:=λe=>nb (by simp[e])
   have n2:b≠TO:=λe=>nb (by simp[e])
   have n3:b≠i1:=λe=>nb (by simp[e])
   have n4:b≠i2:=λe=>nb (by simp[e])
   exact(sb.2 b n1).trans (hk b o n1 n2 n3 n4 q)
  have I2:Inv X pins σ H { s with heap:=hb,toks:=s.toks }:=I.HX k2 hf
  have ht2:zy hb s.heap.objs.size u u2:=(sb.2 _ (jd zlt)).trans ht;have fT:Df X pins H s.heap.objs.size:=I.KN (aK _) I.fresh;have I3:Inv X pins σ (upd H s.heap.objs.size (.tup [x,y])) { s with heap:=hb,toks:=s.toks }:=
   I2.track fT ⟨by show 2<=sizeLine;rw[fK];decide,[u,u2],.cons ru (.cons ru2 .nil),⟨_,ht2,rfl,_,rfl⟩⟩
  have up:∀b o,b≠z->ha.get? b=some o->hb.get? b=some o:=λb o nb q=>(sb.2 b nb).trans q
  refine⟨.ref s.heap.objs.size,_,I3,rfl,⟨_,x,y,rfl,I.fresh,rfl,λzs hy'=>by rw[I.YW hy' hq1];exact hx,λzs hy'=>by rw[I.YW hy' hq2];exact hy⟩,⟨bz,up _ _ D.TIz aTI,⟨_,_,up _ _ D.TOz aTO⟩,a1.at λo q=>up _ o D.i1z q,a2.at λo q=>up _ o D.i2z q⟩,λb hb'=>?_⟩
  have hlt:b<s.heap.objs.size:=by
   simp only[aQ,cL,or_false]at hb';rcases hb' with rfl|rfl|rfl|rfl|rfl
   ·exact zlt
   ·exact bw hTI
   ·exact bw hTO
   ·obtain⟨o,q,_⟩:=h1.get;exact bw q
   ·obtain⟨o,q,_⟩:=h2.get;exact bw q
  rw[bf (bQ hlt)];exact(hf b hb').1
 done:=by
  intro X hP hw hK hc i pins s σ H E I hf st hg;subst hP hw hK;obtain⟨hz,hTI,⟨a,c,hTO⟩,h1,h2⟩:=st;obtain⟨xs,ys,hq1,hq2,hx⟩:=hg;obtain⟨its,rv,p1,_⟩:=I.sq hq1;obtain⟨jts,rv2,p2,_⟩:=I.sq hq2;have e1:=rv.length;have e2:=rv2.length;refine YT (I.ok.hd hc) D ⟨hz,hTI,hTO,h1,h2,p1,p2⟩ ?_ λh' hk=>⟨rfl,I.HX (ch:=[z,TI,TO,i1,i2]) (t':=s.toks) (λb o hb q=>hk b o (λe=>hb (by simp[e])) (λe=>hb (by simp[e])) (λe=>hb (by simp[e])) (λe=>hb (by simp[e])) q) hf⟩
  rcases hx with hx|hx
  ·left;simp;omega
  ·right;simp;omega
 self:=λ_ _ _ _ _ st h=>wpAny_pyIter_zip st.1 h
def zh3(k1 k2:Ce)(K:ao)(ta:TA):TI:=λσ H R=>ta σ H λvs H1=>∃a b,vs=[.ref a,.ref b]/\(∃xs,Vp k1 K H1 a xs)/\(∃ys,Vp k2 K H1 b ys)/\R (Itz k1 k2 K a b) H1
theorem boot_zip:bootBuiltins "zip"=some (.type "zip"):=rfl
theorem zc9{X:Cx}{a b:dz}{ta:TA}{p pos tp:Pos}{elts:List dz}{kk}(k1 k2:Ce)(hg:Gl X "zip")(hm:X.mg "zip"=none)(ha:PA X [a,b] ta)(hs:starEach [a,b] X.env=[(false,eval a X.env),(false,eval b X.env)]:=by rfl)(hs2:starEach [b] X.env=[(false,eval b X.env)]:=by rfl):
  PI X (.Tuple elts kk tp) (.Call (.Name "zip" p) [a,b] [] pos) (zh3 k1 k2 X.K ta):=by
 intro pins s σ H R I h;refine Call_ (Ez I hg hm boot_zip (nQ (jL (ha pos pins s σ H _ I h) λus s1 ⟨vs,H1,I1,r1,q1⟩=>?_) (by rw[hs,hs2]) (by rw[hs2];rfl)))
 obtain⟨l1,l2,e,⟨xs,hq1⟩,⟨ys,hq2⟩,q⟩:=q1;subst e;obtain⟨u,u2,rfl,rx,rx2⟩:=vals2 r1;cases rx;cases rx2;obtain⟨its,rv,p1,_⟩:=I1.sq hq1;obtain⟨jts,rv2,p2,_⟩:=I1.sq hq2;obtain⟨o1,e1⟩:=p1.get;obtain⟨o2,e2⟩:=p2.get;have lt1:=bw e1;have lt2:=bw e2;refine Wz p1 p2 λh' Z hk=>wpAny_pyIter_zip Z.hz ?_
 have I2:Inv X pins σ H1 { s1 with heap:=h' }:=I1.kept (t':=s1.toks) hk
 have D:ZipApart (s1.heap.objs.size+4) (s1.heap.objs.size+2) (s1.heap.objs.size+3) s1.heap.objs.size (s1.heap.objs.size+1) l1 l2:=by
  constructor
  ·exact bQ (nP (by decide) _)
  ·exact bQ (nP (by decide) _)
  ·exact bQ (yU (by decide))
  ·exact bQ (nP (by decide) _)
  ·exact bQ (nP (by decide) _)
  ·exact jd (yU (by decide))
  ·exact jd (nP (by decide) _)
  ·exact jd (yU (by decide))
  ·exact jd (nP (by decide) _)
  ·exact bQ (qp _)
  ·exact bQ (cO lt1 (jE _ _))
  ·exact bQ (cO lt1 (jE _ _))
  ·exact bQ lt1
  ·exact bQ (cO lt1 (jE _ _))
  ·exact bQ (cO lt2 (jE _ _))
  ·exact bQ (cO lt2 (jE _ _))
  ·exact bQ lt2
  ·exact bQ (cO lt2 (jE _ _))
 refine⟨_,[s1.heap.objs.size+4,s1.heap.objs.size+2,s1.heap.objs.size+3,s1.heap.objs.size,s1.heap.objs.size+1],_,_,H1,rfl,I2,YX D,⟨Z.hz,Z.hTI,⟨_,_,Z.hTO⟩,Z.h1,Z.h2⟩,λb hb=>?_,q⟩
 have hle:s1.heap.objs.size<=b:=by
  simp only[aQ,cL,or_false]at hb;rcases hb with rfl|rfl|rfl|rfl|rfl
  ·exact jE _ _
  ·exact jE _ _
  ·exact jE _ _
  ·exact aK _
  ·exact jE _ _
 exact I1.KN hle (I1.hok.fresh hle)
def Ju(ds es:List aA):List aA:=(ds.zip es).map λp=>.tuple [p.1,p.2]
theorem Gv(ds es:List aA):(Ju ds es).length=min ds.length es.length:=by simp[Ju]
theorem YZ{ds es:List aA}{i:Nat}{d:aA}(h:(Ju ds es)[i]?=some d):∃x y,ds[i]?=some x/\es[i]?=some y/\d=.tuple [x,y]:=by
 unfold Ju at h;rw[bh]at h;cases e:(ds.zip es)[i]? with
 |none=>rw[e]at h;cases h
 |some p=>
  rw[e]at h;cases h;rw[List.getElem?_zip_eq_some]at e
  exact⟨_,_,e.1,e.2,rfl⟩
def zda(k:Ce)(ds:List aA):aA:=match k with | .lst=>.list ds | .tup=>.tuple ds
theorem Rep.sqV{k:Ce}{K:ao}{H:Hp}{v:V}{ds:List aA}(r:Rep K H v (zda k ds)):∃a xs,v=.ref a/\Vp k K H a xs/\fX K H xs ds:=by
 cases k with
 |lst=>cases(show Rep K H v (.list ds)from r)with|lst h t=>exact⟨_,_,rfl,h,t⟩
 |tup=>cases(show Rep K H v (.tuple ds)from r)with|tup h t=>exact⟨_,_,rfl,h,t⟩
theorem S6{X:Cx}{a b:dz}{δ:List Slot}{ds es:List aA}{p pos tp:Pos}{elts:List dz}{kk}(k1 k2:Ce)(h1:VE X a δ (zda k1 ds))(h2:VE X b δ (zda k2 es))(hm:X.mg "zip"=none)(hg:Gl X "zip":=by rfl)(hs:starEach [a,b] X.env=(false,eval a X.env)::starEach [b] X.env:=by rfl)(hs2:starEach [b] X.env=(false,eval b X.env)::starEach [] X.env:=by rfl)(hn:starEach [] X.env=[]:=by rfl):
  VI X (.Tuple elts kk tp) (.Call (.Name "zip" p) [a,b] [] pos) δ (Ju ds es):=
 ⟨_,zc9 k1 k2 hg hm (eV fZ (eV fZ je hs2) hs) (by rw[hs,hs2,hn]) (by rw[hs2,hn]),λB0 B σ H0 H R f q=>h1 B0 B σ H0 H _ f λv H1 gY g r1=>h2 B0 B σ H1 gY _ (f.grow g) λu H2 nA g2 r2=>by
  obtain⟨a1,xs,rfl,hq1,rs1⟩:=r1.sqV;obtain⟨a2,ys,rfl,hq2,rs2⟩:=r2.sqV;have rs1:=rs1.mono g2.j9;have hq1:=g2.j9.sqV hq1;refine⟨a1,a2,rfl,⟨_,g2.sub.sqV hq1⟩,⟨_,g2.sub.sqV hq2⟩,q _ H2 nA (g.trans g2) λHa Hb s1 s2 i=>?_⟩
  have l1:=rs1.length;have l2:=rs2.length;have hS1:=(s1.trans s2).sqV hq1;have hS2:=(s1.trans s2).sqV hq2;refine⟨λhi=>?_,λhi=>⟨_,_,hS1,hS2,by rw[Gv]at hi;omega⟩,λx Ks d hd ⟨t,x1,y1,e1,e2,e3,e4,e5⟩=>?_⟩
  ·rw[Gv]at hi
   obtain⟨x,hx,_⟩:=rs1.get (i:=i) (d:=ds[i]'(by omega)) (by simp)
   obtain⟨y,hy,_⟩:=rs2.get (i:=i) (d:=es[i]'(by omega)) (by simp)
   exact⟨_,x,_,y,hS1,hx,hS2,hy⟩
  ·obtain⟨dx,dy,hx,hy,rfl⟩:=YZ hd
   subst e1;subst e3;refine⟨upd Ha t (.tup [x1,y1]),.laid s2 e2,.tup (xZ.of cQ) (.cons ?_ (.cons ?_ .nil))⟩
   ·exact((rs1.mono s1).at hx (e4 _ hS1)).mono (gR.laid s2 e2).j9
   ·exact((rs2.mono s1).at hy (e5 _ hS2)).mono (gR.laid s2 e2).j9⟩
end L2
namespace L2
open PySem PySem.Spec PyProof.Rows
open AutoSeq1 (wpAny_loadPart')
theorem WD(l:aN)(items:Array aF)(n:Nat)(dd:Option aN)(sl:Array (Option aF))(x:aF)(e:aF->Bool)(i j:Nat)(t:Tok)(hij:i<=j)(hj:j<items.size)(hsmall:(j:Int)<2^63-1)
  (hit:e items[j]=true)(hno:∀m (hm:m<items.size),i<=m->m<j->e items[m]=false):
  Meets (wL.«list.index» ⟨[.ref l,x,.int i t],[]⟩)
   (λA R s=>s.heap.get? l=some { cls:=.type "list",dict:=dd,data:=.seq items n,slots:=sl }/\(∀y,y∈items->SeqAt.EqAt A.in1 s y x (e y))/\R (.ok (.ret (.int j s.toks))) { s with toks:=s.toks+1 }):=by
 intro prog w A R s h;obtain⟨hp,g,d,tk,os⟩:=s;obtain⟨hl,he,h⟩:=h
 wp_walk using jY hl
 have a1:((λi:Int=>if i<0 then max 0 (i+(items.size:Int))else i) ((some (i:Int)).getD 0))=((i:Nat):Int):=by
  show(if(i:Int)<0 then max 0 ((i:Int)+(items.size:Int)) else(i:Int))=_
  rw[if_neg (by omega)]
 have a2:((λi:Int=>if i<0 then max 0 (i+(items.size:Int))else i) ((none:Option Int).getD (2^63-1)))=2^63-1:=by simp
 rw[a1,a2];exact⟨plainId_quiet zB _,CG PySem.MeetsSeq.entry_index_loop (by
  rw[Ah zB _];exact SeqAt.index_loopAt l items n dd sl x e (2^63-1) j hj hsmall hit _ i rfl hij hno prog w A R _ ⟨hl,he,h⟩)⟩
section
variable{X:Cx}{a b c e:dz}{es:List dz}{δ:List Slot}{d d1 d2 d3:aA}{ds:List aA}{pos:Pos}{k:Nat}
def zaQ(K:ao)(n:Nat):V->List V->Hp->VK->Prop:=λx vs H Q=>∃p ds y d i j,x=.ref p/\vs=[y,.int ((i:Nat):Int)]/\Rep K H (.ref p) (.list ds)/\Rep K H y d/\Lay n (.list ds)/\Lay n d/\i<=j/\(∃h:j<ds.length,fD ds[j] d=true)/\
 (∀m (h:m<ds.length),i<=m->m<j->fD ds[m] d=false)/\Q (.int j) H
theorem WK{n:Nat}(hu:X.A.units+n+2<cLine):MtM X "list.index" (zaQ X.K n):=by
 intro pins s σ H x vs v us Q I rx rv h;obtain⟨p,ds,y,d,i,j,rfl,rfl,r1,r2,l1,l2,hij,⟨hj,hit⟩,hno,q⟩:=h;cases rx;obtain⟨u,u2,rfl,ru,ru2⟩:=vals2 rv;obtain⟨t2,rfl⟩:=ru2;obtain⟨bs,rb⟩:=pF I d l2.1 r2 ru;cases r1 with
 |lst hq rs=>
  obtain⟨its,rvs,⟨⟨cls,dd,data,sl⟩,m,eo,ec,_,ed⟩,hz⟩:=I.list hq;simp only at ec ed;subst ec ed;obtain⟨as,ra⟩:=tX I ds l1.1 rs rvs;have hl:=rvs.length;have hl2:=rs.length;have hm:=SeqAt.readsAll_map ds its as l1.1 ra;have rd:∀i (h1:i<its.length) (h2:i<ds.length),pY s.heap its[i]=ds[i]:=λi h1 h2=>by
   have e1:(its.map (pY s.heap))[i]?=some (pY s.heap its[i]):=by simp[h1]
   rw[hm]at e1;rw[aG h2]at e1;exact(fM e1).symm
  have h1:=l2.2;have hn:=yd;have zhR:sizeLine=16777216:=fK;refine qF F.slot_list_index ⟨_,eo,rfl⟩ F.entry_list_index (F.args_list_index_3 _ _ _) (WD p its.toArray m dd sl u (λy=>fD (pY s.heap y) d) i j t2 hij (by simp;omega) (by omega) ?_ ?_) ⟨eo,?_,?_⟩
  ·have:=rd j (by omega) hj
   simp only[uG];rw[this];exact hit
  ·intro i' hi hij' zh4
   simp only[bM]at hi;have:=rd i' hi (by omega)
   simp only[uG];rw[this];exact hno i' (by omega) hij' zh4
  ·exact SeqAt.items_eqAt (by simpa using ra) rb l1.1 l2.1 (by omega)
  ·exact⟨.int j,H,I.tok _,⟨_,rfl⟩,q⟩
theorem WL{i j:Nat}{ap:Pos}(hr:jH k X.A)(h1:VE X a δ (.list ds))(h2:VE X b δ d)(h3:VE X c δ (.int (i:Nat)))(l1:Lay 20 (.list ds))(l2:Lay 20 d)(hij:i<=j)(hj:∃h:j<ds.length,fD ds[j] d=true)(hno:∀m (h:m<ds.length),i<=m->m<j->fD ds[m] d=false)
  (hs:starEach [b,c] X.env=(false,eval b X.env)::starEach [c] X.env:=by rfl)(hs2:starEach [c] X.env=(false,eval c X.env)::starEach [] X.env:=by rfl)(hbase:attributeBase a "index" X.env (eval a X.env)=eval a X.env:=by rfl)
  (hfew:((backTo pos (starEach [b,c] X.env)).all (λx=>!x.1)&&(backToKw pos (keywordEach [] X.env)).all (λx=>x.1.isSome)&&decide (([b,c]:List dz).length+([]:List lu).length+(if([]:List lu).isEmpty then 0 else 1)<30))=true:=by rfl)
  (hline:(ap.endLine==pos.line)=true:=by rfl)(hplain:(backTo pos (starEach [c] X.env)).any (·.1)=false:=by rfl):VE X (.Call (.Attribute a "index" ap) [b,c] [] pos) δ (.int j):=
 .of (Gn kI Lb Ld (WK (KR hr)) fZ (eV fZ (eV fZ je hs2) hs) hbase hfew hline hs hplain) λB0 B σ H0 H Q f q=>h1 B0 B σ H0 H _ f λv H1 gY g r1=>by
  cases r1 with
  |lst hq rs=>
   refine⟨.inl ⟨rfl,_,g.sub.seq hq⟩,h2 B0 B σ H1 gY _ (f.grow g) λu H2 nA g2 r2=>h3 B0 B σ H2 nA _ ((f.grow g).grow g2) λu3 H3 CN g3 r3=>?_⟩
   cases r3;have gg:=g2.trans g3;exact⟨_,ds,u,d,i,j,rfl,rfl,.lst (gg.sub.seq (gg.j9.seq hq)) (rs.mono (gg.j9.trans gg.sub)),(r2.mono g3.j9).mono g3.sub,l1,l2,hij,hj,hno,q _ H3 CN (g.trans gg) (.int _)⟩
theorem Ig{d1 d2:List aA}(h1:VE X a δ (.tuple d1))(h2:VE X b δ (.tuple d2))(hn:d1≠[])(hz:d1.length+d2.length<=sizeLine):VE X (.BinOp a .Add b pos) δ (.tuple (d1++d2)):=by
 refine .of (UW zaq fZ fZ) λB0 B σ H0 H Q f q=>h1 B0 B σ H0 H _ f λv H1 gY g1 r1=>h2 B0 B σ H1 gY _ (f.grow g1) λu H2 nA g2 r2=>?_
 cases r1 with
 |tup hq r1=>
  cases r2 with
  |tup hq2 r2=>
   have gg:=g1.trans g2;have e1:=r1.length;have hx:∀xs:List V,xs.length=d1.length->xs≠[]:=λxs h z=>by rw[z]at h;exact hn (ji h.symm)
   refine⟨_,_,_,_,rfl,rfl,g2.sub.yj (g2.j9.yj hq),g2.sub.yj hq2,hx _ e1,by rw[e1,r2.length];exact hz,λhy=>?_,λ_ p hp=>q _ _ _ (gg.trans (.laid g2.sub hp)) (.tup (xZ.of cQ) (((r1.mono g2.j9).append r2).mono (gR.laid g2.sub hp).j9))⟩
   subst hy;cases r2;rw[gK]at q;exact q _ H2 nA gg (.tup (g2.j9.yj hq) (r1.mono g2.j9))
end
end L2
namespace L2
open PySem PySem.Spec PyProof.Rows
def KTup(K:ao)(b:aN)(ws:List Str):Prop:=∃(o:Obj)(its:Array aF)(n:Nat),K.lookup b=some o/\o.cls=.type "tuple"/\o.data=.seq its n/\its.size<=sizeLine/\Vals (ws.map V.str) its.toList
inductive GE(pr:Im)(K:ao):List M_->List (Str×List Str)->Prop
 |nil:GE pr K [] []
 |cons {h:Int} {k:Str} {t:Tok} {b:aN} {ws:List Str} {es:List M_} {kvs:List (Str×List Str)}:h=aA.keyHash pr k->KTup K b ws->GE pr K es kvs->GE pr K (⟨h,.str k t,.ref b⟩::es) ((k,ws)::kvs)
structure GD(pr:Im)(K:ao)(a:aN)(kvs:List (Str×List Str)):Prop where
 nm:(a==sysModules)=false
 nd:(kvs.map (·.1)).Nodup
 ob:∃o es ep,K.lookup a=some o/\o.ExactDict/\o.data=.dict es ep/\GE pr K es.toList kvs
def pW(kvs:List (Str×List Str))(k:Str):Option (List Str):=(kvs.find? λp=>decide (p.1=k)).map (·.2)
theorem GE.pairs{P:bL}{w:dB}{K:ao}:∀{es:List M_}{kvs:List (Str×List Str)},GE w.params K es kvs->∃vs:List (Key×aF),Pairs (jg P w) es vs/\vs.map (·.1)=kvs.map (λp=>(dN p.1:Key))/\
  (∀e∈es,∃k,(jg P w).is k e.key=true/\e.hash=(jg P w).hash k)/\∀k,match pW kvs k with|none=>valueAt vs (dN k)=none|some ws=>∃b,valueAt vs (dN k)=some (.ref b)/\KTup K b ws
 |_,_,.nil=>⟨[],.nil,rfl,λe h=>by(cases h),λk=>rfl⟩
 |_,_,@GE.cons _ _ hh k t b ws es kvs e kt r=>by
  obtain⟨vs,h1,h2,h3,h4⟩:=GE.pairs (P:=P) r;refine⟨(.inr k,.ref b)::vs,.cons (zJ P w k t) rfl h1,by rw[aZ,aZ,h2],λx hx=>?_,λj=>?_⟩
  ·rcases aQ.mp hx with rfl|hx
   ·exact⟨.inr k,zJ P w k t,by rw[e];rfl⟩
   ·exact h3 x hx
  ·by_cases hj:k=j
   ·subst hj
    have:pW ((k,ws)::kvs) k=some ws:=by simp[pW,iY]
    rw[this];exact⟨b,by simp[valueAt,iY],kt⟩
   ·have:pW ((k,ws)::kvs) j=pW kvs j:=by simp[pW,iY,hj]
    rw[this];have e2:valueAt ((dN k,bR b)::vs) (dN j:Key)=valueAt vs (dN j):=by
     have:¬(dN k:Key)=dN j:=λz=>hj (by injection z)
     simp[valueAt,iY,this]
    rw[e2];exact h4 j
theorem GD.dict{P:bL}{w:dB}{K:ao}{h:dW}{a:aN}{kvs:List (Str×List Str)}(g:GD w.params K a kvs)(kin:K.In h):∃vs:List (Key×aF),h.DictOf (jg P w) a vs/\∀k,match pW kvs k with|none=>valueAt vs (dN k)=none|some ws=>∃b,valueAt vs (dN k)=some (.ref b)/\KTup K b ws:=by
 obtain⟨o,es,ep,h1,h2,h3,h4⟩:=g.ob;obtain⟨vs,p1,p2,p3,p4⟩:=h4.pairs (P:=P);refine⟨vs,⟨o,es,ep,kin a o h1,h2,h3,λe he=>p3 e (by simpa using he),p1,?_⟩,p4⟩
 rw[p2];have nd:=g.nd
 clear p2 p4 h4
 induction kvs with
 |nil=>exact K9
 |cons p l ih=>
  rw[aZ,lG]at nd ⊢;refine⟨λz=>nd.1 ?_,?_⟩
  ·obtain⟨q,hq,e⟩:=aR.mp z
   injection e with e
   exact aR.mpr ⟨q,hq,e⟩
  ·have go:∀l:List (Str×List Str),(l.map (·.1)).Nodup->(l.map λp=>(dN p.1:Key)).Nodup:=by
    intro l
    induction l with
    |nil=>intro _;exact K9
    |cons p l ih=>
     intro nd;rw[aZ,lG]at nd ⊢;refine⟨λz=>nd.1 ?_,ih nd.2⟩
     obtain⟨q,hq,e⟩:=aR.mp z
     injection e with e
     exact aR.mpr ⟨q,hq,e⟩
   exact go l nd.2
section
variable{X:Cx}{a b c e:dz}{δ:List Slot}{pos p:Pos}{k:Nat}{x y:Str}{kvs:List (Str×List Str)}{ws:List Str}{g:aN}
theorem Ft{K:ao}{H:Hp}:∀l:List Str,fX K H (l.map V.str) (l.map aW)
 | []=>.nil
 |z::l=>.cons (.str z) (Ft l)
theorem Vq(hm:X.mg x=some (.ref g))(G:GD X.w.params X.K g kvs)(h:VE X b δ (.str y))(hk:pW kvs y=some ws)(hg:Gl X x:=by rfl)(hs:zav b:=by intro _ _;rfl)(hd:(x==("__debug__":Str))=false:=by decide):VE X (.Subscript (.Name x p) b pos) δ (.tuple (ws.map .str)):=by
 have pe:PE X (.Subscript (.Name x p) b pos) (λσ H Q=>cE X b σ H λv H1=>v=.str y/\∀q,KTup X.K q ws->Q (.ref q) H1):=by
  intro pins s σ H Q I hw;refine Vc Kl.lookup hs (jL (vN (pos:=p) hg hm (v:=.ref g) rfl hd pins s σ H (λv H'=>v=.ref g/\H'=H) I ⟨rfl,rfl⟩) λu s1 ⟨vx,H1,I1,rx,ex,eH⟩=>?_)
  subst ex eH;obtain rfl:u=bR g:=rx;refine jL (hw pins s1 I1) λiv s2 ⟨v,H2,I2,rv,ev,q⟩=>?_
  subst ev;obtain⟨vs,dd,hv⟩:=G.dict (P:=X.prog) I2.zm;have hv:=hv y;rw[hk]at hv;obtain⟨bb,hb,kt⟩:=hv;refine⟨dd.typeIs,wpAny_getItem_of (Bp (k:=.inr y) rv) dd.mapOf hb ?_⟩
  exact⟨.ref bb,H2,I2.tok _,rfl,q bb kt⟩
 exact .of pe λB0 B σ H0 H Q f q=>h B0 B σ H0 H _ f λv H1 gY g1 r=>by
  cases r;exact⟨rfl,λb' hb=>q _ H1 gY g1 (.tup (.inr hb) (Ft ws))⟩
theorem Ma(hm:X.mg x=some (.ref g))(G:GD X.w.params X.K g kvs)(h:VE X b δ (.str y))(hg:Gl X x:=by rfl)(hd:(x==("__debug__":Str))=false:=by decide)(hmk:behindInMarks .NotIn (.Name x p)=false:=by with_unfolding_all rfl):VT X (.Compare b [.NotIn] [.Name x p] pos) δ (!(pW kvs y).isSome):=by
 have pc:PC X .NotIn b (.Name x p) (λσ H Q=>cE X b σ H λv H1=>v=.str y/\Q (.bl (!(pW kvs y).isSome)) H1):=by
  intro pins s σ H Q I hw;refine jL (hw pins s I) λiv s1 ⟨v,H1,I1,rv,ev,q⟩=>?_
  subst ev;refine jL (vN (pos:=p) hg hm (v:=.ref g) rfl hd pins s1 σ H1 (λv H'=>v=.ref g/\H'=H1) I1 ⟨rfl,rfl⟩) λu s2 ⟨vx,H2,I2,rx,ex,eH⟩=>?_
  subst ex eH;obtain rfl:u=bR g:=rx;obtain⟨vs,dd,hv⟩:=G.dict (P:=X.prog) I2.zm;have hv:=hv y;refine wpAny_notIn_of (Bp (k:=.inr y) rv) G.nm dd.mapOf ?_
  have e:(valueAt vs (dN y)).isSome=(pW kvs y).isSome:=by
   cases el:pW kvs y with
   |none=>rw[el]at hv;rw[hv];rfl
   |some ws=>rw[el]at hv;obtain⟨bb,hb,_⟩:=hv;rw[hb];rfl
  rw[e];exact⟨.bl _,H2,I2.tok _,rfl,q⟩
 exact .of (zcv pc hmk) λB0 B σ H0 H Q f q=>h B0 B σ H0 H _ f λv H1 gY g1 r=>by
  cases r;exact⟨rfl,_,rfl,q H1 gY g1⟩
end
section
variable{X:Cx}{a b c e:dz}{δ:List Slot}{d d1 d2:aA}{ds:List aA}{pos px py p:Pos}{x y:Str}{k:Nat}{kvs:List (Str×aA)}
theorem zdb:SlR X (λx lo hi H Q=>∃z,x=.str z/\z.length<=sizeLine/\Q (.str (ni z lo hi)) H):=by
 intro pins s σ H x v vl vu lo hi sl Q I rx hs pl pu h;obtain⟨z,rfl,hz,q⟩:=h;obtain⟨t,rfl⟩:=rx;refine⟨"str",_,PySem.F.slot_str_getitem.lookup,BP _ _ _,?_⟩
 have fin:∀(l u:Option (Int×Tok)),l.map (·.1)=lo->u.map (·.1)=hi->s.heap.IsSlice sl l u none->wpAny (model X.prog X.w) X.A (getItem (.str z t) (.ref sl)) (EP X pins σ Q) X.xe s:=by
  intro l u e1 e2 hl;subst e1 e2;refine wpAny_getItem_str_slice (l:=l) (u:=u) (st:=none) hl rfl (post_val_or_str ⟨dD (zE z _ _) hz,λt' k=>?_⟩)
  exact⟨.str (ni z _ _),H,I.tok _,⟨t',rfl⟩,q⟩
 obtain⟨os,h1,h2,h3⟩:=hs;cases pl with
 |none=>cases pu with
  |none=>exact fin none none rfl rfl ⟨os,h1,h2,h3⟩
  |int j t2=>exact fin none (some (j,t2)) rfl rfl ⟨os,h1,h2,h3⟩
 |int i t1=>cases pu with
  |none=>exact fin (some (i,t1)) none rfl rfl ⟨os,h1,h2,h3⟩
  |int j t2=>exact fin (some (i,t1)) (some (j,t2)) rfl rfl ⟨os,h1,h2,h3⟩
theorem Ar{lo hi:Option dz}{l u:Option Int}{p2:Pos}(h:VE X a δ (.str x))(hz:x.length<=sizeLine)(hl:Br X δ lo l)(hh:Br X δ hi u):VE X (.Subscript a (.Slice lo hi none p2) pos) δ (.str (ni x l u)):=by
 obtain⟨tl,pl,ql⟩:=hl.ok;obtain⟨th,ph,qh⟩:=hh.ok;refine .of (Jf zdb fZ pl ph) λB0 B σ H0 H Q f q=>h B0 B σ H0 H _ f λv H1 gY g r=>ql B0 B σ H1 gY _ (f.grow g) λH2 nA g2=>qh B0 B σ H2 nA _ ((f.grow g).grow g2) λH3 CN g3=>?_
 cases r;exact⟨x,rfl,hz,q _ _ _ ((g.trans g2).trans g3) (.str _)⟩
inductive VP(X:Cx)(δ:List Slot):List (Option dz)->List dz->List (Str×aA)->Prop
 |nil:VP X δ [] [] []
 |cons {k v:dz} {ks vs} {x:Str} {d:aA} {r}:VE X k δ (.str x)->VE X v δ d->VP X δ ks vs r->VP X δ (some k::ks) (v::vs) ((x,d)::r)
theorem VP.ok{keys vals}(h:VP X δ keys vals kvs):keys.all (·.isSome)=true/\keys.length=vals.length/\keys.length=kvs.length/\∃Ve,PPs X pos keys vals Ve/\∀B0 B σ H0 H Q,kj X.K B0 B H0 H σ δ->
  (∀iM H' (ws:List (Key×V)),gR H0 H iM H'->ws.map (·.1)=kvs.map (λp=>(dN p.1:Key))->fX X.K iM (ws.map (·.2)) (kvs.map (·.2))->Q (ws.map λkv=>(kV kv.1,kv.2)) H')->NT Ve σ H Q:=by
 induction h with
 |nil=>exact⟨rfl,rfl,rfl,[],zay,λB0 B σ H0 H Q f q=>q _ _ [] (.refl f.sub) rfl .nil⟩
 | @cons k v ks vs x d r hk hv _ ih=>
  obtain⟨a1,a2,a3,Ve,pp,ht⟩:=ih;refine⟨by simpa using a1,by simp[a2],by simp[a3],_,Yj fZ fZ pp,λB0 B σ H0 H Q f q=>?_⟩
  refine hk B0 B σ H0 H _ f λu H1 gY g1 r1=>hv B0 B σ H1 gY _ (f.grow g1) λw H2 nA g2 r2=>?_
  cases r1;refine ht B0 B σ H2 nA _ ((f.grow g1).grow g2) λH3 CN ws g3 e1 rs=>?_
  exact q H3 CN ((dN x,w)::ws) ((g1.trans g2).trans g3) (by simp[e1]) (.cons (r2.mono g3.j9) rs)
theorem zaR:∀{kvs:List (Key×V)}{k:Key}{v:V},k∉kvs.map (·.1)->putK kvs k v=kvs ++ [(k,v)]:=by
 intro kvs k v h;unfold putK
 first
  |(rw[if_neg];simpa using h)
  |(simp at h;simp[h])
theorem Mf:∀{more kvs:List (Key×V)},((kvs++more).map (·.1)).Nodup->zO kvs more=kvs++more
 | [],kvs,_=>by simp[zO]
 |p::more,kvs,h=>by
  show zO (putK kvs p.1 p.2) more=_;have hp:p.1∉kvs.map (·.1):=λz=>by
   rw[bO,aZ]at h;exact(iJ.mp h).2.2 _ z _ (aY) rfl
  rw[zaR hp,Mf (by simpa using h)]
  simp
theorem Vr{keys vals}(h:VP X δ keys vals kvs)(hn:(kvs.map (·.1)).Nodup)(h0:kvs≠[])(h15:kvs.length<=15):VE X (.Dict keys vals pos) δ (Cd kvs):=by
 obtain⟨a1,a2,a3,Ve,pp,ht⟩:=h.ok (pos:=pos);refine .of (zaz pp a1 a2 (λz=>h0 (List.length_eq_zero_iff.mp (by rw[<-a3,z];rfl))) (by omega)) λB0 B σ H0 H Q f q=>λp hp=>?_
 refine ht B0 B σ H0 _ _ (f.grow (.loose f.sub hp)) λH1 gY ws g e1 rs=>?_
 have gp:=g.big _ _ (cQ (H:=H) (a:=p) (o:=HO.dK []));have hp0:H1 p=none:=g.still (f.sub.free hp) cQ;have wl:ws.length=kvs.length:=by have:=congrArg nY e1;simpa using this
 refine⟨gp,ws,rfl,by omega,?_⟩
 rw[Mf (by
  rw[Kq,e1];have:(kvs.map λp=>(dN p.1:Key))=(kvs.map (·.1)).map (dN:Str->Key):=by rw[bU];rfl
  rw[this];exact List.Pairwise.map _ (λa b hab z=>hab (dN.inj z)) hn),Kq]
 refine q (.ref p) (upd H1 p (.dK ws)) _ ⟨λb u eb=>?_,λb u eb=>?_,λb u eb=>?_,λb eb=>?_⟩ ?_
 ·have hb:b≠p:=bV eb hp
  rw[bf hb];exact g.big _ _ (by rw[bf hb];exact eb)
 ·have hb:b≠p:=bV eb (f.sub.free hp)
  rw[bf hb];exact g.j9 _ _ eb
 ·by_cases hb:b=p
  ·subst hb;rw[cQ]at eb ⊢;exact eb
  ·rw[bf hb]at eb ⊢;exact g.sub _ _ eb
 ·by_cases hb:b=p
  ·subst hb;exact .inr hp
  ·rw[bf hb]at eb
   rcases g.new b eb with z|z
   ·exact .inl z
   ·rw[bf hb]at z;exact .inr z
 ·refine .dct (kvs:=ws) cQ ?_ ?_
  ·rw[bU]
   have:ws.map (λp=>N5 p.1)=(ws.map (·.1)).map N5:=by rw[bU];rfl
   rw[this,e1,bU];rfl
  ·rw[bU]
   refine(rs.mono λb u eb=>?_)
   rw[bf (bV eb hp0)];exact eb
theorem Y0{ap:Pos}(hr:jH k X.A)(h3:VE X c δ (Cd kvs))(h1:VE X a δ (.str x))(h4:VE X e δ d)(m:M2 X c "get" ap a e pos:=by exact⟨rfl,rfl,rfl,rfl⟩):VE X (.Call (.Attribute c "get" ap) [a,e] [] pos) δ ((qw kvs x).getD d):=
 .of (Yl (hu1 hr) fZ fZ fZ m) λB0 B σ H0 H Q fr q=>h3 B0 B σ H0 H _ fr λv H1 gY g r=>by
  obtain⟨p,ws,rfl,hp,ke,rs⟩:=r.zT;refine⟨p,rfl,.inl ⟨ws,.inl (g.sub _ _ hp)⟩,?_⟩
  refine h1 B0 B σ H1 gY _ (fr.grow g) λv H2 nA g2 r1=>h4 B0 B σ H2 nA _ ((fr.grow g).grow g2) λu H3 CN g3 r2=>?_
  cases r1;have gg:=g2.trans g3;refine⟨oM ws (dN x),.inl ⟨ws,dN x,.inl (gg.big _ _ (g.sub _ _ hp)),rfl,rfl⟩,q _ H3 CN (g.trans gg) ?_⟩
  exact(Js ke (rs.mono gg.j9) x).getD r2
theorem zdc{K:ao}(i j:Int):CallD K (λxs H Q=>∃i j,xs=[.int i,.int j]/\Q (.int (if j<i then j else i)) H) [.int i,.int j] (.int (if j<i then j else i)):=λvs H0 H Q s r q=>by
 obtain⟨v,u,rfl,r1,r2⟩:=r.two;cases r1;cases r2;exact⟨i,j,rfl,q _ _ _ (.refl s) (.int _)⟩
end
section
variable{X:Cx}{a b c e e1 e2:dz}{δ:List Slot}{d d1 d2:aA}{ds Z9 ds2:List aA}{pos px py p:Pos}{x y:Str}{k:Nat}
theorem zaS(i j:Nat){pt RT:Pos}{kt k2}(h1:VO X a δ Z9)(h2:VO X b δ ds2)(hc:X.calm=true)(hN:X.N.Nodup)(hij:i≠j)(hi:X.N[i]?=some x:=by rfl)(hj:X.N[j]?=some y:=by rfl)(hx:X.env.scope.names.lookup x=some .local:=by rfl)(hy:X.env.scope.names.lookup y=some .local:=by rfl)
  (hw:swappedStores [.Tuple [.Name x px,.Name y py] kt pt] (.Tuple [a,b] k2 RT) X.env=pure (some [x,y]):=by rfl)(hs:swapsWithSole [.Tuple [.Name x px,.Name y py] kt pt] (.Tuple [a,b] k2 RT) pos.line X.env=pure false:=by rfl)
  (hs1:starEach [a,b] X.env=(false,eval a X.env)::starEach [b] X.env:=by rfl)(hs2:starEach [b] X.env=(false,eval b X.env)::starEach [] X.env:=by rfl):
  VS X (.Assign [.Tuple [.Name x px,.Name y py] kt pt] (.Tuple [a,b] k2 RT) pos) δ (.nx ((δ.set i (.own Z9)).set j (.own ds2))):=λB0 B σ H0 H D f ok pins s I=>by
 refine X4 hc hN hi hj hij hx hy (eV fZ (eV fZ je hs2) hs1) hw hs pins s σ H D I ?_
 refine h1 B0 B σ H0 H _ f λp xs H1 gY g a1 a2 a3 a4=>h2 B0 B σ H1 gY _ (f.grow g) λq ys H2 nA g2 b1 b2 b3 b4=>?_
 have gg:=g.trans g2;have fs:=f.grow gg;have npq:p≠q:=λz=>by rw[z,b1]at a3;cases a3
 have f1:=fs.N6 (i:=i) (g2.big _ _ a3) (g2.still a2 a3) (f.ent.big.free a1) (a4.mono g2.j9) λj es e2 e3=>by
  obtain⟨p',xs',g1,g2,_⟩:=f.slot j _ e2;rw[e3]at g1;cases g1;rw[a1]at g2;cases g2
 refine⟨_,_,rfl,ok _ H2 nA gg.j9 (f1.N6 b3 b2 ((f.grow g).ent.big.free b1) b4 λj es e2 e3=>?_)⟩
 by_cases hji:j=i
 ·subst hji
  have hl:j < σ.length:=by
   have:=(aV.mp e3).1;simpa using this
  rw[bF hl]at e3;cases e3;exact npq rfl
 ·rw[bB (cH hji)]at e2 e3
  obtain⟨p',xs',z1,z2,_⟩:=(f.grow g).slot j _ e2;rw[e3]at z1;cases z1;rw[b1]at z2;cases z2
end
section
variable{X:Cx}{K:ao}{B0 B H0 H iM H' C0 C Ha Hb:Hp}{σ σ':St}{δ δ':List Slot}{a:aN}{ps:List aN}{gs:List (List aA)}
theorem En.rep2(G:En K B0 B a ps gs H0 H σ δ):∃Ha,Same H0 Ha/\gR B0 B Ha H/\Rep K Ha (.ref a) (.list (gs.map .list)):=by
 have s0:Same H0 (λq=>if q=a\/q∈ps then H q else H0 q):=λb u e=>by
  show(if b=a\/b∈ps then H b else H0 b)=some u
  split
  ·exact G.fr.sub b u e
  ·exact e
 refine⟨λq=>if q=a\/q∈ps then H q else H0 q,s0,⟨G.fr.ent.big,G.fr.ent.j9.trans s0,λb u e=>?_,λb e=>?_⟩,?_⟩
 ·have e:(if b=a\/b∈ps then H b else H0 b)=some u:=e
  split at e
  ·exact e
  ·exact G.fr.sub b u e
 ·have e:(if b=a\/b∈ps then H b else H0 b)≠none:=e
  split at e
  ·rename_i z
   rcases z with rfl|z
   ·exact .inr G.aB
   ·obtain⟨i,hi⟩:=Aj.mp z
    have hl:i<gs.length:=by rw[<-G.len];exact(aV.mp hi).1
    exact .inr (G.cell i b gs[i] hi (by simp[hl])).2.1
  ·exact G.fr.ent.new b e
 ·refine .lst (rW.of (by show(if a=a\/a∈ps then H a else H0 a)=_;rw[if_pos (.inl rfl)];exact G.arr)) ?_
  have go:∀(l:List aN)(m:List (List aA)),l.length=m.length->(∀(i:Nat)p ds,l[i]?=some p->m[i]?=some ds->p∈ps/\∃xs,H p=some (.lst xs)/\fX K H0 xs ds)->fX K (λq=>if q=a\/q∈ps then H q else H0 q) (l.map V.ref) (m.map .list):=by
   intro l
   induction l with
   |nil=>
    intro m hm _;cases m with
    |nil=>exact .nil
    |cons _ _=>cases hm
   |cons p l ih=>
    intro m hm hc;cases m with
    |nil=>cases hm
    |cons ds m=>
     obtain⟨hp,xs,h1,h2⟩:=hc 0 p ds rfl rfl;refine .cons (.lst (rW.of (by show(if p=a\/p∈ps then H p else H0 p)=_;rw[if_pos (.inr hp)];exact h1)) (h2.mono s0)) (ih m (by simpa using hm) λi p' ds' e1 e2=>hc (i+1) p' ds' (by simpa using e1) (by simpa using e2))
  exact go ps gs G.len λi p ds e1 e2=>by
   obtain⟨_,_,xs,h1,h2⟩:=G.cell i p ds e1 e2;exact⟨dw e1,xs,h1,h2⟩
theorem En.freeze(G:En K B0 B a ps gs H0 H σ δ){ig:Nat}(hga:δ[ig]?=some (.ref a)):∃Ha,Same H0 Ha/\kj K B0 B Ha H σ (δ.set ig (.val (.list (gs.map .list)))):=by
 obtain⟨Ha,sm,g,r⟩:=G.rep2;have hs:σ[ig]?=some (some (.ref a)):=G.fr.slot ig _ hga;have f0:kj K B0 B Ha H σ δ:=by
  refine⟨g,G.fr.len,λi sl e=>?_,G.fr.apart⟩
  have q:=G.fr.slot i sl e;cases sl with
  |un=>trivial
  |ref _=>exact q
  |val d=>obtain⟨v,g1,g2⟩:=q;exact⟨v,g1,g2.mono sm⟩
  |own ds=>exact absurd e (wV G.no i ds)
 have f1:=f0.SN (i:=ig) (v:=.ref a) (sl:=.val (.list (gs.map .list))) ⟨_,rfl,r⟩ rfl;have e:σ.set ig (some (.ref a))=σ:=by
  apply su;intro i;by_cases h:i=ig
  ·subst h;rw[bF (aV.mp hs).1,hs]
  ·rw[bB (cH h)]
 rw[e]at f1;exact⟨Ha,sm,f1⟩
end
section
variable{X:Cx}{B0 B H0 H iM H' Ha Hb:Hp}{σ σ':St}{D:Ends}{st:mj}{rest body orelse:List mj}{δ δ':List Slot}{a:aN}{ps:List aN}{gs:List (List aA)}{e c tg iter e1 e2 ea:dz}{d:aA}{ds:List aA}{pos px spos:Pos}{x y:Str}
def vI{α:Type}(l:List α)(i:Nat)(y:α):List α:=l.take i++y::l.drop i
def zaT:V->List V->Hp->VK->Prop:=λx vs H Q=>∃(l:aN)(xs:List V)(j:Int)(y:V),x=.ref l/\vs=[.int j,y]/\H l=some (.lst xs)/\0<=j/\j<=xs.length/\xs.length<sizeLine/\Q .non (upd H l (.lst (vI xs j.toNat y)))
theorem Vals.ins{xs:List V}{us:List aF}{y:V}{u:aF}(r:Vals xs us)(ru:RelV y u)(i:Nat):Vals (vI xs i y) (vI us i u):=(r.take i).append (.cons ru (r.drop i))
theorem WM:MtM X "list.insert" zaT:=by
 intro pins s σ H x vs v us Q I rx rv h;obtain⟨l,xs,j,y,rfl,rfl,hH,h0,hi,hz,q⟩:=h;cases rx;obtain⟨u1,u2,rfl,ru1,ru2⟩:=rv.two;obtain⟨t,rfl⟩:=ru1;obtain⟨z,its,n,r,hl,e⟩:=I.zeR hH;have hfit:Ek j=true:=by
  have:=fK;unfold Ek;simp;omega
 refine qF F.slot_list_insert ⟨_,e,rfl⟩ F.entry_list_insert (F.args_list_insert_3 _ _ _) (PySem.AutoSeq1.list_insert_list_int_val_1 l its.toArray n j t u2 (by rw[hfit];decide) (by rw[bM];omega)) ⟨e,?_⟩
 refine⟨.non,_,I.zeQ (its':=vI its j.toNat u2) hH e ?_ (r.ins ru2 j.toNat) ?_,rfl,q⟩
 ·show(its.toArray.extract 0 (if j<0 then(j+((its.toArray.size:Nat):Int)).toNat else min j.toNat its.toArray.size)).push u2++its.toArray.extract (if j<0 then(j+((its.toArray.size:Nat):Int)).toNat else min j.toNat its.toArray.size)=_
  rw[if_neg (by omega),bM,uY (by omega)]
  unfold vI;apply Array.toList_inj.mp;simp;rw[gw (by simp)]
 ·unfold vI
  rw[bK,bJ,dO,fG];omega
theorem fX.ins{K:ao}{xs:List V}{v:V}(r:fX K H xs ds)(rv:Rep K H v d)(i:Nat):fX K H (vI xs i v) (vI ds i d):=(r.take i).append (.cons rv (r.drop i))
theorem Y4(G:En X.K B0 B a ps gs H0 H σ δ)(ig:Nat){j m:Nat}{p:aN}{p0 p4 ap:Pos}(hga:δ[ig]?=some (.ref a))(ha:VE X ea δ (.int j))(hp:ps[j]?=some p)(hg:gs[j]?=some ds)(h1:VE X e1 (δ.set ig (.val (.list (gs.map .list)))) (.int m))(hn1:noOwn (δ.set ig (.val (.list (gs.map .list))))=true)(hm:m<=ds.length)(h2:VE X e2 δ d)(hz:ds.length<sizeLine)
  (q:∀σ' iM H',En X.K B0 B a ps (gs.set j (vI ds m d)) iM H' σ' δ->D.nx σ' H')(hig:X.N[ig]?=some x:=by rfl)
  (hv:PK X.env.scope x:=by first|exact bG rfl|exact fj (bG rfl)|exact fj (fj rfl))(hd:(x==("__debug__":Str))=false:=by decide)(hcd:(x==("__classdict__":Str))=false:=by decide)(hpl:yg ea:=by intro _ _;rfl)
  (hs:starEach [e1,e2] X.env=(false,eval e1 X.env)::starEach [e2] X.env:=by rfl)(hs2:starEach [e2] X.env=(false,eval e2 X.env)::starEach [] X.env:=by rfl)(hbase:attributeBase (.Subscript (.Name x p0) ea p4) "insert" X.env (eval (.Subscript (.Name x p0) ea p4) X.env)=eval (.Subscript (.Name x p0) ea p4) X.env:=by rfl)
  (hfew:((backTo px (starEach [e1,e2] X.env)).all (λx=>!x.1)&&(backToKw px (keywordEach [] X.env)).all (λx=>x.1.isSome)&&decide (([e1,e2]:List dz).length+([]:List lu).length+(if([]:List lu).isEmpty then 0 else 1)<30))=true:=by rfl)
  (hline:(ap.endLine==px.line)=true:=by rfl)(hplain:(backTo px (starEach [e2] X.env)).any (·.1)=false:=by rfl)(hsw:swapsWith (.Call (.Attribute (.Subscript (.Name x p0) ea p4) "insert" ap) [e1,e2] [] px) none pos.line X.env=pure false:=by rfl):
  cS X (.Expr (.Call (.Attribute (.Subscript (.Name x p0) ea p4) "insert" ap) [e1,e2] [] px) pos) D σ H:=λpins s I=>by
 refine Al (Gn kI PySem.F.slot_list_insert PySem.F.type_list_insert WM (Yd Nz (j8 hig hv hd hcd) fZ hpl) (eV fZ (eV fZ je hs2) hs) hbase hfew hline hs hplain) hsw pins s σ H D I ?_
 refine⟨.ref a,G.fr.slot ig _ hga,?_⟩
 refine ha H0 H σ H0 H _ G.own λv H1 gY g r=>?_
 cases r;have G1:=G.go (G.own.grow g) G.no;obtain⟨c1,c2,xs,c3,c4⟩:=G1.cell j p ds hp hg;refine .inl ⟨a,_,_,.ref p,rfl,rfl,rW.of G1.arr,cu (by rw[bh,hp];rfl),.inl ⟨rfl,_,rW.of c3⟩,?_⟩
 obtain⟨Ha,sm,ff⟩:=G1.freeze hga;refine h1 Ha gY σ Ha gY _ (ff.re hn1 (.refl ff.sub)) λv Hb H2 g2 r2=>?_
 cases r2;have G2:En X.K B0 B a ps gs H1 H2 σ δ:=G1.go (G1.own.grow (.far G1.fr.sub g2.big)) G1.no;refine h2 H1 H2 σ H1 H2 _ G2.own λw H3 CN g3 r3=>?_
 have G3:=G2.go (G2.own.grow g3) G2.no;obtain⟨k1,k2,ys,k3,k4⟩:=G3.cell j p ds hp hg;refine⟨p,ys,m,w,rfl,rfl,k3,by omega,by rw[k4.length];omega,by rw[k4.length];exact hz,q σ H3 _ ?_⟩
 have hjl:j<gs.length:=(aV.mp hg).1;have hpa:a≠p:=λz=>G.na (by rw[z];exact dw hp)
 refine⟨G3.fr.touch k1 k2 (wV G.no),G.no,by rw[bf hpa];exact G3.arr,G3.a0,G.aB,G.na,G.nd,by rw[uR];exact G.len,λi p' ds' e1 e2=>?_⟩
 by_cases hi:i=j
 ·subst hi
  rw[hp]at e1;cases e1;rw[bF hjl]at e2;cases e2;exact⟨k1,k2,_,cQ,by rw[jm];exact k4.ins r3 m⟩
 ·rw[bB (cH hi)]at e2
  obtain⟨k1,k2,ys,k3,k4⟩:=G3.cell i p' ds' e1 e2;have np:p'≠p:=λz=>by
   subst z;have l1:=(aV.mp e1);have l2:=(aV.mp hp);exact hi ((List.getElem_inj G.nd (h₀:=l1.1) (h₁:=l2.1)).mp (by rw[l1.2,l2.2]))
  exact⟨k1,k2,ys,by rw[bf np];exact k3,k4⟩
theorem zdd(G:En X.K B0 B a ps gs H0 H σ δ){ig:Nat}{o:Out}(hga:δ[ig]?=some (.ref a))(h:Em X rest (δ.set ig (.val (.list (gs.map .list)))) o)(q:∀Ha,Same H0 Ha->Bh X.K B0 B Ha D o):Vg X rest D σ H:=by
 obtain⟨Ha,sm,ff⟩:=G.freeze hga;exact h B0 B σ Ha H D ff (q Ha sm)
end
section
variable{X:Cx}{a b c:dz}{δ:List Slot}{d1 d2 d3:aA}{pos px py pz:Pos}{x y z:Str}
theorem fX.three{K:ao}{H:Hp}{vs:List V}(r:fX K H vs [d1,d2,d3]):∃v w u,vs=[v,w,u]/\Rep K H v d1/\Rep K H w d2/\Rep K H u d3:=by
 cases r with|cons a t=>cases t with|cons b t=>cases t with|cons c t=>cases t;exact⟨_,_,_,rfl,a,b,c⟩
theorem zaU(i j k:Nat){pt RT:Pos}{kt k2}(h1:VE X a δ d1)(h2:VE X b δ d2)(h3:VE X c δ d3)(hc:X.calm=true)(hN:X.N.Nodup)(hij:i≠j)(hik:i≠k)(hjk:j≠k)(hi:X.N[i]?=some x:=by rfl)(hj:X.N[j]?=some y:=by rfl)(hk:X.N[k]?=some z:=by rfl)(hx:X.env.scope.names.lookup x=some .local:=by rfl)(hy:X.env.scope.names.lookup y=some .local:=by rfl)(hz:X.env.scope.names.lookup z=some .local:=by rfl)
  (hw:swappedStores [.Tuple [.Name x px,.Name y py,.Name z pz] kt pt] (.Tuple [a,b,c] k2 RT) X.env=pure (some [x,y,z]):=by rfl)(hs:swapsWithSole [.Tuple [.Name x px,.Name y py,.Name z pz] kt pt] (.Tuple [a,b,c] k2 RT) pos.line X.env=pure false:=by rfl)
  (hs1:starEach [a,b,c] X.env=(false,eval a X.env)::starEach [b,c] X.env:=by rfl)(hs2:starEach [b,c] X.env=(false,eval b X.env)::starEach [c] X.env:=by rfl)(hs3:starEach [c] X.env=(false,eval c X.env)::starEach [] X.env:=by rfl):
  VS X (.Assign [.Tuple [.Name x px,.Name y py,.Name z pz] kt pt] (.Tuple [a,b,c] k2 RT) pos) δ (.nx (((δ.set i (.val d1)).set j (.val d2)).set k (.val d3))):=λB0 B σ H0 H D f ok pins s I=>by
 obtain⟨t,ha,qa⟩:=au h1 (au h2 (au h3 aX hs3) hs2) hs1;have h:=qa B0 B σ H0 H (λvs H1=>∃v w u,vs=[v,w,u]/\D.nx (((σ.set i (some v)).set j (some w)).set k (some u)) H1) f λvs H1 gY g rs=>by
  obtain⟨v,w,u,rfl,r1,r2,r3⟩:=rs.three;exact⟨v,w,u,rfl,ok _ H1 gY g.j9 ((((f.grow g).set r1).set r2).set r3)⟩
 rw[exec_Assign_arm];refine aD (rT ?_)
 rw[hs];refine aD (bA ?_)
 rw[if_neg (by decide)]
 refine aD (Tuple_ (jL (ha _ pins s σ H _ I h) λus s1 ⟨vs,H1,I1,r1,q1⟩=>?_))
 obtain⟨v,w,u,e1,q1⟩:=q1;subst e1;obtain⟨u1,u2,u3,rfl,rv,yW,ru⟩:∃u1 u2 u3,us=[u1,u2,u3]/\RelV v u1/\RelV w u2/\RelV u u3:=by
  cases r1 with
  |cons p q=>
   cases q with
   |cons p' q'=>
    cases q' with
    |cons p2 q2=>
     cases q2;exact⟨_,_,_,rfl,p,p',p2⟩
 refine iU ?_ (by show 3<=sizeLine;decide)
 have I2:Inv X pins σ H1 { s1 with heap:=s1.heap.push { cls:=.type "tuple",data:=.seq [u1,u2,u3].toArray } }:=I1.kept (t':=s1.toks) λb o e=>aJ _ e
 rw[hw];refine aD (bA ?_)
 show wpAny (model X.prog X.w) X.A (do rule "assign.swapped-stores";let items <-unpackItems (.ref s1.heap.objs.size) 3 none;assignInOrder [λv=>bindName X.env z v,λv=>bindName X.env y v,λv=>bindName X.env x v] items.reverse;pure Pz) _ _ _
 refine aD (Ij (aD (unpackItems_tuple (items:=#[u1,u2,u3]) (I.ok.hd hc) (Bl s1.heap _) λh' hx'=>?_)))
 have I3:=I2.kept (h':=h') (t':=s1.toks) λb o e=>hx' b o (bQ (bw e)) e
 show wpAny _ _ (assignInOrder [λv=>bindName X.env z v,λv=>bindName X.env y v,λv=>bindName X.env x v] [u3,u2,u1] >>= λ_=>pure Pz) _ _ _
 refine aD (o8 (xW (tV I3 hN hk (.inl hz) ru (λs2 I4=>?_) (.inr hz))))
 refine o8 (xW (tV I4 hN hj (.inl hy) yW (λs3 I5=>?_) (.inr hy)))
 refine o8 (xW (tV I5 hN hi (.inl hx) rv (λs4 I6=>Kw (bA ?_)) (.inr hx)))
 have e:((σ.set k (some u)).set j (some w)).set i (some v)=((σ.set i (some v)).set j (some w)).set k (some u):=by
  rw[CQ _ _ (cH hjk),CQ _ _ (cH hik),CQ _ _ (cH hij)]
 rw[e]at I6;exact⟨_,H1,I6,q1⟩
theorem Dv{k:Bool}(h:VE X a δ (.bool k)):VE X (.UnaryOp .Not a pos) δ (.bool (!k)):=.of (zcx fZ) λB0 B σ H0 H Q f q=>h B0 B σ H0 H _ f λv H1 gY g r=>by
 cases r;exact⟨k,rfl,q _ H1 gY g (.bl _)⟩
theorem Qp{st:List mj}{o:Out}(h:∀B0 B σ H0 H D,kj X.K B0 B H0 H σ δ->Bh X.K B0 B H0 D o->Vg X st D σ H):Em X st δ o:=h
end
section
variable{X:Cx}{a:dz}{δ:List Slot}{pos p:Pos}{x:Str}{ds:List aA}
theorem K1:pC X (.type "str") (λxs H Q=>∃x,xs=[.str x]/\Q (.str x) H):=by
 intro pins s σ H xs us Q I r h;obtain⟨x,rfl,q⟩:=h;obtain⟨u,rfl,t,rfl⟩:=vals1 r;exact PySem.P.str_of_str ⟨.str x,H,I,⟨t,rfl⟩,q⟩
theorem zde{K:ao}:CallD K (λxs H Q=>∃x,xs=[.str x]/\Q (.str x) H) [.str x] (.str x):=λvs H0 H Q s r k=>by
 obtain⟨v,rfl,r1⟩:=r.one;cases r1;exact⟨x,rfl,k _ _ _ (.refl s) (.str _)⟩
theorem zaV(h:VE X a δ (.str x))(hm:X.mg "str"=none)(hg:Gl X "str":=by rfl)(hs:starEach [a] X.env=(false,eval a X.env)::starEach [] X.env:=by rfl):VE X (.Call (.Name "str" p) [a] [] pos) δ (.str x):=sU K1 zde (au h aX hs) hm rfl hg (he:=hs)
theorem zaW{K:ao}:Vh K (λxs H Q=>∃p ys,xs=[.ref p]/\(rW K H p ys\/xZ K H p ys)/\∀l,H l=none->Q (.ref l) (upd H l (.lst ys))) [.tuple ds] ds:=λvs H0 H Q s r q=>by
 obtain⟨v,rfl,r1⟩:=r.one;cases r1 with
 |tup hq rs=>
  refine⟨_,_,rfl,.inr (s.yj hq),λl hl=>?_⟩
  exact q l _ H0 _ (.loose s hl) hl (s.free hl) cQ rs
end
section
variable{prog:bL}{w:dB}{A:fW}{E:aF->aL->Prop}{s:aL}
theorem K3{l:aN}{items:Array aF}{Q:aF->aL->Prop}(hh:A.handled=none)(hl:s.heap.IsTuple l items)(T:Nat->dW->Prop)
  (t0:∀led h',h'.get? s.heap.objs.size=some (pD led)->(∀b o,s.heap.get? b=some o->h'.get? b=some o)->T 0 h')
  (keep:∀i h h',T i h->(∀b o,b≠s.heap.objs.size+1->h.get? b=some o->h'.get? b=some o)->T i h')
  (add:∀i v (s':aL) (Q:Bool->aL->Prop) (E:aF->aL->Prop),i<items.size->items[i]?=some v->T i s'.heap->(∀h' tk b,s'.toks<=tk->qj s.heap.objs.size s'.heap h'->T (i+1) h'->Q b { s' with heap:=h',toks:=tk })->wpAny (model prog w) A.in1.in1.in1 (setAdd s.heap.objs.size v) Q E s')
  (h:∀(h':dW)(tk:Nat),T items.size h'->(∀b o,b<s.heap.objs.size->s.heap.get? b=some o->h'.get? b=some o)->Q (.ref s.heap.objs.size) { s with heap:=h',toks:=tk }):
  wpAny (model prog w) A (call (.type "set") [.ref l]) Q E s:=by
 obtain⟨c,tl,hmro⟩:=qG.mro;have hmade:=qG.made;have hsub:=qG.sub;refine sH (codeAny_of_tree ?_)
 show wpAny _ _ (callAny (.type "set") _) _ _ _;refine bA ⟨El _ (by decide +kernel),CG F.entry_type_call ?_⟩
 rw[fW.under_plain (weight_type_call_type "set" [.ref l] []) rfl];have h1:=qG.notType;have h2:=qG.canCreate;have hct:=F.typeCall_set_1 (.ref l)
 repeat (any_goals (first|assumption|wp_step))
 refine qR (code_set_new_1 (.ref l) (E:=E) (Q₁:=λobj s₁=>∃led:Bool,obj=.ref s.heap.objs.size/\s₁={ s with heap:=s.heap.push (pD led) }) λled=>⟨led,rfl,rfl⟩) λr s₁ hr=>?_
 cases r with
 |error e=>exact hr
 |ok fl=>
  cases fl with
  |ret obj=>
   obtain⟨led,rfl,rfl⟩:=hr;have hS:(s.heap.push (pD led)).get? s.heap.objs.size=some (pD led):=cD _ rfl;have hT:aL.TypeIs { s with heap:=s.heap.push (pD led) } (.ref s.heap.objs.size) "set":=⟨_,hS,rfl⟩
   have hli:=qG.init.lookup;have hbi:=qG.init.bind (.ref s.heap.objs.size)
   repeat (any_goals (first|assumption|wp_step))
   refine qR (vH (R:=wants (λr s₂=>r=.none/\∃h' tk,s₂={ s with heap:=h',toks:=tk }/\T items.size h'/\(∀b o,b<s.heap.objs.size->s.heap.get? b=some o->h'.get? b=some o)) E) qG.init.plain F.entry_set_init (check_set_init_1 hT ?_)) λr₂ s₂ hr₂=>?_
   ·obtain⟨ol,hol,hcl,nl,hdl⟩:=hl
    obtain⟨ocls,odict,odata,oslots⟩:=ol;simp only at hcl hdl;subst hcl;subst hdl;have hol':(s.heap.push (pD led)).get? l=some { cls:=.type "tuple",dict:=odict,data:=.seq items nl,slots:=oslots }:=aJ _ hol;have hsls:=F.sub_tuple_set;have hslf:=F.sub_tuple_frozenset;have hne:(tR "tuple"==tR "dict")=false:=by decide
    have hl1:(s.heap.push (pD led)).IsTuple l items:=⟨_,hol',rfl,nl,rfl⟩;unfold wL.«set.__init__» noKeywords wL.Frozenset.updateFrom
    generalize hPI:pyIter=PI
    wp_walk
    subst hPI;refine Ik hl1 ?_
    refine aD (wpAny_runValue ?_)
    have hlS:l<s.heap.objs.size:=bw hol;have hh3:A.in1.in1.in1.handled=none:=by simp[hh]
    have hsp:(s.heap.push (pD led)).objs.size=s.heap.objs.size+1:=jN _ _;have hneI:l≠(s.heap.push (pD led)).objs.size:=by rw[hsp];exact bQ (sJ hlS)
    have hSf:s.heap.objs.size∉[(s.heap.push (pD led)).objs.size,l]:=by
     rw[hsp];simp only[aQ,bW,cL,or_false,not_or];exact⟨bQ (qp _),jd hlS⟩
    refine Ym ((Walks.tuple hh3 _ l hneI items).toS) s.heap.objs.size hSf T (λi h h' t k=>keep i h h' t λb o hb e=>k b o ?_ e) (λi v s' Q E hi hv t q=>add i v s' Q E hi hv t q) (items.size-0) 0 _ (by omega) (cC _)
     ⟨⟨_,cD _ rfl,rfl,rfl⟩,(hl1.push _)⟩ ?hS0 ?hR
    ·rw[hsp]
     intro z;rw[bW]at z;exact hb z
    case hS0=>
     exact t0 led _ (aJ _ hS) λb o e=>aJ _ (aJ _ e)
    case hR=>
     intro s' hm hS';obtain⟨h',g',d',tk',os'⟩:=s';have eg:g'=s.gens:=hm.gens;have ed:d'=s.drawn:=hm.drawn;have eo:os'=s.os:=hm.os;subst eg;subst ed;subst eo;show wpAny _ _ _ _ _ _;refine bA ?_
     show wpAny _ _ (ret iG) _ _ _;refine bA ⟨rfl,h',tk',rfl,hS',λb o hb e=>?_⟩
     have hb1:b≠s.heap.objs.size:=bQ hb;have hb2:b≠(s.heap.push (pD led)).objs.size:=by rw[hsp];exact bQ (sJ hb)
     exact hm.heap b o (by simp only[aQ,bW,cL,or_false,not_or];exact⟨hb1,hb2⟩) (aJ _ (aJ _ e))
   ·cases r₂ with
    |error e=>exact hr₂
    |ok fl₂=>
     cases fl₂ with
     |ret r=>
      obtain⟨rfl,h',tk,rfl,hS',hk'⟩:=hr₂
      repeat (any_goals (first|assumption|wp_step))
      exact h _ _ hS' hk'
     |_=>exact hr₂.elim
  |_=>exact hr.elim
end
section
variable{X:Cx}{a b c e:dz}{δ:List Slot}{d d1 d2:aA}{ds:List aA}{pos p p2 pos2:Pos}{k:Nat}
def zdf(K:ao):List V->Hp->VK->Prop:=λxs H Q=>∃(a:aN)(ss:List Str),xs=[.ref a]/\xZ K H a (ss.map V.str)/\ss.length<4000/\∀l,H l=none->Q (.ref l) (upd H l (.ext (Wv l (dd [] ss).length)))
theorem Jv(hc:X.calm=true):pC X (.type "set") (zdf X.K):=by
 intro pins s σ H xs us Q I r h;obtain⟨a,ss,rfl,hq,h4,q⟩:=h;obtain⟨u,rfl,rx⟩:=vals1 r;cases rx;obtain⟨its,rv,pl,hz⟩:=I.tuple hq;have hlv:=rv.length;simp only[aq]at hlv;have hsz:its.toArray.size=ss.length:=by simp only[bM];omega
 refine K3 (I.ok.hd hc) (show s.heap.IsTuple _ _ from pl) (λi h=>(∀b o,s.heap.get? b=some o->h.get? b=some o)/\h.SetOf (strKind X.prog X.w) s.heap.objs.size (λk=>decide (k∈dd [] (ss.take i))) (dd [] (ss.take i)).length) (λled h' e k=>?_) (λi h h' ⟨k1,T⟩ k=>?_) (λi v s' Q' E' hi hv ⟨k1,T⟩ q'=>?_) (λh' tk ⟨k1,T⟩ _=>?_)
 ·have n0:dd [] (ss.take 0)=[]:=by rw[List.take_zero];rfl
  refine⟨k,?_⟩
  rw[n0];refine⟨_,#[],0,.fresh 0 0 led,e,⟨rfl,rfl,rfl⟩,rfl,(λe he=>by cases he),(λk=>⟨λz=>by simp at z,λ⟨e,he,_⟩=>by cases he⟩),(by show 0<scanBound;unfold scanBound;omega),rfl,rfl⟩
 ·refine⟨λb o e=>k b o ?_ (k1 b o e),?_⟩
  ·have:=bw e
   exact bQ (sJ this)
  ·obtain⟨o,es,ep,t,ho,rest⟩:=T
   exact⟨o,es,ep,t,k _ _ (bQ (qp _)) ho,rest⟩
 ·rw[hsz]at hi
  have hv':its[i]?=some v:=by simpa using hv
  obtain⟨x,t,hx,rfl⟩:=LR rv i v hv';have his:(strKind X.prog X.w).is x (.str x t)=true:=by show Cz x (.str x t)=true;simp[Cz]
  have hle:=Fp (ss.take i) [];simp only[dM,G_,dO]at hle;have etk:ss.take (i+1)=ss.take i ++ [x]:=by rw[gP,hx];rfl
  unfold setAdd;refine mK (aD ((strKind X.prog X.w).pyHash his ?_))
  refine wpAny_setAddHashed_of (knd:=strKind X.prog X.w) (s:={ s' with toks:=s'.toks+1 }) his rfl T (by unfold scanBound;omega) λh' sb T'=>q' h' _ _ (k_ _) sb ⟨λb o e=>?_,?_⟩
  ·have hb:=bw e
   rw[sb.2 b (bQ hb)];exact k1 b o e
  ·have ed:dd [] (ss.take (i+1))=if decide (x∈dd [] (ss.take i))=true then dd [] (ss.take i)else dd [] (ss.take i) ++ [x]:=by rw[etk,LQ];rfl
   rw[ed];by_cases hm:decide (x∈dd [] (ss.take i))=true
   ·rw[if_pos hm]at T' ⊢
    refine SetOf_congr T' (λk=>?_) rfl
    by_cases hk:k=x
    ·subst hk;rw[hm];rfl
    ·simp[hk]
   ·rw[if_neg hm]at T' ⊢
    refine SetOf_congr T' (λk=>?_) (by simp)
    rw[lH];simp
 ·rw[hsz,lX]at T
  exact⟨.ref s.heap.objs.size,_,I.laid k1 (aK _) (SetOf.zhW T).ok,rfl,q _ (I.hok.fresh (aK _))⟩
theorem Qq{ss:List Str}(h:VE X a δ (.tuple (ss.map .str)))(hl:ss.length<4000)(hc:X.calm=true)(m1:X.mg "len"=none)(m2:X.mg "set"=none)(hg:Gl X "len":=by rfl)(hg2:Gl X "set":=by rfl)
  (hs:starEach [a] X.env=(false,eval a X.env)::starEach [] X.env:=by rfl)(hs2:starEach [.Call (.Name "set" p2) [a] [] pos2] X.env=(false,eval (.Call (.Name "set" p2) [a] [] pos2) X.env)::starEach [] X.env:=by rfl)(hpl:(backTo pos2 (starEach [] X.env)).any (·.1)=false:=by rfl)(zh6:(backTo pos (starEach [] X.env)).any (·.1)=false:=by rfl):
  VE X (.Call (.Name "len" p) [.Call (.Name "set" p2) [a] [] pos2] [] pos) δ (.int (dd [] ss).length):=
 .of (rm KY hg m1 Bg (eV (Fd (Jv hc) hg2 m2 (by rfl) (eV fZ je hs) (by decide) (by decide) hs hpl) je hs2) (by decide) (by decide) hs2 zh6) λB0 B σ H0 H Q f q=>h B0 B σ H0 H _ f λv H1 gY g r=>by
  cases r with
  |tup hq rs=>
   have e:=rs.strs;subst e;have:=Fp ss [];exact⟨_,ss,rfl,g.sub.yj hq,hl,λl hl'=>⟨l,_,rfl,cQ,by simp at this;omega,q _ H1 _ (g.trans (.loose g.sub hl')) (.int _)⟩⟩
def Jw:List Bool->Bool:=λl=>l.any id
theorem Y5(hc:X.calm=true):pC X (.builtin "any") (λxs H Q=>∃p bs,xs=[.ref p]/\rW X.K H p (bs.map V.bl)/\Q (.bl (Jw bs)) H):=by
 intro pins s σ H xs us Q I r h;obtain⟨p,bs,rfl,hq,q⟩:=h;obtain⟨u,rfl,rx⟩:=vals1 r;cases rx;obtain⟨its,rv,pl,hz⟩:=I.list hq;have hl:=rv.length;simp only[aq]at hl;refine call_any_walkS (za pl.isList ?_)
 have hne:p≠s.heap.objs.size:=bQ (bw pl.isList.choose_spec.1);have hbl:∀(i:Nat)v,its.toArray[i]?=some v->v=.bool (bs.getD i false):=λi v hv=>by
  have hv':its[i]?=some v:=by simpa using hv
  have e:=rv.getD i;have e2:its.getD i iG=v:=by rw[aP,hv'];rfl
  have hi:i<bs.length:=by have:=(aV.mp hv').1;omega
  have e3:(bs.map V.bl).getD i .non=.bl (bs.getD i false):=by
   rw[aP,bh,aP,aG hi];rfl
  rw[e2,e3]at e;exact e
 refine⟨_,_,_,_,_,_,_,λi=>bs.getD i false,rfl,(Walks.list (by simp[I.ok.hd hc]) _ p hne its.toArray).toS,⟨⟨_,cD _ rfl,rfl,rfl⟩,pl.isList.push _⟩,?_,λs' hm=>?_⟩
 ·intro i v Q' E' s' hv q'
  rw[hbl i v hv];exact iw q'
 ·have ea:(dF its.toArray.size).any (λi=>bs.getD i false)=Jw bs:=by
   rw[bM,<-hl];unfold Jw;rw[lH,HD,HD]
   constructor
   ·rintro⟨i,hi,h⟩
    have hi:=gq.mp hi;rw[aP,aG hi]at h;exact⟨_,fY hi,h⟩
   ·rintro⟨x,hx,h⟩
    obtain⟨i,hi⟩:=Aj.mp hx;refine⟨i,gq.mpr (aV.mp hi).1,?_⟩
    rw[aP,hi];exact h
  rw[ea];obtain⟨h',g',d',tk',os'⟩:=s';have eg:g'=s.gens:=hm.gens;have ed:d'=s.drawn:=hm.drawn;have eo:os'=s.os:=hm.os;subst eg;subst ed;subst eo;refine⟨.bl _,H,I.kept (t':=tk') λb o e=>hm.heap b o ?_ (aJ _ e),rfl,q⟩
  have:=bw e;simp only[bW];exact bQ this
theorem zfj{K:ao}{bs:List Bool}:CallD K (λxs H Q=>∃p bs,xs=[.ref p]/\rW K H p (bs.map V.bl)/\Q (.bl (Jw bs)) H) [.list (bs.map .bool)] (.bool (Jw bs)):=λvs H0 H Q s r q=>by
 obtain⟨v,rfl,r1⟩:=r.one;cases r1 with
 |lst hq rs=>
  have e:=rs.bls;subst e;exact⟨_,bs,rfl,s.seq hq,q _ _ _ (.refl s) (.bl _)⟩
theorem Fv:fillsNumberSlot (.type "tuple") "mul"=pure false:=
 PySem.fillsNumberSlot_seq (id:="tuple.__mul__") (r:=some (.builtin "tuple.__rmul__")) zF.lookup (by decide +kernel) F.slot_tuple_rmul.lookup (by decide +kernel)
theorem Od:seqRepeat? (.type "tuple")=pure (some (.builtin "tuple.__mul__")):=by
 unfold seqRepeat?;rw[PySem.seqSlot_of (T:="tuple") (name:="__mul__") (id:="tuple.__mul__") zF.lookup (by decide +kernel),PySem.seqSlot_of (T:="tuple") (name:="__rmul__") (id:="tuple.__rmul__") F.slot_tuple_rmul.lookup (by decide +kernel)]
 rfl
theorem Jx(i:Int)(t:Tok)(l:aN)(items:Array aF)(n:Nat)(dd:Option aN)(sl:Array (Option aF)):
  Meets (wL.«int.__rmul__» ⟨[.int i t,.ref l],[]⟩) (λ_ R s=>s.heap.get? l=some { cls:=.type "tuple",dict:=dd,data:=.seq items n,slots:=sl }/\R (.ok (.ret aF.notImplemented)) s):=
 .of_wp λprog w A R s h=>by obtain⟨hp,g,d,tk,os⟩:=s;obtain⟨hl,h⟩:=h;wp_walk;exact⟨_,rfl,h⟩
theorem K4(l:aN)(items:Array aF)(n:Nat)(dd:Option aN)(sl:Array (Option aF))(t:Tok):
  Meets (wL.«tuple.__mul__» ⟨[.ref l,.int 1 t],[]⟩) (λ_ R s=>s.heap.get? l=some { cls:=.type "tuple",dict:=dd,data:=.seq items n,slots:=sl }/\R (.ok (.ret (.ref l))) s):=
 .of_wp λprog w A R s h=>by
  obtain⟨hp,g,d,tk,os⟩:=s;obtain⟨hl,h⟩:=h;have f1:=Uw;have f2:=Kr;have c1:(items.isEmpty||(1:Int)==1)=true:=by simp
  wp_walk using jY hl
  exact⟨_,rfl,h⟩
theorem Jy(l:aN)(its:List aF)(n:Nat)(dd:Option aN)(sl:Array (Option aF))(k:Int)(t:Tok)(hk:2<=k)(hk2:k<2^63)(hne:its≠[])(hsz:its.length*k.toNat<=sizeLine):
  Meets (wL.«tuple.__mul__» ⟨[.ref l,.int k t],[]⟩) (λ_ R s=>s.heap.get? l=some { cls:=.type "tuple",dict:=dd,data:=.seq its.toArray n,slots:=sl }/\R (.ok (.ret (.ref s.heap.objs.size))) { s with heap:=s.heap.push { cls:=tR "tuple",data:=Data.seq (bN k.toNat its).flatten.toArray } }):=
 .of_wp λprog w A R s h=>by
  obtain⟨hp,g,d,tk,os⟩:=s;obtain⟨hl,h⟩:=h;have f1:=Uw;have f2:=Kr;have hne':its.toArray.isEmpty=false:=by cases its with|nil=>exact absurd rfl hne|cons _ _=>rfl
  have hsz':its.toArray.size*k.toNat<=sizeLine:=by rw[bM];exact hsz
  have zfk:List.foldl (λx1 x2=>x1++x2) #[] (bN k.toNat its.toArray)=(bN k.toNat its).flatten.toArray:=by
   have:=foldl_rep its k.toNat [];rw[Kq]at this;exact this
  generalize hI:its.toArray=items at *
  have hc0:¬(decide (k < -2^63)||decide (k>=2^63))=true:=by simp;omega
  have hc1:¬(items.isEmpty||k==1)=true:=by rw[hne'];simp;omega
  have hc2:¬(decide (k<=0)||items.isEmpty)=true:=by rw[hne'];simp;omega
  have hmul:(items.size:Int)*k=((items.size*k.toNat:Nat):Int):=by rw[Int.natCast_mul,Int.toNat_of_nonneg (by omega)]
  have hsl:(sizeLine:Int)<=(2^63-1)/8:=by decide
  have hc3:¬((items.size:Int)*k>(2^63-1)/8):=by rw[hmul];omega
  have hc4:¬C_ ((items.size:Int)*k)=true:=by unfold C_;rw[hmul];simp only[gt_iff_lt,decide_eq_true_eq];omega
  wp_walk using jY hl
  refine sy (decide_eq_false hc0) ?_
  wp_walk using jY hl
  refine sy (decide_eq_false hc1) ?_
  wp_walk using jY hl
  refine sy (decide_eq_false hc2) ?_
  wp_walk using jY hl
  refine sy (decide_eq_false hc3) ?_
  wp_walk using jY hl
  refine sy (decide_eq_false hc4) ?_
  wp_walk using jY hl
  rw[zfk];refine sy (decide_eq_false ?_) ?_
  ·rw[bM,len_rep]
   have:items.size=its.length:=by rw[<-hI,bM]
   rw[Nat.mul_comm];omega
  wp_walk
  exact⟨_,rfl,h⟩
def zfl(K:ao):R2:=λx y H Q=>∃a k xs,x=.ref a/\y=.int k/\xZ K H a xs/\1<=k/\k<2^63/\xs≠[]/\xs.length*k.toNat<=sizeLine/\(k=1->Q (.ref a) H)/\(k≠1->∀p,H p=none->Q (.ref p) (upd H p (.tup (bN k.toNat xs).flatten)))
theorem zaX:xU X (binaryOp .Mult) (zfl X.K):=by
 intro pins s σ H x y v u Q I rx ry h;obtain⟨a,k,xs,rfl,rfl,ha,h1,h2,hx,hz,q1,q2⟩:=h;cases rx;obtain⟨t,rfl⟩:=ry;obtain⟨its,r1,p1,_⟩:=I.tuple ha;obtain⟨⟨cls,dd,data,sl⟩,ho,hc,n,hd⟩:=id p1;simp only at hc hd;subst hc hd;refine wpAny_binaryOp_repeat_ref (T:="tuple") (U:="int") (by decide) ⟨_,ho,rfl⟩ (λs'=>typeIs_int s' k t) Fv F.fills_int_mul F.slot_int_rmul Od F.slot_int_index.lookup
  (qF F.slot_int_rmul (typeIs_int s k t) F.entry_int_rmul (F.args_int_rmul_2 _ _) (Jx k t a its.toArray n dd sl) ⟨ho,rfl,⟨_,ho,rfl⟩,?_⟩)
 by_cases hk:k=1
 ·subst hk
  exact qF zF ⟨_,ho,rfl⟩ F.entry_tuple_mul (F.args_tuple_mul_2 _ _) (K4 a its.toArray n dd sl t) ⟨ho,.ref a,H,I,rfl,q1 rfl⟩
 ·refine qF zF ⟨_,ho,rfl⟩ F.entry_tuple_mul (F.args_tuple_mul_2 _ _) (Jy a its n dd sl k t (by omega) h2 (λz=>hx (r1.HS.mp z)) (by rw[<-r1.length];exact hz)) ⟨ho,?_⟩
  refine⟨.ref s.heap.objs.size,_,I.laid (t':=s.toks) (o:=.tup (bN k.toNat xs).flatten) (λb ob q=>aJ _ q) (aK _) ?_,rfl,q2 hk _ (I.hok.fresh (aK _))⟩
  exact⟨by rw[len_rep,Nat.mul_comm];exact hz,_,r1.rep k.toNat,Bl _ _⟩
theorem zaY{n:Int}(h1:VE X a δ (.tuple ds))(h2:VE X b δ (.int n))(hn:1<=n)(hn2:n<=1000)(hz:ds.length<=100)(hne:ds≠[]):VE X (.BinOp a .Mult b pos) δ (.tuple (bN n.toNat ds).flatten):=by
 refine .of (UW zaX fZ fZ) λB0 B σ H0 H Q f q=>h1 B0 B σ H0 H _ f λv H1 gY g1 r1=>h2 B0 B σ H1 gY _ (f.grow g1) λu H2 nA g2 r2=>?_
 cases r2;cases r1 with
 |tup hq rs=>
  rename_i ad xs
  have gg:=g1.trans g2;have hl:=rs.length;have h63:(1000:Int)<2^63:=by decide
  have rs2:=rs.mono g2.j9;have go:∀m,fX X.K H2 (bN m xs).flatten (bN m ds).flatten:=by
   intro m
   induction m with
   |zero=>exact .nil
   |succ m ih=>rw[g8,jO,g8,jO];exact rs2.append ih
  refine⟨_,n,_,rfl,rfl,g2.sub.yj (g2.j9.yj hq),hn,by omega,λz=>?_,?_,λe=>?_,λ_ p hp=>?_⟩
  ·rw[z]at hl
   exact hne (ji hl.symm)
  ·rw[fK,hl]
   have:n.toNat<=1000:=by omega
   have:=nR hz this;omega
  ·refine q _ H2 nA gg ?_
   have e2:(bN n.toNat ds).flatten=ds:=by rw[e];simp
   rw[e2];exact .tup (g2.j9.yj hq) rs2
  ·exact q _ _ _ (gg.trans (.laid g2.sub hp)) (.tup (xZ.of cQ) ((go _).mono (gR.laid g2.sub hp).j9))
end
def Fw(as:List aN)(H H0:Hp):Hp:=λq=>if q∈as then H q else H0 q
theorem Oe{as:List aN}{H H0:Hp}{q:aN}(h:q∈as):Fw as H H0 q=H q:=if_pos h
theorem Jz{as:List aN}{H H0:Hp}{q:aN}(h:q∉as):Fw as H H0 q=H0 q:=if_neg h
abbrev OR:=Hp->Hp->List aN->Prop
def JB(R:OR):Prop:=∀H0 H Ha Hb as,R H0 H as->Same H0 Ha->(∀a∈as,Hb a=H a)->R Ha Hb as
structure OF(K:ao)(B0 B:Hp)(R:OR)(H0 H:Hp)(σ:St)(δ:List Slot):Prop where
 fr:kj K B0 B H0 H σ δ
 no:noOwn δ=true
 ex:∃as:List aN,(∀a∈as,H0 a=none/\B a=none/\H a≠none)/\R H0 H as
section
variable{K:ao}{B0 B H0 H iM H' C0 C Ha Hb:Hp}{σ σ':St}{δ δ':List Slot}{R R':OR}
theorem Same.eq{H H':Hp}(s:Same H H'){a:aN}(h:H a≠none):H' a=H a:=by
 cases e:H a with
 |none=>exact absurd e h
 |some o=>exact s a o e
theorem OF.go(m:JB R)(G:OF K B0 B R H0 H σ δ)(f':kj K H0 H Ha Hb σ' δ')(hn:noOwn δ'=true):OF K B0 B R Ha Hb σ' δ':=by
 obtain⟨as,h1,h2⟩:=G.ex;refine⟨f'.re hn (G.fr.ent.trans f'.ent),hn,as,λa ha=>?_,m _ _ _ _ _ h2 f'.ent.j9 λa ha=>f'.ent.big.eq (h1 a ha).2.2⟩
 obtain⟨z1,z2,z3⟩:=h1 a ha;cases e:H a with
 |none=>exact absurd e z3
 |some o=>exact⟨f'.ent.still z1 e,z2,f'.ent.big.ne z3⟩
theorem OF.from(G:OF K B0 B R H0 H σ δ)(g:gR C0 B H0 H):OF K C0 B R H0 H σ δ:=⟨G.fr.re G.no g,G.no,G.ex⟩
theorem OF.own(G:OF K B0 B R H0 H σ δ):kj K H0 H H0 H σ δ:=G.fr.re G.no (.refl G.fr.sub)
theorem OF.forget(m:JB R)(G:OF K B0 B R H0 H σ δ)(hf:Fgt δ δ')(hn:noOwn δ'=true):OF K B0 B R H0 H σ δ':=G.go m (G.own.forget hf.len hf.at) hn
theorem JC{as:List aN}(sb:Same H0 H):Same H0 (Fw as H H0):=λb u e=>by
 by_cases hb:b∈as
 ·rw[Oe hb];exact sb b u e
 ·rw[Jz hb];exact e
theorem Vs{as:List aN}(sb:Same H0 H):Same (Fw as H H0) H:=λb u e=>by
 by_cases hb:b∈as
 ·rw[Oe hb]at e;exact e
 ·rw[Jz hb]at e;exact sb b u e
theorem OF.look{d:aA}{p:aN}(G:OF K B0 B R H0 H σ δ){i:Nat}(hi:δ[i]?=some (.ref p))(hR:∀Ha Hb as,Same Ha Hb->R Ha Hb as->Rep K (Fw as Hb Ha) (.ref p) d):∃C0,kj K C0 H C0 H σ (δ.set i (.val d)):=by
 obtain⟨as,h1,h2⟩:=G.ex;have sm:=JC (as:=as) G.fr.sub;have hs:σ[i]?=some (some (.ref p)):=G.fr.slot i _ hi;have f0:kj K (Fw as H H0) H (Fw as H H0) H σ δ:=by
  refine⟨.refl (Vs G.fr.sub),G.fr.len,λi sl e=>?_,G.fr.apart⟩
  have q:=G.fr.slot i sl e;cases sl with
  |un=>trivial
  |ref _=>exact q
  |val d=>obtain⟨v,g1,g2⟩:=q;exact⟨v,g1,g2.mono sm⟩
  |own ds=>exact absurd e (wV G.no i ds)
 have f1:=f0.SN (i:=i) (v:=.ref p) (sl:=.val d) ⟨_,rfl,hR H0 H as G.fr.sub h2⟩ rfl;have e:σ.set i (some (.ref p))=σ:=by
  apply su;intro j;by_cases h:j=i
  ·subst h;rw[bF (aV.mp hs).1,hs]
  ·rw[bB (cH h)]
 rw[e]at f1;exact⟨_,f1⟩
theorem OF.rep{d:aA}{p:aN}(G:OF K B0 B R H0 H σ δ)(hR:∀Ha Hb as,Same Ha Hb->R Ha Hb as->Rep K (Fw as Hb Ha) (.ref p) d):∃Ha,gR B0 B Ha H/\Rep K Ha (.ref p) d:=by
 obtain⟨as,h1,h2⟩:=G.ex;refine⟨Fw as H H0,⟨G.fr.ent.big,G.fr.ent.j9.trans (JC G.fr.sub),Vs G.fr.sub,λb e=>?_⟩,hR H0 H as G.fr.sub h2⟩
 by_cases hb:b∈as
 ·exact .inr (h1 b hb).2.1
 ·rw[Jz hb]at e;exact G.fr.ent.new b e
end
section
variable{X:Cx}{B0 B H0 H iM H' Ha Hb:Hp}{σ σ':St}{D:Ends}{st:mj}{rest body orelse:List mj}{δ δ':List Slot}{a p:aN}{e c tg iter:dz}{d dp:aA}{ds:List aA}{pos px spos:Pos}{x y:Str}{R:OR}
theorem Y6(m:JB R)(G:OF X.K B0 B R H0 H σ δ)(h:VS X st δ (.nx δ'))(hn:noOwn δ'=true)(q:∀σ' iM H',OF X.K B0 B R iM H' σ' δ'->D.nx σ' H'):cS X st D σ H:=
 h H0 H σ H0 H D G.own λσ' Ha Hb sm f'=>q σ' Ha Hb (G.go m f' hn)
theorem zdg(m:JB R)(G:OF X.K B0 B R H0 H σ δ)(i j:Nat)(hi:δ[i]?=some (.ref p))(hR:∀Ha Hb as,Same Ha Hb->R Ha Hb as->Rep X.K (Fw as Hb Ha) (.ref p) dp)(h:VE X e (δ.set i (.val dp)) d)(hs:zbN d=true)(hn:noOwn (δ.set j (.val d))=true)(q:∀σ' iM H',OF X.K B0 B R iM H' σ' (δ.set j (.val d))->D.nx σ' H')(hN:X.N.Nodup)
  (hj:X.N[j]?=some y:=by rfl)(hx:Loc X.env.scope y:=by first|exact bG rfl|exact fj rfl)(hsw:swapsWith e (some (.Name y px)) pos.line X.env=pure false:=by rfl)(hf:X.fn y=true\/X.env.scope.names.lookup y=some .local:=by first|exact .inl rfl|exact .inr rfl):
  cS X (.Assign [.Name y px] e pos) D σ H:=λpins s I=>by
 refine E_ (i:=j) hN hj hx fZ hsw hf pins s σ H D I ?_
 obtain⟨C0,f1⟩:=G.look hi hR;refine h C0 H σ C0 H _ f1 λv C1 H1 g1 r=>?_
 have G1:OF X.K B0 B R H0 H1 σ δ:=G.go m (G.own.grow (.far G.fr.sub g1.big)) G.no;exact q _ H0 H1 (G1.go m (G1.own.SN (v:=v) (sl:=.val d) ⟨_,rfl,r.zhQ hs⟩ rfl) hn)
theorem zfm{tgt:Sx}(Rs:Nat->OR)(m:∀k,JB (Rs k))(G:OF X.K B0 B (Rs 0) H0 H σ δ)(hp:M4 (model X.prog X.w) X.A X.env X.xe)(hc:X.calm=true)(hi:VI X tg iter δ ds)(hg:PG X tg (Z_ X.K tgt))
  (step:∀k d,ds[k]?=some d->∃δ',Jm tgt d δ=some δ'/\noOwn δ'=true/\∀(D:Ends)C0 σ' iM H',OF X.K C0 B (Rs k) iM H' σ' δ'->(∀σ2 Ha Hb,OF X.K C0 B (Rs (k+1)) Ha Hb σ2 δ->D.nx σ2 Hb)->Vg X body D σ' H')
  (q:∀σ2 Ha Hb,OF X.K B0 B (Rs ds.length) Ha Hb σ2 δ->D.nx σ2 Hb)
  (hs:∀x,foldedSetIterable iter X.env x=pure x:=by intro _;rfl):cS X (.For tg iter body [] pos) D σ H:=λpins s I=>by
 obtain⟨wi,pi,qi⟩:=hi;refine Nu hp hc pi hg tY hs pins s σ H D I ?_
 refine qi H0 H σ H0 H _ G.own λJ H1 gY g it=>?_
 have G1:=G.go (m 0) (G.own.grow g) G.no;refine⟨λi mm σ' H'=>i<=ds.length/\mm=ds.length-i/\∃Ha,OF X.K H1 B (Rs i) Ha H' σ' δ,⟨ds.length,cC _,rfl,H1,G1.from ⟨G1.fr.ent.big,Same.refl _,G1.fr.sub,λ_ z=>.inl z⟩⟩,?_⟩
 rintro i mm σ' H' ⟨hi,rfl,Ha,Ga⟩
 obtain⟨i1,i2,i3⟩:=it Ha H' Ga.fr.ent.j9 Ga.fr.sub i;by_cases hlt:i<ds.length
 ·have hd:ds[i]?=some ds[i]:=by simp[hlt]
  obtain⟨δ',e1,e2,e3⟩:=step i _ hd;refine .inr ⟨i1 hlt,λσ'' Ks=>∃Hb,OF X.K H1 B (Rs (i+1)) Hb Ks σ'' δ,λσ'' Ks ⟨Hb,z⟩=>⟨ds.length-(i+1),by omega,hlt,rfl,Hb,z⟩,λv H2 y=>?_⟩
  obtain⟨Hb,g2,rx⟩:=i3 v H2 _ hd y;refine yq (Ga.own.grow g2) rx e1 λσ3 f3=>?_
  exact e3 _ H1 σ3 Hb H2 (Ga.go (m i) f3 e2) λσ2 Hc Hd z=>⟨Hc,z⟩
 ·have e:i=ds.length:=by omega
  subst e;refine .inl ⟨i2 (aK _),q σ' Ha H' (Ga.from ⟨Ga.fr.ent.big,G1.fr.ent.j9.trans Ga.fr.ent.j9,Ga.fr.sub,λb z=>?_⟩)⟩
  rcases Ga.fr.ent.new b z with z|z
  ·exact G1.fr.ent.new b z
  ·exact .inr z
theorem zfn(G:OF X.K B0 B R H0 H σ δ)(i:Nat)(hi:δ[i]?=some (.ref p))(hR:∀Ha Hb as,Same Ha Hb->R Ha Hb as->Rep X.K (Fw as Hb Ha) (.ref p) d)(q:∀v iM H',gR B0 B iM H'->Rep X.K iM v d->D.rt v H')
  (hN:X.N[i]?=some x:=by rfl)(hv:PK X.env.scope x:=by first|exact bG rfl|exact fj (bG rfl)|exact fj (fj rfl))(hd:(x==("__debug__":Str))=false:=by decide)(hcd:(x==("__classdict__":Str))=false:=by decide):
  cS X (.Return (some (.Name x px)) pos) D σ H:=λpins s I=>IK (j8 hN hv hd hcd) pins s σ H D I (by
 obtain⟨Ha,g,r⟩:=G.rep hR;exact⟨_,G.fr.slot i _ hi,q _ Ha H g r⟩)
def Y7(K:ao)(S:Type)(PR:aN->S->OR)(ok:S->aA->S->Prop):Sp:=λvs H Q _=>∃(H0:Hp)(p:aN)(v:V)(as:List aN)(s s':S)(d:aA),vs=[.ref p,v]/\Same H0 H/\Rep K H0 v d/\(∀a∈as,H0 a=none/\H a≠none)/\PR p s H0 H as/\ok s d s'/\
 ∀(iM H':Hp)(as':List aN),Same H0 iM->Same iM H'->(∀a,iM a≠none->H0 a≠none\/H a=none)->(∀a∈as',iM a=none/\H' a≠none/\(a∈as\/H a=none))->(∀b o,H b=some o->b∉as->H' b=some o)->PR p s' iM H' as'->Q .non H'
theorem zfo{S:Type}{PR:aN->S->OR}{ok:S->aA->S->Prop}{k:Nat}{f:Str}{ps:List Str}{p0 p1 pc:Pos}{s s':S}(C:cG X.prog X.w X.K X.mg X.base k f ps (Y7 X.K S PR ok))(hr:jH k X.A)(G:OF X.K B0 B (PR p s) H0 H σ δ)(m:JB (PR p s))(i:Nat)(hi:δ[i]?=some (.ref p))(h:VE X e δ d)(hok:ok s d s')
  (q:∀iM H',OF X.K B0 B (PR p s') iM H' σ δ->D.nx σ H')
  (hN:X.N[i]?=some x:=by rfl)(hv:PK X.env.scope x:=by first|exact bG rfl|exact fj (bG rfl)|exact fj (fj rfl))(hd:(x==("__debug__":Str))=false:=by decide)(hcd:(x==("__classdict__":Str))=false:=by decide)
  (hg:Gl X f:=by rfl)(hdb:(f==("__debug__":Str))=false:=by decide)(he:starEach [.Name x p0,e] X.env=(false,eval (.Name x p0) X.env)::starEach [e] X.env:=by rfl)(he2:starEach [e] X.env=(false,eval e X.env)::starEach [] X.env:=by rfl)(hpl:(backTo pc (starEach [e] X.env)).any (·.1)=false:=by rfl)
  (hsw:swapsWith (.Call (.Name f p1) [.Name x p0,e] [] pc) none pos.line X.env=pure false:=by rfl):
  cS X (.Expr (.Call (.Name f p1) [.Name x p0,e] [] pc) pos) D σ H:=λpins s0 I=>by
 obtain⟨fa,fd,F,hm,hk,hb⟩:=C;refine Al (HN F hr hg hm hk hb .nil Lw (eV (j8 hN hv hd hcd) (eV fZ je he2) he) hdb he hpl) hsw pins s0 σ H D I ?_
 refine⟨.ref p,G.fr.slot i _ hi,?_⟩
 refine h H0 H σ H0 H _ G.own λv H1 gY g r=>?_
 have G1:=G.go m (G.own.grow g) G.no;obtain⟨as,h1,h2⟩:=G1.ex;refine⟨H1,p,v,as,s,s',d,rfl,G1.fr.sub,r,λa ha=>⟨(h1 a ha).1,(h1 a ha).2.2⟩,h2,hok,λiM H' as' a1 a2 a3 a4 a5 a6=>?_⟩
 have hB:∀b,B b≠none->b∉as:=λb hb z=>hb (h1 b z).2.1
 refine q iM H' ⟨⟨⟨λb u e=>a5 b u (G1.fr.ent.big b u e) (hB b (by rw[e];simp)),G1.fr.ent.j9.trans a1,a2,λb z=>?_⟩,G1.fr.len,λj sl e=>?_,G1.fr.apart⟩,G.no,as',λa ha=>?_,a6⟩
 ·rcases a3 b z with z|z
  ·exact G1.fr.ent.new b z
  ·exact .inr (G1.fr.ent.big.free z)
 ·have qq:=G1.fr.slot j sl e
  cases sl with
  |un=>trivial
  |ref _=>exact qq
  |val d=>obtain⟨v,g1,g2⟩:=qq;exact⟨v,g1,g2.mono a1⟩
  |own ds=>exact absurd e (wV G.no j ds)
 ·obtain⟨z1,z2,z3⟩:=a4 a ha
  refine⟨z1,?_,z2⟩
  rcases z3 with z3|z3
  ·exact(h1 a z3).2.1
  ·exact G1.fr.ent.big.free z3
end
section
variable{X:Cx}{pins:List (aN×Obj)}{σ:St}{H:Hp}{s:aL}{a:aN}{kvs:List (Key×V)}{k:Key}{d:V}{u r:aF}{A:fW}{E:aF->aL->Prop}
theorem Y8{Q:aF->aL->Prop}(I:Inv X pins σ H s)(e:H a=some (.dK kvs))(ry:RelV (kV k) u)(rd:RelV d r)(hl:kvs.length<sizeLine)(h1:∀v w' s',oM kvs k=some v->Inv X pins σ H s'->RelV v w'->Q w' s')
  (h2:∀s',oM kvs k=none->Inv X pins σ (upd H a (.dK (putK kvs k d))) s'->Q r s'):wpAny (model X.prog X.w) A (call (.builtin "dict.setdefault") [.ref a,u,r]) Q E s:=by
 obtain⟨z,hd,vs,rel,dd⟩:=Vb I.hok e;have rv:=rel.val k;refine call_meetsIn Hi dd.typeIs PySem.F.entry_dict_setdefault (PySem.F.args_dict_setdefault_3 _ _ _) (kt_meets_setdefault (jg X.prog X.w) a (Bp ry) hd r) ⟨vs,dd,by rw[<-rel.length];exact z,λv hv=>?_,λhn h' Sq hs=>?_⟩
 ·rw[hv]at rv
  cases ev:oM kvs k with
  |none=>rw[ev]at rv;exact rv.elim
  |some w=>rw[ev]at rv;exact h1 w v _ ev (I.tok _) rv
 ·have hl2:(putK kvs k d).length<=sizeLine:=by have:=vP kvs k d;omega
  have he:∃q,h'.get? a=some q:=let⟨q,_,_,hq,_⟩:=Sq;⟨q,hq⟩;rw[hn]at rv;refine h2 _ ?_ (HW I (by rw[e];exact iI) hs he (Sg hl2 hd (rel.put k rd) Sq))
  cases ev:oM kvs k with
  |none=>rfl
  |some w=>rw[ev]at rv;exact rv.elim
end
def zfp(td ty tx:TE):TE:=λσ H Q=>td σ H λx H1=>∃a,x=.ref a/\IsD H1 a/\ty σ H1 λy H2=>tx σ H2 λz H3=>∃kvs k,H3 a=some (.dK kvs)/\y=kV k/\kvs.length<sizeLine/\
 (∀v,oM kvs k=some v->Q v H3)/\(oM kvs k=none->Q z (upd H3 a (.dK (putK kvs k z))))
section
variable{X:Cx}{o e f:dz}{apos cpos:Pos}{td ty tx:TE}
theorem zaZ(ho:PE X o td)(he:PE X e ty)(hf:PE X f tx)(m:M2 X o "setdefault" apos e f cpos):PE X (.Call (.Attribute o "setdefault" apos) [e,f] [] cpos) (zfp td ty tx):=by
 intro pins s σ H Q I h;refine wpAny_Call_method m.base m.few m.line La Hi PySem.F.type_dict_setdefault (jL (ho pins s σ H _ I h) λu s1 ⟨x,H1,I1,rx,a,ex,d,q1⟩=>?_)
 subst ex;obtain rfl:u=bR a:=rx;obtain⟨t1,t2,_⟩:=Yk I1 d;refine⟨t1,t2,?_⟩
 rw[m.trees];refine yR rfl (Bf (qQ (jL (he pins s1 σ H1 _ I1 q1) λiv s2 ⟨y,H2,I2,ry,q2⟩=>
  qQ (jL (hf pins s2 σ H2 _ I2 q2) λfv s3 ⟨z,H3,I3,rz,kvs,k,ea,ey,hl,q3,q4⟩=>Es ?_))))
 subst ey;exact Y8 I3 ea ry rz hl (λv w' s' ev I4 yW=>⟨v,H3,I4,yW,q3 v ev⟩) λs' ev I4=>⟨z,_,I4,rz,q4 ev⟩
end
section
variable{X:Cx}{B0 B H0 H:Hp}{σ:St}{D:Ends}{st:mj}{rest body orelse:List mj}{δ δ':List Slot}{a p C dx:aN}{e c ek ev:dz}{d:aA}{pos px po ps pa pc:Pos}{x y fl:Str}{fs:List (Str×V)}{k:Nat}
theorem Fx(f:kj X.K B0 B H0 H σ δ)(h:VS X st δ (.nx δ'))(q:∀σ' Ha Hb,Same H0 Ha->kj X.K B0 B Ha Hb σ' δ'->D.nx σ' Hb):cS X st D σ H:=h B0 B σ H0 H D f q
theorem JD(f:kj X.K B0 B H0 H σ δ)(h:VT X c δ true)(q:∀Ha Hb,gR H0 H Ha Hb->Vg X body D σ Hb):cS X (.If c body orelse pos) D σ H:=λpins s I=>
 Gi wU tY pO pins s σ H D I (h B0 B σ H0 H _ f λH1 gY g=>zcS (q H1 gY g))
theorem uH(f:kj X.K B0 B H0 H σ δ)(h:VT X c δ false)(q:∀Ha Hb,gR H0 H Ha Hb->Vg X orelse D σ Hb):cS X (.If c body orelse pos) D σ H:=λpins s I=>
 Gi wU pO tY pins s σ H D I (h B0 B σ H0 H _ f λH1 gY g=>NQ (q H1 gY g))
theorem zdh(i:Nat){fi:aN}{fd:cU}{ps':List Str}{sp:Sp}{j:Nat}{p0 pk:Pos}(M:Mk X.K C fi)(F:i_ X.prog X.w X.K X.mg X.base qz j fi fd ps' sp)(hr:jH (j+1) X.A)(hm:X.mg x=some (.ref C))(hb:Binds X.K fd ps' [])
  (q:∀p dx E,H p=none->H dx=none->dx≠p->sp [.ref p] (upd (upd H dx (.own p)) p (.ins C dx [])) (λv H2=>v=.non/\D.nx (σ.set i (some (.ref p))) H2) E)
  (hN:X.N.Nodup)(hi:X.N[i]?=some y:=by rfl)(hx:Loc X.env.scope y:=by first|exact bG rfl|exact fj rfl)(hs:swapsWith (.Call (.Name x p0) [] [] pk) (some (.Name y px)) pos.line X.env=pure false:=by rfl)(hf:X.fn y=true\/X.env.scope.names.lookup y=some .local:=by first|exact .inl rfl|exact .inr rfl)
  (hg:Gl X x:=by rfl)(hdb:(x==("__debug__":Str))=false:=by decide):cS X (.Assign [.Name y px] (.Call (.Name x p0) [] [] pk) pos) D σ H:=λpins s I=>by
 refine E_ (i:=i) hN hi hx (Yb M F hr hg hm hb .nil Lw hdb) hs hf pins s σ H D I ?_
 exact λp dx h1 h2 h3=>q p dx _ h1 h2 h3
theorem zbR(f:kj X.K B0 B H0 H σ δ)(hr:jH k X.A)(i:Nat){kvs:List (Key×V)}(hi:δ[i]?=some (.ref p))(ins:H p=some (.ins C dx fs))(cl:Cls X.K C)(na:jG X.K C fl)(lk:fs.lookup fl=some (.ref a))(hd:H a=some (.dK kvs))(hk:VE X ek δ (.str y))(hv:VE X ev δ d)(hl:kvs.length<sizeLine)
  (q:∀v Ha Hb,gR H0 H Ha Hb->Rep X.K Ha v d->D.nx σ (upd Hb a (.dK (putK kvs (dN y) v))))
  (hN:X.N[i]?=some x:=by rfl)(S7:PK X.env.scope x:=by first|exact bG rfl|exact fj (bG rfl)|exact fj (fj rfl))(hdb:(x==("__debug__":Str))=false:=by decide)(hcd:(x==("__classdict__":Str))=false:=by decide)
  (hb:attributeBase (.Name x px) fl X.env (eval (.Name x px) X.env)=eval (.Name x px) X.env:=by rfl)(hs:swapsWith ev (some (.Subscript (.Attribute (.Name x px) fl po) ek ps)) pos.line X.env=pure false:=by rfl):
  cS X (.Assign [.Subscript (.Attribute (.Name x px) fl po) ek ps] ev pos) D σ H:=λpins s I=>by
 refine Vd (hu1 hr) (Ja (j8 hN S7 hdb hcd) hb) fZ fZ hs pins s σ H D I ?_
 refine hv B0 B σ H0 H _ f λv H1 gY g1 r1=>?_
 refine⟨.ref p,f.slot i _ hi,p,C,dx,fs,.ref a,rfl,g1.big _ _ ins,cl,na,lk,?_⟩
 refine hk B0 B σ H1 gY _ (f.grow g1) λu H2 nA g2 r2=>?_
 cases r2;exact⟨a,_,rfl,Qc.k (k:=dN y) (g2.big _ _ (g1.big _ _ hd)) hl,q v H2 nA (g1.trans g2) (r1.mono g2.j9)⟩
theorem zdi(f:kj X.K B0 B H0 H σ δ)(hr:jH k X.A)(i:Nat){kvs:List (List Key×V)}{e1 e2:dz}{z1 z2:Str}{x1}{pt:Pos}(hi:δ[i]?=some (.ref p))(ins:H p=some (.ins C dx fs))(cl:Cls X.K C)(na:jG X.K C fl)(lk:fs.lookup fl=some (.ref a))(hd:H a=some (.dT kvs))(hk1:VE X e1 δ (.str z1))(hk2:VE X e2 δ (.str z2))(hv:VE X ev δ d)(hl:kvs.length<sizeLine)
  (q:∀v t Ha Hb,gR H0 H Ha Hb->Hb t=none->Rep X.K Ha v d->D.nx σ (upd (upd Hb t (.tup [.str z1,.str z2])) a (.dT (putK kvs (Fq (z1,z2)) v))))
  (hN:X.N[i]?=some x:=by rfl)(S7:PK X.env.scope x:=by first|exact bG rfl|exact fj (bG rfl)|exact fj (fj rfl))(hdb:(x==("__debug__":Str))=false:=by decide)(hcd:(x==("__classdict__":Str))=false:=by decide)
  (hb:attributeBase (.Name x px) fl X.env (eval (.Name x px) X.env)=eval (.Name x px) X.env:=by rfl)(hs:swapsWith ev (some (.Subscript (.Attribute (.Name x px) fl po) (.Tuple [e1,e2] x1 pt) ps)) pos.line X.env=pure false:=by rfl)
  (hs1:starEach [e1,e2] X.env=(false,eval e1 X.env)::starEach [e2] X.env:=by rfl)(hs2:starEach [e2] X.env=(false,eval e2 X.env)::starEach [] X.env:=by rfl):
  cS X (.Assign [.Subscript (.Attribute (.Name x px) fl po) (.Tuple [e1,e2] x1 pt) ps] ev pos) D σ H:=λpins s I=>by
 refine Vd (hu1 hr) (Ja (j8 hN S7 hdb hcd) hb) (Jc (eV fZ (eV fZ je hs2) hs1)) fZ hs pins s σ H D I ?_
 refine hv B0 B σ H0 H _ f λv H1 gY g1 r1=>?_
 refine⟨.ref p,f.slot i _ hi,p,C,dx,fs,.ref a,rfl,g1.big _ _ ins,cl,na,lk,?_⟩
 refine hk1 B0 B σ H1 gY _ (f.grow g1) λu H2 nA g2 r2=>?_
 cases r2;refine hk2 B0 B σ H2 nA _ ((f.grow g1).grow g2) λu H3 CN g3 r3=>?_
 cases r3;have gg:=(g1.trans g2).trans g3;refine⟨by show 2<=sizeLine;rw[fK];decide,λt ht=>?_⟩
 have hda:(upd CN t (.tup [.str z1,.str z2])) a=some (.dT kvs):=by rw[bf (bV (gg.big _ _ hd) ht)];exact gg.big _ _ hd
 exact⟨a,_,rfl,Qc.t (k:=Fq (z1,z2)) hda cQ hl,q v t H3 CN gg ht ((r1.mono g2.j9).mono g3.j9)⟩
theorem Qs(f:kj X.K B0 B H0 H σ δ)(i:Nat){xs:List V}(hi:δ[i]?=some (.ref p))(ins:H p=some (.ins C dx fs))(cl:Cls X.K C)(na:jG X.K C fl)(lk:fs.lookup fl=some (.ref a))(hd:H a=some (.lst xs))(hv:VE X e δ d)(hl:xs.length<sizeLine)
  (q:∀v Ha Hb,gR H0 H Ha Hb->Rep X.K Ha v d->D.nx σ (upd Hb a (.lst (xs ++ [v]))))
  (hN:X.N[i]?=some x:=by rfl)(S7:PK X.env.scope x:=by first|exact bG rfl|exact fj (bG rfl)|exact fj (fj rfl))(hdb:(x==("__debug__":Str))=false:=by decide)(hcd:(x==("__classdict__":Str))=false:=by decide)
  (hb:attributeBase (.Name x px) fl X.env (eval (.Name x px) X.env)=eval (.Name x px) X.env:=by rfl)(hbase:attributeBase (.Attribute (.Name x px) fl po) "append" X.env (eval (.Attribute (.Name x px) fl po) X.env)=eval (.Attribute (.Name x px) fl po) X.env:=by rfl)
  (hs:starEach [e] X.env=(false,eval e X.env)::starEach [] X.env:=by rfl)
  (hfew:((backTo pc (starEach [e] X.env)).all (λx=>!x.1)&&(backToKw pc (keywordEach [] X.env)).all (λx=>x.1.isSome)&&decide (([e]:List dz).length+([]:List lu).length+(if([]:List lu).isEmpty then 0 else 1)<30))=true:=by rfl)
  (hline:(pa.endLine==pc.line)=true:=by rfl)(hplain:(backTo pc (starEach [] X.env)).any (·.1)=false:=by rfl)(hsw:swapsWith (.Call (.Attribute (.Attribute (.Name x px) fl po) "append" pa) [e] [] pc) none pos.line X.env=pure false:=by rfl):
  cS X (.Expr (.Call (.Attribute (.Attribute (.Name x px) fl po) "append" pa) [e] [] pc) pos) D σ H:=λpins s I=>by
 refine Al (Gn kI wz wA Am (Ja (j8 hN S7 hdb hcd) hb) (eV fZ je hs) hbase hfew hline hs hplain) hsw pins s σ H D I ?_
 refine⟨.ref p,f.slot i _ hi,p,C,dx,fs,.ref a,rfl,ins,cl,na,lk,.inl ⟨rfl,_,rW.of hd⟩,?_⟩
 refine hv B0 B σ H0 H _ f λv H1 gY g1 r1=>?_
 exact⟨a,xs,v,rfl,rfl,g1.big _ _ hd,hl,q v H1 gY g1 r1⟩
theorem Y9(f:kj X.K B0 B H0 H σ δ)(i:Nat){kvs:List (Key×V)}{pl pa2 pc2:Pos}(hi:δ[i]?=some (.ref p))(ins:H p=some (.ins C dx fs))(cl:Cls X.K C)(na:jG X.K C fl)(lk:fs.lookup fl=some (.ref a))(hd:H a=some (.dK kvs))(hk:VE X ek δ (.str y))(hv:VE X e δ d)(hl:kvs.length<sizeLine)(hno:noOwn δ=true)(ha0:H0 a=none)
  (hc:∀v,oM kvs (dN y)=some v->∃c xs,v=.ref c/\H c=some (.lst xs)/\xs.length<sizeLine)
  (q1:∀c xs v t Ha Hb,oM kvs (dN y)=some (.ref c)->H c=some (.lst xs)->H t=none->gR H0 H Ha Hb->Ha t=none->Rep X.K Ha v d->D.nx σ (upd Hb c (.lst (xs ++ [v]))))
  (q2:∀v c Ha Hb,oM kvs (dN y)=none->H c=none->Same H0 Ha->Same Ha Hb->(∀b,Ha b≠none->H0 b≠none\/H b=none)->(∀b o,H b=some o->b≠a->Hb b=some o)->Hb a=some (.dK (putK kvs (dN y) (.ref c)))->Hb c=some (.lst [])->Ha c=none->Ha a=none->Rep X.K Ha v d->D.nx σ (upd Hb c (.lst [v])))
  (hN:X.N[i]?=some x:=by rfl)(S7:PK X.env.scope x:=by first|exact bG rfl|exact fj (bG rfl)|exact fj (fj rfl))(hdb:(x==("__debug__":Str))=false:=by decide)(hcd:(x==("__classdict__":Str))=false:=by decide)
  (hb:attributeBase (.Name x px) fl X.env (eval (.Name x px) X.env)=eval (.Name x px) X.env:=by rfl)(m:M2 X (.Attribute (.Name x px) fl po) "setdefault" pa2 ek (.List [] pl) pc2:=by exact⟨rfl,rfl,rfl,rfl⟩)
  (hbase:attributeBase (.Call (.Attribute (.Attribute (.Name x px) fl po) "setdefault" pa2) [ek,.List [] pl] [] pc2) "append" X.env (eval (.Call (.Attribute (.Attribute (.Name x px) fl po) "setdefault" pa2) [ek,.List [] pl] [] pc2) X.env)=eval (.Call (.Attribute (.Attribute (.Name x px) fl po) "setdefault" pa2) [ek,.List [] pl] [] pc2) X.env:=by rfl)
  (hs:starEach [e] X.env=(false,eval e X.env)::starEach [] X.env:=by rfl)
  (hfew:((backTo pc (starEach [e] X.env)).all (λx=>!x.1)&&(backToKw pc (keywordEach [] X.env)).all (λx=>x.1.isSome)&&decide (([e]:List dz).length+([]:List lu).length+(if([]:List lu).isEmpty then 0 else 1)<30))=true:=by rfl)
  (hline:(pa.endLine==pc.line)=true:=by rfl)(hplain:(backTo pc (starEach [] X.env)).any (·.1)=false:=by rfl)(hsw:swapsWith (.Call (.Attribute (.Call (.Attribute (.Attribute (.Name x px) fl po) "setdefault" pa2) [ek,.List [] pl] [] pc2) "append" pa) [e] [] pc) none pos.line X.env=pure false:=by rfl):
  cS X (.Expr (.Call (.Attribute (.Call (.Attribute (.Attribute (.Name x px) fl po) "setdefault" pa2) [ek,.List [] pl] [] pc2) "append" pa) [e] [] pc) pos) D σ H:=λpins s I=>by
 refine Al (Gn kI wz wA Am (zaZ (Ja (j8 hN S7 hdb hcd) hb) fZ (Nx je) m) (eV fZ je hs) hbase hfew hline hs hplain) hsw pins s σ H D I ?_
 refine⟨.ref p,f.slot i _ hi,p,C,dx,fs,.ref a,rfl,ins,cl,na,lk,a,rfl,.inl ⟨kvs,.inl hd⟩,?_⟩
 refine hk B0 B σ H0 H _ f λu H1 gY g1 r1=>?_
 cases r1;refine⟨by show 0<=sizeLine;exact cC _,λt ht=>?_⟩
 have hta:a≠t:=bV (g1.big _ _ hd) ht;have gl:gR H0 H H1 (upd gY t (.lst [])):=g1.trans (.loose g1.sub ht);refine⟨kvs,dN y,by rw[bf hta];exact g1.big _ _ hd,rfl,hl,λv hv1=>?_,λhn=>?_⟩
 ·obtain⟨c,xs,rfl,hcl,hxl⟩:=hc v hv1
  have hct:c≠t:=bV (g1.big _ _ hcl) ht;refine⟨.inl ⟨rfl,_,rW.of (by rw[bf hct];exact g1.big _ _ hcl)⟩,?_⟩
  refine hv B0 B σ H1 _ _ (f.grow gl) λv H2 nA g2 r2=>?_
  have gg:=gl.trans g2;refine⟨c,xs,v,rfl,rfl,gg.big _ _ hcl,hxl,q1 c xs v t H2 nA hv1 hcl (g1.big.free ht) gg ?_ r2⟩
  exact g2.still (g1.sub.free ht) cQ
 ·have hca:t≠a:=cH hta
  have ga:(upd gY t (.lst [])) a=some (.dK kvs):=by rw[bf hta];exact g1.big _ _ hd
  refine⟨.inl ⟨rfl,_,rW.of (by rw[bf hca];exact cQ)⟩,?_⟩
  have h1a:H1 a=none:=g1.still ha0 hd;have h1t:H1 t=none:=g1.sub.free ht
  generalize hM:upd (upd gY t (.lst [])) a (.dK (putK kvs (dN y) (.ref t)))=Hm
  have m0:∀b o,H b=some o->b≠a->Hm b=some o:=λb o e hb=>by
   rw[<-hM,bf hb,bf (bV (g1.big _ _ e) ht)];exact g1.big _ _ e
  have m1:Hm a=some (.dK (putK kvs (dN y) (.ref t))):=by rw[<-hM];exact cQ
  have m2:Hm t=some (.lst []):=by rw[<-hM,bf hca];exact cQ
  have sm:Same H1 Hm:=λb u e=>by
   rw[<-hM,bf (bV e h1a),bf (bV e h1t)];exact g1.sub b u e
  have fm:kj X.K H1 Hm H1 Hm σ δ:=by
   have f1:=f.grow g1;refine⟨.refl sm,f1.len,λj sl e=>?_,f1.apart⟩
   have qq:=f1.slot j sl e;cases sl with
   |un=>trivial
   |ref _=>exact qq
   |val d=>exact qq
   |own ds=>exact absurd e (wV hno j ds)
  refine hv H1 Hm σ H1 Hm _ fm λv H2 nA g2 r2=>?_
  refine⟨t,[],v,rfl,rfl,g2.big _ _ m2,by show 0<sizeLine;rw[fK];decide,?_⟩
  refine q2 v t H2 nA hn (g1.big.free ht) (g1.j9.trans g2.j9) g2.sub (λb z=>?_) (λb o e hb=>g2.big _ _ (m0 b o e hb)) (g2.big _ _ m1) (g2.big _ _ m2) (g2.still h1t m2) (g2.still h1a m1) r2
  rcases g2.new b z with z|z
  ·exact g1.new b z
  ·refine .inr ?_
   cases e:H b with
   |none=>rfl
   |some o=>
    exfalso
    by_cases hb:b=a
    ·subst hb;rw[m1]at z;cases z
    ·rw[m0 b o e hb]at z;cases z
end
section
variable{X:Cx}{a b e:dz}{δ:List Slot}{d:aA}{ds:List aA}{pos:Pos}{k:Nat}
theorem za0{P:bL}{w:dB}{k:Key}{v:aF}(h:(jg P w).is k v=true):RelV (kV k) v:=by
 rcases lR h with⟨i,t,rfl,rfl⟩|⟨x,t,rfl,rfl⟩
 ·exact⟨t,rfl⟩
 ·exact⟨t,rfl⟩
theorem zU(hc:X.calm=true):pC X (.type "list") (λxs H Q=>∃p kvs,xs=[.ref p]/\H p=some (.dK kvs)/\∀l,H l=none->Q (.ref l) (upd H l (.lst (kvs.map λq=>kV q.1)))):=by
 intro pins s σ H xs us Q I r h;obtain⟨p,kvs,rfl,hp,q⟩:=h;obtain⟨u,rfl,rx⟩:=vals1 r;cases rx;obtain⟨z,hd,vs,rel,dd⟩:=Vb I.hok hp;obtain⟨ep,hat⟩:=dd.dictAt;have hlen:=rel.length;refine PySem.W.kdl_call (PySem.W.kdl_dict (knd:=jg X.prog X.w) (kvs:=vs) (ep:=ep) hd) (I.ok.hd hc) hat (by rw[<-hlen];exact z) λh' tk acc' c' hk hD hacc=>?_
 have go:∀(kvs:List (Key×V))(vs:List (Key×aF))(l:List aF),KV kvs vs->l.length=vs.length->(∀(j:Nat)v,l[j]?=some v->∃k x,vs[j]?=some (k,x)/\(jg X.prog X.w).is k v=true)->Vals (kvs.map λq=>kV q.1) l:=by
  intro kvs
  induction kvs with
  |nil=>
   intro vs l r hl _;cases r;cases l with
   |nil=>exact .nil
   |cons _ _=>cases hl
  |cons q kvs ih=>
   intro vs l r hl hx;cases r with
   |cons h1 h2=>
    cases l with
    |nil=>cases hl
    |cons v l=>
     obtain⟨k,x,e1,e2⟩:=hx 0 v rfl;cases e1;refine .cons ?_ (ih _ l h2 (by simpa using hl) λj v hj=>by simpa using hx (j+1) v (by simpa using hj))
     have:q.1=k:=h1.1;show RelV (kV q.1) v;rw[this];exact za0 e2
 have rv:=go kvs vs acc'.toList rel (by rw[dX];exact hacc.1) λj v hj=>hacc.2 j v (by rw[<-Rz];exact hj)
 exact⟨.ref _,_,I.laid hk (aK _) (show lB X.prog X.w _ h' _ (.lst _) from⟨by rw[aq];exact z,acc'.toList,c',rv,by simpa using hD⟩),rfl,q _ (I.hok.fresh (aK _))⟩
theorem Vt{K:ao}{kvs:List (Str×aA)}:Vh K (λxs H Q=>∃p kvs,xs=[.ref p]/\H p=some (.dK kvs)/\∀l,H l=none->Q (.ref l) (upd H l (.lst (kvs.map λq=>kV q.1)))) [Cd kvs] (kvs.map λq=>.str q.1):=λvs H0 H Q s r q=>by
 obtain⟨v,rfl,r1⟩:=r.one;obtain⟨a,ws,rfl,ha,hk,_⟩:=r1.zT;refine⟨a,ws,rfl,s _ _ ha,λl hl=>q l _ H0 _ (.loose s hl) hl (s.free hl) cQ ?_⟩
 have e:(ws.map λq=>kV q.1)=(ws.map (·.1)).map kV:=by rw[bU];rfl
 rw[e,hk,bU];have go:∀l:List (Str×aA),fX K H0 (l.map (kV∘λp=>(dN p.1:Key))) (l.map λq=>.str q.1):=by
  intro l
  induction l with
  |nil=>exact .nil
  |cons p l ih=>exact .cons (.str p.1) ih
 exact go kvs
end
end L2
namespace PySem
section
variable{prog:bL}{w:dB}{A:fW}{E:aF->aL->Prop}{h:dW}{g:Array xV}{d:Drawn}{t:Nat}{os:OsState}{a:aN}{items:Array aF}{n:Nat}{sl}
end
end PySem
namespace PySem.F
end PySem.F
namespace L2
open PySem PySem.Spec PyProof.Rows
section
variable{prog:bL}{w:dB}{A:fW}{R:BK->aL->Prop}{I:aN}{fp wr:List aN}{G:Array xV->Array xV->Prop}{n:Nat}{P:Nat->aF->Prop}{St:Nat->aL->Prop}
end
section
variable{prog:bL}{w:dB}{A:fW}{E:aF->aL->Prop}{s:aL}
end
section
variable{X:Cx}
end
section
variable{ε:Type}{X:Cx}{sc:rR}{own N:List Str}{cap:List Nat}{cl:List (Str×aN)}{tg elt iter:dz}{ifs:List dz}{δ:List Slot}{ds:List aA}{pos:Pos}{tgt:Sx}{Er:Hp->V->ε->Prop}
end
section
variable{X:Cx}{a b c:dz}{δ:List Slot}{d:aA}{pos p:Pos}{k:Nat}{z1 z2:Str}
end
inductive NoD:aA->Prop
 |non:NoD .none
 |bl (b:Bool):NoD (.bool b)
 |int (i:Int):NoD (.int i)
 |str (x:Str):NoD (.str x)
 |lst {ds:List aA}:(∀d∈ds,NoD d)->NoD (.list ds)
 |tup {ds:List aA}:(∀d∈ds,NoD d)->NoD (.tuple ds)
section
variable{K:ao}{H:Hp}{p:aN}{kvs:List (Key×V)}
end
section
variable{X:Cx}{B0 B H0 H:Hp}{σ:St}{D:Ends}{δ:List Slot}{ev:dz}{d:aA}{pos px ps pk:Pos}{x y:Str}{k:Nat}{jk}
theorem Y_{st:List mj}(h:Em X st δ (.rt d))(f:kj X.K B0 B H0 H σ δ)(ok:∀v iM H',gR B0 B iM H'->Rep X.K iM v d->D.rt v H'):Vg X st D σ H:=h B0 B σ H0 H D f ok
end
end L2
namespace L2
open PySem
structure Mh(fr ex:List aN)(e:aN)(oe:Obj)(h h':dW):Prop where
 size:h.objs.size<=h'.objs.size
 keep:∀b o,h.get? b=some o->b∉fr->b∉ex->b≠e->h'.get? b=some o
 slot:∀b o,h.get? b=some o->b∈fr->b∉ex->b≠e->∃sl,h'.get? b=some { o with slots:=sl }
 there:∀b o,h.get? b=some o->∃o',h'.get? b=some o'
 exc:∃T oT ts,h.objs.size<=T/\h'.get? e=some (oe.mapFields (·.setIfInBounds 1 (bR T)))/\T≠e/\h'.get? T=some oT/\oT.data=.fields ts/\ts[3]?=some .none
section
variable{M:Ph}{A:fW}{E:aF->aL->Prop}{s:aL}
theorem JF{base:dW}{env:Env}{out:List Env}{L e:aN}{oe:Obj}{us:Array aF}{hd0:aF}{more:Bool}{Q:Unit->aL->Prop}
  (fr:A.frames=some (env::out))(ff:s.heap.FunFrames base (env::out))(fL:env.frame=some L)
  (ge:s.heap.get? e=some oe)(de:oe.data=.fields us)(sz:1<us.size)
  (q:∀h',Mh ((env::out).filterMap (·.frame)) [] e oe s.heap h'->Q () { s with heap:=h' }):
  wpAny M A (do let a <-frameOf env;let pl <-entryPlaceOf L more;let b <-Ni hd0 a .none (rawInt L) .none pl;setField (.ref e) 1 b) (λ_ s'=>wpAny M A (setFlight (.ref e) none) Q E s') E s:=by
 have nf:e∉(env::out).filterMap (·.frame):=λhm=>by
  obtain⟨_,o,ho,hnf⟩:=ff.mem hm;rw[ge]at ho;injection ho with ho;subst ho;exact hnf us de
 refine aD (wpAny_frameOf_fun fr ff fL λh1 hs1=>?_)
 refine aD (wpAny_entryPlaceOf λpl hpl=>?_)
 unfold Ni newFields
 generalize hts:([hd0,.ref L,.none,rawInt L,.none]++(if pl.isEmpty then bN 6 iG else pl)).toArray=tb
 have tsz:3<tb.size:=by rw[<-hts];simp only[bM,bK,bJ,dM];omega
 refine aD (iU ?_ (by rw[<-hts];exact hpl.sizeOk5 _ _ _ _ _))
 have g1:h1.get? e=some oe:=(hs1.2.1 e nf).trans ge;have g2:=aJ (h:=h1) { cls:=.type "traceback",dict:=none,data:=.fields tb } g1;refine ur g2 de sz ?_
 have tne:h1.objs.size≠e:=jd (bw g1);have d3:=j7 de (·.setIfInBounds 1 (bR h1.objs.size))
 have g3:=jo (qT (·.setIfInBounds 1 (bR h1.objs.size))) g2 (pq d3)
 have t3:=(fV (h1.push { cls:=.type "traceback",dict:=none,data:=.fields tb }) (qT (·.setIfInBounds 1 (bR h1.objs.size))) (cH tne)).trans (cD h1 rfl)
 unfold setFlight;refine aD (iu g3 d3 (x:=.ref h1.objs.size) (by simp[sz]) ?_)
 rw[if_pos (show(bR h1.objs.size != iG)=true from by simp)]
 refine ur t3 rfl tsz (q _ ?_)
 have kp:∀b o,b≠e->h1.get? b=some o->(((h1.push { cls:=.type "traceback",dict:=none,data:=.fields tb }).update e (qT (·.setIfInBounds 1 (bR h1.objs.size)))).update h1.objs.size
    (qT (·.setIfInBounds 3 ((none:Option aN).elim iG λf=>rawInt f)))).get? b=some o:=λb o be hb=>by
  rw[fV _ _ (jd (bw hb)),fV _ _ (cH be)];exact aJ _ hb
 refine⟨?_,λb o hb hf _ be=>kp b o be ((hs1.2.1 b hf).trans hb),λb o hb _ _ be=>?_,λb o hb=>?_,h1.objs.size,_,_,?_,?_,tne,jo _ t3 (pq (j7 rfl _)),j7 rfl _,by simp[tsz]⟩
 ·rw[sE,sE,jN,hs1.1]
  exact k_ _
 ·obtain⟨sl,hsl⟩:=hs1.2.2 b o hb
  exact⟨sl,kp b _ be hsl⟩
 ·by_cases be:b=e
  ·subst be
   exact⟨_,(fV _ _ tne).trans g3⟩
  ·obtain⟨sl,hsl⟩:=hs1.2.2 b o hb
   exact⟨_,kp b _ be hsl⟩
 ·rw[hs1.1];exact aK _
 ·rw[fV _ _ tne];exact g3
theorem Qt{base:dW}{env:Env}{out:List Env}{L e:aN}{oe:Obj}{us:Array aF}{Q:Unit->aL->Prop}
  (fr:A.frames=some (env::out))(ff:s.heap.FunFrames base (env::out))(fL:env.frame=some L)
  (ge:s.heap.get? e=some oe)(de:oe.data=.fields us)(u1:us[1]?=some .none)
  (q:∀h',Mh ((env::out).filterMap (·.frame)) [] e oe s.heap h'->Q () { s with heap:=h' }):wpAny M A (leaving env (.ref e)) Q E s:=by
 unfold leaving noteFrame;simp only[fL];refine aD (aD (iu ge de u1 ?_))
 rw[if_neg (by decide)]
 exact JF fr ff fL ge de (mD.mp u1).1 q
end
abbrev Ci(C:aN)(dx:Option aN)(t:aN)(sl:Array (Option aF)):Obj:={ cls:=.ref C,dict:=dx,data:=.fields #[.ref t,.none,.none,.none,.bool false,.none],slots:=sl }
abbrev S8(C t:aN):Obj:={ cls:=.ref C,data:=.fields #[.ref t,.none,.none,.none,.bool false,.none] }
abbrev withExc(h:dW)(C:aN)(rest:List aF):dW:=(h.push { cls:=.type "tuple",data:=.seq rest.toArray }).push (S8 C h.objs.size)
structure zl1(h:dW)(C:aN)(bm:List aF)(newId:String):Prop where
 ex:∃nm q N bs hdct sn sub ab col dd k0 k1 k2 k3 k5,h.get? C=some (excClassObj nm q C N bs bm hdct sn sub ab col dd k0 k1 k2 k3 k5 newId)
section
variable{prog:bL}{w:dB}{A:fW}{E:aF->aL->Prop}{R:BK->aL->Prop}{h:dW}{g:Array xV}{d:Drawn}{t:Nat}{os:OsState}
variable{nm q:Str}{C N:aN}{bs bm bmB:List aF}{hdct:Bool}{sn:List Str}{sub:List aF}{ab:Bool}{col:Option Bool}{dd:Option aN}{k0 k1 k2 k3 k5:Option aF}{B newId initId:String}
theorem S9(F:wM B newId initId bmB)(cB:(bR C::bm).contains (.type B)=true){M:Ph}{rest:List aF}{Q:Unit->aL->Prop}
  (gC:h.get? C=some (excClassObj nm q C N bs bm hdct sn sub ab col dd k0 k1 k2 k3 k5 newId))(hq:Q () ⟨h,g,d,t,os⟩):wpAny M A (checkBuiltinCall newId ⟨.ref C::rest,[]⟩) Q E ⟨h,g,d,t,os⟩:=by
 have star:=F.noStar;simp only[F.newRow,F.newSplit,F.newKind,checkBuiltinCall]
 repeat (first|(refine mF gC ?_;rw[cB])|refine iV gC ?_|refine wpAny_madeBy_exc gC ?_|refine wpAny_staticBase_exc gC ?_|simp only[Bool.false_eq_true,bne_self_eq_false,if_false]|wp_step)
 exact hq
theorem zfq(F:wM B newId initId bmB)(cB:(bR C::bm).contains (.type B)=true)(cA:(bR C::bm).contains (.type "AttributeError")=false)(cN:(bR C::bm).contains (.type "NameError")=false){rest:List aF}
  (gC:h.get? C=some (excClassObj nm q C N bs bm hdct sn sub ab col dd k0 k1 k2 k3 k5 newId))(few:rest.length<=sizeLine)
  (hq:R (.ok (.ret (.ref (h.objs.size+1)))) ⟨(h.push { cls:=.type "tuple",data:=.seq rest.toArray }).push (S8 C h.objs.size),g,d,t,os⟩):
  codeAny (model prog w) A (.builtin newId ⟨.ref C::rest,[]⟩) R ⟨h,g,d,t,os⟩:=by
 have ends:=F.ends;refine codeAny_builtinAt F.entry ?_
 unfold wL.«BaseException.__new__»;refine wpAt_bind ?_
 show wpAt _ _ _ (stack >>= _) _ _ _;refine wpAt_bind (wpAt_stack λp below=>wpAt_of_wpAny ?_)
 wp_walk
 refine wpAt_of_wpAny ?_
 rw[F.owner]
 repeat (first|(with_reducible refine mF gC ?_;first|rw[cB]|rw[cN]|rw[cA])|with_reducible refine iV gC ?_|with_reducible refine wpAny_madeHere_exc F.canon gC ?_|wp_step)
 show R _ _;rw[jN];exact hq
theorem S_{K:ao}(F:wM B newId initId bmB)(cB:(bR C::bm).contains (.type B)=true)(cA:(bR C::bm).contains (.type "AttributeError")=false)(cN:(bR C::bm).contains (.type "NameError")=false)
  {rest:List aF}{fI:aN}{Q:Fin->aL->Prop}(KX:K.In h)(gC:h.get? C=some (excClassObj nm q C N bs bm hdct sn sub ab col dd k0 k1 k2 k3 k5 newId))(hi:cV K (.ref C) "__init__"=some (some (.ref fI)))(cI:Il K (.ref fI)=some (.type "function"))
  (hq:wpAny (model prog w) A (call (.ref fI) (.ref (h.objs.size+1)::rest)) (λr s'=>r=.none/\Q (.done (.ret (.ref (h.objs.size+1)))) s') E ⟨withExc h C rest,g,d,t,os⟩)(few:rest.length<=sizeLine):
  wpAny (model prog w) A (wL.«type.__call__» ⟨.ref C::rest,[]⟩) Q E ⟨h,g,d,t,os⟩:=by
 repeat (first|with_reducible refine wpAny_madeBy_exc gC ?_|with_reducible refine iV gC ?_|wp_step)
 refine codeAny_call_builtin_code (El _ F.quiet) (S9 F cB gC ?_)
 refine zfq F cB cA cN gC few ?_
 show wpAny _ _ _ _ _ _;have up:∀b o,h.get? b=some o->((h.push { cls:=.type "tuple",data:=.seq rest.toArray }).push (S8 C h.objs.size)).get? b=some o:=λb o e=>aJ _ (aJ _ e)
 have gC1:=up _ _ gC;have KX1:K.In ((h.push { cls:=.type "tuple",data:=.seq rest.toArray }).push (S8 C h.objs.size)):=λa o e=>up _ _ (KX a o e)
 have ge:((h.push { cls:=.type "tuple",data:=.seq rest.toArray }).push (S8 C h.objs.size)).get? (h.objs.size+1)=some (S8 C h.objs.size):=by heap_get
 have hcC:(bR C::bm).contains (.ref C)=true:=by simp
 unfold isInstance
 repeat (first|(with_reducible refine mF gC1 ?_;rw[hcC])|with_reducible refine iV ge ?_|wp_step)
 show wpAny _ _ (typeLookup (.ref C) _) _ _ _;refine(zq KX1 hi).at ?_
 refine mK (aD ?_)
 unfold bindSpecial;refine aD ((PySem.W.looks_typeIn KX1 cI).at ?_)
 rw[if_pos (by decide)]
 refine bA (aD (iB hq (λr s' hr=>?_) λ_ _ x=>x))
 obtain⟨rfl,hQ⟩:=hr
 wp_walk
 exact hQ
theorem zdj{K:ao}(F:wM B newId initId bmB)(cB:(bR C::bm).contains (.type B)=true)(cA:(bR C::bm).contains (.type "AttributeError")=false)(cN:(bR C::bm).contains (.type "NameError")=false)
  {rest:List aF}{fI:aN}{Q:aF->aL->Prop}(KX:K.In h)(gC:h.get? C=some (excClassObj nm q C N bs bm hdct sn sub ab col dd k0 k1 k2 k3 k5 newId))(hi:cV K (.ref C) "__init__"=some (some (.ref fI)))(cI:Il K (.ref fI)=some (.type "function"))
  (hq:wpAny (model prog w) (A.under (.builtin "type.__call__" ⟨.ref C::rest,[]⟩)) (call (.ref fI) (.ref (h.objs.size+1)::rest)) (λr s'=>r=.none/\Q (.ref (h.objs.size+1)) s') E ⟨withExc h C rest,g,d,t,os⟩)(few:rest.length<=sizeLine):
  wpAny (model prog w) A (call (.ref C) rest) Q E ⟨h,g,d,t,os⟩:=by
 have f1:=tc_lookup;have f2:=tc_bind (.ref C);have hT:(⟨h,g,d,t,os⟩:aL).TypeIs (.ref C) "type":=⟨_,gC,rfl⟩;refine sH (codeAny_of_tree ?_)
 show wpAny _ _ (callAny (.ref C) _) _ _ _
 repeat (any_goals (first|assumption|with_reducible refine iV gC ?_|wp_step))
 refine⟨rfl,?_⟩
 exact codeAny_call_builtin_at (El _ (by decide +kernel)) entry_typeCall (wpAny_check_type_call_sub gC (S_ F cB cA cN KX gC hi cI hq few))
theorem Tc{M:Ph}{env:Env}{s:aL}{x:Sem aF}{Q:Flow->aL->Prop}(hb:(bR C::bm).contains (.type "BaseException")=true)(hh:A.handled=none)
  (k:wpAny M A x (λv s1=>∃e dx t sl,v=.ref e/\s1.heap.get? C=some (excClassObj nm q C N bs bm hdct sn sub ab col dd k0 k1 k2 k3 k5 newId)/\s1.heap.get? e=some (Ci C dx t sl)/\E (.ref e) s1) E s):
  wpAny M A (raiseStmt env (some x) none) Q E s:=by
 unfold raiseStmt;refine aD (iB k (λv s1 k1=>?_) λ_ _ x=>x)
 obtain⟨e,dx,t,sl,rfl,gC,ge,hE⟩:=k1;obtain⟨hp,g,d,tk,os⟩:=s1
 repeat (first|with_reducible refine iV ge ?_|with_reducible refine iV gC ?_|(with_reducible refine mF gC ?_;rw[hb])|wp_step)
 exact wpAny_raiseNew_none hh hE
end
end L2
namespace L2
open PySem PySem.Spec PyProof.Rows
section
variable{prog:bL}{w:dB}{A:fW}{E:aF->aL->Prop}{R:BK->aL->Prop}{h:dW}{g:Array xV}{d:Drawn}{t:Nat}{os:OsState}
variable{nm q:Str}{C N e t0:aN}{bs bm bmB:List aF}{hdct:Bool}{sn:List Str}{sub:List aF}{ab:Bool}{col:Option Bool}{dd dx:Option aN}{k0 k1 k2 k3 k5:Option aF}{B newId initId:String}{sl:Array (Option aF)}
theorem Qu(F:wM B newId initId bmB)(cB:(bR C::bm).contains (.type B)=true){M:Ph}{rest:List aF}{Q:Unit->aL->Prop}
  (gC:h.get? C=some (excClassObj nm q C N bs bm hdct sn sub ab col dd k0 k1 k2 k3 k5 newId))(ge:h.get? e=some (Ci C dx t0 sl))(hq:Q () ⟨h,g,d,t,os⟩):
  wpAny M A (checkBuiltinCall initId ⟨.ref e::rest,[]⟩) Q E ⟨h,g,d,t,os⟩:=by
 have short:=F.noStar;simp only[F.initRow,F.initSplit,F.initKind,checkBuiltinCall]
 repeat (first|with_reducible refine iV ge ?_|(with_reducible refine mF gC ?_;rw[cB])|with_reducible refine iV gC ?_|wp_step)
 refine zA ?_
 rw[show ∀(a b:String)(n:Nat),Bind.check ⟨.positional,"*",B,.self,[⟨"args",.varPos,false⟩]⟩ a b n (Ux (λx=>x.fst) ({ pos:=bR e::rest }:Args).kw)=pure () from
  λa b n=>PySem.check_star_args _ _ _ _ _ _]
 exact bA hq
theorem zdk(F:wM B newId initId bmB)(cB:(bR C::bm).contains (.type B)=true){rest:List aF}{Q:aF->aL->Prop}
  (gC:h.get? C=some (excClassObj nm q C N bs bm hdct sn sub ab col dd k0 k1 k2 k3 k5 newId))(ge:h.get? e=some (Ci C dx t0 sl))(few:rest.length<=sizeLine)
  (hq:∀h' t1,h'.get? e=some (Ci C dx t1 sl)->(∀b o,b≠e->h.get? b=some o->h'.get? b=some o)->Q .none ⟨h',g,d,t,os⟩):
  wpAny (model prog w) A (call (.builtin initId) (.ref e::rest)) Q E ⟨h,g,d,t,os⟩:=by
 refine sH (vH F.init.plain F.initEntry (Qu F cB gC ge ?_))
 unfold wL.«BaseException.__init__»
 dsimp only
 rw[if_neg (by simp)]
 unfold newTuple wL.BaseException.bexcPut;have ge1:=aJ (h:=h) { cls:=.type "tuple",data:=.seq rest.toArray } ge;refine aD (iU (aD (aD (iu ge1 rfl (x:=.ref t0) rfl (aD (ur ge1 rfl (show 0<6 by decide) ?_))))) (by show rest.toArray.size<=sizeLine;rw[bM];exact few))
 refine Pu (bA (hq _ h.objs.size ?_ λb o be hb=>?_))
 ·rw[jo _ ge1 rfl]
  rfl
 ·rw[fV _ _ (cH be)]
  exact aJ _ hb
end
section
variable{prog:bL}{w:dB}{A:fW}{E:aF->aL->Prop}{s:aL}{K:ao}{C e t0 dx:aN}{sl:Array (Option aF)}{name:Str}{v:aF}{mA:Str->Option aF}
def zV:List aF->List aF
 | .ref _::r=>zV r
 |l=>l
def Mi:List aF:=[.type "ValueError",.type "Exception",.type "BaseException",.type "object"]
theorem Mj(self:aF):∀{l:List aF},zV l=Mi->refuseLoop self "__setattr__" l=pure ()
 | [],h=>by cases h
 | .ref c::r,h=>by rw[refuseLoop_ref];exact Mj self h
 | .type n::r,h=>by rw[show tR n::r=Mi from h];exact PySem.F.store_ValueError.passes self
 | .none::r,h=>by cases h
 | .bool _::r,h=>by cases h
 | .int _ _::r,h=>by cases h
 | .str _ _::r,h=>by cases h
 | .builtin _::r,h=>by cases h
def Og(K:ao)(C:aN):Prop:=∃cd,PySem.W.clsIn K C=some cd/\zV cd.mro=Mi
theorem Qv:∀{l:List aF},zV l=Mi->l.contains (.type "object")=true
 | [],h=>by cases h
 | .ref c::r,h=>by
  rw[List.contains_cons,Qv (l:=r) h,Gf]
 | .type n::r,h=>by rw[show tR n::r=Mi from h];rfl
 | .none::r,h=>by cases h
 | .bool _::r,h=>by cases h
 | .int _ _::r,h=>by cases h
 | .str _ _::r,h=>by cases h
 | .builtin _::r,h=>by cases h
theorem Ml{R:BK->aL->Prop}{x:aN}{ox:Obj}{od:Option Obj}{tk:Tok}{r:Option aF}(X:K.In s.heap)(I:uV s.heap x ox C od)(hp:Og K C)(ht:qy K C name=some r)
  (h:∀b:Bool,wpAny (model prog w) A.in1 (match r with
   |some a=>wL.ObjectAttr.setByDescriptor a (.ref x) v
   |none=>wL.ObjectAttr.storeInOwnDict (.ref x) (.ref C) (.str name tk) name v b) (λfin s'=>match fin with
    | .done f=>R (.ok f) s'
    | .again c'=>c'.quiet=true/\codeAny (model prog w) A c' R s') (λe s'=>R (.error e) s') s) :
  codeAny (model prog w) A (.call (.builtin "object.__setattr__") ⟨[.ref x,.str name tk,v],[]⟩) R s:=by
 have SF:=PySem.F.store_object;obtain⟨cd,hc,ho⟩:=hp;have ne:cd.mro.isEmpty=false:=by
  cases q:cd.mro with
  |nil=>rw[q]at ho;cases ho
  |cons _ _=>rfl
 have sub:KH (model prog w) s.heap (isInstance (.ref x) (.type "object")) true:=wB (xP I) (PySem.W.looks_mroIn X (by
  unfold Bm;rw[hc]
  show(if cd.mro.isEmpty=true then none else some (cd.mro.contains (tR "object")))=some true
  rw[ne,Qv ho];rfl))
 have pl:=SF.slot.plain;have en:=SF.entry;refine vH pl en ?_
 have ar:=SF.args (.ref x) (.str name tk) v;have kd:=SF.kind;have spl:=SF.split;apply PySem.W.check_slot (i:="object.__setattr__") (owner:="object") (n:="__setattr__") (self:=.ref x) (rest:=[.str name tk,v]) (kw:=[]) kd spl sub ar;obtain⟨attr,ha,hr⟩:=Option.bind_eq_some_iff.mp ht;have hm:KH (model prog w) s.heap (mroOf (.ref C)) cd.mro:=wB (uE X hc) zG;have L3:KH (model prog w) s.heap (wL.ObjectAttr.storeTaker? attr) r:=by
  cases attr with
  |none=>cases hr;exact zG
  |some a=>
   obtain⟨b,hb,rfl⟩:=Pk.mp hr;refine wB (PySem.W.looks_takesIn X hb) ?_
   cases b<;>exact zG
 rw[PySem.W.osa_eq,refuse_eq];refine aD (aD (jK (xP I) (aD (jK hm ?_))))
 rw[Mj _ ho];exact bA (aD (jK (xP I) (aD (jK (zq X ha) (aD (jK L3 (h attr.isSome)))))))
theorem Td{Q:Unit->aL->Prop}(X:K.In s.heap)(ge:s.heap.get? e=some (Ci C none t0 sl))(hs:cV K (.ref C) "__setattr__"=some (some (.builtin "object.__setattr__")))(hp:Og K C)(ht:qy K C name=some none)(hh:kE K C=true)
  (h:∀h',h'.get? e=some (Ci C (some s.heap.objs.size) t0 sl)->h'.Ns1 s.heap.objs.size (λy=>if y=name then some v else none)->(∀b o,b≠e->s.heap.get? b=some o->h'.get? b=some o)->Q () { s with heap:=h',toks:=s.toks+2 }):
  wpAny (model prog w) A (setAttr (.ref e) name v) Q E s:=by
 have J:uV s.heap e (Ci C none t0 sl) C none:=⟨ge,rfl,rfl,trivial⟩;refine CV X J hs (Ml (s:={ s with toks:=s.toks+1 }) (r:=none) X J hp ht λb=>?_)
 obtain⟨cd,hc,hd'⟩:=Eo hh;refine aD (bA (aD (aD (Ep ge (aD (jK (s:={ s with toks:=s.toks+1 }) (uE X hc) ?_))))))
 rw[hd'];have hne:s.heap.objs.size≠e:=jd (bw ge);have ge1:(s.heap.push { cls:=.type "dict",data:=.dict #[] }).get? e=some (Ci C none t0 sl):=aJ _ ge;have gd1:(s.heap.push { cls:=.type "dict",data:=.dict #[] }).get? s.heap.objs.size=some { cls:=.type "dict",data:=.dict #[] }:=cD _ rfl;refine aD (wpAny_alloc (aD (wpAny_update ge1 ?_)))
 have ge2:((s.heap.push { cls:=.type "dict",data:=.dict #[] }).update e λo=>{ o with dict:=some s.heap.objs.size }).get? e=some (Ci C (some s.heap.objs.size) t0 sl):=jo _ ge1 rfl
 have gd2:((s.heap.push { cls:=.type "dict",data:=.dict #[] }).update e λo=>{ o with dict:=some s.heap.objs.size }).get? s.heap.objs.size=some { cls:=.type "dict",data:=.dict #[] }:=(fV _ _ (cH hne)).trans gd1
 refine bA ?_
 refine aD (bA (aD ?_))
 refine wpAny_nsSet1 (RM ⟨_,#[],_,gd2,rfl,(λz hz=>absurd hz (by simp)),λ_=>rfl⟩) λh' hn2 hs2=>?_
 obtain⟨oD,esD,epD,hoD,hdD,hcD⟩:=hn2.count (uI name v (ns:=[]) λy hy=>absurd rfl hy)
 refine aD (M5 hoD (by rw[hdD];exact M6 (dD hcD (Io (cC _)))) ?_)
 refine bA (h _ ((hs2.2 _ (cH hne)).trans ge2) hn2 λb o be hb=>?_)
 rw[hs2.2 b (bQ (bw hb)),fV _ _ (cH be)];exact aJ _ hb
theorem WQ{ns:List Str}{Q:Unit->aL->Prop}(X:K.In s.heap)(ge:s.heap.get? e=some (Ci C (some dx) t0 sl))(gd:s.heap.Ns1 dx mA)(hne:dx≠e)(hs:cV K (.ref C) "__setattr__"=some (some (.builtin "object.__setattr__")))(hp:Og K C)(ht:qy K C name=some none)(hh:kE K C=true)
  (hw:rQ mA ns)(hsz:ns.length<=100)
  (h:∀h',h'.get? e=some (Ci C (some dx) t0 sl)->h'.Ns1 dx (λy=>if y=name then some v else mA y)->(∀b o,b≠dx->s.heap.get? b=some o->h'.get? b=some o)->Q () { s with heap:=h',toks:=s.toks+2 }):
  wpAny (model prog w) A (setAttr (.ref e) name v) Q E s:=by
 obtain⟨od,god,_⟩:=Fb gd;have J:uV s.heap e (Ci C (some dx) t0 sl) C (some od):=⟨ge,rfl,rfl,god⟩;refine CV X J hs (Ml (s:={ s with toks:=s.toks+1 }) (r:=none) X J hp ht λb=>?_)
 obtain⟨cd,hc,hd'⟩:=Eo hh;refine aD (bA (aD (aD (Ep ge (aD (jK (s:={ s with toks:=s.toks+1 }) (uE X hc) ?_))))))
 rw[hd'];refine bA (a:=some dx) (aD (bA (aD ?_)))
 refine wpAny_nsSet1 (s:={ s with toks:=s.toks+1 }) gd λh' hn2 hs2=>?_
 obtain⟨oD,esD,epD,hoD,hdD,hcD⟩:=hn2.count (uI name v hw);refine aD (M5 hoD (by rw[hdD];exact M6 (dD hcD (by rw[bJ,fK];omega))) ?_)
 exact bA (h _ ((hs2.2 _ (cH hne)).trans ge) hn2 λb o be hb=>(hs2.2 b be).trans hb)
end
def sW(C e:aN)(dx:Option aN):HO:=.ext λh=>∃t sl,h.get? e=some (Ci C dx t sl)
def Ku(dx:aN)(fs:List (Str×V)):HO:=.ext λh=>∃mA,h.Ns1 dx mA/\(∀f,u5 (fs.lookup f) (mA f))/\rQ mA (fs.map (·.1))
theorem sW.ok{P:bL}{w:dB}{H:Hp}{h:dW}{C e t:aN}{dx:Option aN}{sl:Array (Option aF)}(g:h.get? e=some (Ci C dx t sl)):lB P w H h e (sW C e dx):=
 ⟨⟨t,sl,g⟩,⟨_,g⟩,λh1 h2 ⟨t,sl,q⟩ k=>⟨t,sl,k _ q⟩⟩
theorem Ku.ok{P:bL}{w:dB}{H:Hp}{h:dW}{dx:aN}{fs:List (Str×V)}{mA:Str->Option aF}(n:h.Ns1 dx mA)(r:∀f,u5 (fs.lookup f) (mA f))(wi:rQ mA (fs.map (·.1))):lB P w H h dx (Ku dx fs):=by
 refine⟨⟨mA,n,r,wi⟩,?_,λh1 h2 ⟨mA,n,r,wi⟩ k=>⟨mA,n.at λo q=>k o q,r,wi⟩⟩
 obtain⟨o,_,_,e,_⟩:=n;exact⟨o,e⟩
theorem sW.at{P:bL}{w:dB}{H:Hp}{h:dW}{C e:aN}{dx:Option aN}(k:zj P w H h)(g:H e=some (sW C e dx)):∃t sl,h.get? e=some (Ci C dx t sl):=(k e _ g).1
theorem Ku.at{P:bL}{w:dB}{H:Hp}{h:dW}{dx:aN}{fs:List (Str×V)}(k:zj P w H h)(g:H dx=some (Ku dx fs)):∃mA,h.Ns1 dx mA/\(∀f,u5 (fs.lookup f) (mA f))/\rQ mA (fs.map (·.1)):=(k dx _ g).1
structure Te(K:ao)(C:aN):Prop where
 ob:∃nm q N bs bm hdct sn sub ab col dd k0 k1 k2 k3 k5,K.lookup C=some (excClassObj nm q C N bs bm hdct sn sub ab col dd k0 k1 k2 k3 k5 "ValueError.__new__")/\(bR C::bm).contains (.type "ValueError")=true/\(bR C::bm).contains (.type "AttributeError")=false/\(bR C::bm).contains (.type "NameError")=false/\(bR C::bm).contains (.type "BaseException")=true
 sa:cV K (.ref C) "__setattr__"=some (some (.builtin "object.__setattr__"))
 po:Og K C
 hd:kE K C=true
 kp:gZ K (.ref C)=true
section
variable{X:Cx}{pins:List (aN×Obj)}{σ:St}{H:Hp}{s:aL}{C e dx:aN}{f:Str}{y:V}{u:aF}{fs:List (Str×V)}{A:fW}{E:aF->aL->Prop}
theorem Tf{Q:Unit->aL->Prop}(I:Inv X pins σ H s)(ge:H e=some (sW C e none))(c:Te X.K C)(n:jG X.K C f)(ry:RelV y u)
  (q:∀dx s',H dx=none->dx≠e->Inv X pins σ (upd (upd H dx (Ku dx [(f,y)])) e (sW C e (some dx))) s'->Q () s'):wpAny (model X.prog X.w) A (setAttr (.ref e) f u) Q E s:=by
 obtain⟨t,sl,g⟩:=sW.at I.hok ge;refine Td I.zm g c.sa c.po n.taker c.hd λh' g1 n1 k1=>?_
 obtain⟨od,es,ep,e1,rest⟩:=id n1;have hne:s.heap.objs.size≠e:=jd (bw g);have hnf:od.isFreed=false:=(dW.get?_some_iff.mp e1).2
 have gm:(s.heap.push od).get? s.heap.objs.size=some od:=cD _ hnf;have I1:=I.laid (a:=s.heap.objs.size) (o:=Ku s.heap.objs.size [(f,y)]) (h':=s.heap.push od) (t':=s.toks) (λb u q=>aJ _ q) (aK _)
  (Ku.ok (mA:=λz=>if z=f then some u else none) ⟨od,es,ep,gm,rest⟩ (λz=>by
   by_cases hz:z=f
   ·subst hz
    show u5 (([(z,y)]:List (Str×V)).lookup z) (if z=z then some u else none)
    rw[if_pos rfl,gO,beq_self_eq_true];exact ry
   ·show u5 (([(f,y)]:List (Str×V)).lookup z) (if z=f then some u else none)
    rw[if_neg hz,gO,beq_false_of_ne hz];exact iI) (uI f u (ns:=[]) λz hz=>absurd rfl hz))
 refine q s.heap.objs.size _ (I.hok.fresh (aK _)) hne ?_
 refine I1.write (x:=e) (e:=e) (h':=h') (t':=s.toks+2) (by rw[bf (cH hne),ge];exact iI) (.inl rfl) (λb o hb gb=>?_) ⟨_,g1⟩ (sW.ok g1)
 by_cases hbd:b=s.heap.objs.size
 ·subst hbd
  have gb':(s.heap.push od).get? s.heap.objs.size=some o:=gb;rw[gm]at gb';cases gb';exact e1
 ·have gb':(s.heap.push od).get? b=some o:=gb
  rcases dW.get?_push_cases gb' with⟨z,_⟩|z
  ·exact absurd z hbd
  ·exact k1 b o hb z
theorem WR{Q:Unit->aL->Prop}(I:Inv X pins σ H s)(ge:H e=some (sW C e (some dx)))(gd:H dx=some (Ku dx fs))(hne:dx≠e)(c:Te X.K C)(n:jG X.K C f)(hl:fs.length<50)(ry:RelV y u)
  (q:∀s',Inv X pins σ (upd H dx (Ku dx (qW f y fs))) s'->Q () s'):wpAny (model X.prog X.w) A (setAttr (.ref e) f u) Q E s:=by
 obtain⟨t,sl,g⟩:=sW.at I.hok ge;obtain⟨mA,n1,r,wi⟩:=Ku.at I.hok gd;refine WQ I.zm g n1 hne c.sa c.po n.taker c.hd wi (by rw[aq];omega) λh' g1 n2 k1=>q _ ?_
 refine I.write (x:=dx) (e:=dx) (by rw[gd];exact iI) (.inl rfl) (λb o hb gb=>k1 b o hb gb) ?_ (Ku.ok n2 (λz=>?_) λz hz=>?_)
 ·obtain⟨o,_,_,e',_⟩:=n2;exact⟨o,e'⟩
 ·show u5 ((qW f y fs).lookup z) (if z=f then some u else mA z)
  rw[zM];by_cases hz:z=f
  ·rw[if_pos hz,if_pos hz];exact ry
  ·rw[if_neg hz,if_neg hz];exact r z
 ·by_cases hzf:z=f
  ·rw[hzf];exact(wN f y fs).1
  ·refine(wN f y fs).2 z (wi z λw=>hz ?_)
   show(if z=f then some u else mA z)=none
   rw[if_neg hzf];exact w
end
section
variable{X:Cx}{o value a1 a2:dz}{f x y:Str}{pos pos' p p2 ap p3 p4:Pos}{j4:Nat}{ta tv:TE}{C M dx:aN}{i:Nat}
def zdl(K:ao)(ta tv:TE)(f:Str):TS:=λD σ H=>tv σ H λv H1=>ta σ H1 λx H2=>∃e C,x=.ref e/\H2 e=some (sW C e none)/\Te K C/\jG K C f/\
 ∀dx,H2 dx=none->dx≠e->D.nx σ (upd (upd H2 dx (Ku dx [(f,v)])) e (sW C e (some dx)))
def zdm(K:ao)(ta tv:TE)(f:Str):TS:=λD σ H=>tv σ H λv H1=>ta σ H1 λx H2=>∃e C dx fs,x=.ref e/\H2 e=some (sW C e (some dx))/\H2 dx=some (Ku dx fs)/\dx≠e/\Te K C/\jG K C f/\fs.length<50/\
 D.nx σ (upd H2 dx (Ku dx (qW f v fs)))
theorem Za(ha:PE X o ta)(hv:PE X value tv)(hs:swapsWith value (some (.Attribute o f pos')) pos.line X.env=pure false):PS X (.Assign [.Attribute o f pos'] value pos) (zdl X.K ta tv f):=by
 intro pins s σ H D I h;refine uJ (jL (hv pins s σ H _ I h) λu s1 ⟨v,H1,I1,rv,q⟩=>jL (ha pins s1 σ H1 _ I1 q) λov s2 ⟨x,H2,I2,rx,e,C,ex,ge,c,n,q2⟩=>?_) hs
 subst ex;obtain rfl:ov=bR e:=rx;exact Tf I2 ge c n rv λdx s3 h1 h2 I3=>⟨σ,_,I3,q2 dx h1 h2⟩
theorem Zb(ha:PE X o ta)(hv:PE X value tv)(hs:swapsWith value (some (.Attribute o f pos')) pos.line X.env=pure false):PS X (.Assign [.Attribute o f pos'] value pos) (zdm X.K ta tv f):=by
 intro pins s σ H D I h;refine uJ (jL (hv pins s σ H _ I h) λu s1 ⟨v,H1,I1,rv,q⟩=>jL (ha pins s1 σ H1 _ I1 q) λov s2 ⟨x,H2,I2,rx,e,C,dx,fs,ex,ge,gd,hne,c,n,hl,q2⟩=>?_) hs
 subst ex;obtain rfl:ov=bR e:=rx;exact WR I2 ge gd hne c n hl rv λs3 I3=>⟨σ,_,I3,q2⟩
def zfr(x:Str)(ta:TE):TE:=λσ H Q=>ta σ H λv H1=>∃y,v=.str y/\y.length<=sizeLine/\(iy++x++y).length<=sizeLine/\Q (.str (iy++x++y)) H1
theorem za1(he:PE X a1 ta)(hx:(iy++x).length<=sizeLine):PE X (.JoinedStr [.Constant (.str x) j4 p3,.FormattedValue a1 (-1) none p4] p) (zfr x ta):=by
 intro pins s σ H Q I h;refine JoinedStr_many (joinParts_cons (Calls.Constant_str ⟨hx,joinParts_cons (FormattedValue_plain (jL (he pins _ σ H _ (I.tok _) h) λv s1 ⟨v1,H1,I1,rv,y,ey,hy,hxy,q⟩=>?_))⟩))
 subst ey;obtain⟨tk,rfl⟩:=rv;refine formatField_str (λt' tk=>⟨hxy,joinParts_nil ⟨.str _,H1,(I1.tok _).tok _,⟨_,rfl⟩,q⟩ hxy⟩) hy
def zia(K:ao)(t:TA):TE:=λσ H Q=>t σ H λvs H1=>∃e C dx v2,vs=[.ref e,v2]/\H1 e=some (sW C e dx)/\Te K C/\Q .non H1
theorem zdn{pl:Sem Bool}{t:TA}(hg:Gl X x)(hm:X.mg x=some (.ref M))(hr:Hj X.K M (.type "type")=true)(hf:Ho X.K (.ref M) (.type "type") "__init__"=some (.val (.builtin "ValueError.__init__")))
  (hsp:oU X.K (.ref M) "__getattribute__"=some (some (.builtin "type.__getattribute__")))(ha:PA X [a1,a2] t)(hdb:(x==("__debug__":Str))=false:=by decide)
  (he:starEach [a1,a2] X.env=(false,eval a1 X.env)::starEach [a2] X.env:=by rfl)(hpl:(backTo pos (starEach [a2] X.env)).any (·.1)=false:=by rfl)
  (ht:eval (.Call (.Attribute (.Name x p) "__init__" ap) [a1,a2] [] pos) X.env=(do
   let ov <-eval (.Name x p) X.env
   standAt ap.atName
   let(f,first) <-holding [ov] (getMethod ov "__init__" pl)
   callWith pos f first (backTo pos (starEach [a1,a2] X.env)) (backToKw pos (keywordEach [] X.env))):=by rfl):PE X (.Call (.Attribute (.Name x p) "__init__" ap) [a1,a2] [] pos) (zia X.K t):=by
 intro pins s σ H Q I h;refine PySem.W.methodCall_KW (pl:=pl) (xY I hg hm ?_ hdb) ht
 refine PySem.W.method_cls I.zm hsp (PySem.W.cls_value I.zm hr hf rfl ?_)
 refine callWith_builtin1 (jL (ha pos pins _ σ H _ (I.tok _) h) λus s1 ⟨vs,H1,I1,r1,e,C,dx,v2,ev,ge,c,q⟩=>?_) he hpl
 subst ev;obtain⟨u1,u2,rfl,ru1,ru2⟩:=vals2 r1;obtain rfl:u1=bR e:=ru1;obtain⟨t0,sl,g⟩:=sW.at I1.hok ge;obtain⟨nm,q0,N,bs,bm,hdct,sn,sub,ab,col,dd,k0,k1,k2,k3,k5,lk,cB,_⟩:=c.ob;obtain⟨hh,gg,d,tk,os⟩:=s1;refine zdk Ir cB (I1.zm _ _ lk) g (by show 1<=sizeLine;rw[fK];decide) λh' t1 g1 kk=>?_
 have hu:upd H1 e (sW C e dx)=H1:=by
  funext b
  by_cases hb:b=e
  ·subst hb;rw[cQ,ge]
  ·rw[bf hb]
 have I2:=I1.write (x:=e) (e:=e) (h':=h') (t':=tk) (by rw[ge];exact iI) (.inl rfl) (λb o hb gb=>kk b o hb gb) ⟨_,g1⟩ (sW.ok (dx:=dx) g1)
 rw[hu]at I2;exact⟨.non,H1,I2,rfl,q⟩
end
section
variable{X:Cx}{CX:U6}{k:Nat}{f C:aN}{fd:cU}{ps:List Str}{sp:Sp}{E:XK}
structure MkX(K:ao)(C f:aN):Prop extends Te K C where
 init:cV K (.ref C) "__init__"=some (some (.ref f))
 fn:xX K (.ref f)=true
theorem WT{pins:List (aN×Obj)}{σ:St}{H:Hp}{s:aL}{Q:VK}{us:List aF}{vs:List V}(M:MkX X.K C f)(F:i_ X.prog X.w X.K X.mg X.base CX k f fd ps sp)(hr:jH (k+1) X.A)(hb:Binds X.K fd ps [])
  (hx:Passes CX X E)(I:Inv X pins σ H s)(r:Vals vs us)(few:us.length<=sizeLine)
  (h:∀e,H e=none->s.heap.objs.size<=e->sp (.ref e::vs) (upd H e (sW C e none)) (λv H2=>v=.non/\Q (.ref e) H2) E):
  wpAny (model X.prog X.w) X.A (call (.ref C) us) (EP X pins σ Q) X.xe s:=by
 obtain⟨nm,q0,N,bs,bm,hdct,sn,sub,ab,col,dd,k0,k1,k2,k3,k5,lk,cB,cA,cN,_⟩:=M.ob;obtain⟨hh,gg,d,tk,os⟩:=s;have gC:=I.zm _ _ lk;refine zdj Ir cB cA cN I.zm gC M.init (beq_iff_eq.mp M.fn) ?_ few
 have up:∀b o,hh.get? b=some o->(withExc hh C us).get? b=some o:=λb o e=>aJ _ (aJ _ e)
 have ge:(withExc hh C us).get? (hh.objs.size+1)=some (S8 C hh.objs.size):=by heap_get
 have I2:=I.laid (a:=hh.objs.size+1) (o:=sW C (hh.objs.size+1) none) (h':=withExc hh C us) (t':=tk) up (k_ _) (sW.ok (t:=hh.objs.size) (sl:=#[]) ge);have hq:=h (hh.objs.size+1) (I.hok.fresh (k_ _)) (k_ _);have r2:Vals (V.ref (hh.objs.size+1)::vs) (bR (hh.objs.size+1)::us):=.cons rfl r;have hl:(bR (hh.objs.size+1)::us ++ []).length=ps.length:=by
  rw[gK];have e:=r2.length;rw[F.len _ _ _ _ hq]at e;exact e.symm
 refine sH (qR (F.run _ X.stack _ _ ⟨bR (hh.objs.size+1)::us,[]⟩ (bR (hh.objs.size+1)::us) _ _ E (hr.make C us []) (I2.env0.make C us []) ?_ r2 hq) λr s' hq'=>?_)
 ·have:=hb _ (bR (hh.objs.size+1)::us) I2.zm hl
  rw[gK]at this;exact this
 cases r with
 |error e=>exact hx pins σ _ _ e s' I2 hq'
 |ok fl=>
  cases fl with
  |ret u=>
   obtain⟨v,H',I3,rv,ev,q3⟩:=I2.after hq';subst ev;exact⟨rv,⟨V.ref (hh.objs.size+1),H',I3,rfl,q3⟩⟩
  |next=>exact iT hq'
  |brk=>exact iT hq'
  |cont=>exact iT hq'
end
def wZ(C e dx T:aN):HO:=.ext λh=>∃us sl,h.get? e=some { cls:=.ref C,dict:=some dx,data:=.fields us,slots:=sl }/\us[1]?=some (.ref T)
def Mp(T:aN):HO:=.ext λh=>∃oT ts,h.get? T=some oT/\oT.data=.fields ts/\ts[3]?=some .none
theorem wZ.ok{P:bL}{w:dB}{H:Hp}{h:dW}{C e dx T:aN}{us:Array aF}{sl:Array (Option aF)}(g:h.get? e=some { cls:=.ref C,dict:=some dx,data:=.fields us,slots:=sl })(u:us[1]?=some (.ref T)):lB P w H h e (wZ C e dx T):=
 ⟨⟨us,sl,g,u⟩,⟨_,g⟩,λh1 h2 ⟨us,sl,q,u⟩ k=>⟨us,sl,k _ q,u⟩⟩
theorem Mp.ok{P:bL}{w:dB}{H:Hp}{h:dW}{T:aN}{oT:Obj}{ts:Array aF}(g:h.get? T=some oT)(d:oT.data=.fields ts)(u:ts[3]?=some .none):lB P w H h T (Mp T):=
 ⟨⟨oT,ts,g,d,u⟩,⟨_,g⟩,λh1 h2 ⟨oT,ts,q,d,u⟩ k=>⟨oT,ts,k _ q,d,u⟩⟩
def HL(H:Hp)(ex:List aN)(e T:aN)(o1 o2:HO):Hp:=λb=>if b=e then some o1 else if b=T then some o2 else if b∈ex then none else H b
section
variable{H:Hp}{ex:List aN}{e T b:aN}{o1 o2:HO}
theorem za2:HL H ex e T o1 o2 e=some o1:=if_pos rfl
theorem za3(h:T≠e):HL H ex e T o1 o2 T=some o2:=by unfold HL;rw[if_neg h,if_pos rfl]
theorem zW(h1:b≠e)(h2:b≠T)(h3:b∉ex):HL H ex e T o1 o2 b=H b:=by unfold HL;rw[if_neg h1,if_neg h2,if_neg h3]
theorem zfs(h1:b≠e)(h2:b≠T)(h3:b∈ex):HL H ex e T o1 o2 b=none:=by unfold HL;rw[if_neg h1,if_neg h2,if_pos h3]
end
def Dw(o:Option HO):Prop:=∃φ,o=some (.ext φ)
section
variable{P:bL}{w:dB}{fs ex:List aN}{H0 H:Hp}{h0 h h':dW}{L e T:aN}{oe:Obj}{o1 o2:HO}
theorem Zc(u:Un fs [] H0 H h0 h)(l:Mh (L::fs) ex e oe h h')(hL:h0.objs.size<=L)(he:h0.objs.size<=e)(hx:∀x∈ex,h0.objs.size<=x)(ie:Dw (H e))(ix:∀x∈ex,Dw (H x))(hT:h.get? T=none)(nT:H T=none):
  Un fs [] H0 (HL H ex e T o1 o2) h0 h':=by
 have nL:∀b o,h0.get? b=some o->b≠L:=λb o q z=>by subst z;exact absurd (bw q) (Nat.not_lt.mpr hL)
 have ne:∀b o,h0.get? b=some o->b≠e:=λb o q z=>by subst z;exact absurd (bw q) (Nat.not_lt.mpr he)
 have nx:∀b o,h0.get? b=some o->b∉ex:=λb o q z=>absurd (bw q) (Nat.not_lt.mpr (hx b z))
 have nxt:∀b (o:HO),H b=some o->(∀φ,o≠.ext φ)->b≠e/\b≠T/\b∉ex:=λb o q z=>by
  refine⟨λq2=>?_,λq2=>?_,λq2=>?_⟩
  ·obtain⟨φ,r⟩:=ie;rw[q2,r]at q;cases q;exact z φ rfl
  ·rw[q2,nT]at q;cases q
  ·obtain⟨φ,r⟩:=ix b q2;rw[r]at q;cases q;exact z φ rfl
 refine⟨λb o q n hf hb=>?_,λb o q n hf hb=>?_,λb o q n hb=>?_,λb o q hb=>?_,λb xs q=>?_,λb o u' q=>?_,λb ps q=>?_⟩
 ·refine l.keep b o (u.keep b o q n hf hb) ?_ (nx b o q) (ne b o q)
  intro z;rcases aQ.mp z with z|z
  ·exact nL b o q z
  ·exact hf z
 ·obtain⟨sl,q1⟩:=u.slot b o q n hf hb
  obtain⟨sl2,q2⟩:=l.slot b _ q1 (bD _ hf) (nx b o q) (ne b o q);exact⟨sl2,q2⟩
 ·have z:=u.free b o q n hb
  obtain⟨o',q1⟩:=u.there b o q hb;rw[zW (ne b o q) (λz=>by subst z;rw[hT]at q1;cases q1) (nx b o q)]
  exact z
 ·obtain⟨o',q1⟩:=u.there b o q hb
  by_cases hf:b∈L::fs
  ·obtain⟨sl,q2⟩:=l.slot b o' q1 hf (nx b o q) (ne b o q)
   exact⟨_,q2⟩
  ·exact⟨_,l.keep b o' q1 hf (nx b o q) (ne b o q)⟩
 ·have z:=u.tups b xs q
  obtain⟨a1,a2,a3⟩:=nxt b _ z (by intro φ z;cases z)
  rw[zW a1 a2 a3];exact z
 ·have z:=u.Ey b o u' q
  obtain⟨a1,a2,a3⟩:=nxt b _ z (by intro φ z;cases z)
  rw[zW a1 a2 a3];exact z
 ·obtain⟨more,z⟩:=u.Hr b ps q
  obtain⟨a1,a2,a3⟩:=nxt b _ z (by intro φ z;cases z)
  exact⟨more,by rw[zW a1 a2 a3];exact z⟩
theorem Mq(k:zj P w H h)(l:Mh (L::fs) ex e oe h h')(nf:∀b∈L::fs,H b=none)(ie:Dw (H e))(ix:∀x∈ex,Dw (H x))(hT:h.get? T=none)(nT:H T=none)
  (n1:lB P w (HL H ex e T o1 o2) h' e o1)(n2:lB P w (HL H ex e T o1 o2) h' T o2):zj P w (HL H ex e T o1 o2) h':=by
 intro b o q;by_cases hb:b=e
 ·subst hb;rw[za2]at q;cases q;exact n1
 by_cases hbT:b=T
 ·subst hbT;rw[za3 hb]at q;cases q;exact n2
 by_cases hbx:b∈ex
 ·rw[zfs hb hbT hbx]at q;cases q
 rw[zW hb hbT hbx]at q;have nxt:∀c (o:HO),H c=some o->(∀φ,o≠.ext φ)->c≠e/\c≠T/\c∉ex:=λc o q z=>by
  refine⟨λq2=>?_,λq2=>?_,λq2=>?_⟩
  ·obtain⟨φ,r⟩:=ie;rw[q2,r]at q;cases q;exact z φ rfl
  ·rw[q2,nT]at q;cases q
  ·obtain⟨φ,r⟩:=ix c q2;rw[r]at q;cases q;exact z φ rfl
 refine(k b o q).stay (λc u hc r=>?_) (λc r=>?_) λc xs r=>?_
 ·rcases hc with rfl|hc
  ·exact l.keep c u r (λz=>by rw[nf c z]at q;cases q) hbx hb
  ·obtain⟨a1,a2,a3⟩:=nxt c _ hc (by intro φ z;cases z)
   exact l.keep c u r (λz=>by rw[nf c z]at hc;cases hc) a3 a1
 ·obtain⟨a1,a2,a3⟩:=nxt c _ r (by intro φ z;cases z)
  rw[zW a1 a2 a3];exact r
 ·obtain⟨a1,a2,a3⟩:=nxt c _ r (by intro φ z;cases z)
  rw[zW a1 a2 a3];exact r
theorem yr{base:dW}:∀{l:List Env},(∀b∈l.filterMap (·.frame),∀o,h.get? b=some o->∃o',h'.get? b=some o'/\o'.data=o.data)->h.FunFrames base l->h'.FunFrames base l
 | [],_,_=>trivial
 |env::rest,k,⟨hk,⟨L,o,hf,hn,ho,hd⟩,hr⟩=>by
  obtain⟨o',ho',hd'⟩:=k L (by rw[lQ,hf];exact aY) o ho
  exact⟨hk,⟨L,o',hf,hn,ho',λvs=>hd'▸hd vs⟩,yr (λb hb=>k b (by rw[lQ,hf];exact bD _ hb)) hr⟩
end
def CXe(P:bL)(w:dB):U6:=λouter H s E e s'=>∃ea C dx T H',e=.ref ea/\s'.os=s.os/\yZ s'.gens/\Un (frs outer) [] H H' s.heap s'.heap/\zj P w H' s'.heap/\
 H' ea=some (wZ C ea dx T)/\H' T=some (Mp T)/\T≠ea/\s.heap.objs.size<=ea/\s.heap.objs.size<=T/\E (.ref ea) (some T) H'
section
variable{P:bL}{w:dB}{K:ao}{mg:Str->Option aF}{base:dW}{N:List Str}{qual:Str}{scope:rR}{f:aN}{cd:aF}{A:fW}{outer:List Env}{s0:aL}{H0:Hp}{E:XK}
variable{pins:List (aN×Obj)}{σ:St}{H:Hp}{s:aL}
abbrev cxE(P:bL)(w:dB)(K:ao)(mg:Str->Option aF)(base:dW)(N:List Str)(qual:Str)(scope:rR)(f:aN)(cd:aF)(A:fW)(outer:List Env)(s0:aL)(H0:Hp)(E:XK):Cx:=Jd (CXe P w) P w K mg base N qual scope f cd A outer s0 H0 E
theorem JG(I:Inv (cxE P w K mg base N qual scope f cd A outer s0 H0 E) pins σ H s):
  s.heap.FunFrames base (envOfC qual scope s0.heap.objs.size f cd::outer)/\s0.heap.objs.size<=s.heap.objs.size/\(∀b∈s0.heap.objs.size::frs outer,H b=none)/\(envOfC qual scope s0.heap.objs.size f cd::outer).filterMap (·.frame)=s0.heap.objs.size::frs outer:=by
 obtain⟨m,hns,_⟩:=I.loc;have hb:base.get? s0.heap.objs.size=none:=by
  cases q:base.get? s0.heap.objs.size with
  |none=>rfl
  |some o=>exact absurd (bw (I.ok.bs _ o q).1) (nH _)
 have hfs:∀b∈frs outer,H0 b=none/\∃o,s0.heap.get? b=some o:=λb hb=>by
  obtain⟨_,o,ho,_⟩:=(show s0.heap.FunFrames base outer from I.ok.yV).mem hb
  exact⟨I.ok.XJ b hb,o,ho⟩
 refine⟨?_,?_,?_,rfl⟩
 ·refine Iu (L:=s0.heap.objs.size) (m:=m) (by rw[show(envOfC qual scope s0.heap.objs.size f cd).scope.kind=.function from I.ok.kind];decide) rfl hns hb (yr (λb hb o ho=>?_) (show s0.heap.FunFrames base outer from I.ok.yV))
  obtain⟨sl,q⟩:=I.base.any ho (hfs b hb).1 (by intro z;exact absurd (show b∈([]:List aN)from z) (by simp))
  exact⟨_,q,rfl⟩
 ·obtain⟨o,_,_,ho,_⟩:=hns
  exact vD (bw ho)
 ·intro b hb
  rcases aQ.mp hb with rfl|hb
  ·exact I.free
  ·obtain⟨h1,o,ho⟩:=hfs b hb
   exact I.base.free b o ho h1 (by intro z;exact absurd (show b∈([]:List aN)from z) (by simp))
theorem Zd{e C dx:aN}(I:Inv (cxE P w K mg base N qual scope f cd A outer s0 H0 E) pins σ H s)(ge:H e=some (sW C e (some dx)))(he:s0.heap.objs.size<=e)(hE:∀T,H T=none->T≠e->E (.ref e) (some T) (HL H [] e T (wZ C e dx T) (Mp T))):
  (cxE P w K mg base N qual scope f cd A outer s0 H0 E).xe (.ref e) s:=by
 obtain⟨ff,sz,nf,fre⟩:=JG I;obtain⟨t,sl,g⟩:=sW.at I.hok ge;show wpAny (model P w) _ (leaving _ _) _ _ s;refine Qt (base:=base) (L:=s0.heap.objs.size) I.ok.frames ff rfl g rfl rfl λh' l=>?_
 rw[fre]at l;obtain⟨T,oT,ts,hT,g1,hne,g2,d2,t3⟩:=l.exc;have nT:H T=none:=I.hok.fresh hT;have gT:=Bk hT;have ie:Dw (H e):=⟨_,ge⟩;have gm:h'.get? e=some { cls:=.ref C,dict:=some dx,data:=.fields #[.ref t,.ref T,.none,.none,.bool false,.none],slots:=sl }:=g1;refine⟨e,C,dx,T,HL H [] e T (wZ C e dx T) (Mp T),rfl,I.os,I.bare,Zc I.base l (aK _) he (λx hx=>(nomatch hx)) ie (λx hx=>(nomatch hx)) gT nT,Mq I.hok l nf ie (λx hx=>(nomatch hx)) gT nT (wZ.ok gm rfl) (Mp.ok g2 d2 t3),za2,za3 hne,hne,he,dD sz hT,hE T nT hne⟩
end
def Oh(C:aN):Sp:=λvs H Q _=>∃e v1 x2,vs=[.ref e,v1,.str x2]/\x2.length<=1000/\H e=some (sW C e none)/\
 ∀dx,H dx=none->dx≠e->Q .non (upd (upd (upd H dx (Ku dx [("place",v1)])) e (sW C e (some dx))) dx (Ku dx (qW "word" (.str x2) [("place",v1)])))
abbrev Dy(p:Int)(wd:Str):List (Str×V):=qW "word" (.str wd) [("place",.int p)]
def Vu(C:aN)(p:Int)(wd:Str)(B0 B:Hp)(e dx:aN)(H:Hp):Prop:=∃H1,gR B0 B H1 H/\H1 e=none/\B e=none/\H1 dx=none/\B dx=none/\dx≠e/\H dx=some (Ku dx (Dy p wd))
section
variable{X:Cx}{B0 B H0 H:Hp}{σ:St}{D:Ends}{δ:List Slot}{a1 a2 tg iter:dz}{p:Int}{wd x y:Str}{np cpos pos:Pos}{k:Nat}{fI C:aN}{fd:cU}{body:List mj}{ds:List aA}
theorem za4(f:kj X.K B0 B H0 H σ δ)(M:MkX X.K C fI)(F:i_ X.prog X.w X.K X.mg X.base qz k fI fd ["self","place","word"] (Oh C))(hr:jH (k+1) X.A)(hb:Binds X.K fd ["self","place","word"] [])(hg:Gl X x)(hm:X.mg x=some (.ref C))
  (h1:VE X a1 δ (.int p))(h2:VE X a2 δ (.str wd))(hl:wd.length<=1000)
  (hW:∀pins σ H2 s e dx,Inv X pins σ H2 s->H2 e=some (sW C e (some dx))->X.s₀.heap.objs.size<=e->Vu C p wd B0 B e dx H2->X.xe (.ref e) s)
  (hs0:∀pins σ H s,Inv X pins σ H s->X.s₀.heap.objs.size<=s.heap.objs.size)(hh:X.A.handled=none)
  (hdb:(x==("__debug__":Str))=false:=by decide)(he:starEach [a1,a2] X.env=(false,eval a1 X.env)::starEach [a2] X.env:=by rfl)(he2:starEach [a2] X.env=(false,eval a2 X.env)::starEach [] X.env:=by rfl)(hpl:(backTo cpos (starEach [a2] X.env)).any (·.1)=false:=by rfl):
  cS X (.Raise (some (.Call (.Name x np) [a1,a2] [] cpos)) none pos) D σ H:=λpins s I=>by
 obtain⟨nm,q0,N,bs,bm,hdct,sn,sub,ab,col,dd,k0,k1,k2,k3,k5,lk,_,_,_,cE⟩:=M.ob;show wpAny (model X.prog X.w) X.A (do standAt pos;raiseStmt X.env (some (do let v <-eval (.Call (.Name x np) [a1,a2] [] cpos) X.env;standAt pos;pure v)) none) _ _ s
 refine aD (rT (Tc (C:=C) (nm:=nm) (q:=q0) (N:=N) (bs:=bs) (bm:=bm) (hdct:=hdct) (sn:=sn) (sub:=sub) (ab:=ab) (col:=col) (dd:=dd) (k0:=k0) (k1:=k1) (k2:=k2) (k3:=k3) (k5:=k5) (newId:="ValueError.__new__") cE hh (aD (iB ?_ (λv s1 q=>aD (rT (bA q))) λ_ _ z=>z))))
 refine o9 (xY I hg hm ?_ hdb)
 have ha:=eV (X:=X) (e:=a1) (es:=[a2]) (fZ (X:=X) (e:=a1)) (eV (fZ (X:=X) (e:=a2)) je he2) he;refine BL (h₀:=X.base) I.ok.mod.kin M.kp (jL (ha cpos pins s σ H (λvs Hh=>∃Ha,gR B0 B Ha Hh/\vs=[.int p,.str wd]) I ?_) λus s1 ⟨vs,Hh,I1,r,Ha,g,ev⟩=>⟨I1.zm,?_⟩) he hpl
 ·refine h1 B0 B σ H0 H _ f λv H1 gY g1 r1=>?_
  cases r1;refine h2 B0 B σ H1 gY _ (f.grow g1) λu H2 nA g2 r2=>?_
  cases r2;exact⟨H2,(f.ent.trans g1).trans g2,rfl⟩
 ·subst ev
  have few:us.length<=sizeLine:=by rw[<-r.length,fK];show 2<=16777216;decide
  refine jL (WT (CX:=qz) (E:=E0) (Q:=λv H2=>∃e dx,v=.ref e/\H2 e=some (sW C e (some dx))/\s1.heap.objs.size<=e/\Vu C p wd B0 B e dx H2) M F hr hb Lw I1 r few λe ne se=>?_) λu s2 ⟨v,H2,I2,rv,e,dx,ev,ge,se,wi⟩=>?_
  ·refine⟨e,.int p,wd,rfl,hl,cQ,λdx nd hne=>⟨rfl,e,dx,rfl,?_,se,Ha,⟨λb o q=>?_,g.j9,λb o q=>?_,g.new⟩,g.sub.free ne,g.big.free ne,?_,?_,hne,cQ⟩⟩
   ·rw[bf (cH hne),cQ]
   ·have hb1:=g.big _ _ q
    have nd':Hh dx=none:=by rw[bf hne]at nd;exact nd
    have b1:=bV hb1 ne;have b2:=bV hb1 nd';rw[bf b2,bf b1,bf b2,bf b1];exact hb1
   ·have hb1:=g.sub _ _ q
    have nd':Hh dx=none:=by rw[bf hne]at nd;exact nd
    have b1:=bV hb1 ne;have b2:=bV hb1 nd';rw[bf b2,bf b1,bf b2,bf b1];exact hb1
   ·rw[bf hne]at nd;exact g.sub.free nd
   ·rw[bf hne]at nd;exact g.big.free nd
  ·subst ev
   obtain rfl:u=bR e:=rv;obtain⟨t,sl,gg⟩:=sW.at I2.hok ge;exact⟨e,some dx,t,sl,rfl,I2.zm _ _ lk,gg,hW pins σ H2 s2 e dx I2 ge (dD (hs0 pins σ Hh s1 I1) se) wi⟩
theorem zdo{tgt:Sx}(f:kj X.K B0 B H0 H σ δ)(hp:M4 (model X.prog X.w) X.A X.env X.xe)(hc:X.calm=true)(hi:VI X tg iter δ ds)(hg:PG X tg (Z_ X.K tgt))(δs:Nat->List Slot)(m:Nat)(h0:δs 0=δ)(hm:m<ds.length)
  (step:∀k d,k<m->ds[k]?=some d->∃δ',Jm tgt d (δs k)=some δ'/\Em X body δ' (.nx (δs (k+1))))
  (last:∀d,ds[m]?=some d->∃δ',Jm tgt d (δs m)=some δ'/\∀D' σ' Ha Hb,kj X.K B0 B Ha Hb σ' δ'->Vg X body D' σ' Hb)
  (hs:∀x,foldedSetIterable iter X.env x=pure x:=by intro _;rfl):cS X (.For tg iter body [] pos) D σ H:=λpins s I=>by
 obtain⟨wi,pi,qi⟩:=hi;refine Nu hp hc pi hg tY hs pins s σ H D I ?_
 refine qi B0 B σ H0 H _ f λJ H1 gY g it=>?_
 refine⟨λi mm σ' H'=>i<=m/\mm=m+1-i/\∃Ha,Same H1 Ha/\kj X.K B0 B Ha H' σ' (δs i),⟨m+1,cC _,rfl,H1,Same.refl _,by rw[h0];exact f.grow g⟩,?_⟩
 rintro i mm σ' H' ⟨hi,rfl,Ha,sm,fa⟩
 obtain⟨i1,i2,i3⟩:=it Ha H' sm fa.sub i;by_cases hlt:i<m
 ·refine .inr ⟨i1 (by omega),λσ'' Ks=>∃Hb,Same H1 Hb/\kj X.K B0 B Hb Ks σ'' (δs (i+1)),λσ'' Ks ⟨Hb,z1,z2⟩=>⟨m+1-(i+1),by omega,hlt,rfl,Hb,z1,z2⟩,λv H2 y=>?_⟩
  have hd:ds[i]?=some (ds[i]'(by omega)):=by simp
  obtain⟨Hb,g2,rx⟩:=i3 v H2 _ hd y;obtain⟨δ',e1,e2⟩:=step i _ hlt hd;refine yq (fa.grow g2) rx e1 λσ3 f3=>?_
  exact e2 B0 B σ3 Hb H2 _ f3 λσ4 Hc H4 s4 f4=>⟨Hc,(sm.trans g2.j9).trans s4,f4⟩
 ·have e:i=m:=by omega
  subst e;have hd:ds[i]?=some ds[i]:=by simp[hm]
  refine .inr ⟨i1 hm,λ_ _=>False,λ_ _ z=>z.elim,λv H2 y=>?_⟩
  obtain⟨Hb,g2,rx⟩:=i3 v H2 _ hd y;obtain⟨δ',e1,e2⟩:=last _ hd;refine yq (fa.grow g2) rx e1 λσ3 f3=>?_
  exact e2 _ σ3 Hb H2 f3
end
section
variable{M:Ph}{A:fW}{E:aF->aL->Prop}{s:aL}
theorem WW{base:dW}{env:Env}{out:List Env}{L e T:aN}{oe oT:Obj}{us ts:Array aF}{Q:Unit->aL->Prop}
  (fr:A.frames=some (env::out))(ff:s.heap.FunFrames base (env::out))(fL:env.frame=some L)
  (ge:s.heap.get? e=some oe)(de:oe.data=.fields us)(u1:us[1]?=some (.ref T))(ne:T≠e)(gT:s.heap.get? T=some oT)(dT:oT.data=.fields ts)(t3:ts[3]?=some .none)
  (q:∀h',Mh ((env::out).filterMap (·.frame)) [T] e oe s.heap h'->Q () { s with heap:=h' }):wpAny M A (noteFrame (.ref e) env) (λ_ s2=>wpAny M A (setFlight (.ref e) none) Q E s2) E s:=by
 unfold noteFrame;simp only[fL];refine aD (iu ge de u1 ?_)
 rw[if_pos (show(bR T != iG)=true from by simp)]
 refine aD (iu gT dT t3 ?_)
 rw[if_neg (show ¬((iG==rawInt L)=true)from by simp[rawInt])]
 refine aD (ur gT dT (mD.mp t3).1 ?_)
 have ot:∀b,b≠T->(s.heap.update T (qT (·.setIfInBounds 3 iG))).get? b=s.heap.get? b:=λb hb=>fV _ _ (cH hb)
 have noT:∀b o,s.heap.get? b=some o->(∀vs,o.data≠.fields vs)->b≠T:=λb o hb hn z=>by
  rw[z,gT]at hb;injection hb with hb;subst hb;exact hn ts dT
 refine JF fr (ff.of_keeps λb o hb hn=>⟨o,(ot b (noT b o hb hn)).trans hb,rfl⟩) fL ((ot e (cH ne)).trans ge) de (mD.mp u1).1 λh' l=>q h' ⟨?_,λb o hb hf hx be=>?_,λb o hb hf hx be=>?_,λb o hb=>?_,?_⟩
 ·have:=l.size
  rw[sE]at this;exact this
 ·exact l.keep b o ((ot b (by simpa using hx)).trans hb) hf (by simp) be
 ·exact l.slot b o ((ot b (by simpa using hx)).trans hb) hf (by simp) be
 ·by_cases hbT:b=T
  ·subst hbT
   exact l.there b _ (jo _ gT (pq (j7 dT _)))
  ·exact l.there b o ((ot b hbT).trans hb)
 ·obtain⟨T',oT',ts',h1,h2⟩:=l.exc
  rw[sE]at h1;exact⟨T',oT',ts',h1,h2⟩
end
section
variable{X:Cx}{pins:List (aN×Obj)}{σ:St}{H:Hp}{s:aL}{C M e dx T:aN}{E:aF->aL->Prop}
structure za5(K:ao)(C M:aN):Prop where
 ob:∃nm q N bs bm hdct sn sub ab col dd k0 k1 k2 k3 k5 nm' q' N' bs' bm' Vv sn' sub' ab' col' Sq k0' k1' k2' k3' k5',K.lookup C=some (excClassObj nm q C N bs bm hdct sn sub ab col dd k0 k1 k2 k3 k5 "ValueError.__new__")/\K.lookup M=some (excClassObj nm' q' M N' bs' bm' Vv sn' sub' ab' col' Sq k0' k1' k2' k3' k5' "ValueError.__new__")/\
  (bR C::bm).contains (.ref M)=true/\(bR M::bm').contains (.type "BaseException")=true
theorem Qw{A:fW}{Q:Bool->aL->Prop}{us:Array aF}{sl:Array (Option aF)}(KX:X.K.In s.heap)(c:za5 X.K C M)(ge:s.heap.get? e=some { cls:=.ref C,dict:=some dx,data:=.fields us,slots:=sl })(hq:Q true s):
  wpAny (model X.prog X.w) A (excMatches (.ref e) (.ref M)) Q E s:=by
 obtain⟨nm,q,N,bs,bm,hdct,sn,sub,ab,col,dd,k0,k1,k2,k3,k5,nm',q',N',bs',bm',Vv,sn',sub',ab',col',Sq,k0',k1',k2',k3',k5',lC,lM,cM,cB⟩:=c.ob;obtain⟨hh,g,d,tk,os⟩:=s;have gC:=KX _ _ lC;have gM:=KX _ _ lM;have f:=tc_notTuple;unfold excMatches
 repeat (first|with_reducible refine iV ge ?_|with_reducible refine iV gM ?_|(with_reducible refine mF gM ?_;rw[cB])|(with_reducible refine mF gC ?_;rw[cM])|wp_step)
 exact hq
theorem WX{M:Ph}{A:fW}{i:Nat}{x:Str}{pos:Pos}{Q:Unit->aL->Prop}(I:Inv X pins σ H s)(hN:X.N.Nodup)(hi:X.N[i]?=some x)(hk:X.env.scope.names.lookup x=some .local)(h:∀s',Inv X pins (σ.set i none) H s'->Q () s'):
  wpAny M A (do bindName X.env x .none;unbindBehindTheSuite X.env x pos) Q E s:=by
 obtain⟨m,hn,hl⟩:=id I.loc;have hcls:(X.env.scope.kind == .class||(X.env.scope.kind == .module&&X.env.locals != X.env.globals))=false:=by rw[I.ok.kind];rfl
 have hiσ:i < σ.length:=by rw[I.len];exact(aV.mp hi).1
 have XM:=I.XM;refine wpAny_nameGoes_keeps hk hn hcls λh' v hn' hs=>h _ ?_
 obtain⟨oL,_,_,hoL,_⟩:=id hn;refine⟨I.ok,I.os,I.bare,⟨λb o e n hb hx=>?_,λb o e n hb hx=>?_,I.base.free,λb o e hx=>?_,I.base.tups,I.base.Ey,I.base.Hr⟩,⟨_,hn',λj y v' e1 e2 e3=>?_⟩,λy c e=>?_,I.free,I.vM,λp hp=>?_,λb ob e=>?_,by simpa using I.len⟩
 ·exact(hs.2 b (bQ (cO (bw e) I.ok.above))).trans (I.base.keep b o e n hb hx)
 ·obtain⟨sl,e1⟩:=I.base.slot b o e n hb hx
  exact⟨sl,(hs.2 b (bQ (cO (bw e) I.ok.above))).trans e1⟩
 ·obtain⟨o',e1⟩:=I.base.there b o e hx
  exact⟨o',(hs.2 b (bQ (cO (bw e) I.ok.above))).trans e1⟩
 ·by_cases hj:j=i
  ·subst hj
   rw[bF hiσ]at e2;cases e2
  ·rw[bB (cH hj)]at e2
   obtain⟨u',r',q⟩:=hl j y v' e1 e2 e3;refine⟨u',r',?_⟩
   rcases q with⟨k,e⟩|⟨k,c,e,z⟩
   ·refine .inl ⟨k,?_⟩
    have:y≠x:=λe=>hj (Iw hN e1 (e▸hi))
    simp[this,e]
   ·exact .inr ⟨k,c,e,z.sameBut hs (XM y c e)⟩
 ·obtain⟨w',z⟩:=I.cell y c e
  exact⟨w',z.sameBut hs (XM y c e)⟩
 ·obtain⟨e,n,ne,nf,d⟩:=I.pin p hp
  exact⟨(hs.2 p.1 ne).trans e,n,ne,nf,d⟩
 ·refine(I.hok b ob e).stay (λc w' hc q=>(hs.2 c ?_).trans q) (λ_ q=>q) λ_ _ q=>q
  rintro rfl
  rcases hc with rfl|hc
  ·rw[I.free]at e;cases e
  ·rw[I.free]at hc;cases hc
abbrev Cx.held(X:Cx)(e:aN):Cx:={ X with A:=X.A.mark (some (.ref e)),calm:=false,xe:=λ_ _=>False }
theorem Inv.held(I:Inv X pins σ H s)(e:aN):Inv (X.held e) pins σ H s:=
 ⟨⟨I.ok.mod,I.ok.kind,I.ok.glob,I.ok.blt,I.ok.above,I.ok.inj,I.ok.has,I.ok.cab,(λz=>nomatch z),I.ok.frames,I.ok.stk,I.ok.exf,I.ok.bs,I.ok.Z5,I.ok.RP,I.ok.V8,I.ok.yV,I.ok.XJ⟩,I.os,I.bare,I.base,I.loc,I.cell,I.free,I.vM,I.pin,I.hok,I.len⟩
theorem Inv.zdp{e:aN}(I:Inv (X.held e) pins σ H s)(hc:X.calm=true->X.A.handled=none):Inv X pins σ H s:=
 ⟨⟨I.ok.mod,I.ok.kind,I.ok.glob,I.ok.blt,I.ok.above,I.ok.inj,I.ok.has,I.ok.cab,hc,I.ok.frames,I.ok.stk,I.ok.exf,I.ok.bs,I.ok.Z5,I.ok.RP,I.ok.V8,I.ok.yV,I.ok.XJ⟩,I.os,I.bare,I.base,I.loc,I.cell,I.free,I.vM,I.pin,I.hok,I.len⟩
end
def zdq(C:aN)(p:Int)(wd:Str)(B0 B:Hp)(e T dx:aN)(H:Hp):Prop:=H e=some (wZ C e dx T)/\H T=some (Mp T)/\T≠e/\H dx=some (Ku dx (Dy p wd))/\dx≠e/\dx≠T/\B e=none/\B T=none/\B dx=none/\
 ∃H1,gR B0 B H1 H/\H1 e=none/\H1 T=none/\H1 dx=none
def spX(K:ao)(C:aN)(R:List aA->Int->Str->Prop):Sp:=λvs H _ E=>∃H0 ds p wd,Same H0 H/\fX K H0 vs ds/\R ds p wd/\∀e T dx H',zdq C p wd H0 H e T dx H'->E (.ref e) (some T) H'
theorem za6{A B Hx H':Hp}{e T T':aN}{o1 o2:HO}(g:gR A B Hx H')(be:B e=none)(bT:B T=none)(xe:Hx e=none)(xT:Hx T=none)(nT:H' T'=none):gR A B Hx (HL H' [T] e T' o1 o2):=by
 refine⟨λb o q=>?_,g.j9,λb o q=>?_,g.new⟩
 ·have z:=g.big _ _ q
  rw[zW (bV q be) (bV z nT) (by rw[bW];exact bV q bT)];exact z
 ·have z:=g.sub _ _ q
  rw[zW (bV q xe) (bV z nT) (by rw[bW];exact bV q xT)];exact z
theorem Ze{A B Hx H':Hp}{e T':aN}{o1 o2:HO}(g:gR A B Hx H')(be:B e=none)(xe:Hx e=none)(nT:H' T'=none):gR A B Hx (HL H' [] e T' o1 o2):=by
 refine⟨λb o q=>?_,g.j9,λb o q=>?_,g.new⟩
 ·have z:=g.big _ _ q
  rw[zW (bV q be) (bV z nT) (by simp)];exact z
 ·have z:=g.sub _ _ q
  rw[zW (bV q xe) (bV z nT) (by simp)];exact z
theorem Vu.fly{C:aN}{p:Int}{wd:Str}{B0 B H:Hp}{e dx T:aN}(w:Vu C p wd B0 B e dx H)(nT:H T=none)(ne:T≠e):zdq C p wd B0 B e T dx (HL H [] e T (wZ C e dx T) (Mp T)):=by
 obtain⟨H1,g,a1,a2,a3,a4,a5,a6⟩:=w;have hdT:dx≠T:=bV a6 nT;exact⟨za2,za3 ne,ne,by rw[zW a5 hdT (by simp)];exact a6,a5,hdT,a2,g.big.free nT,a4,H1,Ze g a2 a1 nT,a1,g.sub.free nT,a3⟩
section
variable{X:Cx}{B0 B H0 H:Hp}{σ:St}{D:Ends}{δ:List Slot}{pins:List (aN×Obj)}{s:aL}
theorem zdr{st:mj}{h0:ExceptHandler}{hs:List ExceptHandler}{pos:Pos}(hx:∀e s,X.xe e s->False)(h:cS X st D σ H):cS X (.Try [st] (h0::hs) [] [] pos) D σ H:=λpins s I=>by
 refine wpAny_Try_except (Bd (iB (h pins s I) (λf s1 q=>?_) λe s1 z=>(hx e s1 z).elim))
 cases f with
 |next=>exact wg (wg q)
 |ret v=>exact q
 |brk=>exact q
 |cont=>exact q
theorem Qx(I:Inv X pins σ H s)(hst:X.stack=X.env::X.outer)(hfr:X.env.frame=some X.env.locals)(hex:X.ex=[]):
  s.heap.FunFrames X.base (X.env::X.outer)/\(∀b∈X.env.locals::X.fs,H b=none)/\(X.env::X.outer).filterMap (·.frame)=X.env.locals::X.fs:=by
 obtain⟨m,hns,_⟩:=I.loc;have nex:∀b:aN,b∉X.ex:=λb z=>by rw[hex]at z;cases z
 have hb:X.base.get? X.env.locals=none:=by
  cases q:X.base.get? X.env.locals with
  |none=>rfl
  |some o=>exact absurd (cO (bw (I.ok.bs _ o q).1) I.ok.above) (nH _)
 have hfs:∀b∈X.fs,X.H₀ b=none/\∃o,X.s₀.heap.get? b=some o:=λb hb=>by
  obtain⟨_,o,ho,_⟩:=I.ok.yV.mem hb;exact⟨I.ok.XJ b hb,o,ho⟩
 refine⟨?_,?_,by rw[lQ,hfr];rfl⟩
 ·refine Iu (L:=X.env.locals) (m:=m) (by rw[I.ok.kind];decide) hfr hns hb (yr (λb hb o ho=>?_) I.ok.yV)
  obtain⟨sl,q⟩:=I.base.any ho (hfs b hb).1 (nex b);exact⟨_,q,rfl⟩
 ·intro b hb
  rcases aQ.mp hb with rfl|hb
  ·exact I.free
  ·obtain⟨h1,o,ho⟩:=hfs b hb
   exact I.base.free b o ho h1 (nex b)
theorem za7{P:bL}{w:dB}{fr ex:List aN}{h h':dW}{e T:aN}{oe:Obj}{o1 o2:HO}(l:Mh fr ex e oe h h')(ie:Dw (H e))(ix:∀x∈ex,Dw (H x))(hT:h.get? T=none)(nT:H T=none):Un fr [] H (HL H ex e T o1 o2) h h':=by
 have ne:∀b,H b=none->b≠e/\b∉ex:=λb n=>by
  refine⟨λz=>?_,λz=>?_⟩
  ·obtain⟨φ,r⟩:=ie;rw[<-z,n]at r;cases r
  ·obtain⟨φ,r⟩:=ix b z;rw[n]at r;cases r
 have nxt:∀b (o:HO),H b=some o->(∀φ,o≠.ext φ)->b≠e/\b≠T/\b∉ex:=λb o q z=>by
  refine⟨λq2=>?_,λq2=>?_,λq2=>?_⟩
  ·obtain⟨φ,r⟩:=ie;rw[q2,r]at q;cases q;exact z φ rfl
  ·rw[q2,nT]at q;cases q
  ·obtain⟨φ,r⟩:=ix b q2;rw[r]at q;cases q;exact z φ rfl
 refine⟨λb o q n hf hb=>?_,λb o q n hf hb=>?_,λb o q n hb=>?_,λb o q hb=>?_,λb xs q=>?_,λb o u' q=>?_,λb ps q=>?_⟩
 ·exact l.keep b o q hf (ne b n).2 (ne b n).1
 ·exact l.slot b o q hf (ne b n).2 (ne b n).1
 ·rw[zW (ne b n).1 (λz=>by subst z;rw[hT]at q;cases q) (ne b n).2];exact n
 ·exact l.there b o q
 ·obtain⟨a1,a2,a3⟩:=nxt b _ q (by intro φ z;cases z)
  rw[zW a1 a2 a3];exact q
 ·obtain⟨a1,a2,a3⟩:=nxt b _ q (by intro φ z;cases z)
  rw[zW a1 a2 a3];exact q
 ·obtain⟨a1,a2,a3⟩:=nxt b _ q (by intro φ z;cases z)
  exact⟨#[],by rw[zW a1 a2 a3,Array.append_empty];exact q⟩
theorem kj.unset(f:kj X.K B0 B H0 H σ δ){i:Nat}:kj X.K B0 B H0 H (σ.set i none) (δ.set i .un):=by
 refine⟨f.ent,by simp[f.len],λj sl e=>?_,λj k ds es p hjk e1 e2 e3=>?_⟩
 ·by_cases hj:j=i
  ·subst hj
   rw[bF (by simpa using(aV.mp e).1)]at e
   cases e
   trivial
  ·rw[bB (cH hj)]at e ⊢
   exact f.slot j sl e
 ·by_cases hj:j=i
  ·subst hj
   rw[bF (by simpa using(aV.mp e1).1)]at e1
   cases e1
  by_cases hk:k=i
  ·subst hk
   rw[bF (by simpa using(aV.mp e2).1)]at e2
   cases e2
  rw[bB (cH hj)]at e1 e3;rw[bB (cH hk)]at e2 ⊢;exact f.apart j k ds es p hjk e1 e2 e3
end
section
variable{X:Cx}{CX:U6}{k:Nat}{f:aN}{fd:cU}{ps:List Str}{sp:Sp}{E:XK}{Ex:aF->aL->Prop}
theorem za8{pins:List (aN×Obj)}{σ:St}{H:Hp}{s:aL}{Q:VK}{us:List aF}{vs:List V}(F:i_ X.prog X.w X.K X.mg X.base CX k f fd ps sp)(hr:jH k X.A)(hb:Binds X.K fd ps [])(hx:∀e s',CX X.stack H s E e s'->Ex e s')
  (I:Inv X pins σ H s)(r:Vals vs us)(h:sp vs H Q E):wpAny (model X.prog X.w) X.A (call (.ref f) us) (EP X pins σ Q) Ex s:=by
 have hl:(us ++ []).length=ps.length:=by rw[gK,<-r.length];exact F.len _ _ _ _ h
 have hbb:=hb s us I.zm hl;rw[gK]at hbb;refine sH (qR (F.run X.A X.stack s H ⟨us,[]⟩ us vs Q E hr I.env0 hbb r h) λr s' hq=>?_)
 cases r with
 |error e=>exact hx e s' hq
 |ok fl=>
  cases fl with
  |ret u=>exact I.after hq
  |next=>exact iT hq
  |brk=>exact iT hq
  |cont=>exact iT hq
end
section
variable{X:Cx}{B0 B H0 H:Hp}{σ:St}{D:Ends}{δ:List Slot}{C M fa:aN}{fd:cU}{ps:List Str}{ds:List aA}{R:List aA->Int->Str->Prop}{k jn jc:Nat}{p:Int}{wd y g xM n xc:Str}{a:dz}{as:List dz}{p1 p2 p3 p4 p5 p6 p7 p8 hp pos:Pos}
theorem zds(fr:kj X.K B0 B H0 H σ δ)(hx:∀e s,X.xe e s->False)(hst:X.stack=X.env::X.outer)(hfr:X.env.frame=some X.env.locals)(hex:X.ex=[])(hcm:X.calm=true->X.A.handled=none)
  (F:i_ X.prog X.w X.K X.mg X.base (CXe X.prog X.w) k fa fd ps (spX X.K C R))(hr:jH k X.A)(hb:Binds X.K fd ps [])(hg:Gl X g)(hm:X.mg g=some (.ref fa))(hk:gZ X.K (.ref fa)=true)(ha:VA X (a::as) δ ds)(hR:R ds p wd)
  (hgM:Gl X xM)(hmM:X.mg xM=some (.ref M))(sub:za5 X.K C M)(hN:X.N.Nodup)(hjn:X.N[jn]?=some n)(hkn:X.env.scope.names.lookup n=some .local)(hjc:X.N[jc]?=some xc)(hkc:Loc X.env.scope xc)(hfc:X.fn xc=true\/X.env.scope.names.lookup xc=some .local)(hne:jc≠jn)
  (q:∀e dx T σ' Ha Hb,kj X.K B0 B Ha Hb σ' (((δ.set jn .un).set jc (.ref e)).set jn .un)->Hb e=some (wZ C e dx T)->Hb dx=some (Ku dx (Dy p wd))->Ha e=none->Ha dx=none->B e=none->B dx=none->dx≠e->D.nx σ' Hb)
  (hdb:(g==("__debug__":Str))=false:=by decide)(hdM:(xM==("__debug__":Str))=false:=by decide)(hdn:(n==("__debug__":Str))=false:=by decide)(hcn:(n==("__classdict__":Str))=false:=by decide)
  (hs:swapsWith (.Call (.Name g p1) (a::as) [] p2) (some (.Name y p3)) p4.line X.env=pure false:=by rfl)(hs2:swapsWith (.Name n p6) (some (.Name xc p7)) p8.line X.env=pure false:=by rfl)
  (he:starEach (a::as) X.env=(false,eval a X.env)::starEach as X.env:=by rfl)(hpl:(backTo p2 (starEach as X.env)).any (·.1)=false:=by rfl):
  cS X (.Try [.Assign [.Name y p3] (.Call (.Name g p1) (a::as) [] p2) p4] [.ExceptHandler (some (.Name xM p5)) (some n) [.Assign [.Name xc p7] (.Name n p6) p8] hp] [] [] pos) D σ H:=λpins s I=>by
 obtain⟨t,pa,hat⟩:=ha;refine wpAny_Try_except (Bd (wpAny_Assign_Name (iB (Q:=λ_ _=>False) ?_ (λ_ _ z=>z.elim) λ_ _ z=>z) hs))
 refine o9 (xY I hg hm ?_ hdb)
 refine BL (h₀:=X.base) I.ok.mod.kin hk (iB (pa p2 pins s σ H (λvs Hh=>∃Ha,gR H0 H Ha Hh/\fX X.K Ha vs ds) I ?_) (λus s1 ⟨vs,Hh,I1,r,Ha,g1,rs⟩=>⟨I1.zm,?_⟩) λe s z=>(hx e s z).elim) he hpl
 ·exact hat B0 B σ H0 H _ fr λvs H1 gY g1 rs=>⟨H1,g1,rs⟩
 refine jL (za8 (Q:=λ_ _=>False) (E:=λv To H'=>∃e T dx,v=.ref e/\To=some T/\zdq C p wd Ha Hh e T dx H') F hr hb (λe s' hq=>?_) I1 r ⟨Ha,ds,p,wd,g1.sub,rs,hR,λe T dx H' x=>⟨e,T,dx,rfl,rfl,x⟩⟩) λu s2 ⟨v,H2,_,_,z⟩=>z.elim
 obtain⟨ea,C',dx',T',H',rfl,os,bare,un,hok,ge',gT',ne',se,sT,e1,T0,dx,z1,z2,x⟩:=hq;cases z1;cases z2;obtain⟨hh,gg,d,tk,os'⟩:=s';obtain rfl:os'=s1.os:=os;have I2:Inv X pins σ H' ⟨hh,gg,d,tk,s1.os⟩:=I1.call (h':=hh) (g':=gg) (d':=d) (t':=tk) (ch:=[]) un hok bare (λb z=>absurd z (by simp))
 obtain⟨ff,nf,fre⟩:=Qx I2 hst hfr hex;obtain⟨ge,gT,ne,gd,hde,hdT,b1,b2,b3,H1x,gx,c1,c2,c3⟩:=x;obtain⟨us0,sl,g0,u1⟩:=(I2.hok ea _ ge).1;obtain⟨oT,ts,gt,dt,t3⟩:=(I2.hok T' _ gT).1;refine WW (base:=X.base) (L:=X.env.locals) (out:=X.outer) (by rw[I.ok.frames,hst]) ff hfr g0 rfl u1 ne gt dt t3 λh' l=>?_
 rw[fre]at l;obtain⟨T,oT2,ts2,hT,g1',zic,g2,d2,t32⟩:=l.exc;have nT:H' T=none:=I2.hok.fresh hT;have gTn:=Bk hT;have ie:Dw (H' ea):=⟨_,ge⟩;have ix:∀x∈[T'],Dw (H' x):=λx hx=>by rw[bW.mp hx];exact⟨_,gT⟩
 have gm:h'.get? ea=some { cls:=.ref C,dict:=some dx,data:=.fields (us0.setIfInBounds 1 (.ref T)),slots:=sl }:=g1';have hsz:1<us0.size:=(mD.mp u1).1;have hsz3:3<ts2.size:=(mD.mp t32).1;have zid:zj X.prog X.w (HL H' [T'] ea T (wZ C ea dx T) (Mp T)) h':=Mq I2.hok l nf ie ix gTn nT (wZ.ok gm (by simp[hsz])) (Mp.ok g2 d2 t32)
 have un3:Un (frs X.stack) [] H' (HL H' [T'] ea T (wZ C ea dx T) (Mp T)) hh h':=by
  have e0:frs X.stack=X.env.locals::X.fs:=by rw[hst];exact fre
  rw[e0];exact za7 (P:=X.prog) (w:=X.w) l ie ix gTn nT
 have I3:Inv X pins σ (HL H' [T'] ea T (wZ C ea dx T) (Mp T)) ⟨h',gg,d,tk,s1.os⟩:=Inv.call (s:=⟨hh,gg,d,tk,s1.os⟩) (H:=H') (h':=h') (g':=gg) (d':=d) (t':=tk) (ch:=[]) I2 un3 zid bare (λb z=>absurd z (by simp))
 have gx':=za6 (T':=T) (o1:=wZ C ea dx T) (o2:=Mp T) gx b1 b2 c1 c2 nT;have gdx:HL H' [T'] ea T (wZ C ea dx T) (Mp T) dx=some (Ku dx (Dy p wd)):=by rw[zW hde (bV gd nT) (by rw[bW];exact hdT)];exact gd
 have geF:HL H' [T'] ea T (wZ C ea dx T) (Mp T) ea=some (wZ C ea dx T):=za2;have gTF:HL H' [T'] ea T (wZ C ea dx T) (Mp T) T=some (Mp T):=za3 zic
 generalize HL H' [T'] ea T (wZ C ea dx T) (Mp T)=Hc at *
 show wpAny (model X.prog X.w) X.A (handleBy (.ref ea) X.env _) _ _ _;refine wpAny_handleBy_cons (codeAny_handlers_test (xY (X:=X.held ea) (I3.held ea) hgM hmM ?_ hdM)) (by intro q;cases q)
 refine Qw (X:=X) I3.zm sub gm ?_
 show codeAny _ _ (.handlers (.ref ea) [.ExceptHandler none (some n) _ _] X.env) _ _;refine codeAny_handlers_suite_as ?_
 have gt4:=jo (qT (·.setIfInBounds 3 iG)) g2 (pq (j7 d2 _))
 refine wpAny_setFlight_none gm rfl (by simp[hsz]) g2 d2 hsz3 ?_
 have hu:upd Hc T (Mp T)=Hc:=by
  funext b
  by_cases hb:b=T
  ·subst hb;rw[cQ,gTF]
  ·rw[bf hb]
 have I4:=I3.write (x:=T) (e:=T) (h':=h'.update T (qT (·.setIfInBounds 3 iG))) (t':=tk) (by rw[gTF];exact iI) (.inl rfl) (λb o hb gb=>(fV _ _ (cH hb)).trans gb) ⟨_,gt4⟩ (Mp.ok gt4 (j7 d2 _) (by simp[hsz3]))
 rw[hu]at I4;refine tV I4 hN hjn (.inl hkn) (v:=.ref ea) rfl (λs5 I5=>?_) (.inr hkn)
 have suite:=HJ (E_ (X:=X.held ea) (i:=jc) (pos:=p8) (pos':=p7) hN hjc hkc (j8 (X:=X.held ea) (i:=jn) (pos:=p6) hjn (.inl hkn) hdn hcn) hs2 hfc);have hlj:jn < σ.length:=by rw[fr.len];have:=fr.len;rw[<-fr.len,I.len];exact(aV.mp hjn).1
 refine iB (suite pins s5 (σ.set jn (some (.ref ea))) Hc { nx:=λσ' H2=>σ'=(σ.set jn (some (.ref ea))).set jc (some (.ref ea))/\H2=Hc,rt:=λ_ _=>False } (I5.held ea) ⟨.ref ea,bF hlj,rfl,rfl⟩) (λf s6 h6=>?_) λ_ _ z=>z.elim
 cases f with
 |next=>
  obtain⟨σ6,H6,I6,rfl,rfl⟩:=h6;refine WX (I6.zdp hcm) hN hjn hkn λs7 I7=>⟨_,_,I7,?_⟩
  have fr2:=((fr.grow g1).grow gx');have fr3:=(((fr2.SN (i:=jn) (v:=.ref ea) (sl:=.un) trivial rfl).SN (i:=jc) (v:=.ref ea) (sl:=.ref ea) rfl rfl).unset (i:=jn));exact q ea dx T _ H1x _ fr3 geF gdx c1 c3 ((fr.grow g1).ent.big.free b1) ((fr.grow g1).ent.big.free b3) hde
 |ret v=>obtain⟨_,_,_,_,_,z⟩:=h6;exact z.elim
 |brk=>obtain⟨_,_,_,z⟩:=h6;exact z.elim
 |cont=>obtain⟨_,_,_,z⟩:=h6;exact z.elim
end
end L2
namespace L2
open PySem PySem.Spec PyProof.Rows PySem.W
structure Tg(K:ao)(C:aN):Prop where
 ga:findIn K (.ref C) "__getattribute__"=some (some (.builtin "BaseException.__getattribute__"))
 gh:findIn K (.ref C) "__getattr__"=some none
 mb:mroIn K C (.type "BaseException")=some true
 hd:hasDictIn K C=true
 cl:findIn K (.ref C) "__class__"=some (some (.builtin "object.__class__"))
 cg:specialIn K (.builtin "object.__class__") "__get__"=some (some (.builtin "getset_descriptor.__get__"))
 ct:takesIn K (.builtin "object.__class__")=some true
 mo:mroIn K C (.type "object")=some true
section
variable{prog:bL}{w:dB}{A:fW}{E:aF->aL->Prop}{s:aL}{K:ao}{x C:aN}{ox:Obj}{od:Option Obj}{name:Str}
theorem Zf{R:BK->aL->Prop}{tk:Tok}(KX:K.In s.heap)(I:InstAt s.heap x ox C od)(hm:mroIn K C (.type "BaseException")=some true)
  (h:wpAny (model prog w) A.in1 (wL.«object.__getattribute__» ⟨[.ref x,.str name tk],[]⟩) (λfin s'=>match fin with | .done f=>R (.ok f) s' | .again c'=>c'.quiet=true/\codeAny (model prog w) A c' R s') (λe s'=>R (.error e) s') s):
  codeAny (model prog w) A (.call (.builtin "BaseException.__getattribute__") ⟨[.ref x,.str name tk],[]⟩) R s:=
 vH Le.ga.plain PySem.F.entry_bexc_ga (@check_slot (model prog w) _ _ s "BaseException.__getattribute__" "BaseException" "__getattribute__" (.ref x) [.str name tk] [] _ (by decide +kernel) (by decide +kernel) (I.type.andThen (looks_mroIn KX hm)) (PySem.F.args_bexc_ga _ _) h)
theorem Mr{expr fill:Bool}{Q:aF->aL->Prop}{tk:Tok}(KX:K.In s.heap)(I:InstAt s.heap x ox C od)(c:Tg K C)
  (h:wpAny (model prog w) A.in1 (wL.«object.__getattribute__» ⟨[.ref x,.str name tk],[]⟩) (λfin s'=>match fin with | .done (.ret v)=>wpAny (model prog w) A (handedOut v) Q E s'|_=>False) (λ_ _=>False) s):
  wpAny (model prog w) A (getAttrBy (.ref x) (.str name tk) fill expr) Q E s:=by
 have L0:=I.type (M:=model prog w);have L1:=looks_findIn (M:=model prog w) KX c.ga;have L2:Looks (model prog w) s.heap (hookBefore (.ref C)) none:=looks_hook KX (by rw[if_pos (show onTheHeap (.ref C)=true from rfl)];exact c.gh)
 refine mK (aD (L0 _ _ _ _ (λ_ _ e=>e) (aD (L1 _ _ _ _ (λ_ _ e=>e) ?_))))
 dsimp only
 rw[show(onTheHeap (bR C)&&um "BaseException.__getattribute__"==um "object.__getattribute__")=false from by rw[show(um "BaseException.__getattribute__"==um "object.__getattribute__")=false from by decide +kernel,Lf],if_neg (by decide)]
 refine aD (L2 _ _ _ _ (λ_ _ e=>e) (aD (Hz (mK ?_))))
 unfold callGetattribute;rw[show(expr&&onTheHeap (um "BaseException.__getattribute__"))=false from Lf _,if_neg (by decide)]
 unfold boundAndCalled;rw[Le.ga.bind];refine aD (bA ?_)
 show wpAny _ _ (call (.builtin "BaseException.__getattribute__") [.ref x,.str name tk]) _ _ _;refine sH (Zf KX I c.mb (iB h (λfin s' z=>?_) λ_ _ z=>z.elim))
 rcases fin with(_|_|_|_)|_<;>first|exact z|exact z.elim
theorem Ti{expr:Bool}{v:aF}{Q:aF->aL->Prop}(KX:K.In s.heap)(I:InstAt s.heap x ox C od)(c:Tg K C)(hf:findObj K C od name=some (.value v))(hh:handedIn v=true)(h:Q v { s with toks:=s.toks+1 }):
  wpAny (model prog w) A (getAttr (.ref x) name expr) Q E s:=by
 refine aD (wpAny_mkText (Mr (s:={ s with toks:=s.toks+1 }) KX I c ?_))
 obtain⟨hh',g,d,t,os⟩:=s;have L0:=I.type (M:=model prog w);have L1:=looks_find (M:=model prog w) KX I hf;refine aD (bA (aD (bA (aD (L0.at (aD (L1.at ?_)))))))
 refine bA ?_
 show wpAny _ _ (handedOut v) _ _ _;rw[handedOut_of hh];exact bA h
theorem Tj{Q:Option aF->aL->Prop}{odd:Obj}(KX:K.In s.heap)(I:InstAt s.heap x ox C (some odd))(c:Tg K C)(h:Q (some (.ref C)) { s with toks:=s.toks+1 }):wpAny (model prog w) A (getAttr? (.ref x) "__class__") Q E s:=by
 have hf:findObj K C (some odd) "__class__"=some (.bind (.builtin "getset_descriptor.__get__") (.builtin "object.__class__")):=findObj_data (by obtain⟨cd,hc,_⟩:=any_some c.hd;rw[hc];rfl) c.cl c.cg c.ct
 unfold getAttr? getAttrBy?;refine aD (wpAny_mkText (aD (Hz (Mr (s:={ s with toks:=s.toks+1 }) KX I c ?_))))
 obtain⟨hh',g,d,t,os⟩:=s;have L0:=I.type (M:=model prog w);have L1:=looks_find (M:=model prog w) KX I hf;refine aD (bA (aD (bA (aD (L0.at (aD (L1.at ?_)))))))
 show wpAny _ _ (holding [um "object.__class__"] (call (.builtin "getset_descriptor.__get__") [.builtin "object.__class__",.ref x,.ref C]) >>= ret) _ _ _;refine aD (mK (sH (class_get (ox:=ox) (od:=some odd) KX I c.mo (bA ?_))))
 show wpAny _ _ (handedOut (.ref C)) _ _ _;exact handed_on rfl (bA h)
theorem Tn{odd:Obj}(c:Tg K C):KitX K (.ref x) (.ref C) (λh=>InstAt h x ox C (some odd)) where
 ty:=λ_ _ _ I=>I.type
 it:=λ_ _ X _=>by
  obtain⟨cdD,hcD,_⟩:=any_some c.hd;unfold clsIn at hcD
  split at hcD
  ·rename_i c' d' cd' sl' ho
   intro A' Q' E' s' k q;unfold isType loadHead;exact aD (Ep (k _ _ (X _ _ ho)) (bA q))
  ·cases hcD
 ne:=λh tp dd its n sl X htp=>by
  obtain⟨cdD,hcD,_⟩:=any_some c.hd;refine Gg.mpr λq=>?_
  have e:C=tp:=bR.inj (beq_iff_eq.mp q);subst e;unfold clsIn at hcD
  split at hcD
  ·rename_i c' d' cd' sl' ho
   have z:=(X _ _ ho).symm.trans htp;cases z
  ·cases hcD
 ca:=λX I k=>Tj X I c k
end
end L2
namespace L2
open PySem PySem.Spec PyProof.Rows
structure u9(K:ao)(H:Hp)(e C:aN)(p:Int)(wd:Str):Prop where
 ex:∃dx T,H e=some (wZ C e dx T)/\H dx=some (Ku dx (Dy p wd))/\dx≠e
 gt:Tg K C
 np:jG K C "place"
 nw:jG K C "word"
section
variable{X:Cx}{pins:List (aN×Obj)}{σ:St}{H H':Hp}{s:aL}{e C:aN}{p:Int}{wd f x:Str}
theorem u9.mono{K:ao}(c:u9 K H e C p wd)(s:Same H H'):u9 K H' e C p wd:=by
 obtain⟨dx,T,a,b,d⟩:=c.ex;exact⟨⟨dx,T,s _ _ a,s _ _ b,d⟩,c.gt,c.np,c.nw⟩
theorem u9.inst(c:u9 X.K H e C p wd)(I:Inv X pins σ H s):∃(ox od:Obj)(mA:Str->Option aF),uV s.heap e ox C (some od)/\(∀f,u5 ((Dy p wd).lookup f) (mA f))/\∀name,zp name od=some (mA name):=by
 obtain⟨dx,T,ge,gd,hne⟩:=c.ex;obtain⟨us,sl,g,_⟩:=(I.hok e _ ge).1;obtain⟨mA,n1,r,_⟩:=Ku.at I.hok gd;obtain⟨od,god,hl⟩:=Fb n1;exact⟨_,od,mA,⟨g,rfl,rfl,god⟩,r,hl⟩
theorem za9:pC X (.builtin "isinstance") (λxs H Q=>∃e C p wd M b,xs=[.ref e,.ref M]/\u9 X.K H e C p wd/\dR X.K (.ref C) (.ref M)=some b/\Q (.bl b) H):=by
 intro pins s σ H xs us Q I r h;obtain⟨e,C,p,wd,M,b,rfl,c,hk,q⟩:=h;obtain⟨u1,u2,rfl,r1,r2⟩:=vals2 r;cases r1;cases r2;obtain⟨ox,od,mA,J,_,_⟩:=c.inst I;exact mL (Tn (ox:=ox) (odd:=od) c.gt) I.zm J hk (λz=>nomatch z) λtk=>⟨.bl b,H,I.tok tk,rfl,q⟩
theorem zdu:pC X (.builtin "isinstance") (λxs H Q=>∃e C p wd tn b,xs=[.ref e,.ty tn]/\u9 X.K H e C p wd/\dR X.K (.ref C) (.type tn)=some b/\Q (.bl b) H):=by
 intro pins s σ H xs us Q I r h;obtain⟨e,C,p,wd,tn,b,rfl,c,hk,q⟩:=h;obtain⟨u1,u2,rfl,r1,r2⟩:=vals2 r;cases r1;cases r2;obtain⟨ox,od,mA,J,_,_⟩:=c.inst I;exact mL (Tn (ox:=ox) (odd:=od) c.gt) I.zm J hk (λz=>nomatch z) λtk=>⟨.bl b,H,I.tok tk,rfl,q⟩
theorem zba:pC X (.builtin "isinstance") (λxs H Q=>∃e C p wd t M1 M2 M3 b,xs=[.ref e,.ref t]/\u9 X.K H e C p wd/\H t=some (.tup [.ref M1,.ref M2,.ref M3])/\Iv X.K (.ref C) [.ref M1,.ref M2,.ref M3]=some b/\Q (.bl b) H):=by
 intro pins s σ H xs us Q I r h;obtain⟨e,C,p,wd,t,M1,M2,M3,b,rfl,c,ht,hk,q⟩:=h;obtain⟨u1,u2,rfl,r1,r2⟩:=vals2 r;cases r1;cases r2;obtain⟨ox,od,mA,J,_,_⟩:=c.inst I;obtain⟨_,its,rv,ob,g,hc,n,hd⟩:=I.hok t _ ht;obtain⟨oc,odd,odt,osl⟩:=ob;simp only at hc hd;subst hc;subst hd;obtain rfl:its=[.ref M1,.ref M2,.ref M3]:=by
  cases rv with|cons a rv=>cases rv with|cons b rv=>cases rv with|cons d rv=>cases rv;cases a;cases b;cases d;rfl
 exact PySem.W.kia_tup (Tn (ox:=ox) (odd:=od) c.gt) I.zm J g hk (λz=>nomatch z) λtk=>⟨.bl b,H,I.tok tk,rfl,q⟩
def zft(K:ao)(i:Nat)(f:Str):TE:=λσ H Q=>∃e C p wd v,σ[i]?=some (some (.ref e))/\u9 K H e C p wd/\jG K C f/\(Dy p wd).lookup f=some v/\Q v H
theorem Dz{i:Nat}{px pos:Pos}(hN:X.N[i]?=some x)(hv:PK X.env.scope x)(hb:attributeBase (.Name x px) f X.env (eval (.Name x px) X.env)=eval (.Name x px) X.env)(hd:(x==("__debug__":Str))=false:=by decide)(hcd:(x==("__classdict__":Str))=false:=by decide):
  PE X (.Attribute (.Name x px) f pos) (zft X.K i f):=by
 intro pins s σ H Q I h;obtain⟨e,C,p,wd,v,hs,c,na,hl,q⟩:=h;refine U5 hb (jL (j8 (i:=i) hN hv hd hcd pins s σ H (λy H1=>y=.ref e/\H1=H) I ⟨.ref e,hs,rfl,rfl⟩) λu s1 ⟨y,H1,I1,ry,ey,eH⟩=>?_)
 subst ey;subst eH;obtain rfl:u=bR e:=ry;obtain⟨ox,od,mA,J,r,hlk⟩:=c.inst I1;obtain⟨u,hu,ru⟩:=u5.some_of (v:=v) (o:=mA f) (by rw[<-hl];exact r f)
 exact Ti I1.zm J c.gt (Rx c.gt.hd na rfl (by rw[hlk,hu])) (Lk ru) ⟨v,H1,I1.tok _,ru,q⟩
end
section
variable{X:Cx}{δ:List Slot}{pos px:Pos}{a b e:dz}{x:Str}{d:aA}{ds:List aA}{k:Int}{j:Nat}
theorem Zg:xU X (compareOp .Is) (λx y H Q=>∃b c,x=.bl b/\y=.bl c/\Q (.bl (b==c)) H):=by
 intro pins s σ H x y v u Q I rx ry h;obtain⟨b,c,rfl,rfl,q⟩:=h;cases rx;cases ry;refine wpAny_is_plain (by rfl) (IW I q ?_)
 cases b<;>cases c<;>rfl
theorem Qy:xU X (compareOp .IsNot) (λx y H Q=>∃b c,x=.bl b/\y=.bl c/\Q (.bl (!(b==c))) H):=by
 intro pins s σ H x y v u Q I rx ry h;obtain⟨b,c,rfl,rfl,q⟩:=h;cases rx;cases ry;refine wpAny_isNot_plain (by rfl) (IW I q ?_)
 cases b<;>cases c<;>rfl
theorem zbT{K:ao}{b c:Bool}:HY K (λx y H Q=>∃b c,x=.bl b/\y=.bl c/\Q (.bl (b==c)) H) (.bool b) (.bool c) (.bool (b==c)):=λv u H0 H Q s r1 r2 k=>by
 cases r1;cases r2;exact⟨_,_,rfl,rfl,k _ _ _ (.refl s) (.bl _)⟩
theorem Vw{K:ao}{b c:Bool}:HY K (λx y H Q=>∃b c,x=.bl b/\y=.bl c/\Q (.bl (!(b==c))) H) (.bool b) (.bool c) (.bool (!(b==c))):=λv u H0 H Q s r1 r2 k=>by
 cases r1;cases r2;exact⟨_,_,rfl,rfl,k _ _ _ (.refl s) (.bl _)⟩
theorem fX.put{K:ao}{H:Hp}{v:V}(rv:Rep K H v d):∀{xs:List V}{ds:List aA}(j:Nat),fX K H xs ds->fX K H (xs.set j v) (ds.set j d)
 |_,_,_,.nil=>.nil
 |_,_,0,.cons _ r=>.cons rv r
 |_,_,j+1,.cons a r=>.cons a (fX.put rv j r)
theorem Zh(i:Nat)(hi:δ[i]?=some (.own ds))(h:VE X b δ (.int (j:Nat)))(ha:ds[j]?=some d)(hs:yg b:=by intro _ _;rfl)(hN:X.N[i]?=some x:=by rfl)(hv:PK X.env.scope x:=by first|exact bG rfl|exact fj (bG rfl)|exact fj (fj rfl))(hd:(x==("__debug__":Str))=false:=by decide)
  (hcd:(x==("__classdict__":Str))=false:=by decide):VE X (.Subscript (.Name x px) b pos) δ d:=
 .of (Yd U_ (j8 hN hv hd hcd) fZ hs) λB0 B σ H0 H Q f q=>by
  obtain⟨p,xs,h1,h2,h3,h4,h5⟩:=f.slot i _ hi;refine⟨.ref p,h1,h B0 B σ H0 H _ f λv H1 gY g r=>?_⟩
  cases r;obtain⟨z,hz,rz⟩:=(h5.mono g.j9).get ha;exact⟨p,xs,_,z,rfl,rfl,rW.of (g.big _ _ h2),cu hz,q z H1 gY g rz⟩
theorem kj.put{K:ao}{B0 B H0 H:Hp}{σ:St}(f:kj K B0 B H0 H σ δ){i:Nat}{p:aN}{xs:List V}{y:V}(hi:δ[i]?=some (.own ds))(hp:σ[i]?=some (some (.ref p)))(h1:H p=some (.lst xs))(ry:Rep K H0 y d):
  kj K B0 B H0 (upd H p (.lst (xs.set j y))) σ (δ.set i (.own (ds.set j d))):=by
 obtain⟨p',xs',e1,e2,e3,e4,e5⟩:=f.slot i _ hi;rw[hp]at e1;cases e1;rw[h1]at e2;cases e2;have hl:i < δ.length:=(aV.mp hi).1;refine⟨⟨λb u e=>?_,f.ent.j9,λb u e=>?_,f.ent.new⟩,by simp[f.len],λj sl e=>?_,λj k ds' es q hjk a1 a2 a3=>?_⟩
 ·have:b≠p:=bV e e4
  rw[bf this];exact f.ent.big b u e
 ·have:b≠p:=bV e e3
  rw[bf this];exact f.ent.sub b u e
 ·by_cases hj:j=i
  ·subst hj
   rw[bF hl]at e;cases e;exact⟨p,_,hp,cQ,e3,e4,e5.put ry _⟩
  ·rw[bB (cH hj)]at e
   have q:=f.slot j sl e;cases sl with
   |un=>trivial
   |ref a=>exact q
   |val d=>exact q
   |own ds'=>
    obtain⟨p2,xs2,g1,g2,g3,g4,g5⟩:=q;have:p2≠p:=λz=>by subst z;exact f.apart i j ds ds' p2 (cH hj) hi e hp g1
    exact⟨p2,xs2,g1,by rw[bf this];exact g2,g3,g4,g5⟩
 ·have c1:∃Z9,δ[j]?=some (.own Z9):=by
   by_cases hj:j=i
   ·subst hj;exact⟨_,hi⟩
   ·rw[bB (cH hj)]at a1;exact⟨_,a1⟩
  have c2:∃Z9,δ[k]?=some (.own Z9):=by
   by_cases hk:k=i
   ·subst hk;exact⟨_,hi⟩
   ·rw[bB (cH hk)]at a2;exact⟨_,a2⟩
  obtain⟨d1,c1⟩:=c1;obtain⟨d2,c2⟩:=c2;exact f.apart j k d1 d2 q hjk c1 c2 a3
theorem Zi(i:Nat){tp:Pos}(hi:δ[i]?=some (.own ds))(hb:VE X b δ (.int (j:Nat)))(hj:j<ds.length)(h:VE X e δ d)(hN:X.N[i]?=some x:=by rfl)(hv:PK X.env.scope x:=by first|exact bG rfl|exact fj (bG rfl)|exact fj (fj rfl))(hd:(x==("__debug__":Str))=false:=by decide)
  (hcd:(x==("__classdict__":Str))=false:=by decide)(hs:swapsWithSole [.Subscript (.Name x px) b tp] e pos.line X.env=pure false:=by rfl)(hw:swappedStores [.Subscript (.Name x px) b tp] e X.env=pure none:=by rfl)
  (h1:(assignEach [.Subscript (.Name x px) b tp] X.env).map (·.2)=[assign (.Subscript (.Name x px) b tp) X.env]:=by rfl)
  (ha:∀v,assign (.Subscript (.Name x px) b tp) X.env v=(do
   let ov <-holding [v] (eval (.Name x px) X.env)
   let iv <-holding [v,ov] (eval b X.env)
   standAt tp
   holding [v,ov,iv] (setItem ov iv v)
   release [v,ov,iv] []):=by intro _;rfl) :
  VS X (.Assign [.Subscript (.Name x px) b tp] e pos) δ (.nx (δ.set i (.own (ds.set j d)))):=λB0 B σ H0 H D f ok pins s I=>by
 refine X3 fZ (zcA (j8 hN hv hd hcd) fZ set_list ha) hs hw h1 pins s σ H D I (h B0 B σ H0 H _ f λv H1 gY g r=>?_)
 have f1:=f.grow g;obtain⟨p,xs,z1,z2,z3,z4,z5⟩:=f1.slot i _ hi;refine⟨.ref p,z1,hb B0 B σ H1 gY _ f1 λv2 H2 nA g2 r2=>?_⟩
 cases r2;have hl:=z5.length;refine⟨p,xs,_,j,rfl,rfl,g2.big _ _ z2,?_,ok σ H2 _ (g.j9.trans g2.j9) ((f1.grow g2).put hi z1 (g2.big _ _ z2) (r.mono g2.j9))⟩
 rw[hl];unfold Z7;rw[if_pos (by omega),if_pos (by omega),jm]
theorem zdv{B0 B H0 H:Hp}{σ:St}{D:Ends}(i:Nat)(f:kj X.K B0 B H0 H σ δ)(h:VE X e δ d)(hN:X.N.Nodup)(q:∀σ' Ha Hb,gR H0 H Ha Hb->kj X.K B0 B Ha Hb σ' (δ.set i (.val d))->D.nx σ' Hb)(hi:X.N[i]?=some x:=by rfl)(hx:Loc X.env.scope x:=by first|exact bG rfl|exact fj rfl)(hs:swapsWith e (some (.Name x px)) pos.line X.env=pure false:=by rfl)(hf:X.fn x=true\/X.env.scope.names.lookup x=some .local:=by first|exact .inl rfl|exact .inr rfl):
  cS X (.Assign [.Name x px] e pos) D σ H:=λpins s I=>
 E_ (i:=i) hN hi hx fZ hs hf pins s σ H D I (h B0 B σ H0 H _ f λv H1 gY g r=>q _ H1 gY g ((f.grow g).set r))
def Ms(P:bL)(w:dB)(K:ao)(mg:Str->Option aF)(base:dW)(k:Nat)(x:Str)(ps:List Str)(C:aN)(R:List aA->Int->Str->Prop):Prop:=
 ∃f fd,i_ P w K mg base (CXe P w) k f fd ps (spX K C R)/\mg x=some (.ref f)/\gZ K (.ref f)=true/\Binds K fd ps []
theorem Vx{K:ao}{d:aA}{b:Bool}(h:(match d with | .none=>false|_=>true)=b):HY K (λx y H Q=>y=.non/\Q (.bl (!decide (x=.non))) H) d .none (.bool b):=λv u H0 H Q s r1 r2 k=>by
 cases r2;subst h;refine⟨rfl,k _ _ _ (.refl s) ?_⟩
 cases r1<;>exact .bl _
theorem Zj{B0 B H0 H:Hp}{σ:St}{D:Ends}{fa:aN}{fd:cU}{ps:List Str}{sp:Sp}{n:Nat}{c e2:dz}{g:Str}{body:List mj}{p1 p3 p4 p5:Pos}{ea:aN}(i:Nat)(f:kj X.K B0 B H0 H σ δ)(hc:VT X c δ true)(he2:VE X e2 δ d)(F:i_ X.prog X.w X.K X.mg X.base qz n fa fd ps sp)(hr:jH n X.A)(hm:X.mg g=some (.ref fa))(hk:gZ X.K (.ref fa)=true)(hb:Binds X.K fd ps [])
  (hi:δ[i]?=some (.ref ea))(hsp:∀Ha Hb v,gR H0 H Ha Hb->Rep X.K Ha v d->∀Q:VK,(∀Ha' Hb',gR Ha Hb Ha' Hb'->Q (.bl true) Hb')->sp [.ref ea,v] Hb Q E0)(q:∀Ha Hb,gR H0 H Ha Hb->kj X.K B0 B Ha Hb σ δ->D.nx σ Hb)
  (hg:Gl X g:=by rfl)(hN:X.N[i]?=some x:=by rfl)(hv:PK X.env.scope x:=by first|exact bG rfl|exact fj (bG rfl)|exact fj (fj rfl))(hd:(x==("__debug__":Str))=false:=by decide)(hcd:(x==("__classdict__":Str))=false:=by decide)(hdg:(g==("__debug__":Str))=false:=by decide)
  (he:starEach [.Name x px,e2] X.env=(false,eval (.Name x px) X.env)::starEach [e2] X.env:=by rfl)(he':starEach [e2] X.env=(false,eval e2 X.env)::starEach [] X.env:=by rfl)(hpl:(backTo p3 (starEach [e2] X.env)).any (·.1)=false:=by rfl)
  (hit:∀whole,isTrue (.Call (.Name g p1) [.Name x px,e2] [] p3) X.env whole=(do let v <-whole;standAt (dz.Call (.Name g p1) [.Name x px,e2] [] p3).pos;holding [v] (truthy v)):=by intro _;rfl):
  cS X (.If (.BoolOp .And [c,.UnaryOp .Not (.Call (.Name g p1) [.Name x px,e2] [] p3) p4] p5) body [] pos) D σ H:=λpins s I=>by
 refine Gi (PW.pt (pw_and wU (pw_and1 (EY (BW (HN F hr hg hm hk hb .nil Lw (eV (j8 (i:=i) hN hv hd hcd) (eV fZ je he') he) hdg he hpl) hit))))) pO Ak pins s σ H D I ?_
 refine hc B0 B σ H0 H _ f λH1 gY g1=>zcS ?_
 refine⟨.ref ea,f.slot i _ hi,he2 B0 B σ H1 gY _ (f.grow g1) λv H2 nA g2 r=>?_⟩
 refine hsp H2 nA v (g1.trans g2) r _ λH3 CN g3=>⟨true,rfl,?_⟩
 exact NQ (q H3 CN ((g1.trans g2).trans g3) (((f.grow g1).grow g2).grow g3))
end
end L2
namespace Mg
open L2 PySem PyProof.Rows
def top(i:Nat):mj:=PySem.Challenge.pw_mergeline_k11_days_looked_at.main.body.getD i (.Pass ⟨0,0,0,0⟩)
theorem small{n:Nat}(h:n<=1000000):n<=sizeLine:=dD h (by rw[fK];decide)
theorem oN{n:Nat}(h:n<=1000000):n<sizeLine:=Nat.lt_of_le_of_lt h (by rw[fK];decide)
def rY(x:Str):Prop:=eN (.str x)=true
theorem cR(a b:Str):fD (.str a) (.str b)=decide (a=b):=by
 rw[fD,lH];simp
theorem pR(a b:Int):fD (.int a) (.int b)=decide (a=b):=by
 rw[fD,lH];simp
end Mg
namespace L2
open PySem PySem.Spec PyProof.Rows
section
variable{X:Cx}{a b c e:dz}{δ:List Slot}{d d1 d2 d3:aA}{pos:Pos}{k:Nat}
theorem Qz{op op':Hw}{r r':R2}{k1 k2:Bool}(ho:xU X (compareOp op) r)(ho':xU X (compareOp op') r')(od1:HY X.K r d1 d2 (.bool k1))(od2:HY X.K r' d2 d3 (.bool k2))(h1:VE X a δ d1)(h2:VE X b δ d2)(h3:k1=true->VE X c δ d3)
  (hm:lastMarks [op,op'] [b,c]=false:=by with_unfolding_all rfl):VE X (.Compare a [op,op'] [b,c] pos) δ (.bool (k1&&k2)):=by
 cases k1 with
 |true=>
  refine .of (PL ho ho' fZ fZ fZ hm) λB0 B σ H0 H Q f q=>h1 B0 B σ H0 H _ f λv H1 gY g1 r1=>h2 B0 B σ H1 gY _ (f.grow g1) λu H2 nA g2 r2=>od1 v u H2 nA _ g2.sub (r1.mono g2.j9) r2 λz H3 CN g3 r3=>?_
  cases r3;refine⟨true,rfl,?_⟩
  rw[if_pos rfl];exact h3 rfl B0 B σ H3 CN _ (((f.grow g1).grow g2).grow g3) λx H4 H4' g4 r4=>od2 u x H4 H4' _ g4.sub ((r2.mono g3.j9).mono g4.j9) r4 λy H5 H5' g5 r5=>q y H5 H5' ((((g1.trans g2).trans g3).trans g4).trans g5) r5
 |false=>
  refine .of (PL ho ho' fZ fZ Ds hm) λB0 B σ H0 H Q f q=>h1 B0 B σ H0 H _ f λv H1 gY g1 r1=>h2 B0 B σ H1 gY _ (f.grow g1) λu H2 nA g2 r2=>od1 v u H2 nA _ g2.sub (r1.mono g2.j9) r2 λz H3 CN g3 r3=>?_
  cases r3;refine⟨false,rfl,?_⟩
  rw[if_neg eY];exact q _ H3 CN ((g1.trans g2).trans g3) (.bl false)
theorem Zk{x:Str}{s:Str}{t:Tok}(hm:X.mg x=some (.str s t))(hg:Gl X x:=by rfl)(hd:(x==("__debug__":Str))=false:=by decide):VE X (.Name x pos) δ (.str s):=.of (vN hg hm (v:=.str s) ⟨t,rfl⟩ hd) λ_ _ _ _ _ _ f k=>k _ _ _ (.refl f.sub) (.str s)
theorem Vy{x:Str}{i:Int}{t:Tok}(hm:X.mg x=some (.int i t))(hg:Gl X x:=by rfl)(hd:(x==("__debug__":Str))=false:=by decide):VE X (.Name x pos) δ (.int i):=.of (vN hg hm (v:=.int i) ⟨t,rfl⟩ hd) λ_ _ _ _ _ _ f k=>k _ _ _ (.refl f.sub) (.int i)
end
end L2
namespace Mg
open L2 PySem PyProof.Rows
seal L2.VE L2.VS L2.Em L2.VT L2.VO L2.VTs
structure Nw(mg:Str->Option aF):Prop where
 len:mg "len"=none
 all:mg "all"=none
 Wu:mg "enumerate"=none
 let_:∃t,mg "LETTERS"=some (.str "abcdefghijklmnopqrstuvwxyz" t)
 fig:∃t,mg "FIGURES"=some (.str "0123456789" t)
 lna:∃t,mg "LONGEST_NAME"=some (.int 8 t)
 lnu:∃t,mg "LONGEST_NUMBER"=some (.int 6 t)
def one(c:Nat):Str:=⟨#[c]⟩
def uz(signs:Str)(longest:Int)(w:Str):Bool:=(decide (1<=(w.length:Int))&&decide ((w.length:Int)<=longest))&&w.cps.toList.all λc=>Oc (one c) signs
def Zm(signs:Str):aA->Option aA
 | .str x=>some (.bool (Oc x signs))
 |_=>none
theorem Mt(signs w:Str):(uy w).filterMap (Zm signs)=(w.cps.toList.map λc=>Oc (one c) signs).map .bool:=by
 unfold uy;rw[dZ,bU];exact filterMap_some λc _=>rfl
def isName(w:Str):Bool:=uz "abcdefghijklmnopqrstuvwxyz" 8 w
def isNumber(w:Str):Bool:=uz "0123456789" 6 w&&(decide (w="0") || !decide ((w.cps.toList.head?.map one).getD iy="0"))
def wordsOf(row:Str):List Str:=(eO row " ").filter λw=>decide (w≠"")
def rowsOf(text:Str):List (Nat×List Str):=(eO text "\n").zipIdx.filterMap λp=>if(wordsOf p.1).isEmpty then none else some (p.2,wordsOf p.1)
theorem rD(x:Str):rY x↔∀c∈x.cps.toList,c<0x110000:=by
 show(x.cps.all λc=>decide (c<0x110000))=true↔_
 rw[<-Array.all_toList,iC];exact⟨λh c hc=>of_decide_eq_true (h c hc),λh c hc=>decide_eq_true (h c hc)⟩
theorem zdw{x:Str}{c:Nat}(h:rY x)(hc:c∈x.cps.toList):rY (one c):=by
 rw[rD]at h ⊢;intro z hz;have:z=c:=by simpa[one]using hz
 rw[this];exact h c hc
def Gw(x:Str):Prop:=x.length<=100000/\rY x
section
variable{P:bL}{w:dB}{K:ao}{mg:Str->Option aF}{base:dW}{f:aN}{k:Nat}
abbrev Nmo:List Str:=["signs","longest","word"]
theorem zfv:eX Nmo Nmo (cP (top 11)):=⟨rfl,rfl,rfl,by decide +kernel,rfl,by decide +kernel,by decide +kernel⟩
def Rmo(ds:List aA)(d:aA):Prop:=∃(signs:Str)(longest:Int)(x:Str),ds=[.str signs,.int longest,.str x]/\x.length<=100000/\d=.bool (uz signs longest x)
theorem zif{fd:cU}(F:rP K "is_made_of" "is_made_of" (top 11) f fd)(n:Nw mg):i_ P w K mg base qz 1 f fd Nmo (mX K Rmo):=
 qg F zfv (λ_ _ h=>by obtain⟨_,_,_,rfl,_⟩:=h;rfl) λ_ _ h=>by
  obtain⟨signs,longest,x,rfl,hx,rfl⟩:=h;intro cdv A outer s H E hr;have nc:(["sign","signs"]:List Str).Nodup:=by decide +kernel
  have hl:(uy x).length<=100000:=by unfold uy;rw[aq,dX];exact hx
  refine bH (dG (VE.to (wD (Qz Gj Gj (Ht 1 x.length) (Ht x.length longest) aH (Ie (aj 2 rfl) (small (by omega)) n.len) (λ_=>aj 1 rfl)) (λ_=>qI (oh (wX rfl) L_ (au (VO.ve (VO.to (jA (own:=["sign"]) (cap:=[0]) (N:=["sign","signs"]) (tgt:=.one 0) (F:=Zm signs) (ds:=uy x) rfl ⟨rfl,by decide +kernel,by decide +kernel,rfl,rfl,?_⟩ (YH (aj 2 rfl)) (λf s3 H3=>cJ (i:=0) nc rfl (bG rfl)) rfl
   (small (by omega)) (λd hd=>?_)) (Mt signs x))) aX) n.all rfl))) ?_))
  ·intro j hj
   rcases aQ.mp hj with rfl|hj
   ·exact⟨(by show(0:Nat)<3;decide),bG rfl,rfl⟩
   ·cases hj
  ·obtain⟨c,_,rfl⟩:=aR.mp hd
   exact⟨_,rfl,λf s3 H3=>jz,λr hr' f s3 H3=>by cases hr';exact YJ (aj 0 rfl) (aj 1 rfl)⟩
  ·unfold uz wW
   rw[Gh];rfl
theorem zfw:eX ["word"] ["word"] (cP (top 12)):=⟨rfl,rfl,rfl,by decide +kernel,rfl,by decide +kernel,by decide +kernel⟩
theorem zfx:eX ["word"] ["word"] (cP (top 13)):=⟨rfl,rfl,rfl,by decide +kernel,rfl,by decide +kernel,by decide +kernel⟩
def Rna(ds:List aA)(d:aA):Prop:=∃x:Str,ds=[.str x]/\x.length<=100000/\d=.bool (isName x)
def Rnu(ds:List aA)(d:aA):Prop:=∃x:Str,ds=[.str x]/\Gw x/\d=.bool (isNumber x)
theorem zig{fd:cU}(F:rP K "is_name" "is_name" (top 12) f fd)(n:Nw mg)(C:cG P w K mg base 1 "is_made_of" Nmo (mX K Rmo)):i_ P w K mg base qz 2 f fd ["word"] (mX K Rna):=
 qg F zfw (λ_ _ h=>by obtain⟨_,rfl,_⟩:=h;rfl) λ_ _ h=>by
  obtain⟨x,rfl,hx,rfl⟩:=h;intro cdv A outer s H E hr;obtain⟨t1,m1⟩:=n.let_;obtain⟨t2,m2⟩:=n.lna;exact bH (dG (cF C hr (au (Zk m1) (au (Vy m2) (au (aj 0 rfl) aX))) ⟨_,8,x,rfl,hx,rfl⟩))
theorem zih{fd:cU}(F:rP K "is_number" "is_number" (top 13) f fd)(n:Nw mg)(C:cG P w K mg base 1 "is_made_of" Nmo (mX K Rmo)):i_ P w K mg base qz 2 f fd ["word"] (mX K Rnu):=
 qg F zfx (λ_ _ h=>by obtain⟨_,rfl,_⟩:=h;rfl) λ_ _ h=>by
  obtain⟨x,rfl,⟨hx,okx⟩,rfl⟩:=h;intro cdv A outer s H E hr;obtain⟨t1,m1⟩:=n.fig;obtain⟨t2,m2⟩:=n.lnu;have o0:Lay 20 (.str "0"):=bZ (by decide +kernel)
  cases em:uz "0123456789" 6 x with
  |false=>
   refine bH (dG (VE.to (wD (k1:=false) (k2:=false) (VE.to (cF C hr (au (Zk m1) (au (Vy m2) (au (aj 0 rfl) aX))) ⟨_,6,x,rfl,hx,rfl⟩) (by rw[em])) (λz=>by cases z)) ?_))
   unfold isNumber;rw[em];rfl
  |true=>
   obtain⟨c,hc⟩:∃c,x.cps.toList.head?=some c:=by
    cases e:x.cps.toList with
    |cons c l=>exact⟨c,rfl⟩
    |nil=>
     exfalso
     have:x.length=0:=by
      have:=congrArg nY e;rw[dX]at this;exact this
     unfold uz at em;rw[this]at em;cases em
   have h0:yN x.cps.toList 0=some c:=by
    cases e:x.cps.toList with
    |nil=>rw[e]at hc;cases hc
    |cons a l=>rw[e]at hc;cases hc;exact cu (j:=0) rfl
   have okc:rY (one c):=by
    have hm:c∈x.cps.toList:=by
     cases e:x.cps.toList with
     |nil=>rw[e]at hc;cases hc
     |cons a l=>rw[e]at hc;cases hc;exact aY
    exact zdw okx hm
   refine bH (dG (VE.to (wD (k1:=true) (VE.to (cF C hr (au (Zk m1) (au (Vy m2) (au (aj 0 rfl) aX))) ⟨_,6,x,rfl,hx,rfl⟩) (by rw[em])) (λ_=>qI (Dt (Dq hr (bZ okx) o0 (aj 0 rfl) aU) (λ_=>qI (YD hr (bZ okc) o0 (Ob (aj 0 rfl) aH (small (by omega)) h0) aU))))) ?_))
   unfold isNumber;rw[em,cR,cR,hc];rfl
end
theorem QB{y p:Str}{c:Nat}:∀{zs:List Str},p∈zs->c∈p.cps.toList->c∈(fQ y zs).cps.toList
 | [],h,_=>by cases h
 | [x],h,hc=>by
  rw[bW]at h;subst h;exact hc
 |x::x2::zs,h,hc=>by
  show c∈(x++y++fQ y (x2::zs)).cps.toList;have e:(x++y++fQ y (x2::zs)).cps.toList=(x.cps.toList++y.cps.toList)++(fQ y (x2::zs)).cps.toList:=by
   show(x.cps++y.cps++(fQ y (x2::zs)).cps).toList=_
   simp
  rw[e];rcases aQ.mp h with rfl|h
  ·exact jB _ (jB _ hc)
  ·exact eG _ (QB h hc)
theorem QC{x y p:Str}(h:Gw x)(hp:p∈eO x y):Gw p:=by
 refine⟨dD (part_short hp) h.1,(rD p).mpr λc hc=>(rD x).mp h.2 c ?_⟩
 have:=QB (y:=y) hp hc;rw[uZ]at this;exact this
def Vz:aA->Option aA
 | .str w=>if decide (w≠"")=true then some (.str w)else none
 |_=>none
theorem WY(l:List Str):(l.map aW).filterMap Vz=(l.filter λw:Str=>decide (w≠"")).map aW:=by
 induction l with
 |nil=>rfl
 |cons w l ih=>
  rw[aZ,yL];by_cases h:decide (w≠"")=true
  ·rw[if_pos h,iD (f:=Vz) (b:=.str w) (by show(if _ then _ else _)=_;rw[if_pos h]),ih];rfl
  ·rw[if_neg h,nD (f:=Vz) (by show(if _ then _ else _)=_;rw[if_neg h]),ih]
def JH(p:Nat×List Str):aA:=.tuple [.int p.1,.list (p.2.map .str)]
def yt(text:Str)(i:Nat):List (Nat×List Str):=((eO text "\n").zipIdx.take i).filterMap λp=>if(wordsOf p.1).isEmpty then none else some (p.2,wordsOf p.1)
theorem Gx{text row:Str}{i:Nat}(h:(eO text "\n")[i]?=some row):yt text (i+1)=yt text i++(if(wordsOf row).isEmpty then []else [(i,wordsOf row)]):=by
 unfold yt;rw[gP,m_,h];simp only[uF,CJ,Ai,G_]
 congr 1
 cases e:(wordsOf row).isEmpty
 ·rw[iD (b:=(i,wordsOf row)) (by simp only[e];rfl)];rfl
 ·rw[nD (by simp only[e];rfl)];rfl
theorem Tp(text:Str):yt text (eO text "\n").length=rowsOf text:=by
 unfold yt rowsOf;rw[gw (by simp)]
theorem Tq(text:Str)(i:Nat):(yt text i).length<=i:=by
 unfold yt;exact dD (xQ _ _) (by rw[dO];omega)
theorem Gy{x y:Str}(h:x.length<=100000):(eO x y).length<=100002:=by
 have e1:=Pn x y 0 x.length (x.length+1);unfold eO
 split
 ·show 1<=100002;omega
 ·split
  ·show 1<=100002;omega
  ·rw[G8];omega
section
variable{P:bL}{w:dB}{K:ao}{mg:Str->Option aF}{base:dW}{f:aN}{k:Nat}
theorem zfy:eX ["row"] ["row"] (cP (top 14)):=⟨rfl,rfl,rfl,by decide +kernel,rfl,by decide +kernel,by decide +kernel⟩
def Rwo(ds es:List aA):Prop:=∃x:Str,ds=[.str x]/\Gw x/\es=(wordsOf x).map .str
theorem zii{fd:cU}(F:rP K "words_of" "words_of" (top 14) f fd):i_ P w K mg base qz 1 f fd ["row"] (LK K Rwo):=
 Qi F zfy (λ_ _ h=>by obtain⟨_,rfl,_⟩:=h;rfl) λ_ _ h=>by
  obtain⟨x,rfl,ok,rfl⟩:=h;intro cdv A outer s H E hr;have nc:(["word"]:List Str).Nodup:=by decide +kernel
  have hx:=ok.1;refine bH (Ia (VO.to (jA (own:=["word"]) (cap:=[]) (N:=["word"]) (cl:=[]) (tgt:=.one 0) (F:=Vz) (ds:=(eO x " ").map aW) rfl ⟨rfl,by decide +kernel,by decide +kernel,rfl,rfl,by simp⟩ (lN (VO.ve (zR (aj 0 rfl) aU rfl (small (by omega))))) (λf s3 H3=>cJ (i:=0) nc rfl (bG rfl)) rfl
   (small (by rw[aq];have:=Gy (y:=" ") hx;omega)) (λd hd=>?_)) (WY _)))
  obtain⟨p,hp,rfl⟩:=aR.mp hd;have RJ:=QC ok hp;refine⟨_,rfl,λf s3 H3=>?_,λr hr' f s3 H3=>?_⟩
  ·refine N8 (VT.to (qu (k:=0) hr (bZ RJ.2) (bZ (x:="") (by decide +kernel)) (aj 0 rfl) aU) ?_)
   rw[cR]
   show(!decide (p=""))=(if decide (p≠"")=true then some (aW p)else none).isSome
   by_cases h:p=""
   ·subst h;rfl
   ·rw[if_pos (by simpa using h),decide_eq_false h];rfl
  ·have zdx:(if decide (p≠"")=true then some (aW p)else none)=some r:=hr'
   split at zdx
   ·cases zdx;exact aj 0 rfl
   ·cases zdx
abbrev Nro:List Str:=["text","rows","number","row","words"]
theorem zbV:eX Nro ["text"] (cP (top 15)):=⟨rfl,rfl,rfl,by decide +kernel,rfl,by decide +kernel,by decide +kernel⟩
def Rro(ds es:List aA):Prop:=∃x:Str,ds=[.str x]/\Gw x/\es=(rowsOf x).map JH
theorem zij{fd:cU}(F:rP K "rows_of" "rows_of" (top 15) f fd)(n:Nw mg)(C:cG P w K mg base 1 "words_of" ["row"] (LK K Rwo)):i_ P w K mg base qz 2 f fd ["text"] (LK K Rro):=
 Qi F zbV (λ_ _ h=>by obtain⟨_,rfl,_⟩:=h;rfl) λ_ _ h=>by
  obtain⟨x,rfl,ok,rfl⟩:=h;intro cdv A outer s H E hr;have nd:Nro.Nodup:=zbV.nd;have hx:=ok.1;have hc:=Gy (y:="\n") hx;refine aO (rA 1 (jf aX) nd) ?_
  refine aO (rB (tgt:=.tup [2,3]) (o:=.nx [.val (.str x),.own ((yt x (eO x "\n").length).map JH),.un,.un,.un]) gA rfl (qC (ds:=(eO x "\n").map aW) (VO.ve (zR (aj 0 rfl) aU rfl (small (by omega)))) n.Wu)
   (lg rfl (cZ (cJ (i:=2) nd rfl (bG rfl)) (cZ (cJ (i:=3) nd rfl (bG rfl)) jq))) (λi=>[.val (.str x),.own ((yt x i).map JH),.un,.un,.un]) (eO x "\n").length rfl (by rw[fB];simp) (λi d hi hd=>?_) (.inl ⟨by rw[fB];simp,rfl⟩)) ?_
  ·obtain⟨y,hy,rfl⟩:=kJ hd
   obtain⟨row,hrow⟩:∃row,(eO x "\n")[i]?=some row:=⟨(eO x "\n")[i],by simp[hi]⟩
   rw[bh,hrow]at hy;cases hy;have okr:=QC ok (dw hrow);have hle:=Tq x i;refine⟨_,rfl,?_⟩
   refine aO (dU 4 (VO.ve (rC C hr (au (aj 3 rfl) aX) ⟨row,rfl,okr,rfl⟩)) nd) ?_
   cases ew:(wordsOf row).isEmpty with
   |true=>
    refine mU (bH (cW (VT.to (qe (aj 4 rfl) rfl) (by cases e:wordsOf row with|nil=>rfl|cons _ _=>rw[e]at ew;cases ew)) b_)) ⟨.inr rfl,.inr ?_,.inl rfl,.inl rfl,.inl rfl,trivial⟩
    rw[Gx hrow,ew,if_pos rfl,gK]
   |false=>
    refine mU (bH (gj (VT.to (qe (aj 4 rfl) rfl) (by cases e:wordsOf row with|nil=>rw[e]at ew;cases ew|cons _ _=>rfl)) (bH (oG 1 rfl (d:=JH (i,wordsOf row)) (jj (au (aj 2 rfl) (au (aj 4 rfl) aX))) (oN (by rw[aq];omega)))))) ⟨.inr rfl,.inr ?_,.inl rfl,.inl rfl,.inl rfl,trivial⟩
    rw[Gx hrow,ew,if_neg eY,bO];rfl
  ·rw[Tp]
   exact bH (Dr 1 rfl)
end
def qN(ns:List Int):aA:=.list (ns.map .int)
def eE(c k:Int):Int:=((c%2147483629+k*k*7919+11)*48271%2147483647)*((c%2147483629+k*k*7919+11)*48271%2147483647)%1999999973
theorem Oi(c k:Int):0<=eE c k:=bY _ (by decide)
theorem zbb(c k:Int):eE c k<1999999973:=cj _ (by decide)
abbrev ABC:Str:="abcdefghijklmnopqrstuvwxyz"
theorem QD:(ABC:Str).cps.toList=(dF 26).map (97 + ·):=by decide +kernel
def QF(i:Int):Str:=one (97+i.toNat)
theorem Tr{i:Int}(h0:0<=i)(h1:i<26):yN (ABC:Str).cps.toList i=some (97+i.toNat):=by
 obtain⟨n,rfl⟩:=rM h0;refine cu (j:=n) ?_
 have hn:n<26:=by omega
 rw[QD,bh,uX hn];rfl
def gG(x:Str):Prop:=1<=x.cps.toList.length/\x.cps.toList.length<=8/\∀c∈x.cps.toList,97<=c/\c<123
theorem zbc{c:Nat}(h:97<=c/\c<123):c∈(ABC:Str).cps.toList:=by
 rw[QD];exact aR.mpr ⟨c-97,gq.mpr (by omega),by omega⟩
theorem gG.is{x:Str}(h:gG x):isName x=true:=by
 obtain⟨h1,h2,h3⟩:=h;rw[dX]at h1 h2;have e:x.length=x.cps.size:=rfl;unfold isName uz;rw[decide_eq_true (by omega),decide_eq_true (by omega),qL,qL,iC]
 intro c hc;show Oc (one c) ABC=true;have:Oc (one c) ABC=decide (c∈(ABC:Str).cps.toList):=Dc ..;rw[this];exact decide_eq_true (zbc (h3 c hc))
theorem gG.ok{x:Str}(h:gG x):Gw x:=by
 obtain⟨h1,h2,h3⟩:=h;rw[dX]at h1 h2;refine⟨by show x.cps.size<=_;omega,(rD x).mpr λc hc=>?_⟩
 have:=h3 c hc;omega
theorem QG(x:Str):∀n,(oZ x n).cps.toList=(bN n x.cps.toList).flatten
 |0=>rfl
 |n+1=>by
  have e:(oZ x (n+1)).cps.toList=x.cps.toList++(oZ x n).cps.toList:=by
   show(x.cps++(oZ x n).cps).toList=_
   simp
  rw[e,QG x n];rfl
theorem Oj(c n:Nat):(oZ (one c) n).cps.toList=bN n c:=by
 rw[QG]
 induction n with
 |zero=>rfl
 |succ n ih=>
  rw[g8,jO,ih];rfl
def nameA(m:Int)(many k:Nat):Str:=oZ (QF (m/3%26)) (many-k)
def stemOf(m:Int):Str:=oZ (QF (m/4992%26)) (1+m/78%8).toNat
def nameB(m:Int)(k:Nat):Str:=ni (stemOf m) none (some (m/624%(1+m/78%8)))++QF ((m/3+5*k)%26)++ni (stemOf m) (some (m/624%(1+m/78%8)+1)) none
def namesOf(cell:Int)(many:Nat):List Str:=if eE cell 3%3=0/\many<9 then(dF many).map (nameA (eE cell 3) many) else(dF many).map (nameB (eE cell 3))
theorem jl(cell:Int)(many:Nat):(namesOf cell many).length=many:=by unfold namesOf;split<;>simp
theorem Fy(m:Int):(stemOf m).cps.toList=bN (1+m/78%8).toNat (97+(m/4992%26).toNat):=Oj _ _
theorem Zn(m:Int){many k:Nat}(h:k<many)(h9:many<9):gG (nameA m many k):=by
 have e:(nameA m many k).cps.toList=bN (many-k) (97+(m/3%26).toNat):=Oj _ _;refine⟨by rw[e,gF];omega,by rw[e,gF];omega,λc hc=>?_⟩
 rw[e]at hc;have:=(oF.mp hc).2;omega
theorem Zo(m:Int)(k:Nat):gG (nameB m k):=by
 have hs:=Fy m;have hl:(stemOf m).cps.toList.length=(1+m/78%8).toNat:=by rw[hs,gF]
 have b1:0<=m/78%8:=bY _ (by decide)
 have b2:m/78%8<8:=cj _ (by decide)
 have p1:0<=m/624%(1+m/78%8):=bY _ (by omega)
 have p2:m/624%(1+m/78%8)<1+m/78%8:=cj _ (by omega)
 have e1:ni (stemOf m) none (some (m/624%(1+m/78%8)))=_:=PB (x:=stemOf m) ⟨p1,by rw[hl];omega⟩
 have e2:ni (stemOf m) (some (m/624%(1+m/78%8)+1)) none=_:=Nj (x:=stemOf m) ⟨by omega,by rw[hl];omega⟩
 have e:(nameB m k).cps.toList=(stemOf m).cps.toList.take (m/624%(1+m/78%8)).toNat ++ [97+((m/3+5*k)%26).toNat]++(stemOf m).cps.toList.drop (m/624%(1+m/78%8)+1).toNat:=by
  unfold nameB;rw[e1,e2]
  show((_++_++_:Array Nat)).toList=_
  simp only[Uy,rZ,Int.sub_zero,QF,one];rw[gw (l:=List.drop _ _) (by rw[fG];omega)]
 have l1:(nameB m k).cps.toList.length=(1+m/78%8).toNat:=by
  rw[e,bK,bK,dO,fG,hl];simp only[tU];omega
 refine⟨by rw[l1];omega,by rw[l1];omega,λc hc=>?_⟩
 rw[e,hs]at hc;have q1:0<=(m/3+5*k)%26:=bY _ (by decide)
 have q2:(m/3+5*k)%26<26:=cj _ (by decide)
 have r1:0<=m/4992%26:=bY _ (by decide)
 have r2:m/4992%26<26:=cj _ (by decide)
 rcases dJ.mp hc with hc|hc
 ·rcases dJ.mp hc with hc|hc
  ·have:=(oF.mp (jC hc)).2
   omega
  ·have:=bW.mp hc
   omega
 ·have:=(oF.mp (jD hc)).2
  omega
theorem pH{cell:Int}{many:Nat}{x:Str}(h:x∈namesOf cell many):gG x:=by
 unfold namesOf at h
 split at h
 ·rename_i hh
  obtain⟨k,hk,rfl⟩:=aR.mp h;exact Zn _ (gq.mp hk) hh.2
 ·obtain⟨k,hk,rfl⟩:=aR.mp h
  exact Zo _ _
abbrev Ng(mg:Str->Option aF):Prop:=Nm mg
section
variable{P:bL}{w:dB}{K:ao}{mg:Str->Option aF}{base:dW}{f:aN}{k:Nat}
def VB(ds:List aA)(d:aA):Prop:=∃(ns:List Int)(k:Nat),ds=[qN ns,.int k]/\d=.int (ns.getD k 0)
theorem zbd:eX ["_law_script","_law_k"] ["_law_script","_law_k"] (cP (top 46)):=⟨rfl,rfl,rfl,by decide +kernel,rfl,by decide +kernel,by decide +kernel⟩
theorem zdy(m1:mg "len"=none){ds:List aA}{d:aA}(h:VB ds d):Qh P w K mg base ["_law_script","_law_k"] "_law_cell_at" (top 46) f k ds (.rt d):=by
 obtain⟨ns,n,rfl,rfl⟩:=h;intro cdv A outer s H E hr;by_cases hn:n<ns.length
 ·refine fJ (gj (VT.to (yO (aj 1 rfl) (pG (aj 0 rfl) m1)) (by simp only[aq];exact decide_eq_true (by omega))) (bH (dG (lD (aj 0 rfl) (aj 1 rfl) (cu ?_))))) rfl
  rw[bh,aP,aG hn];rfl
 ·refine aO (cW (VT.to (yO (aj 1 rfl) (pG (aj 0 rfl) m1)) (by simp only[aq];exact decide_eq_false (by omega))) b_) ?_
  have e:ns.getD n 0=0:=by rw[aP,mG (by omega)];rfl
  rw[e];exact bH (dG aH)
theorem zdz{fd:cU}(F:rP K "_law_cell_at" "_law_cell_at" (top 46) f fd)(m1:mg "len"=none):i_ P w K mg base qz 1 f fd ["_law_script","_law_k"] (mX K VB):=qg F zbd (λ_ _ h=>by obtain⟨_,_,rfl,_⟩:=h;rfl) λ_ _ h=>zdy m1 h
def Tt(ds:List aA)(d:aA):Prop:=∃(c k:Int),ds=[.int c,.int k]/\0<=k/\k<=1000/\d=.int (eE c k)
abbrev zdA:List Str:=["_law_cell","_law_k","_law_m"]
theorem Zq:eX zdA ["_law_cell","_law_k"] (cP (top 47)):=⟨rfl,rfl,rfl,by decide +kernel,rfl,by decide +kernel,by decide +kernel⟩
theorem zfz{ds:List aA}{d:aA}(h:Tt ds d):Qh P w K mg base zdA "_law_mix" (top 47) f k ds (.rt d):=by
 obtain⟨c,n,rfl,h0,h1,rfl⟩:=h;intro cdv A outer s H E hr;have nd:zdA.Nodup:=Zq.nd;have q1:0<=(c%2147483629+n*n*7919+11)*48271%2147483647:=bY _ (by decide)
 have q2:(c%2147483629+n*n*7919+11)*48271%2147483647<2147483647:=cj _ (by decide)
 refine aO (dU 2 (eZ (zP (iQ (iQ (eZ (aj 0 rfl) aH (by decide)) (zP (zP (aj 1 rfl) (aj 1 rfl) (.inl ⟨by omega,by omega⟩)) aH (.inr ⟨by decide,by decide⟩))) aH) aH (.inr ⟨by decide,by decide⟩)) aH (by decide)) nd) ?_
 exact bH (dG (eZ (zP (aj 2 rfl) (aj 2 rfl) (.inl ⟨by omega,by omega⟩)) aH (by decide)))
theorem zfA{fd:cU}(F:rP K "_law_mix" "_law_mix" (top 47) f fd):i_ P w K mg base qz 1 f fd ["_law_cell","_law_k"] (mX K Tt):=qg F Zq (λ_ _ h=>by obtain⟨_,_,rfl,_⟩:=h;rfl) λ_ _ h=>zfz h
abbrev Nnm:List Str:=["_law_cell","_law_many","_law_letters","_law_m","_law_size","_law_place","_law_stem"]
theorem zbW:eX Nnm ["_law_cell","_law_many"] (cP (top 48)):=⟨rfl,rfl,rfl,by decide +kernel,rfl,by decide +kernel,by decide +kernel⟩
def Rnm(ds es:List aA):Prop:=∃(c:Int)(many:Nat),ds=[.int c,.int many]/\many<=60/\es=(namesOf c many).map .str
def FA(m:Int)(many:Nat):aA->Option aA
 | .int k=>some (.str (nameA m many k.toNat))
 |_=>none
def FB(m:Int):aA->Option aA
 | .int k=>some (.str (nameB m k.toNat))
 |_=>none
theorem zdB(m:Int)(many:Nat):(qH many).filterMap (FA m many)=((dF many).map (nameA m many)).map .str:=by
 unfold qH;rw[dZ,bU];exact filterMap_some λk _=>by show some _=some _;rw[jm];rfl
theorem zdC(m:Int)(many:Nat):(qH many).filterMap (FB m)=((dF many).map (nameB m)).map .str:=by
 unfold qH;rw[dZ,bU];exact filterMap_some λk _=>by show some _=some _;rw[jm];rfl
theorem Fz:(ABC:Str).length<=sizeLine:=small (by decide +kernel)
theorem zik{fd:cU}(F:rP K "_law_names" "_law_names" (top 48) f fd)(n:Ng mg)(C:cG P w K mg base 1 "_law_mix" ["_law_cell","_law_k"] (mX K Tt)):i_ P w K mg base qz 2 f fd ["_law_cell","_law_many"] (LK K Rnm):=
 Qi F zbW (λ_ _ h=>by obtain⟨_,_,rfl,_⟩:=h;rfl) λ_ _ h=>by
  obtain⟨c,many,rfl,hm,rfl⟩:=h;intro cdv A outer s H E hr;have nd:Nnm.Nodup:=zbW.nd;have nk:(["_law_k","_law_many","_law_letters","_law_m"]:List Str).Nodup:=by decide +kernel
  have lo:=Oi c 3;refine aO (dU 2 aU nd) ?_
  refine aO (dU 3 (d:=.int (eE c 3)) (cF C hr (au (aj 0 rfl) (au aH aX)) ⟨c,3,rfl,by decide,by decide,rfl⟩) nd) ?_
  by_cases hh:eE c 3%3=0/\many<9
  ·have e:namesOf c many=(dF many).map (nameA (eE c 3) many):=by unfold namesOf;rw[if_pos hh]
   rw[e];refine fJ (gj (VT.to (qd (c7 (k:=1) (hr.mono (by omega)) (dY 20 _) (dY 20 _) (eZ (aj 3 rfl) aH (by decide)) aH) (λ_=>yO (aj 1 rfl) aH)) ?_) (bH (Ia (VO.to (jA (own:=["_law_k"]) (cap:=[1,2,3]) (N:=["_law_k","_law_many","_law_letters","_law_m"]) (tgt:=.one 0) (F:=FA (eE c 3) many) (ds:=qH many) rfl ⟨rfl,by decide +kernel,by decide +kernel,rfl,rfl,?_⟩ (Jp (n:=(many:Int)) (aj 1 rfl) n.rng (by omega) (by omega)) (λf s3 H3=>cJ (i:=0) nk rfl (bG rfl)) rfl
    (small (by rw[wC];omega)) (λd hd=>?_)) (zdB _ _))))) rfl
   ·rw[pR,decide_eq_true hh.1,decide_eq_true (by omega)];rfl
   ·intro j hj
    rcases aQ.mp hj with rfl|hj
    ·exact⟨(by show(1:Nat)<7;decide),bG rfl,rfl⟩
    ·rcases aQ.mp hj with rfl|hj
     ·exact⟨(by show(2:Nat)<7;decide),bG rfl,rfl⟩
     ·rcases aQ.mp hj with rfl|hj
      ·exact⟨(by show(3:Nat)<7;decide),bG rfl,rfl⟩
      ·cases hj
   ·obtain⟨i,hi,rfl⟩:=aR.mp hd
    have hi:=gq.mp hi;refine⟨_,rfl,λf s3 H3=>jz,λr hr' f s3 H3=>?_⟩
    cases hr';refine VE.to (Vn (Ob (aj 2 rfl) (eZ (jJ (aj 3 rfl) aH ⟨by decide,by decide⟩) aH (by decide)) Fz (Tr (bY _ (by decide)) (cj _ (by decide)))) (Sw (aj 1 rfl) (aj 0 rfl)) (by omega) (by omega) (by show 1<=1000;decide)) ?_
    unfold nameA;have e:((many:Int)-(i:Int)).toNat=many-((i:Nat):Int).toNat:=by omega
    rw[e];rfl
  ·have e:namesOf c many=(dF many).map (nameB (eE c 3)):=by unfold namesOf;rw[if_neg hh]
   rw[e];have nk2:(["_law_k","_law_letters","_law_m","_law_place","_law_stem"]:List Str).Nodup:=by decide +kernel
   have b1:0<=eE c 3/78%8:=bY _ (by decide)
   have b2:eE c 3/78%8<8:=cj _ (by decide)
   have p1:0<=eE c 3/624%(1+eE c 3/78%8):=bY _ (by omega)
   have p2:eE c 3/624%(1+eE c 3/78%8)<1+eE c 3/78%8:=cj _ (by omega)
   have sl:(stemOf (eE c 3)).length<=8:=by
    show(stemOf (eE c 3)).cps.size<=8
    rw[<-dX,Fy,gF];omega
   refine aO (cW (VT.to (qd (c7 (k:=1) (hr.mono (by omega)) (dY 20 _) (dY 20 _) (eZ (aj 3 rfl) aH (by decide)) aH) (λ_=>yO (aj 1 rfl) aH)) ?_) b_) ?_
   ·rw[pR]
    by_cases h0:eE c 3%3=0
    ·rw[decide_eq_true h0,qL]
     exact decide_eq_false λz=>hh ⟨h0,by omega⟩
    ·rw[decide_eq_false h0];rfl
   refine aO (dU 4 (iQ aH (eZ (jJ (aj 3 rfl) aH ⟨by decide,by decide⟩) aH (by decide))) nd) ?_
   refine aO (dU 5 (eZ (jJ (aj 3 rfl) aH ⟨by decide,by decide⟩) (aj 4 rfl) (by omega)) nd) ?_
   refine aO (dU 6 (d:=.str (stemOf (eE c 3))) (Vn (Ob (aj 2 rfl) (eZ (jJ (aj 3 rfl) aH ⟨by decide,by decide⟩) aH (by decide)) Fz (Tr (bY _ (by decide)) (cj _ (by decide)))) (aj 4 rfl) (by omega) (by omega) (by show 1<=1000;decide)) nd) ?_
   refine bH (Ia (VO.to (jA (own:=["_law_k"]) (cap:=[2,3,5,6]) (N:=["_law_k","_law_letters","_law_m","_law_place","_law_stem"]) (tgt:=.one 0) (F:=FB (eE c 3)) (ds:=qH many) rfl ⟨rfl,by decide +kernel,by decide +kernel,rfl,rfl,?_⟩ (Jp (n:=(many:Int)) (aj 1 rfl) n.rng (by omega) (by omega)) (λf s3 H3=>cJ (i:=0) nk2 rfl (bG rfl)) rfl
    (small (by rw[wC];omega)) (λd hd=>?_)) (zdC _ _)))
   ·intro j hj
    rcases aQ.mp hj with rfl|hj
    ·exact⟨(by show(2:Nat)<7;decide),bG rfl,rfl⟩
    ·rcases aQ.mp hj with rfl|hj
     ·exact⟨(by show(3:Nat)<7;decide),bG rfl,rfl⟩
     ·rcases aQ.mp hj with rfl|hj
      ·exact⟨(by show(5:Nat)<7;decide),bG rfl,rfl⟩
      ·rcases aQ.mp hj with rfl|hj
       ·exact⟨(by show(6:Nat)<7;decide),bG rfl,rfl⟩
       ·cases hj
   ·obtain⟨i,hi,rfl⟩:=aR.mp hd
    have hi:=gq.mp hi;refine⟨_,rfl,λf s3 H3=>jz,λr hr' f s3 H3=>?_⟩
    cases hr';have l1:=zE (stemOf (eE c 3)) none (some (eE c 3/624%(1+eE c 3/78%8)));have l2:=zE (stemOf (eE c 3)) (some (eE c 3/624%(1+eE c 3/78%8)+1)) none;have l3:(QF ((eE c 3/3+5*(i:Int))%26)).length=1:=rfl;refine VE.to (lY (lY (Ar (aj 4 rfl) (small (by omega)) .no (.yes (aj 3 rfl))) (Ob (aj 1 rfl) (eZ (iQ (jJ (aj 2 rfl) aH ⟨by decide,by decide⟩) (zP aH (aj 0 rfl) (.inl ⟨by decide,by decide⟩))) aH (by decide)) Fz (Tr (bY _ (by decide)) (cj _ (by decide)))) (small ?_)) (Ar (aj 4 rfl) (small (by omega)) (.yes (iQ (aj 3 rfl) aH)) .no) (small ?_)) ?_
    ·show _+(QF ((eE c 3/3+5*(i:Int))%26)).length<=_
     omega
    ·rw[dI]
     show _+(QF ((eE c 3/3+5*(i:Int))%26)).length+_<=_;omega
    ·rfl
end
inductive Rl where
 |meet
 |gather (most age:Int)
 |many (most:Int)
 |rank (bound:Option Int)
 |turns (shares:List Int)
 |eldest
def vJ:Option Int->aA
 |none=>.none
 |some i=>.int i
def wJ:Rl->Str
 | .meet=>"meet"
 | .gather _ _=>"gather"
 | .many _=>"many"
 | .rank _=>"rank"
 | .turns _=>"turns"
 | .eldest=>"eldest"
def zX:Rl->List aA
 | .meet=>[]
 | .gather m a=>[.int m,.int a]
 | .many m=>[.int m]
 | .rank b=>[vJ b]
 | .turns s=>[.tuple (s.map .int)]
 | .eldest=>[]
def W3(r:Rl):aA:=.tuple (.str (wJ r)::zX r)
def Ol(rest:Int)(k:Nat):Int:=1+rest/((k:Int)*k+1)%3
def rE(m:Int)(many:Nat):Rl:=
 if m%6=5/\1<many then .meet
 else if m%6=4 then .gather (1+m/6%4) (m/6/4%9)
 else if m%6=3 then .many (1+m/6%4)
 else if m%6=2 then .rank (if m/6%2=0 then none else some (m/6/2%9))
 else if m%6=1 then .turns ((dF many).map (Ol (m/6)))
 else .eldest
def mY:Rl->Nat->Int
 | .many m,_=>m
 | .gather m _,_=>m
 | .meet,n=>n
 |_,_=>1
section
variable{P:bL}{w:dB}{K:ao}{mg:Str->Option aF}{base:dW}{f:aN}{k:Nat}
abbrev Nrl:List Str:=["_law_m","_law_many","_law_rest"]
theorem zbX:eX Nrl ["_law_m","_law_many"] (cP (top 49)):=⟨rfl,rfl,rfl,by decide +kernel,rfl,by decide +kernel,by decide +kernel⟩
def Rrl(ds:List aA)(d:aA):Prop:=∃(m:Int)(many:Nat),ds=[.int m,.int many]/\0<=m/\m<1999999973/\many<=60/\d=W3 (rE m many)
def Zr(rest:Int):aA->Option aA
 | .int k=>some (.int (1+rest/(k*k+1)%3))
 |_=>none
theorem Tv(rest:Int)(many:Nat):(qH many).filterMap (Zr rest)=((dF many).map (Ol rest)).map .int:=by
 unfold qH;rw[dZ,bU];exact filterMap_some λk _=>rfl
theorem zil{fd:cU}(F:rP K "_law_rule" "_law_rule" (top 49) f fd)(n:Ng mg):i_ P w K mg base qz 1 f fd ["_law_m","_law_many"] (mX K Rrl):=
 qg F zbX (λ_ _ h=>by obtain⟨_,_,rfl,_⟩:=h;rfl) λ_ _ h=>by
  obtain⟨m,many,rfl,h0,h1,hm,rfl⟩:=h;intro cdv A outer s H E hr;have nd:Nrl.Nodup:=zbX.nd;have nk:(["_law_k","_law_rest"]:List Str).Nodup:=by decide +kernel
  have r0:0<=m/6:=Int.ediv_nonneg h0 (by decide)
  have r1:m/6<1999999973:=by omega
  refine aO (dU 2 (jJ (aj 0 rfl) aH ⟨by decide,by decide⟩) nd) ?_
  have ev:∀j:Int,fD (.int (m%6)) (.int j)=decide (m%6=j):=λj=>pR _ _
  unfold rE;by_cases c5:m%6=5/\1<many
  ·rw[if_pos c5]
   refine fJ (gj (VT.to (qd (c7 hr (dY 20 _) (dY 20 _) (eZ (aj 0 rfl) aH (by decide)) aH) (λ_=>Lz (aj 1 rfl) aH)) ?_) (bH (dG (VE.to (jj (au aU aX)) rfl)))) rfl
   rw[ev,decide_eq_true c5.1,decide_eq_true (by omega)];rfl
  rw[if_neg c5];refine aO (cW (VT.to (qd (c7 hr (dY 20 _) (dY 20 _) (eZ (aj 0 rfl) aH (by decide)) aH) (λ_=>Lz (aj 1 rfl) aH)) ?_) b_) ?_
  ·rw[ev]
   by_cases h5:m%6=5
   ·rw[decide_eq_true h5,qL]
    exact decide_eq_false λz=>c5 ⟨h5,by omega⟩
   ·rw[decide_eq_false h5];rfl
  by_cases c4:m%6=4
  ·rw[if_pos c4]
   refine fJ (gj (VT.to (c7 hr (dY 20 _) (dY 20 _) (eZ (aj 0 rfl) aH (by decide)) aH) (by rw[ev,decide_eq_true c4])) (bH (dG (VE.to (jj (au aU (au (iQ aH (eZ (aj 2 rfl) aH (by decide))) (au (eZ (jJ (aj 2 rfl) aH ⟨by decide,by decide⟩) aH (by decide)) aX)))) rfl)))) rfl
  rw[if_neg c4];refine aO (cW (VT.to (c7 hr (dY 20 _) (dY 20 _) (eZ (aj 0 rfl) aH (by decide)) aH) (by rw[ev,decide_eq_false c4])) b_) ?_
  by_cases c3:m%6=3
  ·rw[if_pos c3]
   refine fJ (gj (VT.to (c7 hr (dY 20 _) (dY 20 _) (eZ (aj 0 rfl) aH (by decide)) aH) (by rw[ev,decide_eq_true c3])) (bH (dG (VE.to (jj (au aU (au (iQ aH (eZ (aj 2 rfl) aH (by decide))) aX))) rfl)))) rfl
  rw[if_neg c3];refine aO (cW (VT.to (c7 hr (dY 20 _) (dY 20 _) (eZ (aj 0 rfl) aH (by decide)) aH) (by rw[ev,decide_eq_false c3])) b_) ?_
  by_cases c2:m%6=2
  ·rw[if_pos c2]
   refine fJ (gj (VT.to (c7 hr (dY 20 _) (dY 20 _) (eZ (aj 0 rfl) aH (by decide)) aH) (by rw[ev,decide_eq_true c2])) (bH (dG (VE.to (jj (au aU (au (lD (d:=vJ (if m/6%2=0 then none else some (m/6/2%9))) (VO.ve (jf (au lJ (au (eZ (jJ (aj 2 rfl) aH ⟨by decide,by decide⟩) aH (by decide)) aX)))) (eZ (aj 2 rfl) aH (by decide)) ?_) aX))) rfl)))) rfl
   rcases Int.emod_two_eq (m/6)with e|e
   ·rw[e,if_pos rfl];rfl
   ·rw[e,if_neg (by decide)];rfl
  rw[if_neg c2];refine aO (cW (VT.to (c7 hr (dY 20 _) (dY 20 _) (eZ (aj 0 rfl) aH (by decide)) aH) (by rw[ev,decide_eq_false c2])) b_) ?_
  by_cases c1:m%6=1
  ·rw[if_pos c1]
   refine fJ (gj (VT.to (c7 hr (dY 20 _) (dY 20 _) (eZ (aj 0 rfl) aH (by decide)) aH) (by rw[ev,decide_eq_true c1])) (bH (dG (VE.to (jj (au aU (au (sU tH H_ (au (VO.ve (VO.to (jA (own:=["_law_k"]) (cap:=[2]) (N:=["_law_k","_law_rest"]) (tgt:=.one 0) (F:=Zr (m/6)) (ds:=qH many) rfl ⟨rfl,by decide +kernel,by decide +kernel,rfl,rfl,?_⟩ (Jp (n:=(many:Int)) (aj 1 rfl) n.rng (by omega) (by omega)) (λf s3 H3=>cJ (i:=0) nk rfl (bG rfl)) rfl
    (small (by rw[wC];omega)) (λd hd=>?_)) (Tv _ _))) aX) n.tup rfl) aX))) rfl)))) rfl
   ·intro j hj
    rcases aQ.mp hj with rfl|hj
    ·exact⟨(by show(2:Nat)<3;decide),bG rfl,rfl⟩
    ·cases hj
   ·obtain⟨i,hi,rfl⟩:=aR.mp hd
    have hi:=gq.mp hi;have hii:(0:Int)<=(i:Int)*i:=BR (by omega) (by omega)
    have zmp:(i:Int)*i<=60*60:=Nk (by omega) (by omega) (by omega) (by omega)
    refine⟨_,rfl,λf s3 H3=>jz,λr hr' f s3 H3=>?_⟩
    cases hr';exact iQ aH (eZ (jJ (aj 1 rfl) (iQ (zP (aj 0 rfl) (aj 0 rfl) (.inl ⟨by omega,by omega⟩)) aH) ⟨by omega,by omega⟩) aH (by decide))
  rw[if_neg c1];refine aO (cW (VT.to (c7 hr (dY 20 _) (dY 20 _) (eZ (aj 0 rfl) aH (by decide)) aH) (by rw[ev,decide_eq_false c1])) b_) ?_
  exact bH (dG (VE.to (jj (au aU aX)) rfl))
theorem zfB:eX ["_law_rule_here","_law_many"] ["_law_rule_here","_law_many"] (cP (top 50)):=⟨rfl,rfl,rfl,by decide +kernel,rfl,by decide +kernel,by decide +kernel⟩
def Rgr(ds:List aA)(d:aA):Prop:=∃(r:Rl)(many:Nat),ds=[W3 r,.int many]/\d=.int (mY r many)
theorem zim{fd:cU}(F:rP K "_law_greatest" "_law_greatest" (top 50) f fd):i_ P w K mg base qz 1 f fd ["_law_rule_here","_law_many"] (mX K Rgr):=
 qg F zfB (λ_ _ h=>by obtain⟨_,_,rfl,_⟩:=h;rfl) λ_ _ h=>by
  obtain⟨r,many,rfl,rfl⟩:=h;unfold W3;intro cdv A outer s H E hr;have hl:(zX r).length<=2:=by cases r<;>simp[zX]
  have x1:∃x,(aW (wJ r)::zX r ++ [.int 0])[1]?=some x/\((qw [(("many":Str),x),("gather",x),("meet",.int many)] (wJ r)).getD (.int 1))=.int (mY r many):=by
   cases r<;>exact⟨_,rfl,rfl⟩
  obtain⟨x,hx,hv⟩:=x1;have hn3:([(("many":Str),x),("gather",x),("meet",jy many)].map (·.1)).Nodup:=(show([("many":Str),"gather","meet"]).Nodup by decide +kernel)
  have hx1:yN (aW (wJ r)::zX r ++ [.int 0]) 1=some x:=cu (j:=1) hx;have hx0:yN (aW (wJ r)::zX r) 0=some (.str (wJ r)):=cu (j:=0) rfl;have hz:(aW (wJ r)::zX r).length + [jy 0].length<=sizeLine:=small (by simp only[bJ,dM];omega)
  have hne:(aW (wJ r)::zX r)≠[]:=by simp
  generalize zX r=ra at *
  generalize wJ r=yW at *
  refine bH (dG (VE.to (Y0 hr (Vr (kvs:=[(("many":Str),x),("gather",x),("meet",.int many)]) (.cons aU ?_ (.cons aU ?_ (.cons aU (aj 1 rfl) .nil))) hn3 (by simp) (by show 3<=15;decide)) (x:=yW) ?_ (d:=.int 1) aH) hv))
  ·exact cY (Ig (d1:=.str yW::ra) (d2:=[.int 0]) (aj 0 rfl) (jj (au aH aX)) hne hz) aH hx1
  ·exact cY (Ig (d1:=.str yW::ra) (d2:=[.int 0]) (aj 0 rfl) (jj (au aH aX)) hne hz) aH hx1
  ·exact cY (ds:=.str yW::ra) (aj 0 rfl) aH hx0
end
structure Dk where
 name:Str
 to:Str
 rule:Rl
 places:List Str
def iZ(l:List Str):aA:=.list (l.map .str)
def jP(d:Dk):aA:=.tuple [.str d.name,.str d.to,W3 d.rule,.tuple (d.places.map .str)]
def jR(cell:Int)(nn k:Nat):Nat:=if k<nn then k else(eE cell (40+k)%nn).toNat
def JK(cell:Int)(k len:Nat):Nat:=(eE cell (60+k)%(len+1)).toNat
def gW(cell:Int)(nn:Nat)(places:List Str):Nat->List (List Str)
 |0=>bN nn []
 |k+1=>(gW cell nn places k).set (jR cell nn k) (vI ((gW cell nn places k).getD (jR cell nn k) []) (JK cell k ((gW cell nn places k).getD (jR cell nn k) []).length) (places.getD k ""))
def Tw(cell:Int)(lines:List Str)(k:Nat):Str:=(lines ++ [("":Str)]).getD (eE cell (80+k)%(lines.length+1)).toNat ""
def JL(cell:Int)(names lines:List Str)(taken:List (List Str))(k:Nat):Dk:=⟨names.getD k "",Tw cell lines k,rE (eE cell (90+k)) (taken.getD k []).length,taken.getD k []⟩
def qO(cell:Int)(n:Nat):Nat:=(1+eE cell 32%(if(n:Int)<4 then(n:Int)else 4)).toNat
def dg(cell:Int)(places lines:List Str):List Dk:=(dF (qO cell places.length)).map (JL cell (namesOf (eE cell 31) (qO cell places.length)) lines (gW cell (qO cell places.length) places places.length))
theorem lW(cell:Int)(nn:Nat)(places:List Str):∀k,(gW cell nn places k).length=nn
 |0=>by simp[gW]
 |k+1=>by rw[gW,uR,lW cell nn places k]
theorem t_(cell:Int){n:Nat}(h:1<=n):1<=qO cell n/\qO cell n<=4/\qO cell n<=n:=by
 unfold qO
 split
 ·rename_i hn
  have a1:0<=eE cell 32%(n:Int):=bY _ (by omega)
  have a2:eE cell 32%(n:Int)<n:=cj _ (by omega)
  omega
 ·have a1:0<=eE cell 32%4:=bY _ (by omega)
  have a2:eE cell 32%4<4:=cj _ (by omega)
  omega
theorem Mu(cell:Int){nn:Nat}(h:1<=nn)(k:Nat):jR cell nn k<nn:=by
 unfold jR
 split
 ·assumption
 ·have a1:0<=eE cell (40+k)%(nn:Int):=bY _ (by omega)
  have a2:eE cell (40+k)%(nn:Int)<nn:=cj _ (by omega)
  omega
theorem Zt(cell:Int)(k len:Nat):JK cell k len<=len:=by
 unfold JK;have a1:0<=eE cell (60+k)%((len:Int)+1):=bY _ (by omega)
 have a2:eE cell (60+k)%((len:Int)+1)<(len:Int)+1:=cj _ (by omega)
 omega
theorem Gz{α:Type}(l:List α)(i:Nat)(y:α):(vI l i y).length=l.length+1:=by
 unfold vI;rw[bK,bJ,dO,fG];omega
theorem Zu{α:Type}{l:List α}{i:Nat}{x y:α}(h:x∈vI l i y):x∈l\/x=y:=by
 unfold vI at h;rcases dJ.mp h with h|h
 ·exact .inl (jC h)
 ·rcases aQ.mp h with h|h
  ·exact .inr h
  ·exact .inl (jD h)
theorem Av(cell:Int)(nn:Nat)(places:List Str):∀k,∀row∈gW cell nn places k,row.length<=k/\(k<=places.length->∀x∈row,x∈places)
 |0,row,h=>by
  obtain⟨_,rfl⟩:=oF.mp h;exact⟨aK _,λ_ x hx=>by cases hx⟩
 |k+1,row,h=>by
  have ih:=Av cell nn places k;rcases Nq (show row∈List.set _ _ _ from h)with h|h
  ·exact⟨Nat.le_succ_of_le (ih row h).1,λhk=>(ih row h).2 (by omega)⟩
  ·have hg:(gW cell nn places k).getD (jR cell nn k) []=[]\/(gW cell nn places k).getD (jR cell nn k) []∈gW cell nn places k:=by
    rw[aP];cases e:(gW cell nn places k)[jR cell nn k]? with
    |none=>exact .inl rfl
    |some r=>exact .inr (dw e)
   generalize(gW cell nn places k).getD (jR cell nn k) []=g at *
   subst h;have hgl:g.length<=k/\(k<=places.length->∀x∈g,x∈places):=by
    rcases hg with rfl|hg
    ·exact⟨cC _,λ_ x hx=>by cases hx⟩
    ·exact ih g hg
   refine⟨by rw[Gz];omega,λhk x hx=>?_⟩
   rcases Zu hx with hx|rfl
   ·exact hgl.2 (by omega) x hx
   ·rw[aP,aG (by omega)]
    exact fY _
theorem Om(cell:Int)(lines:List Str)(k:Nat):yN ((lines ++ [("":Str)]).map aW) (eE cell (80+k)%((lines.length:Int)+1))=some (.str (Tw cell lines k))/\Tw cell lines k∈lines ++ [("":Str)]:=by
 have a1:0<=eE cell (80+k)%((lines.length:Int)+1):=bY _ (by omega)
 have a2:eE cell (80+k)%((lines.length:Int)+1)<(lines.length:Int)+1:=cj _ (by omega)
 unfold Tw
 generalize eE cell (80+k)%((lines.length:Int)+1)=j at *
 obtain⟨i,rfl⟩:=rM a1;have hi:i<(lines ++ [("":Str)]).length:=by simp;omega
 have e:(lines ++ [("":Str)]).getD ((i:Int)).toNat ""=(lines ++ [("":Str)])[i]:=by
  rw[jm,aP,aG hi];rfl
 rw[e];exact⟨cu (by rw[bh,aG hi];rfl),fY hi⟩
section
variable{P:bL}{w:dB}{K:ao}{mg:Str->Option aF}{base:dW}{f:aN}{k:Nat}
abbrev Ndk:List Str:=["_law_cell","_law_places","_law_lines","_law_names_here","_law_taken","_law_k","_law_place","_law_at","_law_desks_here","_law_name","_law_to"]
theorem zbY:eX Ndk ["_law_cell","_law_places","_law_lines"] (cP (top 51)):=⟨rfl,rfl,rfl,by decide +kernel,rfl,by decide +kernel,by decide +kernel⟩
def Rdk(ds es:List aA):Prop:=∃(cell:Int)(places lines:List Str),ds=[.int cell,iZ places,iZ lines]/\1<=places.length/\places.length<=12/\lines.length<=12/\es=(dg cell places lines).map jP
theorem zio{fd:cU}(F:rP K "_law_desks" "_law_desks" (top 51) f fd)(n:Ng mg)(C1:cG P w K mg base 1 "_law_mix" ["_law_cell","_law_k"] (mX K Tt))(C2:cG P w K mg base 2 "_law_names" ["_law_cell","_law_many"] (LK K Rnm))(C3:cG P w K mg base 1 "_law_rule" ["_law_m","_law_many"] (mX K Rrl)):i_ P w K mg base qz 3 f fd ["_law_cell","_law_places","_law_lines"] (LK K Rdk):=
 Qi F zbY (λ_ _ h=>by obtain⟨_,_,_,rfl,_⟩:=h;rfl) λ_ _ h=>by
  obtain⟨cell,places,lines,rfl,h1,h12,hln,rfl⟩:=h;intro cdv A outer s H E hr;have nd:Ndk.Nodup:=zbY.nd;have nc:(["_law_name"]:List Str).Nodup:=by decide +kernel
  have hr1:jH 1 _:=hr.mono (by omega)
  obtain⟨nn1,nn4,nnp⟩:=t_ cell h1;unfold dg;have enn:((qO cell places.length:Nat):Int)=1+eE cell 32%(if(places.length:Int)<4 then(places.length:Int)else 4):=by
   unfold qO;have a1:0<=eE cell 32%(if(places.length:Int)<4 then(places.length:Int)else 4):=bY _ (by split<;>omega)
   omega
  generalize qO cell places.length=nn at *
  have nl:=jl (eE cell 31) nn
  generalize hnm:namesOf (eE cell 31) nn=names at *
  refine aO (dU 3 (d:=iZ names) (VO.ve (rC C2 hr (au (cF C1 hr1 (au (aj 0 rfl) (au aH aX)) ⟨cell,31,rfl,by decide,by decide,rfl⟩) (au (VE.to (k:=.int nn) (iQ aH (eZ (cF C1 hr1 (au (aj 0 rfl) (au aH aX)) ⟨cell,32,rfl,by decide,by decide,rfl⟩) (oh (Wf rfl) (zdc 4 (places.length:Int)) (au aH (au (VE.to (pG (aj 1 rfl) n.len) (by simp)) aX)) n.min rfl) (by split<;>omega))) (by rw[enn])) aX)) ⟨eE cell 31,nn,rfl,by omega,by rw[hnm]⟩)) nd) ?_
  refine Qp λB0 B σ H0 Hh D fr ok=>?_
  refine gk (zaJ 4 (ds:=names.map aW) (own:=["_law_name"]) (cap:=[]) (N:=["_law_name"]) (cl:=[]) (tgt:=.one 0) fr rfl rfl ⟨rfl,by decide +kernel,by decide +kernel,rfl,rfl,by simp⟩ (lN (aj 3 rfl)) (λf s3 H3=>cJ (i:=0) nc rfl (bG rfl)) rfl (small (by rw[aq];omega)) (λd hd=>⟨_,rfl⟩) nd (λσ1 a ps H1 gY G=>?_) (λa=>rfl))
  refine gk (zfb (tgt:=.tup [5,6]) (ds:=Gs (places.map .str)) G gA rfl (qC (ds:=places.map .str) (aj 1 rfl) n.Wu)
   (lg rfl (cZ (cJ (i:=5) nd rfl (bG rfl)) (cZ (cJ (i:=6) nd rfl (bG rfl)) jq))) (λi=>(gW cell nn places i).map λr=>r.map aW) ?_ (λi d hd=>?_) (λσ2 Ha Hb G2=>?_))
  ·show(bN nn []).map _=_
   rw[List.map_replicate,aq,nl];rfl
  ·obtain⟨x,hx,rfl⟩:=kJ hd
   obtain⟨hip,rfl⟩:i<places.length/\x=.str (places.getD i ""):=by
    rw[bh]at hx;cases e:places[i]? with
    |none=>rw[e]at hx;cases hx
    |some p=>
     rw[e]at hx;cases hx;exact⟨(aV.mp e).1,by rw[aP,e];rfl⟩
   refine⟨[.val (.int cell),.val (iZ places),.val (iZ lines),.val (iZ names),.ref a,.val (.int i),.val (.str (places.getD i "")),.un,.un,.un,.un],rfl,rfl,λD C0 σ' iM H' G q=>?_⟩
   have hR:=lW cell nn places i;have hj:=Mu cell nn1 i;have hpl:ps.length=nn:=G.len.trans (by simp[hR])
   obtain⟨p,hp⟩:∃p,ps[jR cell nn i]?=some p:=⟨ps[jR cell nn i]'(by omega),aG _⟩
   have hrow:(gW cell nn places i)[jR cell nn i]?=some ((gW cell nn places i).getD (jR cell nn i) []):=by
    rw[aP,aG (by omega)];rfl
   have hmem:=dw hrow;have hlen:=(Av cell nn places i _ hmem).1;have egs:((gW cell nn places (i+1)).map λr=>r.map aW)=((gW cell nn places i).map λr=>r.map aW).set (jR cell nn i) (vI (((gW cell nn places i).getD (jR cell nn i) []).map aW) (JK cell i ((gW cell nn places i).getD (jR cell nn i) []).length) (.str (places.getD i ""))):=by
    show(List.set _ _ _).map _=_
    rw[RB]
    congr 1
    unfold vI;rw[bO,aZ,Px,xR]
   have hgj:((gW cell nn places i).map λr=>r.map aW)[jR cell nn i]?=some (((gW cell nn places i).getD (jR cell nn i) []).map aW):=by
    rw[bh,hrow];rfl
   rw[egs]at q
   generalize(gW cell nn places i).getD (jR cell nn i) []=row at *
   refine gk (YB G (dU 7 (aj 5 rfl) nd) rfl λσ1 Ha Hb G1=>?_)
   refine gk (YB G1 (ze9 (o:=.nx [.val (.int cell),.val (iZ places),.val (iZ lines),.val (iZ names),.ref a,.val (.int i),.val (.str (places.getD i "")),.val (.int (jR cell nn i)),.un,.un,.un]) (zbM (aj 5 rfl) (pG (aj 3 rfl) n.len)) (λhk=>?_) (λhk=>?_)) rfl λσ2 Hc Hd G2=>?_)
   ·have hk:¬i<nn:=by
     have:=of_decide_eq_true hk;rw[aq,nl]at this;omega
    have e:((jR cell nn i:Nat):Int)=eE cell (40+i)%(nn:Int):=by
     unfold jR;rw[if_neg hk];have a1:0<=eE cell (40+i)%(nn:Int):=bY _ (by omega)
     omega
    rw[e];exact bH (dU 7 (eZ (cF C1 hr1 (au (aj 0 rfl) (au (iQ aH (aj 5 rfl)) aX)) ⟨cell,40+(i:Int),rfl,by omega,by omega,rfl⟩) (VE.to (pG (aj 3 rfl) n.len) (by rw[aq,nl])) (by omega)) nd)
   ·have hk:i<nn:=by
     have:=of_decide_eq_false hk;rw[aq,nl]at this;omega
    have e:jR cell nn i=i:=by unfold jR;rw[if_pos hk]
    rw[e];exact b_
   have em:((JK cell i row.length:Nat):Int)=eE cell (60+i)%((row.length:Int)+1):=by
    unfold JK;have a1:0<=eE cell (60+i)%((row.length:Int)+1):=bY _ (by omega)
    omega
   refine gU (Y4 G2 4 (j:=jR cell nn i) (m:=JK cell i row.length) (p:=p) (ds:=row.map .str) (d:=.str (places.getD i "")) rfl (aj 7 rfl) hp hgj (VE.to (eZ (cF C1 hr1 (au (aj 0 rfl) (au (iQ aH (aj 5 rfl)) aX)) ⟨cell,60+(i:Int),rfl,by omega,by omega,rfl⟩) (iQ (pG (ds:=row.map .str) (lD (aj 4 rfl) (aj 7 rfl) (cu (by rw[bh,hgj];rfl))) n.len) aH) (by omega)) (by rw[em,aq])) rfl (by rw[aq];exact Zt _ _ _) (aj 6 rfl) (oN (by rw[aq];omega)) (λσ6 Hk Hl G6=>?_))
   exact q _ _ _ (G6.forget ⟨.inr rfl,.inr rfl,.inr rfl,.inr rfl,.inr rfl,.inl rfl,.inl rfl,.inl rfl,.inr rfl,.inr rfl,.inr rfl,trivial⟩ rfl)
  ·refine zdd G2 (ig:=4) (o:=.ro ((dF nn).map (JL cell names lines (gW cell nn places places.length)) |>.map jP)) rfl ?_ (λHx _=>Bh.ret rfl rfl ok)
   rw[fB,aq];have tl:=lW cell nn places places.length;have tr:=Av cell nn places places.length
   generalize gW cell nn places places.length=taken at *
   refine aO (rA 8 (jf aX) nd) ?_
   refine aO (rB (tgt:=.tup [5,9]) (o:=.nx [.val (.int cell),.val (iZ places),.val (iZ lines),.val (iZ names),.val (.list ((taken.map λr=>r.map aW).map .list)),.un,.un,.un,.own (((dF nn).map (JL cell names lines taken)).map jP),.un,.un]) gA rfl (qC (ds:=names.map .str) (aj 3 rfl) n.Wu)
    (lg rfl (cZ (cJ (i:=5) nd rfl (bG rfl)) (cZ (cJ (i:=9) nd rfl (bG rfl)) jq))) (λi=>[.val (.int cell),.val (iZ places),.val (iZ lines),.val (iZ names),.val (.list ((taken.map λr=>r.map aW).map .list)),.un,.un,.un,.own (((dF i).map (JL cell names lines taken)).map jP),.un,.un]) nn rfl (by rw[fB,aq,nl];exact aK _) (λi d hi hd=>?_) (.inl ⟨by rw[fB,aq,nl],rfl⟩)) (bH (Dr 8 rfl))
   obtain⟨x,hx,rfl⟩:=kJ hd;obtain rfl:x=.str (names.getD i ""):=by
    rw[bh,aG (by omega)]at hx
    cases hx;rw[aP,aG (by omega)];rfl
   have hrow:taken[i]?=some (taken.getD i []):=by
    rw[aP,aG (by omega)];rfl
   have hrl:=(tr _ (dw hrow)).1;obtain⟨ht,_⟩:=Om cell lines i;have lo:=Oi cell (90+i);have hi':=zbb cell (90+i);refine⟨_,rfl,?_⟩
   refine aO (dU 10 (d:=.str (Tw cell lines i)) (lD (ds:=(lines ++ [("":Str)]).map .str) (VE.to (VO.ve (ux (d1:=lines.map .str) (d2:=[.str ""]) (aj 2 rfl) (VO.ve (jf (au aU aX))) (small (by simp only[aq,bJ,dM];omega)))) (by rw[bO];rfl)) (VE.to (eZ (cF C1 hr1 (au (aj 0 rfl) (au (iQ aH (aj 5 rfl)) aX)) ⟨cell,80+(i:Int),rfl,by omega,by omega,rfl⟩) (iQ (pG (aj 2 rfl) n.len) aH) (by omega)) (by rw[aq])) ht) nd) ?_
   refine mU (bH (oG 8 rfl (d:=jP (JL cell names lines taken i)) (jj (au (aj 9 rfl) (au (aj 10 rfl) (au ?_ (au ?_ aX))))) (oN (by simp only[aq,iK];omega)))) ⟨.inr rfl,.inr rfl,.inr rfl,.inr rfl,.inr rfl,.inl rfl,.inl rfl,.inl rfl,.inr ?_,.inl rfl,.inl rfl,trivial⟩
   ·exact cF C3 hr1 (au (cF C1 hr1 (au (aj 0 rfl) (au (iQ aH (aj 5 rfl)) aX)) ⟨cell,90+(i:Int),rfl,by omega,by omega,rfl⟩) (au (pG (ds:=(taken.getD i []).map .str) (lD (aj 4 rfl) (aj 5 rfl) (cu (by rw[bh,bh,hrow];rfl))) n.len) aX)) ⟨eE cell (90+i),(taken.getD i []).length,by rw[aq],by omega,by omega,by omega,rfl⟩
   ·exact sU tH H_ (au (lD (ds:=(taken.map λr=>r.map aW).map .list) (d:=.list ((taken.getD i []).map .str)) (aj 4 rfl) (aj 5 rfl) (cu (by rw[bh,bh,hrow];rfl))) aX) n.tup rfl
   ·rw[zH,bO,bO];rfl
end
def lE(ns:List Int):Int:=ns.getD 0 0
def cX(ns:List Int):Int:=ns.getD 1 0
def jM(ns:List Int):Int:=ns.getD 2 0
def pX(p:Str×Option Int):aA:=.tuple [.str p.1,vJ p.2]
def Cj(m:Int):Option Int:=if m%3=2 then some (1+m/3%30)else none
def kindAt(a:Int)(names:List Str)(k:Nat):Str×Option Int:=(names.getD k "",Cj (eE a (10+k)))
def ou(a:Int):Nat:=(1+eE a 1%4).toNat
def kindsOf(a:Int):List (Str×Option Int):=(dF (ou a)).map (kindAt a (namesOf a (ou a)))
def kO(b:Int):Nat:=(1+eE b 2%3).toNat
def placesOf(b:Int):List Str:=namesOf (eE b 4) (kO b+(eE b 5%4).toNat)
def turnOf(b:Int)(n:Nat):Nat:=(eE b 6%n).toNat
def orderOf(b:Int):List Str:=(placesOf b).drop (turnOf b (placesOf b).length)++(placesOf b).take (turnOf b (placesOf b).length)
def rF(b:Int):List Str:=(placesOf b).take (kO b)
def linesOf(b:Int):List Str:=(placesOf b).drop (kO b)
def oA(mH:List Dk)(name:Str):List Int:=mH.filterMap λd=>if decide (d.to=name)=true then some (mY d.rule d.places.length)else none
def maxOf(l:List Int):Int:=l.foldl (λm z=>if m<z then z else m) 1
def roomAt(b:Int)(mH:List Dk)(lines:List Str)(k:Nat):Str×Int:=(lines.getD k "",maxOf (oA mH (lines.getD k ""))+eE b (20+k)%3)
def vU(p:Str×Int):aA:=.tuple [.str p.1,.int p.2]
def Bt(p:Str×Str×Int):aA:=.tuple [.str p.1,.str p.2.1,.int p.2.2]
def zY(p:Str×Int×Int):aA:=.tuple [.str p.1,.int p.2.1,.int p.2.2]
def Ck(m:Int)(dn:Str)(p:(Str×Option Int)×Nat):Option (Str×Str×Int):=if decide (0<m/((p.2:Int)+7)%3)=true then some (dn,p.1.1,1+m/((p.2:Int)*p.2+2)%6)else none
def jT(m:Int)(dn:Str)(kinds:List (Str×Option Int))(j:Nat):List (Str×Str×Int):=(kinds.zipIdx.take j).filterMap (Ck m dn)
def qx(m:Int)(dn:Str):List (Str×Int×Int):=if m/5%4=0 then [(dn,m/20%9,9+m/180%20),(dn,25+m/3600%20,50+m/72000%40)]else []
def kW(c:Int)(mH:List Dk)(kinds:List (Str×Option Int))(i:Nat):List (Str×Str×Int):=(mH.zipIdx.take i).flatMap λp=>jT (eE c (110+p.2)) p.1.name kinds kinds.length
def nF(c:Int)(mH:List Dk)(i:Nat):List (Str×Int×Int):=(mH.zipIdx.take i).flatMap λp=>qx (eE c (110+p.2)) p.1.name
structure Pl where
 kinds:List (Str×Option Int)
 gates:List Str
 lines:List (Str×Int)
 desks:List Dk
 times:List (Str×Str×Int)
 hours:List (Str×Int×Int)
def kY(ns:List Int):Pl:=
 let kds:=kindsOf (lE ns)
 let lns:=linesOf (cX ns)
 let mH:=dg (jM ns) (orderOf (cX ns)) lns
 ⟨kds,rF (cX ns),(dF lns.length).map (roomAt (cX ns) mH lns),mH,kW (jM ns) mH kds mH.length,nF (jM ns) mH mH.length⟩
def uL(p:Pl):List (Str×aA):=[("kinds",.list (p.kinds.map pX)),("gates",iZ p.gates),("lines",.list (p.lines.map vU)),("desks",.list (p.desks.map jP)),("times",.list (p.times.map Bt)),("hours",.list (p.hours.map zY)),("paces",.list [])]
def jw(p:Pl):aA:=Cd (uL p)
theorem yu(l:List Int):maxOf l∈(1::l)/\∀z∈(1::l),z<=maxOf l:=by
 have go:∀(l:List Int)(m0:Int),(l.foldl (λm z=>if m<z then z else m) m0)∈m0::l/\∀z∈m0::l,z<=l.foldl (λm z=>if m<z then z else m) m0:=by
  intro l
  induction l with
  |nil=>intro m0;exact⟨aY,λz hz=>by simp at hz;rw[hz];exact Int.le_refl _⟩
  |cons x l ih=>
   intro m0;obtain⟨h1,h2⟩:=ih (if m0<x then x else m0)
   rw[uT];refine⟨?_,λz hz=>?_⟩
   ·rcases aQ.mp h1 with h|h
    ·rw[h]
     split<;>simp
    ·exact bD _ (bD _ h)
   ·have hm:=h2 _ aY
    rcases aQ.mp hz with rfl|hz
    ·refine Int.le_trans ?_ hm
     split<;>omega
    ·rcases aQ.mp hz with rfl|hz
     ·refine Int.le_trans ?_ hm
      split<;>omega
     ·exact h2 z (bD _ hz)
 exact go l 1
theorem Bu{m:Int}{dn:Str}{kinds:List (Str×Option Int)}{j:Nat}{p:Str×Option Int}(h:kinds[j]?=some p):jT m dn kinds (j+1)=jT m dn kinds j++(Ck m dn (p,j)).toList:=by
 unfold jT;rw[gP,m_,h];simp only[uF,CJ,Ai,G_];cases e:Ck m dn (p,j) with
 |none=>rw[nD e];rfl
 |some r=>rw[iD e];rfl
theorem zZ(m:Int)(dn:Str)(kinds:List (Str×Option Int))(j:Nat):(jT m dn kinds j).length<=j:=by
 unfold jT;exact dD (xQ _ _) (by rw[dO];omega)
theorem yw{c:Int}{mH:List Dk}{kinds:List (Str×Option Int)}{i:Nat}{d:Dk}(h:mH[i]?=some d):kW c mH kinds (i+1)=kW c mH kinds i++jT (eE c (110+i)) d.name kinds kinds.length:=by
 unfold kW;rw[gP,m_,h];simp
theorem DG{c:Int}{mH:List Dk}{i:Nat}{d:Dk}(h:mH[i]?=some d):nF c mH (i+1)=nF c mH i++qx (eE c (110+i)) d.name:=by
 unfold nF;rw[gP,m_,h];simp
theorem QH(m:Int)(dn:Str):(qx m dn).length<=2:=by unfold qx;split<;>simp
theorem yx(c:Int)(mH:List Dk)(kinds:List (Str×Option Int))(hk:kinds.length<=4):∀i,i<=mH.length->(kW c mH kinds i).length<=4*i
 |0,_=>by simp[kW]
 |i+1,h=>by
  have ih:=yx c mH kinds hk i (by omega)
  have:=zZ (eE c (110+i)) mH[i].name kinds kinds.length;rw[yw (aG (by omega)),bK]
  omega
theorem yC(c:Int)(mH:List Dk):∀i,i<=mH.length->(nF c mH i).length<=2*i
 |0,_=>by simp[nF]
 |i+1,h=>by
  have ih:=yC c mH i (by omega)
  have:=QH (eE c (110+i)) mH[i].name;rw[DG (aG (by omega)),bK]
  omega
theorem uc(a:Int):1<=ou a/\ou a<=4:=by
 unfold ou;have a1:0<=eE a 1%4:=bY _ (by omega)
 have a2:eE a 1%4<4:=cj _ (by omega)
 omega
theorem pI(b:Int):1<=kO b/\kO b<=3:=by
 unfold kO;have a1:0<=eE b 2%3:=bY _ (by omega)
 have a2:eE b 2%3<3:=cj _ (by omega)
 omega
theorem wF(b:Int):(placesOf b).length=kO b+(eE b 5%4).toNat:=jl _ _
theorem rG(b:Int):kO b<=(placesOf b).length/\(placesOf b).length<=6:=by
 have:=pI b;have a1:0<=eE b 5%4:=bY _ (by omega)
 have a2:eE b 5%4<4:=cj _ (by omega)
 rw[wF];omega
theorem Aw(b:Int){n:Nat}(h:1<=n):turnOf b n<n:=by
 unfold turnOf;have a1:0<=eE b 6%(n:Int):=bY _ (by omega)
 have a2:eE b 6%(n:Int)<n:=cj _ (by omega)
 omega
theorem yD(cell:Int)(places lines:List Str):(dg cell places lines).length=qO cell places.length:=by simp[dg]
theorem zbe(m:Int):yN [aA.none,.none,.int (1+m/3%30)] (m%3)=some (vJ (Cj m)):=by
 unfold Cj;have a1:0<=m%3:=bY _ (by omega)
 have a2:m%3<3:=cj _ (by omega)
 rcases(by omega:m%3=0\/m%3=1\/m%3=2)with e|e|e<;>rw[e]<;>rfl
def FJ(r:aA)(n:Nat):Int:=match r with
 | .tuple [.str w,.int m]=>if w="many" then m else 1
 | .tuple [.str w,.int m,_]=>if w="gather" then m else 1
 | .tuple [.str w]=>if w="meet" then n else 1
 |_=>1
theorem Oo(r:Rl)(n:Nat):FJ (W3 r) n=mY r n:=by
 cases r with
 |rank b=>cases b<;>rfl
 |_=>rfl
def VD(name:Str):aA->Option aA
 | .tuple [_,.str to,r,.tuple ps]=>if decide (to=name)=true then some (.int (FJ r ps.length))else none
 |_=>none
theorem Cm(name:Str)(d:Dk):VD name (jP d)=(if decide (d.to=name)=true then some (.int (mY d.rule d.places.length))else none):=by
 show(if decide (d.to=name)=true then some (jy (FJ (W3 d.rule) (d.places.map aW).length))else none)=_
 rw[Oo,aq]
theorem W4(name:Str)(mH:List Dk):(mH.map jP).filterMap (VD name)=(oA mH name).map .int:=by
 unfold oA;rw[dZ,List.map_filterMap]
 congr 1
 funext d
 show VD name (jP d)=_;rw[Cm]
 split<;>rfl
section
variable{P:bL}{w:dB}{K:ao}{mg:Str->Option aF}{base:dW}{f:aN}{k:Nat}
abbrev Npl:List Str:=["_law_script","_law_a","_law_b","_law_c","_law_kinds","_law_k","_law_name","_law_m","_law_many","_law_places","_law_gates","_law_lines","_law_order","_law_desks_here","_law_rooms","_law_loads","_law_times","_law_hours","_law_desk","_law_j","_law_kind"]
theorem zb0:eX Npl ["_law_script"] (cP (top 52)):=⟨rfl,rfl,rfl,by decide +kernel,rfl,by decide +kernel,by decide +kernel⟩
def Rpl(ds:List aA)(d:aA):Prop:=∃ns:List Int,ds=[qN ns]/\d=jw (kY ns)
end
theorem Ax{α β:Type}(g:α->β)(l:List α)(lo hi:Option Int):L2.cutD (l.map g) lo hi=(L2.cutD l lo hi).map g:=by
 unfold L2.cutD;rw[aq,Px,xR]
theorem ud{α:Type}(l:List α)(n:Nat):L2.cutD l (some (n:Int)) none=l.drop n:=by
 unfold L2.cutD;rw[HT.uK,HT.P0];by_cases h:n<=l.length
 ·rw[uY h,gw (by rw[fG];omega)]
 ·rw[Nat.min_eq_right (by omega),zc (aK _),zc (by omega)];simp
section
variable{P:bL}{w:dB}{K:ao}{mg:Str->Option aF}{base:dW}{f:aN}{k:Nat}
theorem zir{fd:cU}(F:rP K "_law_plant" "_law_plant" (top 52) f fd)(n:Ng mg)(C0:cG P w K mg base 1 "_law_cell_at" ["_law_script","_law_k"] (mX K VB))(C1:cG P w K mg base 1 "_law_mix" ["_law_cell","_law_k"] (mX K Tt))(C2:cG P w K mg base 2 "_law_names" ["_law_cell","_law_many"] (LK K Rnm))(C3:cG P w K mg base 1 "_law_greatest" ["_law_rule_here","_law_many"] (mX K Rgr))(C4:cG P w K mg base 3 "_law_desks" ["_law_cell","_law_places","_law_lines"] (LK K Rdk)):i_ P w K mg base qz 4 f fd ["_law_script"] (mX K Rpl):=
 qg F zb0 (λ_ _ h=>by obtain⟨_,rfl,_⟩:=h;rfl) λ_ _ h=>by
  obtain⟨ns,rfl,rfl⟩:=h;intro cdv A outer s H E hr;have nd:Npl.Nodup:=zb0.nd;have hr1:jH 1 _:=hr.mono (by omega)
  have hr2:jH 2 _:=hr.mono (by omega)
  have e0:kY ns=⟨(kindsOf (lE ns)),(placesOf (cX ns)).take (kO (cX ns)),((dF (linesOf (cX ns)).length).map (roomAt (cX ns) (dg (jM ns) (orderOf (cX ns)) (linesOf (cX ns))) (linesOf (cX ns)))),(dg (jM ns) (orderOf (cX ns)) (linesOf (cX ns))),kW (jM ns) (dg (jM ns) (orderOf (cX ns)) (linesOf (cX ns))) (kindsOf (lE ns)) (dg (jM ns) (orderOf (cX ns)) (linesOf (cX ns))).length,nF (jM ns) (dg (jM ns) (orderOf (cX ns)) (linesOf (cX ns))) (dg (jM ns) (orderOf (cX ns)) (linesOf (cX ns))).length⟩:=rfl;rw[e0];obtain⟨k1,k4⟩:=uc (lE ns);have knl:(namesOf (lE ns) (ou (lE ns))).length=ou (lE ns):=jl _ _;have hkd:(dF (ou (lE ns))).map (kindAt (lE ns) (namesOf (lE ns) (ou (lE ns))))=(kindsOf (lE ns)):=rfl;have hkl:(kindsOf (lE ns)).length=ou (lE ns):=by simp[kindsOf]
  obtain⟨g1,g3⟩:=pI (cX ns);obtain⟨p1,p6⟩:=rG (cX ns);have pl:=wF (cX ns);have hln:(placesOf (cX ns)).drop (kO (cX ns))=(linesOf (cX ns)):=rfl;have hll:(linesOf (cX ns)).length<=6:=by rw[<-hln,fG];omega
  have hor:(placesOf (cX ns)).drop (turnOf (cX ns) (placesOf (cX ns)).length)++(placesOf (cX ns)).take (turnOf (cX ns) (placesOf (cX ns)).length)=(orderOf (cX ns)):=rfl;have hol:(orderOf (cX ns)).length=(placesOf (cX ns)).length:=by rw[<-hor,bK,fG,dO];have:=Aw (cX ns) (n:=(placesOf (cX ns)).length) (by omega);omega
  have hdl:(dg (jM ns) (orderOf (cX ns)) (linesOf (cX ns))).length<=4:=by rw[yD];exact(t_ (jM ns) (by omega)).2.1
  have ek:((ou (lE ns):Nat):Int)=1+eE (lE ns) 1%4:=by
   unfold ou;have a1:0<=eE (lE ns) 1%4:=bY _ (by omega)
   omega
  have eg:(((kO (cX ns)):Nat):Int)=1+eE (cX ns) 2%3:=by
   unfold kO;have a1:0<=eE (cX ns) 2%3:=bY _ (by omega)
   omega
  have ep:((((kO (cX ns))+(eE (cX ns) 5%4).toNat:Nat)):Int)=((kO (cX ns)):Int)+eE (cX ns) 5%4:=by
   have a1:0<=eE (cX ns) 5%4:=bY _ (by omega)
   omega
  have et:((turnOf (cX ns) (placesOf (cX ns)).length:Nat):Int)=eE (cX ns) 6%((placesOf (cX ns)).length:Int):=by
   unfold turnOf;have a1:0<=eE (cX ns) 6%((placesOf (cX ns)).length:Int):=bY _ (by omega)
   omega
  refine aO (zaU 1 2 3 (d1:=.int (lE ns)) (d2:=.int (cX ns)) (d3:=.int (jM ns)) (cF C0 hr1 (au (aj 0 rfl) (au aH aX)) ⟨ns,0,rfl,rfl⟩) (cF C0 hr1 (au (aj 0 rfl) (au aH aX)) ⟨ns,1,rfl,rfl⟩) (cF C0 hr1 (au (aj 0 rfl) (au aH aX)) ⟨ns,2,rfl,rfl⟩) rfl nd (by decide) (by decide) (by decide)) ?_
  refine aO (rA 4 (jf aX) nd) ?_
  refine aO (rB (tgt:=.tup [5,6]) (o:=.nx [.val (qN ns),.val (.int (lE ns)),.val (.int (cX ns)),.val (.int (jM ns)),.own (((dF (ou (lE ns))).map (kindAt (lE ns) (namesOf (lE ns) (ou (lE ns))))).map pX),.un,.un,.un,.un,.un,.un,.un,.un,.un,.un,.un,.un,.un,.un,.un,.un]) gA rfl (qC (ds:=(namesOf (lE ns) (ou (lE ns))).map .str) (VO.ve (rC C2 hr2 (au (aj 1 rfl) (au (VE.to (k:=.int (ou (lE ns):Nat)) (iQ aH (eZ (cF C1 hr1 (au (aj 1 rfl) (au (aH) aX)) ⟨lE ns,1,rfl,by first|decide|omega,by first|decide|omega,rfl⟩) aH (by decide))) (by rw[ek])) aX)) ⟨lE ns,ou (lE ns),rfl,by omega,rfl⟩)) n.Wu)
   (lg rfl (cZ (cJ (i:=5) nd rfl (by first|exact bG rfl|exact fj rfl)) (cZ (cJ (i:=6) nd rfl (by first|exact bG rfl|exact fj rfl)) (jq)))) (λi=>[.val (qN ns),.val (.int (lE ns)),.val (.int (cX ns)),.val (.int (jM ns)),.own (((dF (i)).map (kindAt (lE ns) (namesOf (lE ns) (ou (lE ns))))).map pX),.un,.un,.un,.un,.un,.un,.un,.un,.un,.un,.un,.un,.un,.un,.un,.un]) (ou (lE ns)) rfl (by rw[fB,aq,knl];exact aK _) (λi d hi hd=>?_) (.inl ⟨by rw[fB,aq,knl],rfl⟩)) ?_
  ·obtain⟨x,hx,rfl⟩:=kJ hd
   obtain rfl:x=.str ((namesOf (lE ns) (ou (lE ns))).getD i ""):=by
    rw[bh,aG (by omega)]at hx
    cases hx;rw[aP,aG (by omega)];rfl
   refine⟨_,rfl,?_⟩
   refine aO (dU 7 (d:=.int (eE (lE ns) (10+i))) (cF C1 hr1 (au (aj 1 rfl) (au (iQ aH (aj 5 rfl)) aX)) ⟨lE ns,10+(i:Int),rfl,by first|decide|omega,by first|decide|omega,rfl⟩) nd) ?_
   refine mU (bH (oG 4 rfl (d:=pX (kindAt (lE ns) (namesOf (lE ns) (ou (lE ns))) i)) (jj (au (aj 6 rfl) (au (lD (VO.ve (jf (au lJ (au lJ (au (iQ aH (eZ (jJ (aj 7 rfl) aH ⟨by decide,by decide⟩) aH (by decide))) aX))))) (eZ (aj 7 rfl) aH (by decide)) (zbe _)) aX))) (oN (by simp only[aq,iK];omega)))) ⟨.inr rfl,.inr rfl,.inr rfl,.inr rfl,.inr ?_,.inl rfl,.inl rfl,.inl rfl,.inl rfl,.inl rfl,.inl rfl,.inl rfl,.inl rfl,.inl rfl,.inl rfl,.inl rfl,.inl rfl,.inl rfl,.inl rfl,.inl rfl,.inl rfl,trivial⟩
   rw[zH,bO,bO];rfl
  rw[hkd];refine mW 4 rfl ?_
  refine aO (dU 8 (d:=.int ((kO (cX ns)):Nat)) (VE.to (iQ aH (eZ (cF C1 hr1 (au (aj 2 rfl) (au (aH) aX)) ⟨cX ns,2,rfl,by first|decide|omega,by first|decide|omega,rfl⟩) aH (by decide))) (by rw[eg])) nd) ?_
  refine aO (dU 9 (d:=iZ (placesOf (cX ns))) (VO.ve (rC C2 hr2 (au (cF C1 hr1 (au (aj 2 rfl) (au (aH) aX)) ⟨cX ns,4,rfl,by first|decide|omega,by first|decide|omega,rfl⟩) (au (VE.to (k:=.int ((kO (cX ns))+(eE (cX ns) 5%4).toNat:Nat)) (iQ (aj 8 rfl) (eZ (cF C1 hr1 (au (aj 2 rfl) (au (aH) aX)) ⟨cX ns,5,rfl,by first|decide|omega,by first|decide|omega,rfl⟩) aH (by decide))) (by rw[ep])) aX)) ⟨eE (cX ns) 4,(kO (cX ns))+(eE (cX ns) 5%4).toNat,rfl,by omega,rfl⟩)) nd) ?_
  refine aO (Yz 10 11 (d1:=iZ ((placesOf (cX ns)).take (kO (cX ns)))) (d2:=iZ (linesOf (cX ns))) (VE.to (VO.ve (n_ (ds:=(placesOf (cX ns)).map .str) (aj 9 rfl) .no (.yes (aj 8 rfl)))) (by rw[Ax,Qj];rfl)) (VE.to (VO.ve (n_ (ds:=(placesOf (cX ns)).map .str) (aj 9 rfl) (.yes (aj 8 rfl)) .no)) (by rw[Ax,ud];rfl)) rfl nd (by decide)) ?_
  refine aO (dU 12 (d:=iZ (orderOf (cX ns))) (VE.to (VO.ve (ux (VO.ve (VO.to (k:=((placesOf (cX ns)).drop (turnOf (cX ns) (placesOf (cX ns)).length)).map aW) (n_ (ds:=(placesOf (cX ns)).map .str) (aj 9 rfl) (.yes (VE.to (k:=.int (turnOf (cX ns) (placesOf (cX ns)).length:Nat)) (eZ (cF C1 hr1 (au (aj 2 rfl) (au (aH) aX)) ⟨cX ns,6,rfl,by first|decide|omega,by first|decide|omega,rfl⟩) (pG (ds:=(placesOf (cX ns)).map .str) (aj 9 rfl) n.len) (by rw[aq];omega)) (by rw[et,aq]))) .no) (by rw[Ax,ud]))) (VO.ve (VO.to (k:=((placesOf (cX ns)).take (turnOf (cX ns) (placesOf (cX ns)).length)).map aW) (n_ (ds:=(placesOf (cX ns)).map .str) (aj 9 rfl) .no (.yes (VE.to (k:=.int (turnOf (cX ns) (placesOf (cX ns)).length:Nat)) (eZ (cF C1 hr1 (au (aj 2 rfl) (au (aH) aX)) ⟨cX ns,6,rfl,by first|decide|omega,by first|decide|omega,rfl⟩) (pG (ds:=(placesOf (cX ns)).map .str) (aj 9 rfl) n.len) (by rw[aq];omega)) (by rw[et,aq])))) (by rw[Ax,Qj]))) (small (by simp only[aq,fG,dO];omega)))) (by rw[<-bO,hor];rfl)) nd) ?_
  refine aO (dU 13 (d:=.list ((dg (jM ns) (orderOf (cX ns)) (linesOf (cX ns))).map jP)) (VO.ve (rC C4 hr (au (aj 3 rfl) (au (aj 12 rfl) (au (aj 11 rfl) aX))) ⟨jM ns,(orderOf (cX ns)),(linesOf (cX ns)),rfl,by omega,by omega,by omega,rfl⟩)) nd) ?_
  refine aO (rA 14 (jf aX) nd) ?_
  have hto:∀d∈(dg (jM ns) (orderOf (cX ns)) (linesOf (cX ns))),rY d.to:=λd hd=>by
   obtain⟨j,_,rfl⟩:=aR.mp hd;have hm:=(Om (jM ns) (linesOf (cX ns)) j).2;rcases dJ.mp hm with hm|hm
   ·exact(pH (jD (show Tw (jM ns) (linesOf (cX ns)) j∈(placesOf (cX ns)).drop (kO (cX ns))from hm))).ok.2
   ·show rY (Tw (jM ns) (linesOf (cX ns)) j)
    rw[bW.mp hm];show eN (.str ("":Str))=true;decide +kernel
  refine aO (rB (tgt:=.tup [5,6]) (o:=.nx [.val (qN ns),.val (.int (lE ns)),.val (.int (cX ns)),.val (.int (jM ns)),.val (.list ((kindsOf (lE ns)).map pX)),.un,.un,.un,.val (.int (kO (cX ns))),.val (iZ (placesOf (cX ns))),.val (iZ ((placesOf (cX ns)).take (kO (cX ns)))),.val (iZ (linesOf (cX ns))),.val (iZ (orderOf (cX ns))),.val (.list ((dg (jM ns) (orderOf (cX ns)) (linesOf (cX ns))).map jP)),.own (((dF ((linesOf (cX ns)).length)).map (roomAt (cX ns) (dg (jM ns) (orderOf (cX ns)) (linesOf (cX ns))) (linesOf (cX ns)))).map vU),.un,.un,.un,.un,.un,.un]) gA rfl (qC (ds:=(linesOf (cX ns)).map .str) (aj 11 rfl) n.Wu)
   (lg rfl (cZ (cJ (i:=5) nd rfl (by first|exact bG rfl|exact fj rfl)) (cZ (cJ (i:=6) nd rfl (by first|exact bG rfl|exact fj rfl)) (jq)))) (λi=>[.val (qN ns),.val (.int (lE ns)),.val (.int (cX ns)),.val (.int (jM ns)),.val (.list ((kindsOf (lE ns)).map pX)),.un,.un,.un,.val (.int (kO (cX ns))),.val (iZ (placesOf (cX ns))),.val (iZ ((placesOf (cX ns)).take (kO (cX ns)))),.val (iZ (linesOf (cX ns))),.val (iZ (orderOf (cX ns))),.val (.list ((dg (jM ns) (orderOf (cX ns)) (linesOf (cX ns))).map jP)),.own (((dF (i)).map (roomAt (cX ns) (dg (jM ns) (orderOf (cX ns)) (linesOf (cX ns))) (linesOf (cX ns)))).map vU),.un,.un,.un,.un,.un,.un]) (linesOf (cX ns)).length rfl (by rw[fB,aq];exact aK _) (λi d hi hd=>?_) (.inl ⟨by rw[fB,aq],rfl⟩)) ?_
  ·obtain⟨x,hx,rfl⟩:=kJ hd
   obtain⟨rfl,hmem⟩:x=.str ((linesOf (cX ns)).getD i "")/\(linesOf (cX ns)).getD i ""∈(linesOf (cX ns)):=by
    rw[bh,aG (by omega)]at hx
    cases hx;rw[aP,aG (by omega)]
    exact⟨rfl,fY _⟩
   have okn:rY ((linesOf (cX ns)).getD i ""):=(pH (jD (show(linesOf (cX ns)).getD i ""∈(placesOf (cX ns)).drop (kO (cX ns))from hmem))).ok.2
   have nc:(["_law_desk","_law_name"]:List Str).Nodup:=by decide +kernel
   have hlo:(oA (dg (jM ns) (orderOf (cX ns)) (linesOf (cX ns))) ((linesOf (cX ns)).getD i "")).length<=4:=dD (xQ _ _) hdl;refine⟨_,rfl,?_⟩
   refine aO (Vj 15 (own:=["_law_desk"]) (cap:=[6]) (N:=["_law_desk","_law_name"]) (tgt:=.one 0) (F:=VD ((linesOf (cX ns)).getD i "")) (ds:=(dg (jM ns) (orderOf (cX ns)) (linesOf (cX ns))).map jP) rfl ⟨rfl,by decide +kernel,by decide +kernel,rfl,rfl,?_⟩ (lN (aj 13 rfl)) (λf s3 H3=>cJ (i:=0) nc rfl (bG rfl)) rfl (small (by rw[aq];omega)) (λd hd=>?_) nd) ?_
   ·intro j hj
    rcases aQ.mp hj with rfl|hj
    ·exact⟨(by show(6:Nat)<21;decide),bG rfl,rfl⟩
    ·cases hj
   ·obtain⟨dk,hdk,rfl⟩:=aR.mp hd
    refine⟨_,rfl,λf s3 H3=>?_,λr hr' f s3 H3=>?_⟩
    ·refine N8 (VT.to (c7 (k:=1) hr1 (bZ (hto dk hdk)) (bZ okn) (cY (aj 0 rfl) aH rfl) (aj 1 rfl)) ?_)
     rw[Cm,cR];by_cases h:dk.to=(linesOf (cX ns)).getD i ""
     ·rw[decide_eq_true h,if_pos rfl];rfl
     ·rw[decide_eq_false h,if_neg eY];rfl
    ·rw[Cm]at hr'
     split at hr'
     ·cases hr'
      exact cF C3 hr1 (au (cY (aj 0 rfl) aH rfl) (au (vQ (ds:=dk.places.map .str) (cY (aj 0 rfl) aH rfl) n.len) aX)) ⟨dk.rule,dk.places.length,by rw[aq],rfl⟩
     ·cases hr'
   refine mW 15 rfl ?_
   rw[W4];obtain⟨mx1,mx2⟩:=yu (oA (dg (jM ns) (orderOf (cX ns)) (linesOf (cX ns))) ((linesOf (cX ns)).getD i ""));refine mU (bH (oG 14 rfl (d:=vU (roomAt (cX ns) (dg (jM ns) (orderOf (cX ns)) (linesOf (cX ns))) (linesOf (cX ns)) i)) (jj (au (aj 6 rfl) (au (iQ (oh (Wt rfl) (zfa (ns:=1::oA (dg (jM ns) (orderOf (cX ns)) (linesOf (cX ns))) ((linesOf (cX ns)).getD i "")) mx1 mx2) (au (VO.ve (ux (d1:=[.int 1]) (d2:=(oA (dg (jM ns) (orderOf (cX ns)) (linesOf (cX ns))) ((linesOf (cX ns)).getD i "")).map .int) (VO.ve (jf (ds:=[.int 1]) (au aH aX))) (aj 15 rfl) (small (by simp only[aq,bJ,dM];omega)))) aX) n.max rfl) (eZ (cF C1 hr1 (au (aj 2 rfl) (au (iQ aH (aj 5 rfl)) aX)) ⟨cX ns,20+(i:Int),rfl,by first|decide|omega,by first|decide|omega,rfl⟩) aH (by decide))) aX))) (oN (by simp only[aq,iK];omega)))) ⟨.inr rfl,.inr rfl,.inr rfl,.inr rfl,.inr rfl,.inl rfl,.inl rfl,.inl rfl,.inr rfl,.inr rfl,.inr rfl,.inr rfl,.inr rfl,.inr rfl,.inr ?_,.inl rfl,.inl rfl,.inl rfl,.inl rfl,.inl rfl,.inl rfl,trivial⟩
   rw[zH,bO,bO];rfl
  refine mW 14 rfl ?_
  refine aO (zaS 16 17 (jf aX) (jf aX) rfl nd (by decide)) ?_
  refine aO (rB (tgt:=.tup [5,18]) (o:=.nx [.val (qN ns),.val (.int (lE ns)),.val (.int (cX ns)),.val (.int (jM ns)),.val (.list ((kindsOf (lE ns)).map pX)),.un,.un,.un,.val (.int (kO (cX ns))),.val (iZ (placesOf (cX ns))),.val (iZ ((placesOf (cX ns)).take (kO (cX ns)))),.val (iZ (linesOf (cX ns))),.val (iZ (orderOf (cX ns))),.val (.list ((dg (jM ns) (orderOf (cX ns)) (linesOf (cX ns))).map jP)),.val (.list (((dF (linesOf (cX ns)).length).map (roomAt (cX ns) (dg (jM ns) (orderOf (cX ns)) (linesOf (cX ns))) (linesOf (cX ns)))).map vU)),.un,.own ((kW (jM ns) (dg (jM ns) (orderOf (cX ns)) (linesOf (cX ns))) (kindsOf (lE ns)) ((dg (jM ns) (orderOf (cX ns)) (linesOf (cX ns))).length)).map Bt),.own ((nF (jM ns) (dg (jM ns) (orderOf (cX ns)) (linesOf (cX ns))) ((dg (jM ns) (orderOf (cX ns)) (linesOf (cX ns))).length)).map zY),.un,.un,.un]) gA rfl (qC (ds:=(dg (jM ns) (orderOf (cX ns)) (linesOf (cX ns))).map jP) (aj 13 rfl) n.Wu)
   (lg rfl (cZ (cJ (i:=5) nd rfl (by first|exact bG rfl|exact fj rfl)) (cZ (cJ (i:=18) nd rfl (by first|exact bG rfl|exact fj rfl)) (jq)))) (λi=>[.val (qN ns),.val (.int (lE ns)),.val (.int (cX ns)),.val (.int (jM ns)),.val (.list ((kindsOf (lE ns)).map pX)),.un,.un,.un,.val (.int (kO (cX ns))),.val (iZ (placesOf (cX ns))),.val (iZ ((placesOf (cX ns)).take (kO (cX ns)))),.val (iZ (linesOf (cX ns))),.val (iZ (orderOf (cX ns))),.val (.list ((dg (jM ns) (orderOf (cX ns)) (linesOf (cX ns))).map jP)),.val (.list (((dF (linesOf (cX ns)).length).map (roomAt (cX ns) (dg (jM ns) (orderOf (cX ns)) (linesOf (cX ns))) (linesOf (cX ns)))).map vU)),.un,.own ((kW (jM ns) (dg (jM ns) (orderOf (cX ns)) (linesOf (cX ns))) (kindsOf (lE ns)) (i)).map Bt),.own ((nF (jM ns) (dg (jM ns) (orderOf (cX ns)) (linesOf (cX ns))) (i)).map zY),.un,.un,.un]) (dg (jM ns) (orderOf (cX ns)) (linesOf (cX ns))).length rfl (by rw[fB,aq];exact aK _) (λi d hi hd=>?_) (.inl ⟨by rw[fB,aq],rfl⟩)) ?_
  ·obtain⟨x,hx,rfl⟩:=kJ hd
   obtain⟨dk,hdk,rfl⟩:∃dk,(dg (jM ns) (orderOf (cX ns)) (linesOf (cX ns)))[i]?=some dk/\x=jP dk:=by
    rw[bh,aG (by omega)]at hx
    cases hx;exact⟨_,aG (by omega),rfl⟩
   refine⟨_,rfl,?_⟩
   refine aO (dU 7 (d:=.int (eE (jM ns) (110+i))) (cF C1 hr1 (au (aj 3 rfl) (au (iQ aH (aj 5 rfl)) aX)) ⟨jM ns,110+(i:Int),rfl,by first|decide|omega,by first|decide|omega,rfl⟩) nd) ?_
   have tsu:=yw (c:=jM ns) (kinds:=(kindsOf (lE ns))) hdk;have hsu:=DG (c:=jM ns) hdk;have tle:=yx (jM ns) (dg (jM ns) (orderOf (cX ns)) (linesOf (cX ns))) (kindsOf (lE ns)) (by omega) i (by omega)
   have hle:=yC (jM ns) (dg (jM ns) (orderOf (cX ns)) (linesOf (cX ns))) i (by omega)
   rw[tsu,hsu];have m0:=Oi (jM ns) (110+i)
   generalize eE (jM ns) (110+i)=m at *
   refine aO (rB (tgt:=.tup [19,20]) (o:=.nx [.val (qN ns),.val (.int (lE ns)),.val (.int (cX ns)),.val (.int (jM ns)),.val (.list ((kindsOf (lE ns)).map pX)),.val (.int i),.un,.val (.int m),.val (.int (kO (cX ns))),.val (iZ (placesOf (cX ns))),.val (iZ ((placesOf (cX ns)).take (kO (cX ns)))),.val (iZ (linesOf (cX ns))),.val (iZ (orderOf (cX ns))),.val (.list ((dg (jM ns) (orderOf (cX ns)) (linesOf (cX ns))).map jP)),.val (.list (((dF (linesOf (cX ns)).length).map (roomAt (cX ns) (dg (jM ns) (orderOf (cX ns)) (linesOf (cX ns))) (linesOf (cX ns)))).map vU)),.un,.own ((kW (jM ns) (dg (jM ns) (orderOf (cX ns)) (linesOf (cX ns))) (kindsOf (lE ns)) i++jT m dk.name (kindsOf (lE ns)) ((kindsOf (lE ns)).length)).map Bt),.own ((nF (jM ns) (dg (jM ns) (orderOf (cX ns)) (linesOf (cX ns))) (i)).map zY),.val (jP dk),.un,.un]) gA rfl (qC (ds:=(kindsOf (lE ns)).map pX) (aj 4 rfl) n.Wu)
    (lg rfl (cZ (cJ (i:=19) nd rfl (by first|exact bG rfl|exact fj rfl)) (cZ (cJ (i:=20) nd rfl (by first|exact bG rfl|exact fj rfl)) (jq)))) (λj=>[.val (qN ns),.val (.int (lE ns)),.val (.int (cX ns)),.val (.int (jM ns)),.val (.list ((kindsOf (lE ns)).map pX)),.val (.int i),.un,.val (.int m),.val (.int (kO (cX ns))),.val (iZ (placesOf (cX ns))),.val (iZ ((placesOf (cX ns)).take (kO (cX ns)))),.val (iZ (linesOf (cX ns))),.val (iZ (orderOf (cX ns))),.val (.list ((dg (jM ns) (orderOf (cX ns)) (linesOf (cX ns))).map jP)),.val (.list (((dF (linesOf (cX ns)).length).map (roomAt (cX ns) (dg (jM ns) (orderOf (cX ns)) (linesOf (cX ns))) (linesOf (cX ns)))).map vU)),.un,.own ((kW (jM ns) (dg (jM ns) (orderOf (cX ns)) (linesOf (cX ns))) (kindsOf (lE ns)) i++jT m dk.name (kindsOf (lE ns)) (j)).map Bt),.own ((nF (jM ns) (dg (jM ns) (orderOf (cX ns)) (linesOf (cX ns))) (i)).map zY),.val (jP dk),.un,.un]) (kindsOf (lE ns)).length (by show([.val (qN ns),.val (.int (lE ns)),.val (.int (cX ns)),.val (.int (jM ns)),.val (.list ((kindsOf (lE ns)).map pX)),.val (.int i),.un,.val (.int m),.val (.int (kO (cX ns))),.val (iZ (placesOf (cX ns))),.val (iZ ((placesOf (cX ns)).take (kO (cX ns)))),.val (iZ (linesOf (cX ns))),.val (iZ (orderOf (cX ns))),.val (.list ((dg (jM ns) (orderOf (cX ns)) (linesOf (cX ns))).map jP)),.val (.list (((dF (linesOf (cX ns)).length).map (roomAt (cX ns) (dg (jM ns) (orderOf (cX ns)) (linesOf (cX ns))) (linesOf (cX ns)))).map vU)),.un,.own ((kW (jM ns) (dg (jM ns) (orderOf (cX ns)) (linesOf (cX ns))) (kindsOf (lE ns)) i++jT m dk.name (kindsOf (lE ns)) (0)).map Bt),.own ((nF (jM ns) (dg (jM ns) (orderOf (cX ns)) (linesOf (cX ns))) (i)).map zY),.val (jP dk),.un,.un]:List Slot)=_;rw[show jT m dk.name (kindsOf (lE ns)) 0=[]from rfl,gK];rfl) (by rw[fB,aq];exact aK _) (λj d hj hd=>?_) (.inl ⟨by rw[fB,aq],rfl⟩)) ?_
   ·obtain⟨x,hx,rfl⟩:=kJ hd
    obtain⟨kd,zis,rfl⟩:∃kd,(kindsOf (lE ns))[j]?=some kd/\x=pX kd:=by
     rw[bh,aG (by omega)]at hx
     cases hx;exact⟨_,aG (by omega),rfl⟩
    have rle:=zZ m dk.name (kindsOf (lE ns)) j;have jj0:(0:Int)<=(j:Int)*j:=BR (by omega) (by omega)
    have jj1:(j:Int)*j<=60*60:=Nk (by omega) (by omega) (by omega) (by omega)
    refine⟨_,rfl,?_⟩
    rw[Bu zis];by_cases ht:decide (0<m/((j:Int)+7)%3)=true
    ·have et:Ck m dk.name (kd,j)=some (dk.name,kd.1,1+m/((j:Int)*j+2)%6):=by show(if _ then _ else _)=_;rw[if_pos ht]
     rw[et];refine mU (bH (gj (VT.to (Lz (eZ (jJ (aj 7 rfl) (iQ (aj 19 rfl) aH) ⟨by omega,by omega⟩) aH (by decide)) aH) ht) (bH (oG 16 rfl (d:=Bt (dk.name,kd.1,1+m/((j:Int)*j+2)%6)) (jj (au (cY (aj 18 rfl) aH rfl) (au (cY (aj 20 rfl) aH rfl) (au (iQ aH (eZ (jJ (aj 7 rfl) (iQ (zP (aj 19 rfl) (aj 19 rfl) (.inl ⟨by omega,by omega⟩)) aH) ⟨by omega,by omega⟩) aH (by decide))) aX)))) (oN (by simp only[aq,bK];omega)))))) ⟨.inr rfl,.inr rfl,.inr rfl,.inr rfl,.inr rfl,.inr rfl,.inl rfl,.inr rfl,.inr rfl,.inr rfl,.inr rfl,.inr rfl,.inr rfl,.inr rfl,.inr rfl,.inl rfl,.inr ?_,.inr rfl,.inr rfl,.inl rfl,.inl rfl,trivial⟩
     rw[<-jh,bO (l₂:=Option.toList _)];rfl
    ·have et:Ck m dk.name (kd,j)=none:=by show(if _ then _ else _)=_;rw[if_neg ht]
     rw[et];refine mU (bH (cW (VT.to (Lz (eZ (jJ (aj 7 rfl) (iQ (aj 19 rfl) aH) ⟨by omega,by omega⟩) aH (by decide)) aH) (by simpa using ht)) b_)) ⟨.inr rfl,.inr rfl,.inr rfl,.inr rfl,.inr rfl,.inr rfl,.inl rfl,.inr rfl,.inr rfl,.inr rfl,.inr rfl,.inr rfl,.inr rfl,.inr rfl,.inr rfl,.inl rfl,.inr ?_,.inr rfl,.inr rfl,.inl rfl,.inl rfl,trivial⟩
     rw[Option.toList_none,gK]
   have rle:=zZ m dk.name (kindsOf (lE ns)) (kindsOf (lE ns)).length;have e5:fD (.int (m/5%4)) (.int 0)=decide (m/5%4=0):=pR _ _;by_cases h5:m/5%4=0
   ·have eh:qx m dk.name=[(dk.name,m/20%9,9+m/180%20),(dk.name,25+m/3600%20,50+m/72000%40)]:=by unfold qx;rw[if_pos h5]
    rw[eh];refine mU (bH (gj (VT.to (c7 (k:=1) hr1 (dY 20 _) (dY 20 _) (eZ (jJ (aj 7 rfl) aH ⟨by decide,by decide⟩) aH (by decide)) aH) (by rw[e5,decide_eq_true h5])) (aO (oG 17 rfl (d:=zY (dk.name,m/20%9,9+m/180%20)) (jj (au (cY (aj 18 rfl) aH rfl) (au (eZ (jJ (aj 7 rfl) aH ⟨by decide,by decide⟩) aH (by decide)) (au (iQ aH (eZ (jJ (aj 7 rfl) aH ⟨by decide,by decide⟩) aH (by decide))) aX)))) (oN (by simp only[aq];omega))) (bH (oG 17 rfl (d:=zY (dk.name,25+m/3600%20,50+m/72000%40)) (jj (au (cY (aj 18 rfl) aH rfl) (au (iQ aH (eZ (jJ (aj 7 rfl) aH ⟨by decide,by decide⟩) aH (by decide))) (au (iQ aH (eZ (jJ (aj 7 rfl) aH ⟨by decide,by decide⟩) aH (by decide))) aX)))) (oN (by simp only[aq,bK,bJ,dM];omega))))))) ⟨.inr rfl,.inr rfl,.inr rfl,.inr rfl,.inr rfl,.inl rfl,.inl rfl,.inl rfl,.inr rfl,.inr rfl,.inr rfl,.inr rfl,.inr rfl,.inr rfl,.inr rfl,.inl rfl,.inr rfl,.inr ?_,.inl rfl,.inl rfl,.inl rfl,trivial⟩
    rw[bO (l₂:=[_,_]),jh];rfl
   ·have eh:qx m dk.name=[]:=by unfold qx;rw[if_neg h5]
    rw[eh,gK];exact mU (bH (cW (VT.to (c7 (k:=1) hr1 (dY 20 _) (dY 20 _) (eZ (jJ (aj 7 rfl) aH ⟨by decide,by decide⟩) aH (by decide)) aH) (by rw[e5,decide_eq_false h5])) b_)) ⟨.inr rfl,.inr rfl,.inr rfl,.inr rfl,.inr rfl,.inl rfl,.inl rfl,.inl rfl,.inr rfl,.inr rfl,.inr rfl,.inr rfl,.inr rfl,.inr rfl,.inr rfl,.inl rfl,.inr rfl,.inr rfl,.inl rfl,.inl rfl,.inl rfl,trivial⟩
  refine mW 16 rfl ?_
  refine mW 17 rfl ?_
  refine bH (dG (Vr (.cons aU (aj 4 rfl) (.cons aU (aj 10 rfl) (.cons aU (aj 14 rfl) (.cons aU (aj 13 rfl) (.cons aU (aj 16 rfl) (.cons aU (aj 17 rfl) (.cons aU (VO.ve (jf aX)) .nil))))))) (show([("kinds":Str),"gates","lines","desks","times","hours","paces"]).Nodup by decide +kernel) (by simp[uL]) (by show 7<=15;decide)))
end
end Mg
namespace Mg
open L2 PySem PyProof.Rows
theorem xg(p:Pl):qw (uL p) "kinds"=some (.list (p.kinds.map pX)):=j_ rfl
theorem uf(p:Pl):qw (uL p) "gates"=some (iZ p.gates):=(fP (show ¬(("kinds":Str)="gates") by decide +kernel)).trans (j_ rfl)
theorem QJ(p:Pl):qw (uL p) "lines"=some (.list (p.lines.map vU)):=(fP (show ¬(("kinds":Str)="lines") by decide +kernel)).trans ((fP (show ¬(("gates":Str)="lines") by decide +kernel)).trans (j_ rfl))
theorem Zv(p:Pl):qw (uL p) "desks"=some (.list (p.desks.map jP)):=(fP (show ¬(("kinds":Str)="desks") by decide +kernel)).trans ((fP (show ¬(("gates":Str)="desks") by decide +kernel)).trans ((fP (show ¬(("lines":Str)="desks") by decide +kernel)).trans (j_ rfl)))
theorem Zw(p:Pl):qw (uL p) "times"=some (.list (p.times.map Bt)):=(fP (show ¬(("kinds":Str)="times") by decide +kernel)).trans ((fP (show ¬(("gates":Str)="times") by decide +kernel)).trans ((fP (show ¬(("lines":Str)="times") by decide +kernel)).trans ((fP (show ¬(("desks":Str)="times") by decide +kernel)).trans (j_ rfl))))
theorem Zx(p:Pl):qw (uL p) "hours"=some (.list (p.hours.map zY)):=(fP (show ¬(("kinds":Str)="hours") by decide +kernel)).trans ((fP (show ¬(("gates":Str)="hours") by decide +kernel)).trans ((fP (show ¬(("lines":Str)="hours") by decide +kernel)).trans ((fP (show ¬(("desks":Str)="hours") by decide +kernel)).trans ((fP (show ¬(("times":Str)="hours") by decide +kernel)).trans (j_ rfl)))))
theorem Zy(p:Pl):qw (uL p) "paces"=some (.list []):=(fP (show ¬(("kinds":Str)="paces") by decide +kernel)).trans ((fP (show ¬(("gates":Str)="paces") by decide +kernel)).trans ((fP (show ¬(("lines":Str)="paces") by decide +kernel)).trans ((fP (show ¬(("desks":Str)="paces") by decide +kernel)).trans ((fP (show ¬(("times":Str)="paces") by decide +kernel)).trans ((fP (show ¬(("hours":Str)="paces") by decide +kernel)).trans (j_ rfl))))))
def pickOf{α:Type}(l:List α)(d:α)(j:Int):α:=l.getD (j%l.length).toNat d
theorem uM{α:Type}{l:List α}{d:α}{F:α->aA}(h:1<=l.length)(j:Int):yN (l.map F) (j%(l.length:Int))=some (F (pickOf l d j))/\pickOf l d j∈l:=by
 unfold pickOf;have a1:0<=j%(l.length:Int):=bY _ (by omega)
 have a2:j%(l.length:Int)<l.length:=cj _ (by omega)
 generalize j%(l.length:Int)=i at *
 obtain⟨n,rfl⟩:=rM a1;have hn:n<l.length:=by omega
 have e:l.getD ((n:Int)).toNat d=l[n]:=by rw[jm,aP,aG hn];rfl
 rw[e];exact⟨cu (by rw[bh,aG hn];rfl),fY hn⟩
structure Ka(K:ao):Prop where
 ss:dR K (.type "str") (.type "str")=some true
 is:dR K (.type "int") (.type "str")=some false
 ts:dR K (.type "tuple") (.type "str")=some false
 ls:dR K (.type "list") (.type "str")=some false
 ii:dR K (.type "int") (.type "int")=some true
 ti:dR K (.type "tuple") (.type "int")=some false
 li:dR K (.type "list") (.type "int")=some false
 ib:dR K (.type "int") (.type "bool")=some false
 tt:dR K (.type "tuple") (.type "tuple")=some true
 tl:dR K (.type "tuple") (.type "list")=some false
 lt:dR K (.type "list") (.type "tuple")=some false
 ll:dR K (.type "list") (.type "list")=some true
def zit:aA->Bool
 | .none=>true
 |_=>false
theorem xq{K:ao}{d:aA}:HY K (λx y H Q=>y=.non/\Q (.bl (decide (x=.non))) H) d .none (.bool (zit d)):=λv u H0 H Q s r1 r2 k=>by
 cases r2;refine⟨rfl,k _ _ _ (.refl s) ?_⟩
 cases r1<;>exact .bl _
structure Na(mg:Str->Option aF):Prop extends Nm mg where
 str:mg "str"=none
 all:mg "all"=none
def Fal:aA->Option aA:=λ_=>some (.bool true)
theorem VF:∀l:List aA,l.filterMap Fal=(bN l.length true).map .bool
 | []=>rfl
 |d::l=>by rw[iD (f:=Fal) (b:=.bool true) rfl,VF l];rfl
theorem W5(n:Nat):wW (bN n true)=true:=by
 unfold wW;rw[iC];intro b hb;exact(oF.mp hb).2
end Mg
namespace Mg
open L2 PySem PyProof.Rows
seal L2.VE L2.VS L2.Em L2.VT L2.VO L2.VTs
abbrev rH:=Int×Str×Str×Str
def jt(g:rH):aA:=.tuple [.int g.1,.str g.2.1,.str g.2.2.1,.str g.2.2.2]
def sX(m:Int):Int:=if m%5=2 then 1 else if m%5=3 then m/7%3 else if m%5=4 then m/7%12 else 0
theorem step_at(m:Int):yN [jy 0,.int 0,.int 1,.int (m/7%3),.int (m/7%12)] (m%5)=some (.int (sX m)):=by
 unfold sX;have a1:0<=m%5:=bY _ (by omega)
 have a2:m%5<5:=cj _ (by omega)
 rcases(by omega:m%5=0\/m%5=1\/m%5=2\/m%5=3\/m%5=4)with e|e|e|e|e<;>rw[e]<;>rfl
def mZ(cells:List Int):Nat->Int
 |0=>0
 |k+1=>mZ cells k+sX (eE (cells.getD k 0) k)
def u_(m:Int):Str:=([("":Str),"p","q","pp","r"]).getD (m/10000%5).toNat ""
theorem W6(m:Int):yN [aW "",.str "p",.str "q",.str "pp",.str "r"] (m/10000%5)=some (.str (u_ m)):=by
 unfold u_;have a1:0<=m/10000%5:=bY _ (by omega)
 have a2:m/10000%5<5:=cj _ (by omega)
 rcases(by omega:m/10000%5=0\/m/10000%5=1\/m/10000%5=2\/m/10000%5=3\/m/10000%5=4)with e|e|e|e|e<;>rw[e]<;>rfl
def Oq(p:Pl)(cells:List Int)(k:Nat):rH:=(mZ cells (k+1),pickOf p.gates "" (eE (cells.getD k 0) k/100),(pickOf p.kinds ("",none) (eE (cells.getD k 0) k/1000)).1,u_ (eE (cells.getD k 0) k))
def qP(p:Pl)(cells:List Int):List rH:=(dF cells.length).map (Oq p cells)
section
variable{P:bL}{w:dB}{K:ao}{mg:Str->Option aF}{base:dW}{f:aN}{k:Nat}
abbrev Ndy:List Str:=["_law_h","_law_cells","_law_day_here","_law_t","_law_k","_law_cell","_law_m","_law_gate","_law_kind","_law_parcel"]
theorem zb1:eX Ndy ["_law_h","_law_cells"] (cP (top 56)):=⟨rfl,rfl,rfl,by decide +kernel,rfl,by decide +kernel,by decide +kernel⟩
def Rdy(ds es:List aA):Prop:=∃(p:Pl)(cells:List Int),ds=[jw p,qN cells]/\1<=p.gates.length/\1<=p.kinds.length/\cells.length<=63/\es=(qP p cells).map jt
theorem ziv{fd:cU}(F:rP K "_law_day" "_law_day" (top 56) f fd)(n:Ng mg)(C1:cG P w K mg base 1 "_law_mix" ["_law_cell","_law_k"] (mX K Tt)):i_ P w K mg base qz 2 f fd ["_law_h","_law_cells"] (LK K Rdy):=
 Qi F zb1 (λ_ _ h=>by obtain⟨_,_,rfl,_⟩:=h;rfl) λ_ _ h=>by
  obtain⟨p,cells,rfl,hg,hk,hc,rfl⟩:=h;intro cdv A outer s H E hr;have nd:Ndy.Nodup:=zb1.nd;refine aO (rA 2 (jf aX) nd) ?_
  refine aO (dU 3 aH nd) ?_
  refine aO (rB (tgt:=.tup [4,5]) (o:=.nx [.val (jw p),.val (qN cells),.own ((qP p cells).map jt),.val (.int (mZ cells cells.length)),.un,.un,.un,.un,.un,.un]) gA rfl (qC (ds:=cells.map .int) (aj 1 rfl) n.Wu)
   (lg rfl (cZ (cJ (i:=4) nd rfl (bG rfl)) (cZ (cJ (i:=5) nd rfl (bG rfl)) jq))) (λi=>[.val (jw p),.val (qN cells),.own (((dF i).map (Oq p cells)).map jt),.val (.int (mZ cells i)),.un,.un,.un,.un,.un,.un]) cells.length rfl (by rw[fB,aq];exact aK _) (λi d hi hd=>?_) (.inl ⟨by rw[fB,aq],rfl⟩)) (bH (Dr 2 rfl))
  obtain⟨x,hx,rfl⟩:=kJ hd;obtain rfl:x=.int (cells.getD i 0):=by
   rw[bh,aG (by omega)]at hx
   cases hx;rw[aP,aG (by omega)];rfl
  refine⟨_,rfl,?_⟩
  have eg:Oq p cells i=(mZ cells i+sX (eE (cells.getD i 0) i),pickOf p.gates "" (eE (cells.getD i 0) i/100),(pickOf p.kinds ("",none) (eE (cells.getD i 0) i/1000)).1,u_ (eE (cells.getD i 0) i)):=rfl;have et:mZ cells (i+1)=mZ cells i+sX (eE (cells.getD i 0) i):=rfl;refine aO (dU 6 (d:=.int (eE (cells.getD i 0) i)) (cF C1 hr (au (aj 5 rfl) (au (aj 4 rfl) aX)) ⟨cells.getD i 0,i,rfl,by omega,by omega,rfl⟩) nd) ?_
  rw[zH,bO,bO,vL,vL,eg,et]
  generalize eE (cells.getD i 0) i=m
  obtain⟨pg,_⟩:=uM (d:=("":Str)) (F:=aW) hg (m/100);obtain⟨pk,_⟩:=uM (d:=(("",none):Str×Option Int)) (F:=pX) hk (m/1000);refine aO (dU 3 (d:=.int (mZ cells i+sX m)) (iQ (aj 3 rfl) (lD (VO.ve (jf (au aH (au aH (au aH (au (eZ (jJ (aj 6 rfl) aH ⟨by decide,by decide⟩) aH (by decide)) (au (eZ (jJ (aj 6 rfl) aH ⟨by decide,by decide⟩) aH (by decide)) aX))))))) (eZ (aj 6 rfl) aH (by decide)) (step_at m))) nd) ?_
  refine aO (dU 7 (lD (jX hr (aj 0 rfl) aU (uf p)) (VE.to (eZ (jJ (aj 6 rfl) aH ⟨by decide,by decide⟩) (pG (jX hr (aj 0 rfl) aU (uf p)) n.len) (by rw[aq];omega)) (by rw[aq])) pg) nd) ?_
  refine aO (dU 8 (d:=.str (pickOf p.kinds ("",none) (m/1000)).1) (cY (lD (jX hr (aj 0 rfl) aU (xg p)) (VE.to (eZ (jJ (aj 6 rfl) aH ⟨by decide,by decide⟩) (pG (jX hr (aj 0 rfl) aU (xg p)) n.len) (by rw[aq];omega)) (by rw[aq])) pk) aH rfl) nd) ?_
  refine aO (dU 9 (lD (VO.ve (jf (au aU (au aU (au aU (au aU (au aU aX))))))) (eZ (jJ (aj 6 rfl) aH ⟨by decide,by decide⟩) aH (by decide)) (W6 m)) nd) ?_
  exact mU (bH (oG 2 rfl (d:=jt (mZ cells i+sX m,pickOf p.gates "" (m/100),(pickOf p.kinds ("",none) (m/1000)).1,u_ m)) (jj (au (aj 3 rfl) (au (aj 7 rfl) (au (aj 8 rfl) (au (aj 9 rfl) aX))))) (oN (by simp only[aq,iK];omega)))) ⟨.inr rfl,.inr rfl,.inr rfl,.inr rfl,.inl rfl,.inl rfl,.inl rfl,.inl rfl,.inl rfl,.inl rfl,trivial⟩
end
end Mg
namespace Mg
open L2 PySem PyProof.Rows
def Mv(c:Nat):List (List Nat)->List Nat
 | []=>[]
 | [x]=>x
 |x::y::r=>x++c::Mv c (y::r)
theorem QK{c:Nat}:∀{a b r s:List Nat},c∉a->c∉b->a++c::r=b++c::s->a=b/\r=s
 | [],[],r,s,_,_,h=>⟨rfl,(pZ h).2⟩
 | [],y::b,r,s,_,hb,h=>absurd (pZ h).1 (λz=>hb (by rw[z];exact aY))
 |x::a,[],r,s,ha,_,h=>absurd (pZ h).1 (λz=>ha (by rw[<-z];exact aY))
 |x::a,y::b,r,s,ha,hb,h=>by
  obtain⟨h1,h2⟩:=pZ h;obtain⟨h3,h4⟩:=QK (λz=>ha (bD _ z)) (λz=>hb (bD _ z)) h2
  exact⟨by rw[h1,h3],h4⟩
theorem Mw{c:Nat}:∀{ps qs:List (List Nat)},ps≠[]->qs≠[]->(∀p∈ps,c∉p)->(∀p∈qs,c∉p)->Mv c ps=Mv c qs->ps=qs
 | [],_,h,_,_,_,_=>absurd rfl h
 |_,[],_,h,_,_,_=>absurd rfl h
 | [x],[y],_,_,_,_,h=>by have h:x=y:=h;rw[h]
 | [x],y::y2::qs,_,_,hp,_,h=>by
  have h:x=y++c::Mv c (y2::qs):=h;exact absurd (by rw[h];exact eG _ aY) (hp x aY)
 |x::x2::ps,[y],_,_,_,hq,h=>by
  have h:x++c::Mv c (x2::ps)=y:=h;exact absurd (by rw[<-h];exact eG _ aY) (hq y aY)
 |x::x2::ps,y::y2::qs,_,_,hp,hq,h=>by
  obtain⟨h1,h2⟩:=QK (hp x aY) (hq y aY) h;have:=Mw (ps:=x2::ps) (qs:=y2::qs) (by simp) (by simp) (λp z=>hp p (bD _ z)) (λp z=>hq p (bD _ z)) h2
  rw[h1,this]
theorem add_list(x y:Str):(x++y).cps.toList=x.cps.toList++y.cps.toList:=by
 show(x.cps++y.cps).toList=_
 simp
theorem str_inj{x y:Str}(h:x.cps.toList=y.cps.toList):x=y:=Str.ext' (Array.toList_inj.mp h)
theorem join_list(c:Nat):∀ps:List Str,(fQ (one c) ps).cps.toList=Mv c (ps.map λp=>p.cps.toList)
 | []=>rfl
 | [x]=>rfl
 |x::y::r=>by
  show(x++one c++fQ (one c) (y::r)).cps.toList=_
  rw[add_list,add_list,join_list c (y::r)];show x.cps.toList ++ [c]++_=x.cps.toList++c::_;simp
theorem DK(x y:Str):eO x y≠[]:=by
 intro h;unfold eO at h
 split at h
 ·cases h
 ·split at h
  ·cases h
  ·have:=congrArg nY h
   rw[G8]at this;simp at this
theorem Cp{c:Nat}{ps:List Str}(h:ps≠[])(hf:∀p∈ps,c∉p.cps.toList):eO (fQ (one c) ps) (one c)=ps:=by
 have h1:=uZ (fQ (one c) ps) (one c);have h2:=u0 (fQ (one c) ps) c;have h3:=DK (fQ (one c) ps) (one c)
 generalize hq:eO (fQ (one c) ps) (one c)=qs at *
 have h2:∀p∈qs,c∉p.cps.toList:=by rw[<-hq];exact u0 (fQ (one c) ps) c
 have e:=congrArg (λs:Str=>s.cps.toList) h1
 simp only[join_list]at e;have:=Mw (c:=c) (ps:=qs.map λp=>p.cps.toList) (qs:=ps.map λp=>p.cps.toList) (by simpa using h3) (by simpa using h)
  (λp hp=>by obtain⟨q,hq,rfl⟩:=aR.mp hp;exact h2 q hq) (λp hp=>by obtain⟨q,hq,rfl⟩:=aR.mp hp;exact hf q hq) e
 have inj:∀{l m:List Str},(l.map λp=>p.cps.toList)=(m.map λp=>p.cps.toList)->l=m:=by
  intro l
  induction l with
  |nil=>intro m hm;cases m with|nil=>rfl|cons _ _=>cases hm
  |cons x l ih=>
   intro m hm;cases m with
   |nil=>cases hm
   |cons y m=>
    obtain⟨a1,a2⟩:=pZ hm;rw[str_inj a1,ih a2]
 exact inj this
theorem QL(c:Nat):∀{ps qs:List Str},ps≠[]->qs≠[]->fQ (one c) (ps++qs)=fQ (one c) ps++one c++fQ (one c) qs
 | [],_,h,_=>absurd rfl h
 | [x],q::qs,_,_=>rfl
 | [x],[],_,h=>absurd rfl h
 |x::y::r,qs,_,h=>by
  show x++one c++fQ (one c) ((y::r)++qs)=_;rw[QL c (ps:=y::r) (by simp) h]
  apply str_inj;show _=(x++one c++fQ (one c) (y::r)++one c++fQ (one c) qs).cps.toList;simp only[add_list,jh]
theorem W7(c:Nat)(x y:Str):eO (x++one c++y) (one c)=eO x (one c)++eO y (one c):=by
 have e:x++one c++y=fQ (one c) (eO x (one c)++eO y (one c)):=by
  rw[QL c (DK _ _) (DK _ _),uZ,uZ]
 rw[e];refine Cp (by simp[DK]) λp hp=>?_
 rcases dJ.mp hp with hp|hp
 ·exact u0 x c p hp
 ·exact u0 y c p hp
theorem JM{c:Nat}{x:Str}(h:c∉x.cps.toList):eO x (one c)=[x]:=by
 have:=Cp (c:=c) (ps:=[x]) (by simp) (λp hp=>by rw[bW.mp hp];exact h)
 exact this
theorem FN:(" ":Str)=one 32:=by decide +kernel
theorem zdD:("\n":Str)=one 10:=by decide +kernel
theorem sY(x y:Str):wordsOf (x++" "++y)=wordsOf x++wordsOf y:=by
 unfold wordsOf;rw[FN,W7,List.filter_append]
theorem JN:wordsOf ""=[]:=by
 unfold wordsOf;rw[FN,JM (by decide +kernel)]
 rfl
theorem FP{w:Str}(h:w≠"")(hb:32∉w.cps.toList):wordsOf w=[w]:=by
 unfold wordsOf;rw[FN,JM hb,yL,if_pos (by simpa using h)]
 rfl
theorem W8(x y z:Str):x++y++z=x++(y++z):=by
 apply str_inj;simp only[add_list,jh]
theorem W9(x:Str):x++""=x:=by
 apply str_inj;rw[add_list];show x.cps.toList ++ []=_;simp
theorem empty_app(x:Str):""++x=x:=by
 apply str_inj;rw[add_list];rfl
theorem JQ(x:Str)(n:Nat):oZ x (n+1)=x++oZ x n:=by
 apply str_inj;rw[add_list]
 show(x.cps++(oZ x n).cps).toList=_
 simp
theorem Tz(n:Nat)(y:Str):wordsOf (oZ " " n++y)=wordsOf y:=by
 induction n with
 |zero=>rw[show oZ " " 0="" from rfl,empty_app]
 |succ n ih=>
  have e:oZ " " (n+1)++y=""++" "++(oZ " " n++y):=by rw[JQ,empty_app,W8]
  rw[e,sY,JN,ih];rfl
theorem W_(n:Nat)(x y:Str):wordsOf (x++oZ " " (n+1)++y)=wordsOf x++wordsOf y:=by
 have e:x++oZ " " (n+1)++y=x++" "++(oZ " " n++y):=by rw[JQ];apply str_inj;simp only[add_list,jh]
 rw[e,sY,Tz]
theorem JR(n:Nat):∀{ws:List Str},(∀w∈ws,w≠""/\32∉w.cps.toList)->wordsOf (fQ (oZ " " (n+1)) ws)=ws
 | [],_=>JN
 | [w],h=>FP (h w aY).1 (h w aY).2
 |w::v::ws,h=>by
  show wordsOf (w++oZ " " (n+1)++fQ (oZ " " (n+1)) (v::ws))=_;rw[W_,FP (h w aY).1 (h w aY).2,JR n (λu hu=>h u (bD _ hu))]
  rfl
theorem vV{ws:List Str}(h:∀w∈ws,w≠""/\32∉w.cps.toList):wordsOf (fQ " " ws)=ws:=by
 have e:oZ " " (0+1)=" ":=by rw[JQ,show oZ " " 0="" from rfl,W9]
 have:=JR 0 h;rw[e]at this;exact this
theorem Xa{rows:List Str}(h0:rows≠[])(h:∀r∈rows,10∉r.cps.toList):rowsOf (fQ "\n" rows)=rows.zipIdx.filterMap λp=>if(wordsOf p.1).isEmpty then none else some (p.2,wordsOf p.1):=by
 unfold rowsOf;rw[zdD,Cp h0 h]
def gD(n:Int):Str:=vG (toString n)
theorem Ot{m:Nat}(h:¬m<10):nu 10 m=nu 10 (m/10) ++ [Nat.digitChar (m%10)]:=by
 have hm:m%10<10:=Nat.mod_lt m (by decide)
 have t:nu 10 (m/10)++nu 10 (m%10)=nu 10 (10*(m/10)+m%10):=Nat.toDigits_append_toDigits (by decide) (by omega) hm
 rw[Nat.div_add_mod]at t;rw[<-t,rN hm]
theorem VG:∀(k m:Nat),1<=k->m<10^k->(nu 10 m).length<=k
 |0,_,h,_=>by omega
 |k+1,m,_,h=>by
  by_cases hm:m<10
  ·rw[rN hm];simp
  ·rw[Ot hm,bK]
   have hk:1<=k:=by
    rcases Eu k with rfl|hk
    ·exact absurd h (by simpa using hm)
    ·exact hk
   have h10:m/10<10^k:=by rw[Nat.div_lt_iff_lt_mul (by decide)];rw[Nat.pow_succ]at h;exact h
   have:=VG k (m/10) hk h10;simp only[tU];omega
theorem zbf(m:Nat):1<=(nu 10 m).length:=by
 by_cases hm:m<10
 ·rw[rN hm];simp
 ·rw[Ot hm,bK];simp
theorem Zz(m:Nat)(h:0<m):∃c,(nu 10 m).head?=some c/\c≠'0':=by
 induction m using Nat.strongRecOn with
 |_ m ih=>
  by_cases hm:m<10
  ·rw[rN hm]
   refine⟨_,rfl,?_⟩
   have:∀d:Nat,d<10->0<d->Nat.digitChar d≠'0':=by decide
   exact this m hm h
  ·obtain⟨c,h1,h2⟩:=ih (m/10) (by omega) (by omega)
   refine⟨c,?_,h2⟩
   rw[Ot hm,List.head?_append,h1]
   rfl
theorem FQ{n:Int}(h0:0<=n):(gD n).cps.toList=(nu 10 n.toNat).map Char.toNat:=by
 obtain⟨m,rfl⟩:=rM h0;exact PySem.W.KIN.signs_num m
theorem sZ{n:Int}(h0:0<=n){c:Nat}(hc:c∈(gD n).cps.toList):48<=c/\c<=57:=by
 rw[FQ h0]at hc;obtain⟨ch,hch,e⟩:=aR.mp hc;have r:=digit_range (Nat.isDigit_of_mem_toDigits (by decide) (by decide) hch)
 rw[<-e];exact r
theorem Ih{n:Int}(h0:0<=n)(h1:n<1000000):1<=(gD n).length/\(gD n).length<=6:=by
 have e:(gD n).length=(nu 10 n.toNat).length:=by
  show(gD n).cps.size=_
  rw[<-dX,FQ h0,aq]
 rw[e];exact⟨zbf _,VG 6 _ (by decide) (by omega)⟩
theorem QM:("0123456789":Str).cps.toList=(dF 10).map (48 + ·):=by decide +kernel
theorem wG{n:Int}(h0:0<=n)(h1:n<1000000):Gw (gD n):=by
 refine⟨by have:=Ih h0 h1;omega,(rD _).mpr λc hc=>?_⟩
 have:=sZ h0 hc;omega
theorem JT{n:Int}(h0:0<=n)(h1:n<1000000):isNumber (gD n)=true:=by
 obtain⟨l1,l2⟩:=Ih h0 h1;have em:uz "0123456789" 6 (gD n)=true:=by
  unfold uz;rw[decide_eq_true (by omega),decide_eq_true (by omega),qL,qL,iC]
  intro c hc;have hd:=sZ h0 hc;have:Oc (one c) "0123456789"=decide (c∈("0123456789":Str).cps.toList):=Dc ..;rw[this,QM];exact decide_eq_true (aR.mpr ⟨c-48,gq.mpr (by omega),by omega⟩)
 unfold isNumber;rw[em,qL];by_cases hn:n=0
 ·subst hn
  rw[decide_eq_true (show gD 0="0" by decide +kernel)]
  rfl
 ·obtain⟨c,c1,c2⟩:=Zz n.toNat (by omega)
  have hh:(gD n).cps.toList.head?=some c.toNat:=by
   rw[FQ h0,List.head?_map,c1]
   rfl
  rw[hh];have:one c.toNat≠"0":=by
   intro z;have z2:(one c.toNat).cps.toList=("0":Str).cps.toList:=by rw[z]
   have z3:[c.toNat]=[48]:=z2;have z4:c.toNat=48:=by simpa using z3
   exact c2 (Char.toNat_inj.mp z4)
  show(_ || !decide (one c.toNat="0"))=true
  rw[decide_eq_false this];simp
theorem num_reads{n:Int}(h0:0<=n)(h1:n<1000000):intText? (gD n)=some n:=PySem.W.KIN.num_reads h0 (by omega)
theorem vd{n:Int}(h0:0<=n)(h1:n<1000000):gD n≠""/\32∉(gD n).cps.toList/\10∉(gD n).cps.toList:=by
 refine⟨λz=>?_,λz=>?_,λz=>?_⟩
 ·have:=(Ih h0 h1).1
  rw[z]at this;exact absurd this (by decide)
 ·have:=sZ h0 z;omega
 ·have:=sZ h0 z;omega
theorem mO{x:Str}(h:gG x):x≠""/\32∉x.cps.toList/\10∉x.cps.toList:=by
 refine⟨λz=>?_,λz=>?_,λz=>?_⟩
 ·have:=h.1
  rw[z]at this;exact absurd this (by decide)
 ·have:=h.2.2 _ z;omega
 ·have:=h.2.2 _ z;omega
end Mg
namespace Mg
open L2 PySem PyProof.Rows
seal L2.VE L2.VS L2.Em L2.VT L2.VO L2.VTs
def gB(i:Int):Prop:=0<=i/\i<1000000
theorem gB.log{i:Int}(h:gB i):i.natAbs.log2<1920:=by
 have:i.natAbs<2^20:=by have:=h.1;have:=h.2;omega
 have h2:i.natAbs.log2<=20:=by
  rcases Eu i.natAbs with e|e
  ·rw[e];decide
  ·exact vD ((Nat.log2_lt (by omega)).mpr this)
 omega
def TF:aA->Prop
 | .none=>True
 | .int i=>gB i
 | .str x=>x=""\/gG x
 |_=>False
def iH:aA->Str
 | .str x=>if x="" then "-" else x
 | .int i=>gD i
 |_=>"-"
section
variable{P:bL}{w:dB}{K:ao}{mg:Str->Option aF}{base:dW}{f:aN}{k:Nat}
theorem zfC:eX ["_law_thing"] ["_law_thing"] (cP (top 53)):=⟨rfl,rfl,rfl,by decide +kernel,rfl,by decide +kernel,by decide +kernel⟩
def Rda(ds:List aA)(d:aA):Prop:=∃x,ds=[x]/\TF x/\d=.str (iH x)
theorem zix{fd:cU}(F:rP K "_law_dash" "_law_dash" (top 53) f fd)(n:Na mg):i_ P w K mg base qz 1 f fd ["_law_thing"] (mX K Rda):=
 qg F zfC (λ_ _ h=>by obtain⟨_,rfl,_⟩:=h;rfl) λ_ _ h=>by
  obtain⟨x,rfl,ho,rfl⟩:=h;intro cdv A outer s H E hr;have l0:Lay 20 (.str ""):=bZ (by decide +kernel)
  cases x with
  |none=>exact fJ (gj (VT.to (oW (k2:=true) (lK sO xq (aj 0 rfl) lJ (jQ _)) (λz=>by cases z)) rfl) (bH (dG aU))) rfl
  |int i=>
   refine aO (cW (VT.to (oW (lK sO xq (aj 0 rfl) lJ (jQ _)) (λ_=>c7 hr (dY 20 _) l0 (aj 0 rfl) aU)) rfl) b_) ?_
   exact bH (dG (Ao (aj 0 rfl) (gB.log ho) n.str))
  |str z=>
   have oz:rY z:=by
    rcases ho with rfl|ho
    ·show eN (.str ("":Str))=true;decide +kernel
    ·exact ho.ok.2
   by_cases hz:z=""
   ·refine fJ (gj (VT.to (oW (lK sO xq (aj 0 rfl) lJ (jQ _)) (λ_=>c7 hr (bZ oz) l0 (aj 0 rfl) aU)) ?_) (bH (dG (VE.to aU ?_)))) rfl
    ·rw[cR,decide_eq_true hz];rfl
    ·show aW "-"=.str (if z="" then "-" else z);rw[if_pos hz]
   ·refine aO (cW (VT.to (oW (lK sO xq (aj 0 rfl) lJ (jQ _)) (λ_=>c7 hr (bZ oz) l0 (aj 0 rfl) aU)) ?_) b_) ?_
    ·rw[cR,decide_eq_false hz];rfl
    ·refine bH (dG (VE.to (zaV (aj 0 rfl) n.str) ?_))
     show aW z=.str (if z="" then "-" else z);rw[if_neg hz]
  |_=>exact ho.elim
def JV:Rl->Prop
 | .meet=>True
 | .gather m a=>gB m/\gB a
 | .many m=>gB m
 | .rank none=>True
 | .rank (some b)=>gB b
 | .turns s=>s.length<=60/\∀z∈s,gB z
 | .eldest=>True
def fH:Rl->List Str
 | .turns s=>"turns"::s.map gD
 |r=>wJ r::(zX r).map iH
def xr(r:Rl):Str:=fQ " " (fH r)
theorem zfD:eX ["_law_rule_here"] ["_law_rule_here"] (cP (top 54)):=⟨rfl,rfl,rfl,by decide +kernel,rfl,by decide +kernel,by decide +kernel⟩
def Rrt(ds:List aA)(d:aA):Prop:=∃r,ds=[W3 r]/\JV r/\d=.str (xr r)
def zfE:aA->Option aA
 | .int i=>some (.str (gD i))
 |_=>none
theorem ZC(l:List Int):(l.map jy).filterMap zfE=(l.map gD).map .str:=by
 rw[dZ,bU];exact filterMap_some λk _=>rfl
def zb2:aA->Option aA:=λd=>some (.str (iH d))
theorem Xb(l:List aA):l.filterMap zb2=(l.map iH).map .str:=by
 rw[bU];exact filterMap_some λk _=>rfl
theorem mQ{i:Int}(h:gB i):(gD i).length<=6:=(Ih h.1 h.2).2
theorem xu:∀{l:List Str}{b:Nat},(∀x∈l,x.length<=b)->(l.map (·.length)).sum<=l.length*b
 | [],_,_=>by simp
 |x::l,b,h=>by
  have h1:=h x aY;have h2:=xu λy hy=>h y (bD _ hy)
  rw[aZ,Py,bJ,Nat.add_mul];omega
theorem qJ{d:aA}(h:TF d):(iH d).length<=8:=by
 cases d with
 |none=>decide
 |int i=>exact dD (mQ h) (by decide)
 |str x=>
  show(if x="" then("-":Str)else x).length<=8
  split
  ·decide
  ·rename_i hx
   rcases h with h|h
   ·exact absurd h hx
   ·have:=h.2.1
    rw[dX]at this;exact this
 |_=>exact h.elim
theorem JW{r:Rl}(ht:∀s,r≠.turns s)(h:JV r):∀d∈zX r,TF d:=by
 intro d hd;cases r with
 |meet=>cases hd
 |eldest=>cases hd
 |gather m a=>
  rcases aQ.mp hd with rfl|hd
  ·exact h.1
  ·rw[bW.mp hd];exact h.2
 |many m=>rw[bW.mp hd];exact h
 |rank b=>rw[bW.mp hd];cases b with|none=>trivial|some b=>exact h
 |turns s=>exact absurd rfl (ht s)
theorem ziy{fd:cU}(F:rP K "_law_rule_text" "_law_rule_text" (top 54) f fd)(n:Na mg)(C:cG P w K mg base 1 "_law_dash" ["_law_thing"] (mX K Rda)):i_ P w K mg base qz 2 f fd ["_law_rule_here"] (mX K Rrt):=
 qg F zfD (λ_ _ h=>by obtain⟨_,rfl,_⟩:=h;rfl) λ_ _ h=>by
  obtain⟨r,rfl,ho,rfl⟩:=h;intro cdv A outer s H E hr;have oR:rY (wJ r):=by cases r<;>dsimp only[wJ,rY]<;>decide +kernel
  have lT:Lay 20 (.str "turns"):=bZ (by decide +kernel)
  have h0:yN (aW (wJ r)::zX r) 0=some (.str (wJ r)):=cu (j:=0) rfl;by_cases ht:∃sh,r=.turns sh
  ·obtain⟨sh,rfl⟩:=ht
   have nc:(["_law_share"]:List Str).Nodup:=by decide +kernel
   refine fJ (gj (VT.to (c7 (k:=1) hr (bZ oR) lT (cY (aj 0 rfl) aH h0) aU) (by rw[cR];exact decide_eq_true rfl)) (bH (dG (Aq (zs:=fH (.turns sh)) aU (VE.to (VO.ve (ux (d1:=[.str "turns"]) (d2:=(sh.map gD).map .str) (VO.ve (jf (au aU aX))) (VO.ve (VO.to (jA (own:=["_law_share"]) (cap:=[]) (N:=["_law_share"]) (cl:=[]) (tgt:=.one 0) (F:=zfE) (ds:=sh.map .int) rfl ⟨rfl,by decide +kernel,by decide +kernel,rfl,rfl,by simp⟩ (Jo (cY (d:=.tuple (sh.map .int)) (aj 0 rfl) aH (cu (j:=1) rfl))) (λf s3 H3=>cJ (i:=0) nc rfl (bG rfl)) rfl
    (small (by rw[aq];have:=ho.1;omega)) (λd hd=>?_)) (ZC _))) (small (by simp only[aq,bJ,dM];have:=ho.1;omega)))) rfl) ?_)))) rfl
   ·obtain⟨z,hz,rfl⟩:=aR.mp hd
    refine⟨_,rfl,λf s3 H3=>jz,λr hr' f s3 H3=>?_⟩
    cases hr';exact Ao (aj 0 rfl) (gB.log (ho.2 z hz)) n.str
   ·have h1:=xu (l:=fH (.turns sh)) (b:=6) λx hx=>by
     rcases aQ.mp hx with rfl|hx
     ·decide
     ·obtain⟨z,hz,rfl⟩:=aR.mp hx
      exact mQ (ho.2 z hz)
    have h2:(fH (.turns sh)).length=sh.length+1:=by simp[fH]
    have h3:=ho.1;have h4:(" ":Str).length=1:=by decide
    rw[h4];omega
  ·have hnt:∀sh,r≠.turns sh:=λsh z=>ht ⟨sh,z⟩
   have hw:wJ r≠"turns":=by
    cases r with
    |turns sh=>exact absurd rfl (hnt sh)
    |_=>dsimp only[wJ];decide +kernel
   have hws:fH r=wJ r::(zX r).map iH:=by
    cases r with
    |turns sh=>exact absurd rfl (hnt sh)
    |_=>rfl
   have hl:(zX r).length<=2:=by cases r<;>simp[zX]
   have hwl:(wJ r).length<=8:=by cases r<;>dsimp only[wJ]<;>decide +kernel
   have hok:=JW hnt ho;unfold xr;rw[hws];unfold W3
   generalize zX r=ra at *
   generalize wJ r=yW at *
   have nc:(["_law_one"]:List Str).Nodup:=by decide +kernel
   have ZD:L2.cutD (aW yW::ra) (some 1) none=ra:=(ud (aW yW::ra) 1).trans rfl;refine aO (cW (VT.to (c7 (k:=1) hr (bZ oR) lT (cY (aj 0 rfl) aH h0) aU) (by rw[cR];exact decide_eq_false hw)) b_) ?_
   refine bH (dG (Aq (zs:=yW::ra.map iH) aU (VE.to (VO.ve (ux (d1:=[.str yW]) (d2:=(ra.map iH).map .str) (VO.ve (jf (au (cY (aj 0 rfl) aH h0) aX))) (VO.ve (VO.to (jA (own:=["_law_one"]) (cap:=[]) (N:=["_law_one"]) (cl:=[]) (tgt:=.one 0) (F:=zb2) (ds:=ra) rfl ⟨rfl,by decide +kernel,by decide +kernel,rfl,rfl,by simp⟩ (Jo (VE.to (Fo (ds:=.str yW::ra) (aj 0 rfl) (.yes aH) .no ?_) (by rw[ZD]))) (λf s3 H3=>cJ (i:=0) nc rfl (bG rfl)) rfl
    (small (by omega)) (λd hd=>?_)) (Xb _))) (small (by simp only[aq,bJ,dM];omega)))) rfl) ?_))
   ·intro z
    have:=z.1;rw[show(1:Int)=((1:Nat):Int)from rfl,HT.uK,bJ]at this
    omega
   ·refine⟨_,rfl,λf s3 H3=>jz,λr hr' f s3 H3=>?_⟩
    cases hr';exact cF C hr (au (aj 0 rfl) aX) ⟨d,rfl,hok d hd,rfl⟩
   ·have h1:=xu (l:=yW::ra.map iH) (b:=8) λx hx=>by
     rcases aQ.mp hx with rfl|hx
     ·exact hwl
     ·obtain⟨z,hz,rfl⟩:=aR.mp hx
      exact qJ (hok z hz)
    have h2:(yW::ra.map iH).length=ra.length+1:=by simp
    have h4:(" ":Str).length=1:=by decide
    rw[h4];omega
end
def yE(p:Str×Option Int):Str:="kind "++p.1++" "++iH (vJ p.2)
def uN(g:Str):Str:="gate "++g
def uO(p:Str×Int):Str:="line "++p.1++" "++gD p.2
def vf(d:Dk):Str:="desk "++d.name++" to "++iH (.str d.to)++" by "++xr d.rule
def tK(d:Dk):Str:=vf d++" from "++fQ " " d.places
def uP(p:Str×Str×Int):Str:=fQ " " ["time",p.1,p.2.1,gD p.2.2]
def vW(p:Str×Int×Int):Str:=fQ " " ["open",p.1,gD p.2.1,gD p.2.2]
structure nU(p:Pl):Prop where
 kn:p.kinds.length<=60
 gn:p.gates.length<=60
 ln:p.lines.length<=60
 dn:p.desks.length<=60
 tn:p.times.length<=600
 hn:p.hours.length<=600
 kinds:∀q∈p.kinds,gG q.1/\TF (vJ q.2)
 gates:∀g∈p.gates,gG g
 lines:∀q∈p.lines,gG q.1/\gB q.2
 desks:∀d∈p.desks,gG d.name/\(d.to=""\/gG d.to)/\JV d.rule/\d.places.length<=60/\∀x∈d.places,gG x
 times:∀q∈p.times,gG q.1/\gG q.2.1/\gB q.2.2
 hours:∀q∈p.hours,gG q.1/\gB q.2.1/\gB q.2.2
theorem gG.short{x:Str}(h:gG x):x.length<=8:=by
 have:=h.2.1;rw[dX]at this;exact this
theorem m8{y:Str}(hy:y.length<=1):∀{l:List Str}{b:Nat},(∀x∈l,x.length<=b)->(fQ y l).length<=l.length*(b+1)
 | [],_,_=>by show 0<=_;exact cC _
 | [x],b,h=>by
  have:=h x aY;show x.length<=1*(b+1);omega
 |x::z::l,b,h=>by
  have h1:=h x aY;have h2:=m8 hy (l:=z::l) λu hu=>h u (bD _ hu)
  show(x++y++fQ y (z::l)).length<=(z::l).length.succ*(b+1)
  rw[dI,dI,RN];omega
theorem vh{r:Rl}(h:JV r):(xr r).length<=700:=by
 have hl:(fH r).length<=61/\∀x∈fH r,x.length<=8:=by
  by_cases ht:∃sh,r=.turns sh
  ·obtain⟨sh,rfl⟩:=ht
   refine⟨by have:=h.1;simp[fH];omega,λx hx=>?_⟩
   rcases aQ.mp hx with rfl|hx
   ·decide
   ·obtain⟨z,hz,rfl⟩:=aR.mp hx
    exact dD (mQ (h.2 z hz)) (by decide)
  ·have hnt:∀sh,r≠.turns sh:=λsh z=>ht ⟨sh,z⟩
   have hok:=JW hnt h;have hws:fH r=wJ r::(zX r).map iH:=by
    cases r with
    |turns sh=>exact absurd rfl (hnt sh)
    |_=>rfl
   have hl:(zX r).length<=2:=by cases r<;>simp[zX]
   have hwl:(wJ r).length<=8:=by cases r<;>dsimp only[wJ]<;>decide +kernel
   rw[hws];refine⟨by rw[bJ,aq];omega,λx hx=>?_⟩
   rcases aQ.mp hx with rfl|hx
   ·exact hwl
   ·obtain⟨z,hz,rfl⟩:=aR.mp hx
    exact qJ (hok z hz)
 have:=m8 (y:=" ") (by decide) hl.2
 unfold xr;have h9:(fH r).length*(8+1)<=61*9:=nR hl.1 (aK _);omega
def Fkr:aA->Option aA
 | .tuple [.str a,k]=>some (.str ("kind "++a++" "++iH k))
 |_=>none
def Fgr:aA->Option aA
 | .str a=>some (.str (uN a))
 |_=>none
def Flr:aA->Option aA
 | .tuple [.str a,.int i]=>some (.str (uO (a,i)))
 |_=>none
def Ftr:aA->Option aA
 | .tuple [.str a,.str b,.int i]=>some (.str (uP (a,b,i)))
 |_=>none
def Fhr:aA->Option aA
 | .tuple [.str a,.int i,.int j]=>some (.str (vW (a,i,j)))
 |_=>none
theorem zbg(l:List (Str×Option Int)):(l.map pX).filterMap Fkr=(l.map yE).map .str:=by
 rw[dZ,bU];exact filterMap_some λk _=>rfl
theorem zbh(l:List Str):(l.map aW).filterMap Fgr=(l.map uN).map .str:=by
 rw[dZ,bU];exact filterMap_some λk _=>rfl
theorem zbi(l:List (Str×Int)):(l.map vU).filterMap Flr=(l.map uO).map .str:=by
 rw[dZ,bU];exact filterMap_some λk _=>rfl
theorem zbj(l:List (Str×Str×Int)):(l.map Bt).filterMap Ftr=(l.map uP).map .str:=by
 rw[dZ,bU];exact filterMap_some λk _=>rfl
theorem zbk(l:List (Str×Int×Int)):(l.map zY).filterMap Fhr=(l.map vW).map .str:=by
 rw[dZ,bU];exact filterMap_some λk _=>rfl
def vm(p:Pl):List Str:=p.kinds.map yE++p.gates.map uN++p.lines.map uO
def iz(p:Pl):List Str:=vm p++p.desks.map tK++p.times.map uP++p.hours.map vW
def Ay(p:Pl):Str:=fQ "\n" (iz p)
section
variable{P:bL}{w:dB}{K:ao}{mg:Str->Option aF}{base:dW}{f:aN}{k:Nat}
abbrev Npt:List Str:=["_law_h","_law_rows","_law_name","_law_to","_law_rule_here","_law_places","_law_row","_law_gate","_law_kind","_law_burst","_law_gap"]
theorem zb3:eX Npt ["_law_h"] (cP (top 55)):=⟨rfl,rfl,rfl,by decide +kernel,rfl,by decide +kernel,by decide +kernel⟩
def Rpt(ds:List aA)(d:aA):Prop:=∃p,ds=[jw p]/\nU p/\d=.str (Ay p)
theorem ziz{fd:cU}(F:rP K "_law_plant_text" "_law_plant_text" (top 55) f fd)(n:Na mg)(C1:cG P w K mg base 1 "_law_dash" ["_law_thing"] (mX K Rda))(C2:cG P w K mg base 2 "_law_rule_text" ["_law_rule_here"] (mX K Rrt)):i_ P w K mg base qz 3 f fd ["_law_h"] (mX K Rpt):=
 qg F zb3 (λ_ _ h=>by obtain⟨_,rfl,_⟩:=h;rfl) λ_ _ h=>by
  obtain⟨p,rfl,ok,rfl⟩:=h;intro cdv A outer s H E hr;have nd:Npt.Nodup:=zb3.nd;have hr1:jH 1 _:=hr.mono (by omega)
  have b1:=ok.kn;have b2:=ok.gn;have b3:=ok.ln;have b4:=ok.dn;have b5:=ok.tn;have b6:=ok.hn;have nk:(["_law_name","_law_keep"]:List Str).Nodup:=by decide +kernel
  refine aO (Vj 1 (own:=["_law_name","_law_keep"]) (cap:=[]) (N:=["_law_name","_law_keep"]) (cl:=[]) (tgt:=.tup [0,1]) (F:=Fkr) (ds:=p.kinds.map pX) rfl ⟨rfl,by decide +kernel,by decide +kernel,rfl,rfl,by simp⟩ (lN (jX hr1 (aj 0 rfl) aU (xg p))) (λf s3 H3=>lg rfl (cZ (cJ (i:=0) nk rfl (bG rfl)) (cZ (cJ (i:=1) nk rfl (bG rfl)) jq))) rfl (small (by rw[aq];omega)) (λd hd=>?_) nd) ?_
  ·obtain⟨q,hq,rfl⟩:=aR.mp hd
   obtain⟨h1,h2⟩:=ok.kinds q hq;refine⟨_,rfl,λf s3 H3=>jz,λr hr' f s3 H3=>?_⟩
   cases hr';have s1:=h1.short;have s2:=qJ h2;have e1:("kind ":Str).length=5:=by decide
   have e2:(" ":Str).length=1:=by decide
   exact lY (lY (lY aU (aj 0 rfl) (small (by omega))) aU (small (by simp only[dI];omega))) (cF C1 hr1 (au (aj 1 rfl) aX) ⟨_,rfl,h2,rfl⟩) (small (by simp only[dI];omega))
  rw[zbg];refine mW 1 rfl ?_
  have n1:(["_law_name"]:List Str).Nodup:=by decide +kernel
  refine aO (rA 1 (ds:=(p.kinds.map yE++p.gates.map uN).map .str) (VO.to (ux (d2:=(p.gates.map uN).map .str) (aj 1 rfl) (VO.ve (VO.to (jA (own:=["_law_name"]) (cap:=[]) (N:=["_law_name"]) (cl:=[]) (tgt:=.one 0) (F:=Fgr) (ds:=p.gates.map .str) rfl ⟨rfl,by decide +kernel,by decide +kernel,rfl,rfl,by simp⟩ (lN (jX hr1 (aj 0 rfl) aU (uf p))) (λf s3 H3=>cJ (i:=0) n1 rfl (bG rfl)) rfl (small (by rw[aq];omega)) (λd hd=>?_)) (zbh _))) (small (by simp only[aq];omega))) (by rw[bO])) nd) ?_
  ·obtain⟨q,hq,rfl⟩:=aR.mp hd
   have s1:=(ok.gates q hq).short;have e1:("gate ":Str).length=5:=by decide
   refine⟨_,rfl,λf s3 H3=>jz,λr hr' f s3 H3=>?_⟩
   cases hr';exact lY aU (aj 0 rfl) (small (by omega))
  refine mW 1 rfl ?_
  have n2:(["_law_name","_law_room"]:List Str).Nodup:=by decide +kernel
  refine aO (rA 1 (ds:=(vm p).map .str) (VO.to (ux (d2:=(p.lines.map uO).map .str) (aj 1 rfl) (VO.ve (VO.to (jA (own:=["_law_name","_law_room"]) (cap:=[]) (N:=["_law_name","_law_room"]) (cl:=[]) (tgt:=.tup [0,1]) (F:=Flr) (ds:=p.lines.map vU) rfl ⟨rfl,by decide +kernel,by decide +kernel,rfl,rfl,by simp⟩ (lN (jX hr1 (aj 0 rfl) aU (QJ p))) (λf s3 H3=>lg rfl (cZ (cJ (i:=0) n2 rfl (bG rfl)) (cZ (cJ (i:=1) n2 rfl (bG rfl)) jq))) rfl (small (by rw[aq];omega)) (λd hd=>?_)) (zbi _))) (small (by simp only[aq,bK];omega))) (by unfold vm;rw[bO (l₂:=Ux uO _)])) nd) ?_
  ·obtain⟨⟨qa,qi⟩,hq,rfl⟩:=aR.mp hd
   obtain⟨h1,h2⟩:gG qa/\gB qi:=ok.lines (qa,qi) hq;have s1:=h1.short;have s2:=mQ h2;have e1:("line ":Str).length=5:=by decide
   have e2:(" ":Str).length=1:=by decide
   refine⟨_,rfl,λf s3 H3=>jz,λr hr' f s3 H3=>?_⟩
   cases hr';exact VE.to (lY (x:="line "++qa++" ") (y:=gD qi) (lY (x:="line "++qa) (lY (y:=qa) aU (aj 0 rfl) (small (by omega))) aU (small (by simp only[dI];omega))) (Ao (aj 1 rfl) (gB.log h2) n.str) (small (by simp only[dI];omega))) rfl
  have r1:(vm p).length=p.kinds.length+p.gates.length+p.lines.length:=by unfold vm;simp only[bK,aq]
  refine aO (rB (tgt:=.tup [2,3,4,5]) (o:=.nx [.val (jw p),.own ((vm p++(p.desks.take p.desks.length).map tK).map .str),.un,.un,.un,.un,.un,.un,.un,.un,.un]) gA rfl (lN (jX hr1 (aj 0 rfl) aU (Zv p)))
   (lg rfl (cZ (cJ (i:=2) nd rfl (by first|exact bG rfl|exact fj rfl)) (cZ (cJ (i:=3) nd rfl (by first|exact bG rfl|exact fj rfl)) (cZ (cJ (i:=4) nd rfl (by first|exact bG rfl|exact fj rfl)) (cZ (cJ (i:=5) nd rfl (by first|exact bG rfl|exact fj rfl)) jq))))) (λi=>[.val (jw p),.own ((vm p++(p.desks.take i).map tK).map .str),.un,.un,.un,.un,.un,.un,.un,.un,.un]) p.desks.length (by show([.val (jw p),.own ((vm p++(p.desks.take 0).map tK).map .str),.un,.un,.un,.un,.un,.un,.un,.un,.un]:List Slot)=_;rw[List.take_zero,lV,gK];rfl) (by rw[aq];exact aK _) (λi d hi hd=>?_) (.inl ⟨by rw[aq],rfl⟩)) ?_
  ·obtain⟨dk,hdk,rfl⟩:∃dk,p.desks[i]?=some dk/\d=jP dk:=by
    rw[bh,aG (by omega)]at hd
    cases hd;exact⟨_,aG (by omega),rfl⟩
   obtain⟨h1,h2,h3,h4,h5⟩:=ok.desks dk (dw hdk);have h2w:TF (.str dk.to):=h2;have s1:=h1.short;have s2:=qJ h2w;have s3:=vh h3;have s4:=m8 (y:=" ") (by decide) (l:=dk.places) (b:=8) λx hx=>(h5 x hx).short
   have s5:dk.places.length*(8+1)<=60*9:=nR h4 (aK _);have s6:=xu (l:=dk.places) (b:=8) λx hx=>(h5 x hx).short
   have e1:("desk ":Str).length=5:=by decide
   have e2:(" to ":Str).length=4:=by decide
   have e3:(" by ":Str).length=4:=by decide
   have e4:(" from ":Str).length=6:=by decide
   have e5:(" ":Str).length=1:=by decide
   have eh:(vf dk).length<=800:=by unfold vf;simp only[dI];omega
   refine⟨_,rfl,?_⟩
   refine aO (dU 6 (d:=.str (vf dk)) (lY (lY (lY (lY (lY aU (aj 2 rfl) (small (by omega))) aU (small (by simp only[dI];omega))) (cF C1 hr1 (au (aj 3 rfl) aX) ⟨_,rfl,h2w,rfl⟩) (small (by simp only[dI];omega))) aU (small (by simp only[dI];omega))) (cF C2 hr (au (aj 4 rfl) aX) ⟨_,rfl,h3,rfl⟩) (small (by simp only[dI];omega))) nd) ?_
   refine mU (bH (oG 1 rfl (d:=.str (tK dk)) (lY (lY (aj 6 rfl) aU (small (by omega))) (Aq (zs:=dk.places) aU (VO.ve (qM pP zaW (au (aj 5 rfl) aX) n.lst rfl)) (by rw[e5];omega)) (small (by simp only[dI];omega))) (oN (by simp only[aq,bK,dO];omega)))) ⟨.inr rfl,.inr ?_,.inl rfl,.inl rfl,.inl rfl,.inl rfl,.inl rfl,.inr rfl,.inr rfl,.inr rfl,.inr rfl,trivial⟩
   rw[gP,hdk];simp only[CJ,bO,aZ,lV,jh]
  rw[lX];refine mW 1 rfl ?_
  have n3:(["_law_desk","_law_kind","_law_work"]:List Str).Nodup:=by decide +kernel
  refine aO (rA 1 (ds:=(vm p++p.desks.map tK++p.times.map uP).map .str) (VO.to (ux (d2:=(p.times.map uP).map .str) (aj 1 rfl) (VO.ve (VO.to (jA (own:=["_law_desk","_law_kind","_law_work"]) (cap:=[]) (N:=["_law_desk","_law_kind","_law_work"]) (cl:=[]) (tgt:=.tup [0,1,2]) (F:=Ftr) (ds:=p.times.map Bt) rfl ⟨rfl,by decide +kernel,by decide +kernel,rfl,rfl,by simp⟩ (lN (jX hr1 (aj 0 rfl) aU (Zw p))) (λf s3 H3=>lg rfl (cZ (cJ (i:=0) n3 rfl (bG rfl)) (cZ (cJ (i:=1) n3 rfl (bG rfl)) (cZ (cJ (i:=2) n3 rfl (bG rfl)) jq)))) rfl (small (by rw[aq];omega)) (λd hd=>?_)) (zbj _))) (small (by simp only[aq,bK];omega))) (by rw[bO (l₂:=Ux uP _)])) nd) ?_
  ·obtain⟨⟨qa,qb,qi⟩,hq,rfl⟩:=aR.mp hd
   obtain⟨h1,h2,h3⟩:gG qa/\gG qb/\gB qi:=ok.times (qa,qb,qi) hq;have s1:=h1.short;have s2:=h2.short;have s3:=mQ h3;have e1:("time":Str).length=4:=by decide
   have e2:(" ":Str).length=1:=by decide
   refine⟨_,rfl,λf s3 H3=>jz,λr hr' f s3 H3=>?_⟩
   cases hr';exact Aq (zs:=["time",qa,qb,gD qi]) aU (VO.ve (jf (au aU (au (aj 0 rfl) (au (aj 1 rfl) (au (Ao (aj 2 rfl) (gB.log h3) n.str) aX)))) (small (by show 4<=_;decide)))) (by rw[e2];simp only[aZ,lV,Py,List.sum_nil,bJ,dM];omega)
  refine mW 1 rfl ?_
  have n4:(["_law_desk","_law_begin","_law_end"]:List Str).Nodup:=by decide +kernel
  refine aO (rA 1 (ds:=(iz p).map .str) (VO.to (ux (d2:=(p.hours.map vW).map .str) (aj 1 rfl) (VO.ve (VO.to (jA (own:=["_law_desk","_law_begin","_law_end"]) (cap:=[]) (N:=["_law_desk","_law_begin","_law_end"]) (cl:=[]) (tgt:=.tup [0,1,2]) (F:=Fhr) (ds:=p.hours.map zY) rfl ⟨rfl,by decide +kernel,by decide +kernel,rfl,rfl,by simp⟩ (lN (jX hr1 (aj 0 rfl) aU (Zx p))) (λf s3 H3=>lg rfl (cZ (cJ (i:=0) n4 rfl (bG rfl)) (cZ (cJ (i:=1) n4 rfl (bG rfl)) (cZ (cJ (i:=2) n4 rfl (bG rfl)) jq)))) rfl (small (by rw[aq];omega)) (λd hd=>?_)) (zbk _))) (small (by simp only[aq,bK];omega))) (by unfold iz;rw[bO (l₂:=Ux vW _)])) nd) ?_
  ·obtain⟨⟨qa,qb,qi⟩,hq,rfl⟩:=aR.mp hd
   obtain⟨h1,h2,h3⟩:gG qa/\gB qb/\gB qi:=ok.hours (qa,qb,qi) hq;have s1:=h1.short;have s2:=mQ h2;have s3:=mQ h3;have e1:("open":Str).length=4:=by decide
   have e2:(" ":Str).length=1:=by decide
   refine⟨_,rfl,λf s3 H3=>jz,λr hr' f s3 H3=>?_⟩
   cases hr';exact Aq (zs:=["open",qa,gD qb,gD qi]) aU (VO.ve (jf (au aU (au (aj 0 rfl) (au (Ao (aj 1 rfl) (gB.log h2) n.str) (au (Ao (aj 2 rfl) (gB.log h3) n.str) aX)))) (small (by show 4<=_;decide)))) (by rw[e2];simp only[aZ,lV,Py,List.sum_nil,bJ,dM];omega)
  refine aO (rB (tgt:=.tup [7,8,9,10]) (o:=.nx [.val (jw p),.own ((iz p).map .str),.un,.un,.un,.un,.un,.un,.un,.un,.un]) gA rfl (lN (jX hr1 (aj 0 rfl) aU (Zy p)))
   (lg rfl (cZ (cJ (i:=7) nd rfl (by first|exact bG rfl|exact fj rfl)) (cZ (cJ (i:=8) nd rfl (by first|exact bG rfl|exact fj rfl)) (cZ (cJ (i:=9) nd rfl (by first|exact bG rfl|exact fj rfl)) (cZ (cJ (i:=10) nd rfl (by first|exact bG rfl|exact fj rfl)) jq))))) (λi=>[.val (jw p),.own ((iz p).map .str),.un,.un,.un,.un,.un,.un,.un,.un,.un]) 0 rfl (cC _) (λi d hi hd=>absurd hi (by omega)) (.inl ⟨rfl,rfl⟩)) ?_
  refine mW 1 rfl ?_
  refine bH (dG (Aq (zs:=iz p) aU (aj 1 rfl) ?_))
  have e5:("\n":Str).length=1:=by decide
  have e2:(" ":Str).length=1:=by decide
  have hl:(iz p).length<=1440:=by unfold iz;simp only[bK,aq];omega
  have hs:=xu (l:=iz p) (b:=2000) λx hx=>by
   unfold iz vm at hx;simp only[dJ,aR]at hx;rcases hx with((((⟨q,hq,rfl⟩|⟨q,hq,rfl⟩)|⟨q,hq,rfl⟩)|⟨dk,hq,rfl⟩)|⟨q,hq,rfl⟩)|⟨q,hq,rfl⟩
   ·obtain⟨h1,h2⟩:=ok.kinds q hq
    have s1:=h1.short;have s2:=qJ h2;have e1:("kind ":Str).length=5:=by decide
    unfold yE;simp only[dI];omega
   ·have s1:=(ok.gates q hq).short
    have e1:("gate ":Str).length=5:=by decide
    unfold uN;simp only[dI];omega
   ·obtain⟨h1,h2⟩:=ok.lines q hq
    have s1:=h1.short;have s2:=mQ h2;have e1:("line ":Str).length=5:=by decide
    unfold uO;simp only[dI];omega
   ·obtain⟨h1,h2,h3,h4,h5⟩:=ok.desks dk hq
    have h2w:TF (.str dk.to):=h2;have s1:=h1.short;have s2:=qJ h2w;have s3:=vh h3;have s4:=m8 (y:=" ") (by decide) (l:=dk.places) (b:=8) λx hx=>(h5 x hx).short
    have s5:dk.places.length*(8+1)<=60*9:=nR h4 (aK _);have e1:("desk ":Str).length=5:=by decide
    have e2:(" to ":Str).length=4:=by decide
    have e3:(" by ":Str).length=4:=by decide
    have e4:(" from ":Str).length=6:=by decide
    unfold tK vf;simp only[dI];omega
   ·obtain⟨h1,h2,h3⟩:=ok.times q hq
    have s1:=h1.short;have s2:=h2.short;have s3:=mQ h3;have:=m8 (y:=" ") (by decide) (l:=["time",q.1,q.2.1,gD q.2.2]) (b:=8) λx hx=>by
     simp only[aQ,cL,or_false]at hx;rcases hx with rfl|rfl|rfl|rfl
     ·decide
     ·exact s1
     ·exact s2
     ·omega
    unfold uP;exact dD this (by simp only[bJ,dM];omega)
   ·obtain⟨h1,h2,h3⟩:=ok.hours q hq
    have s1:=h1.short;have s2:=mQ h2;have s3:=mQ h3;have:=m8 (y:=" ") (by decide) (l:=["open",q.1,gD q.2.1,gD q.2.2]) (b:=8) λx hx=>by
     simp only[aQ,cL,or_false]at hx;rcases hx with rfl|rfl|rfl|rfl
     ·decide
     ·exact s1
     ·omega
     ·omega
    unfold vW;exact dD this (by simp only[bJ,dM];omega)
  have hb:(iz p).length*2000<=1440*2000:=nR hl (aK _);rw[e5];omega
end
end Mg
namespace Mg
open L2 PySem PyProof.Rows
theorem lU(a c:Int){b:Int}(hb:0<b)(hc:0<=c)(h:c+b<=1000000):gB (c+a%b):=by
 have a1:0<=a%b:=bY _ (by omega)
 have a2:a%b<b:=cj _ hb;exact⟨by omega,by omega⟩
theorem vp(a:Int){b:Int}(hb:0<b)(h:b<=1000000):gB (a%b):=by
 have:=lU a 0 hb (by omega) (by omega)
 rw[Int.zero_add]at this;exact this
theorem getD_mem{l:List Str}{k:Nat}(h:k<l.length):l.getD k ""∈l:=by
 rw[aP,aG h];exact fY _
theorem zbl(m:Int){many:Nat}(h:many<=60):JV (rE m many):=by
 unfold rE
 split
 ·trivial
 split
 ·exact⟨lU _ 1 (by decide) (by decide) (by decide),vp _ (by decide) (by decide)⟩
 split
 ·exact lU _ 1 (by decide) (by decide) (by decide)
 split
 ·split
  ·trivial
  ·exact vp _ (by decide) (by decide)
 split
 ·refine⟨by rw[aq,iK];exact h,λz hz=>?_⟩
  obtain⟨k,_,rfl⟩:=aR.mp hz;exact lU _ 1 (by decide) (by decide) (by decide)
 ·trivial
theorem JX(m:Int){many:Nat}(h:many<=12):mY (rE m many) many<=12:=by
 have a2:m/6%4<4:=cj _ (by decide)
 unfold rE
 split
 ·show(many:Int)<=12;omega
 split
 ·show 1+m/6%4<=12;omega
 split
 ·show 1+m/6%4<=12;omega
 split
 ·show(1:Int)<=12;omega
 split
 ·show(1:Int)<=12;omega
 ·show(1:Int)<=12;omega
theorem VH{cell:Int}{places lines:List Str}(h1:1<=places.length)(h12:places.length<=12){d:Dk}(hd:d∈dg cell places lines):
  gG d.name/\d.to∈lines ++ [("":Str)]/\JV d.rule/\d.places.length<=places.length/\(∀x∈d.places,x∈places)/\mY d.rule d.places.length<=12:=by
 obtain⟨k,hk,rfl⟩:=aR.mp hd;have hk:=gq.mp hk;have tl:=lW cell (qO cell places.length) places places.length;have hrow:(gW cell (qO cell places.length) places places.length).getD k []∈gW cell (qO cell places.length) places places.length:=by
  rw[aP,aG (by omega)]
  exact fY _
 obtain⟨r1,r2⟩:=Av cell _ places _ _ hrow;refine⟨pH (getD_mem (by rw[jl];exact hk)),(Om cell lines k).2,zbl _ (by omega),r1,r2 (aK _),JX _ (by omega)⟩
theorem VJ(ns:List Int):nU (kY ns):=by
 obtain⟨k1,k4⟩:=uc (lE ns);obtain⟨g1,g3⟩:=pI (cX ns);obtain⟨p1,p6⟩:=rG (cX ns);have hll:(linesOf (cX ns)).length<=6:=by unfold linesOf;rw[fG];omega
 have hol:(orderOf (cX ns)).length=(placesOf (cX ns)).length:=by
  unfold orderOf;rw[bK,fG,dO];have:=Aw (cX ns) (n:=(placesOf (cX ns)).length) (by omega)
  omega
 have hpn:∀x∈placesOf (cX ns),gG x:=λx hx=>pH hx
 have hon:∀x∈orderOf (cX ns),gG x:=λx hx=>by
  rcases dJ.mp hx with hx|hx
  ·exact hpn x (jD hx)
  ·exact hpn x (jC hx)
 have hln:∀x∈linesOf (cX ns),gG x:=λx hx=>hpn x (jD hx)
 have hkl:(kindsOf (lE ns)).length=ou (lE ns):=by simp[kindsOf]
 have hkn:∀q∈kindsOf (lE ns),gG q.1/\TF (vJ q.2):=λq hq=>by
  obtain⟨k,hk,rfl⟩:=aR.mp hq;have hk:=gq.mp hk;refine⟨pH (getD_mem (by rw[jl];exact hk)),?_⟩
  show TF (vJ (Cj _));unfold Cj
  split
  ·exact lU _ 1 (by decide) (by decide) (by decide)
  ·trivial
 have hdl:(dg (jM ns) (orderOf (cX ns)) (linesOf (cX ns))).length<=4:=by rw[yD];exact(t_ (jM ns) (by omega)).2.1
 have hdk:∀d∈dg (jM ns) (orderOf (cX ns)) (linesOf (cX ns)),_:=λd hd=>VH (by omega) (by omega) hd
 have htl:=yx (jM ns) (dg (jM ns) (orderOf (cX ns)) (linesOf (cX ns))) (kindsOf (lE ns)) (by omega) _ (aK _)
 have hhl:=yC (jM ns) (dg (jM ns) (orderOf (cX ns)) (linesOf (cX ns))) _ (aK _)
 generalize hD:dg (jM ns) (orderOf (cX ns)) (linesOf (cX ns))=mH at *
 have e0:kY ns=⟨kindsOf (lE ns),rF (cX ns),(dF (linesOf (cX ns)).length).map (roomAt (cX ns) mH (linesOf (cX ns))),mH,kW (jM ns) mH (kindsOf (lE ns)) mH.length,nF (jM ns) mH mH.length⟩:=by rw[<-hD];rfl
 rw[e0];refine⟨by show(kindsOf (lE ns)).length<=60;omega,?_,?_,by show mH.length<=60;omega,by show(kW _ _ _ _).length<=600;omega,by show(nF _ _ _).length<=600;omega,hkn,λg hg=>hpn g (jC hg),λq hq=>?_,λd hd=>?_,λq hq=>?_,λq hq=>?_⟩
 ·show(rF (cX ns)).length<=60
  unfold rF;rw[dO];omega
 ·show((dF (linesOf (cX ns)).length).map _).length<=60
  rw[aq,iK];omega
 ·obtain⟨k,hk,rfl⟩:=aR.mp hq
  have hk:=gq.mp hk;refine⟨hln _ (getD_mem hk),?_⟩
  have mo:=yu (oA mH ((linesOf (cX ns)).getD k ""));have mb:maxOf (oA mH ((linesOf (cX ns)).getD k ""))<=12:=by
   rcases aQ.mp mo.1 with h|h
   ·rw[h];decide
   ·obtain⟨d,hd,he⟩:=oE.mp h
    split at he
    ·rw[<-fM he];exact(hdk d hd).2.2.2.2.2
    ·cases he
  have ml:=mo.2 1 aY;exact lU _ _ (by decide) (by omega) (by omega)
 ·obtain⟨d1,d2,d3,d4,d5,_⟩:=hdk d hd
  refine⟨d1,?_,d3,by omega,λx hx=>hon x (d5 x hx)⟩
  rcases dJ.mp d2 with h|h
  ·exact .inr (hln _ h)
  ·exact .inl (bW.mp h)
 ·obtain⟨⟨d,i⟩,hd,hq⟩:=HF.mp hq
  have hdm:d∈mH:=by
   have:=jC hd;exact pU this
  obtain⟨⟨kd,j⟩,hk,hq⟩:=oE.mp hq;have hkm:kd∈kindsOf (lE ns):=pU (jC hk);unfold Ck at hq
  split at hq
  ·cases hq
   exact⟨(hdk d hdm).1,(hkn kd hkm).1,lU _ 1 (by decide) (by decide) (by decide)⟩
  ·cases hq
 ·obtain⟨⟨d,i⟩,hd,hq⟩:=HF.mp hq
  have hdm:d∈mH:=pU (jC hd);have hn:=(hdk d hdm).1;unfold qx at hq
  split at hq
  ·rcases aQ.mp hq with rfl|hq
   ·exact⟨hn,vp _ (by decide) (by decide),lU _ 9 (by decide) (by decide) (by decide)⟩
   ·rw[bW.mp hq]
    exact⟨hn,lU _ 25 (by decide) (by decide) (by decide),lU _ 50 (by decide) (by decide) (by decide)⟩
  ·cases hq
def nJ(x:Str):Prop:=x≠""/\32∉x.cps.toList/\10∉x.cps.toList
theorem nJ.one{x:Str}(h:nJ x):wordsOf x=[x]:=FP h.1 h.2.1
theorem yF{l k:Str}(hl:l=k++" ")(hk:nJ k)(x:Str):wordsOf (l++x)=k::wordsOf x:=by
 rw[hl,sY,hk.one];rfl
theorem Cq{l k:Str}(hl:l=" "++k++" ")(hk:nJ k)(x y:Str):wordsOf (x++l++y)=wordsOf x++k::wordsOf y:=by
 have e:x++l++y=x++" "++(k++" "++y):=by
  rw[hl];apply str_inj;simp only[add_list,jh]
 rw[e,sY,sY,hk.one];rfl
theorem Az{d:aA}(h:TF d):nJ (iH d):=by
 have e:nJ "-":=by unfold nJ;decide +kernel
 cases d with
 |none=>exact e
 |int i=>exact vd h.1 h.2
 |str x=>
  show nJ (if x="" then "-" else x)
  split
  ·exact e
  ·rename_i hx
   rcases h with h|h
   ·exact absurd h hx
   ·exact mO h
 |_=>exact h.elim
theorem Cr{r:Rl}(h:JV r):∀w∈fH r,nJ w:=by
 intro w hw;by_cases ht:∃sh,r=.turns sh
 ·obtain⟨sh,rfl⟩:=ht
  rcases aQ.mp hw with rfl|hw
  ·unfold nJ;decide +kernel
  ·obtain⟨z,hz,rfl⟩:=aR.mp hw
   exact vd (h.2 z hz).1 (h.2 z hz).2
 ·have hnt:∀sh,r≠.turns sh:=λsh z=>ht ⟨sh,z⟩
  have hok:=JW hnt h;have hws:fH r=wJ r::(zX r).map iH:=by
   cases r with
   |turns sh=>exact absurd rfl (hnt sh)
   |_=>rfl
  rw[hws]at hw;rcases aQ.mp hw with rfl|hw
  ·cases r<;>dsimp only[wJ,nJ]<;>decide +kernel
  ·obtain⟨z,hz,rfl⟩:=aR.mp hw
   exact Az (hok z hz)
theorem TJ{q:Str×Option Int}(h:gG q.1/\TF (vJ q.2)):wordsOf (yE q)=[("kind":Str),q.1,iH (vJ q.2)]:=by
 unfold yE;rw[sY,yF (k:="kind") (by decide +kernel) (by unfold nJ;decide +kernel),(show nJ q.1 from mO h.1).one,(Az h.2).one];rfl
theorem TQ{g:Str}(h:gG g):wordsOf (uN g)=[("gate":Str),g]:=by
 unfold uN;rw[yF (k:="gate") (by decide +kernel) (by unfold nJ;decide +kernel),(show nJ g from mO h).one]
theorem TV{q:Str×Int}(h:gG q.1/\gB q.2):wordsOf (uO q)=[("line":Str),q.1,gD q.2]:=by
 unfold uO;rw[sY,yF (k:="line") (by decide +kernel) (by unfold nJ;decide +kernel),(show nJ q.1 from mO h.1).one,(show nJ (gD q.2)from vd h.2.1 h.2.2).one];rfl
theorem TX{d:Dk}(h:gG d.name/\(d.to=""\/gG d.to)/\JV d.rule/\d.places.length<=60/\∀x∈d.places,gG x):wordsOf (tK d)=[("desk":Str),d.name,"to",iH (.str d.to),"by"]++fH d.rule ++ [("from":Str)]++d.places:=by
 obtain⟨h1,h2,h3,h4,h5⟩:=h;have h2w:TF (.str d.to):=h2;have hr:wordsOf (xr d.rule)=fH d.rule:=vV λw hw=>⟨(Cr h3 w hw).1,(Cr h3 w hw).2.1⟩
 have hp:wordsOf (fQ " " d.places)=d.places:=vV λw hw=>⟨(mO (h5 w hw)).1,(mO (h5 w hw)).2.1⟩
 unfold tK vf;rw[Cq (k:="from") (by decide +kernel) (by unfold nJ;decide +kernel),Cq (k:="by") (by decide +kernel) (by unfold nJ;decide +kernel),Cq (k:="to") (by decide +kernel) (by unfold nJ;decide +kernel),yF (k:="desk") (by decide +kernel) (by unfold nJ;decide +kernel),(show nJ d.name from mO h1).one,(Az h2w).one,hr,hp]
 simp
theorem TY{q:Str×Str×Int}(h:gG q.1/\gG q.2.1/\gB q.2.2):wordsOf (uP q)=[("time":Str),q.1,q.2.1,gD q.2.2]:=by
 refine vV λw hw=>?_
 have:nJ w:=by
  simp only[aQ,cL,or_false]at hw;rcases hw with rfl|rfl|rfl|rfl
  ·unfold nJ;decide +kernel
  ·exact mO h.1
  ·exact mO h.2.1
  ·exact vd h.2.2.1 h.2.2.2
 exact⟨this.1,this.2.1⟩
theorem T3{q:Str×Int×Int}(h:gG q.1/\gB q.2.1/\gB q.2.2):wordsOf (vW q)=[("open":Str),q.1,gD q.2.1,gD q.2.2]:=by
 refine vV λw hw=>?_
 have:nJ w:=by
  simp only[aQ,cL,or_false]at hw;rcases hw with rfl|rfl|rfl|rfl
  ·unfold nJ;decide +kernel
  ·exact mO h.1
  ·exact vd h.2.1.1 h.2.1.2
  ·exact vd h.2.2.1 h.2.2.2
 exact⟨this.1,this.2.1⟩
end Mg
namespace Mg
open L2 PySem PyProof.Rows
seal L2.VE L2.VS L2.Em L2.VT L2.VO L2.VTs
inductive Sh where
 |name|number|count|share|tD|ug|tL
def Sh.tx:Sh->Str
 | .name=>"name"
 | .number=>"number"
 | .count=>"count"
 | .share=>"share"
 | .tD=>"count or -"
 | .ug=>"name or -"
 | .tL=>"number or -"
def qD(x:Str):Bool:=isNumber x && !decide (x="0")
def sG:Sh->Str->Bool
 | .name,x=>isName x
 | .number,x=>isNumber x
 | .count,x=>qD x
 | .share,x=>qD x&&decide ((x.length:Int)=1)
 | .tD,x=>decide (x="-")||qD x
 | .ug,x=>decide (x="-")||isName x
 | .tL,x=>decide (x="-")||isNumber x
def Ou(x:Str):Int:=(intText? x).getD 0
def m9:Sh->Str->aA
 | .name,x=>.str x
 | .ug,x=>.str (if x="-" then "" else x)
 |_,x=>if x="-" then .none else .int (Ou x)
def Sh.base:Sh->Bool
 | .name=>true
 | .number=>true
 | .count=>true
 |_=>false
theorem Sh.ok(s:Sh):rY s.tx:=by cases s<;>(show eN (.str _)=true)<;>decide +kernel
theorem JZ{x:Str}(h:isNumber x=true):1<=x.length/\x.length<=6/\∀c∈x.cps.toList,48<=c/\c<=57:=by
 unfold isNumber at h;have h:=(nq.mp h).1;unfold uz at h;obtain⟨h1,h2⟩:=nq.mp h;obtain⟨h3,h4⟩:=nq.mp h1;have h3:=of_decide_eq_true h3;have h4:=of_decide_eq_true h4;refine⟨by omega,by omega,λc hc=>?_⟩
 have:=iC.mp h2 c hc;have e:Oc (one c) "0123456789"=decide (c∈("0123456789":Str).cps.toList):=Dc ..;rw[e,QM]at this;obtain⟨i,hi,rfl⟩:=aR.mp (of_decide_eq_true this);have:=gq.mp hi;omega
theorem K5{x:Str}(h:isNumber x=true):intText? x=some (Ou x):=by
 obtain⟨h1,h2,h3⟩:=JZ h;have hd:NumText.AllDigits x.cps.toList:=λc hc=>h3 c hc
 have hl:x.cps.toList.length=x.length:=dX;have e:=intText_digits hd (λz=>by rw[z]at hl;simp only[dM]at hl;omega) (by omega)
 unfold Ou;rw[e];rfl
theorem QS{n:Int}(h:gB n):Ou (gD n)=n:=by unfold Ou;rw[num_reads h.1 h.2];rfl
theorem yG{x:Str}(h:qD x=true):isNumber x=true:=(nq.mp h).1
theorem GC{s:Sh}{x:Str}(h:sG s x=true)(h1:s≠.name)(h2:s≠.ug)(hx:x≠"-"):isNumber x=true:=by
 cases s with
 |name=>exact absurd rfl h1
 |ug=>exact absurd rfl h2
 |number=>exact h
 |count=>exact yG h
 |share=>exact yG (nq.mp h).1
 |tD=>
  rcases Bool.or_eq_true_iff.mp h with h|h
  ·exact absurd (of_decide_eq_true h) hx
  ·exact yG h
 |tL=>
  rcases Bool.or_eq_true_iff.mp h with h|h
  ·exact absurd (of_decide_eq_true h) hx
  ·exact h
section
variable{P:bL}{w:dB}{K:ao}{mg:Str->Option aF}{base:dW}{f:aN}{k:Nat}
abbrev XF:List Str:=["shape","word"]
theorem zb4:eX XF XF (cP (top 29)):=⟨rfl,rfl,rfl,by decide +kernel,rfl,by decide +kernel,by decide +kernel⟩
def Rft(b:Bool)(ds:List aA)(d:aA):Prop:=∃(s:Sh)(x:Str),ds=[.str s.tx,.str x]/\Gw x/\(b=true\/s.base=true)/\d=.bool (sG s x)
theorem bC{x:Str}(h:eN (.str x)=true:=by decide +kernel):Lay 20 (.str x):=bZ h
theorem zfF{fb:Bool}(n:Na mg)(C1:cG P w K mg base 2 "is_name" ["word"] (mX K Rna))(C2:cG P w K mg base 2 "is_number" ["word"] (mX K Rnu))(k2:2<=k)(C3:fb=true->cG P w K mg base k "fits" XF (mX K (Rft false))){ds:List aA}{d:aA}(h:Rft fb ds d):Qh P w K mg base XF "fits" (top 29) f k ds (.rt d):=by
 obtain⟨s,x,rfl,ox,hb,rfl⟩:=h;intro cdv A outer sh H E hr;have hr2:jH 2 _:=hr.mono k2;have ls:=bZ (n:=20) s.ok;have lx:=bZ (n:=20) ox.2;cases s with
 |name=>exact fJ (gj (VT.to (c7 hr ls bC (aj 0 rfl) aU) (by rw[cR];exact decide_eq_true rfl)) (bH (dG (cF C1 hr2 (au (aj 1 rfl) aX) ⟨x,rfl,ox.1,rfl⟩)))) rfl
 |number=>
  refine aO (cW (VT.to (c7 hr ls bC (aj 0 rfl) aU) (by rw[cR];decide +kernel)) b_) ?_
  exact fJ (gj (VT.to (c7 hr ls bC (aj 0 rfl) aU) (by rw[cR];exact decide_eq_true rfl)) (bH (dG (cF C2 hr2 (au (aj 1 rfl) aX) ⟨x,rfl,ox,rfl⟩)))) rfl
 |count=>
  refine aO (cW (VT.to (c7 hr ls bC (aj 0 rfl) aU) (by rw[cR];decide +kernel)) b_) ?_
  refine aO (cW (VT.to (c7 hr ls bC (aj 0 rfl) aU) (by rw[cR];decide +kernel)) b_) ?_
  exact fJ (gj (VT.to (c7 hr ls bC (aj 0 rfl) aU) (by rw[cR];exact decide_eq_true rfl)) (bH (dG (VE.to (wD (cF C2 hr2 (au (aj 1 rfl) aX) ⟨x,rfl,ox,rfl⟩) (λ_=>qI (YD hr lx bC (aj 1 rfl) aU))) (by rw[cR];rfl))))) rfl
 |share=>
  have C3:=C3 (hb.resolve_right (by decide))
  refine aO (cW (VT.to (c7 hr ls bC (aj 0 rfl) aU) (by rw[cR];decide +kernel)) b_) ?_
  refine aO (cW (VT.to (c7 hr ls bC (aj 0 rfl) aU) (by rw[cR];decide +kernel)) b_) ?_
  refine aO (cW (VT.to (c7 hr ls bC (aj 0 rfl) aU) (by rw[cR];decide +kernel)) b_) ?_
  exact fJ (gj (VT.to (c7 hr ls bC (aj 0 rfl) aU) (by rw[cR];exact decide_eq_true rfl)) (bH (dG (VE.to (wD (cF C3 hr (au aU (au (aj 1 rfl) aX)) ⟨.count,x,rfl,ox,.inr rfl,rfl⟩) (λ_=>qI (Dq hr (dY 20 _) (dY 20 _) (Ie (aj 1 rfl) (small (by have:=ox.1;omega)) n.len) aH))) (by rw[pR];rfl))))) rfl
 |tD=>
  have C3:=C3 (hb.resolve_right (by decide))
  refine aO (cW (VT.to (c7 hr ls bC (aj 0 rfl) aU) (by rw[cR];decide +kernel)) b_) ?_
  refine aO (cW (VT.to (c7 hr ls bC (aj 0 rfl) aU) (by rw[cR];decide +kernel)) b_) ?_
  refine aO (cW (VT.to (c7 hr ls bC (aj 0 rfl) aU) (by rw[cR];decide +kernel)) b_) ?_
  refine aO (cW (VT.to (c7 hr ls bC (aj 0 rfl) aU) (by rw[cR];decide +kernel)) b_) ?_
  have hsp:(eO (Sh.tD.tx) " ").map aW=[.str "count",.str "or",.str "-"]:=by rw[show eO (Sh.tD.tx) " "=[("count":Str),"or","-"]from by decide +kernel];rfl
  exact bH (dG (VE.to (Dt (Dq hr lx bC (aj 1 rfl) aU) (λ_=>qI (cF C3 hr (au (lD (VE.to (VO.ve (zR (aj 0 rfl) aU rfl (small (by decide)))) (by rw[hsp])) aH (cu (j:=0) rfl)) (au (aj 1 rfl) aX)) ⟨.count,x,rfl,ox,.inr rfl,rfl⟩))) (by rw[cR];rfl)))
 |ug=>
  have C3:=C3 (hb.resolve_right (by decide))
  refine aO (cW (VT.to (c7 hr ls bC (aj 0 rfl) aU) (by rw[cR];decide +kernel)) b_) ?_
  refine aO (cW (VT.to (c7 hr ls bC (aj 0 rfl) aU) (by rw[cR];decide +kernel)) b_) ?_
  refine aO (cW (VT.to (c7 hr ls bC (aj 0 rfl) aU) (by rw[cR];decide +kernel)) b_) ?_
  refine aO (cW (VT.to (c7 hr ls bC (aj 0 rfl) aU) (by rw[cR];decide +kernel)) b_) ?_
  have hsp:(eO (Sh.ug.tx) " ").map aW=[.str "name",.str "or",.str "-"]:=by rw[show eO (Sh.ug.tx) " "=[("name":Str),"or","-"]from by decide +kernel];rfl
  exact bH (dG (VE.to (Dt (Dq hr lx bC (aj 1 rfl) aU) (λ_=>qI (cF C3 hr (au (lD (VE.to (VO.ve (zR (aj 0 rfl) aU rfl (small (by decide)))) (by rw[hsp])) aH (cu (j:=0) rfl)) (au (aj 1 rfl) aX)) ⟨.name,x,rfl,ox,.inr rfl,rfl⟩))) (by rw[cR];rfl)))
 |tL=>
  have C3:=C3 (hb.resolve_right (by decide))
  refine aO (cW (VT.to (c7 hr ls bC (aj 0 rfl) aU) (by rw[cR];decide +kernel)) b_) ?_
  refine aO (cW (VT.to (c7 hr ls bC (aj 0 rfl) aU) (by rw[cR];decide +kernel)) b_) ?_
  refine aO (cW (VT.to (c7 hr ls bC (aj 0 rfl) aU) (by rw[cR];decide +kernel)) b_) ?_
  refine aO (cW (VT.to (c7 hr ls bC (aj 0 rfl) aU) (by rw[cR];decide +kernel)) b_) ?_
  have hsp:(eO (Sh.tL.tx) " ").map aW=[.str "number",.str "or",.str "-"]:=by rw[show eO (Sh.tL.tx) " "=[("number":Str),"or","-"]from by decide +kernel];rfl
  exact bH (dG (VE.to (Dt (Dq hr lx bC (aj 1 rfl) aU) (λ_=>qI (cF C3 hr (au (lD (VE.to (VO.ve (zR (aj 0 rfl) aU rfl (small (by decide)))) (by rw[hsp])) aH (cu (j:=0) rfl)) (au (aj 1 rfl) aX)) ⟨.number,x,rfl,ox,.inr rfl,rfl⟩))) (by rw[cR];rfl)))
theorem zfG{fd:cU}(F:rP K "fits" "fits" (top 29) f fd)(n:Na mg)(C1:cG P w K mg base 2 "is_name" ["word"] (mX K Rna))(C2:cG P w K mg base 2 "is_number" ["word"] (mX K Rnu)):i_ P w K mg base qz 3 f fd XF (mX K (Rft false)):=
 qg F zb4 (λ_ _ h=>by obtain⟨_,_,rfl,_⟩:=h;rfl) λ_ _ h=>zfF n C1 C2 (aK _) (λz=>by cases z) h
theorem ziA{fd:cU}(F:rP K "fits" "fits" (top 29) f fd)(n:Na mg)(C1:cG P w K mg base 2 "is_name" ["word"] (mX K Rna))(C2:cG P w K mg base 2 "is_number" ["word"] (mX K Rnu))(C3:cG P w K mg base 3 "fits" XF (mX K (Rft false))):i_ P w K mg base qz 4 f fd XF (mX K (Rft true)):=
 qg F zb4 (λ_ _ h=>by obtain⟨_,_,rfl,_⟩:=h;rfl) λ_ _ h=>zfF n C1 C2 (by decide) (λ_=>C3) h
theorem zfH:eX XF XF (cP (top 30)):=⟨rfl,rfl,rfl,by decide +kernel,rfl,by decide +kernel,by decide +kernel⟩
def Rvo(ds:List aA)(d:aA):Prop:=∃(s:Sh)(x:Str),ds=[.str s.tx,.str x]/\Gw x/\sG s x=true/\d=m9 s x
theorem ziB{fd:cU}(F:rP K "value_of" "value_of" (top 30) f fd)(n:Na mg):i_ P w K mg base qz 1 f fd XF (mX K Rvo):=
 qg F zfH (λ_ _ h=>by obtain⟨_,_,rfl,_⟩:=h;rfl) λ_ _ h=>by
  obtain⟨s,x,rfl,ox,hf,rfl⟩:=h;intro cdv A outer sh H E hr;have ls:=bZ (n:=20) s.ok;have lx:=bZ (n:=20) ox.2;by_cases h1:s=.name
  ·subst h1
   exact fJ (gj (VT.to (c7 hr ls bC (aj 0 rfl) aU) (by rw[cR];exact decide_eq_true rfl)) (bH (dG (aj 1 rfl)))) rfl
  ·have d1:s.tx≠"name":=by cases s<;>first|exact absurd rfl h1|(dsimp only[Sh.tx];decide +kernel)
   refine aO (cW (VT.to (c7 hr ls bC (aj 0 rfl) aU) (by rw[cR];exact decide_eq_false d1)) b_) ?_
   by_cases h2:s=.ug
   ·subst h2
    refine fJ (gj (VT.to (c7 hr ls bC (aj 0 rfl) aU) (by rw[cR];exact decide_eq_true rfl)) (bH (dG (N7 (k:=decide (x="-")) (VT.to (c7 hr lx bC (aj 1 rfl) aU) (by rw[cR])) (λz=>VE.to aU ?_) (λz=>VE.to (aj 1 rfl) ?_))))) rfl
    ·show aW ""=.str (if x="-" then "" else x);rw[if_pos (of_decide_eq_true z)]
    ·show aW x=.str (if x="-" then "" else x);rw[if_neg (of_decide_eq_false z)]
   ·have d2:s.tx≠"name or -":=by cases s<;>first|exact absurd rfl h2|exact absurd rfl h1|(dsimp only[Sh.tx];decide +kernel)
    have ev:m9 s x=if x="-" then .none else .int (Ou x):=by cases s<;>first|exact absurd rfl h1|exact absurd rfl h2|rfl
    rw[ev];refine aO (cW (VT.to (c7 hr ls bC (aj 0 rfl) aU) (by rw[cR];exact decide_eq_false d2)) b_) ?_
    refine bH (dG (N7 (k:=decide (x="-")) (VT.to (c7 hr lx bC (aj 1 rfl) aU) (by rw[cR])) (λz=>VE.to lJ (by rw[if_pos (of_decide_eq_true z)])) (λz=>VE.to (zaN (aj 1 rfl) (K5 (GC hf h1 h2 (of_decide_eq_false z))) (by have:=(JZ (GC hf h1 h2 (of_decide_eq_false z))).2.1;omega) n.int) (by rw[if_neg (of_decide_eq_false z)]))))
def QT(shs:List Sh):aA:=.tuple (shs.map λs=>.str s.tx)
def z8(shs:List Sh)(ws:List Str):Bool:=decide (ws.length=shs.length)&&(shs.zip ws).all λp=>sG p.1 p.2
def vX(shs:List Sh)(ws:List Str):List aA:=(shs.zip ws).map λp=>m9 p.1 p.2
def oX(shs:List Sh)(ws:List Str):aA:=if z8 shs ws then .tuple (vX shs ws)else .none
abbrev Nvs:List Str:=["shapes","words"]
theorem zfI:eX Nvs Nvs (cP (top 31)):=⟨rfl,rfl,rfl,by decide +kernel,rfl,by decide +kernel,by decide +kernel⟩
def Rvs(ds:List aA)(d:aA):Prop:=∃(shs:List Sh)(ws:List Str),ds=[QT shs,iZ ws]/\shs.length<=1000/\ws.length<=100002/\(∀x∈ws,Gw x)/\d=oX shs ws
def QV(x:Str):Sh:=if x="name" then .name else if x="number" then .number else if x="count" then .count else if x="share" then .share else if x="count or -" then .tD else if x="name or -" then .ug else .tL
theorem DN(s:Sh):QV s.tx=s:=by
 cases s<;>rfl
def zdE:aA->Option aA
 | .tuple [.str s,.str x]=>some (.bool (sG (QV s) x))
 |_=>none
def zfJ:aA->Option aA
 | .tuple [.str s,.str x]=>some (m9 (QV s) x)
 |_=>none
theorem z_:∀(shs:List Sh)(ws:List Str),Ju (shs.map λs=>aW s.tx) (ws.map aW)=(shs.zip ws).map λp=>.tuple [.str p.1.tx,.str p.2]
 | [],_=>rfl
 |_::_,[]=>rfl
 |s::shs,x::ws=>by
  have:=z_ shs ws;unfold Ju at this ⊢;rw[aZ,aZ,qX,qX,aZ,aZ,this]
theorem QW(shs:List Sh)(ws:List Str):(Ju (shs.map λs=>aW s.tx) (ws.map aW)).filterMap zdE=((shs.zip ws).map λp=>sG p.1 p.2).map .bool:=by
 rw[z_,dZ,bU];exact filterMap_some λp _=>by show some (qU (sG (QV p.1.tx) p.2))=_;rw[DN];rfl
theorem ZF(shs:List Sh)(ws:List Str):(Ju (shs.map λs=>aW s.tx) (ws.map aW)).filterMap zfJ=vX shs ws:=by
 unfold vX;rw[z_,dZ];exact filterMap_some λp _=>by show some (m9 (QV p.1.tx) p.2)=_;rw[DN]
theorem ziC{fd:cU}(F:rP K "values_of" "values_of" (top 31) f fd)(n:Na mg)(mz:mg "zip"=none)(C1:cG P w K mg base 4 "fits" XF (mX K (Rft true)))(C2:cG P w K mg base 1 "value_of" XF (mX K Rvo)):i_ P w K mg base qz 5 f fd Nvs (mX K Rvs):=
 qg F zfI (λ_ _ h=>by obtain⟨_,_,rfl,_⟩:=h;rfl) λ_ _ h=>by
  obtain⟨shs,ws,rfl,hs1,hw1,hok,rfl⟩:=h;intro cdv A outer sh H E hr;have hr1:jH 1 _:=hr.mono (by omega)
  have nc:(["shape","word"]:List Str).Nodup:=by decide +kernel
  have hzl:(Ju (shs.map λs=>aW s.tx) (ws.map aW)).length<=1000:=by rw[z_,aq,List.length_zip];omega
  have hlen:∀b,decide (ws.length=shs.length)=b->fD (.int ((ws.map aW).length:Nat)) (.int ((shs.map λs=>aW s.tx).length:Nat))=b:=λb hb=>by
   rw[pR,aq,aq,<-hb,lH,decide_eq_true_iff,decide_eq_true_iff];omega
  have hmem:∀d∈Ju (shs.map λs=>aW s.tx) (ws.map aW),∃s x,d=.tuple [.str (Sh.tx s),.str x]/\(s,x)∈shs.zip ws/\Gw x:=λd hd=>by
   rw[z_]at hd;obtain⟨p,hp,rfl⟩:=aR.mp hd;exact⟨p.1,p.2,rfl,hp,hok _ (zu hp).2⟩
  by_cases hl:ws.length=shs.length
  ·have hall:∀b,((shs.zip ws).all λp=>sG p.1 p.2)=b->wW ((shs.zip ws).map λp=>sG p.1 p.2)=b:=λb hb=>by
    unfold wW;rw[Gh];exact hb
   by_cases ha:((shs.zip ws).all λp=>sG p.1 p.2)=true
   ·have ev:oX shs ws=.tuple (vX shs ws):=by unfold oX z8;rw[ha,decide_eq_true hl];rfl
    rw[ev];refine aO (cW (VT.to (oW (k1:=false) (k2:=false) (VT.to (qu hr (dY 20 _) (dY 20 _) (pG (aj 1 rfl) n.len) (vQ (aj 0 rfl) n.len)) (by rw[hlen true (decide_eq_true hl)];rfl)) (λ_=>VT.to (u6 (qe (oh (wX rfl) L_ (au (VO.ve (VO.to (jA (own:=["shape","word"]) (cap:=[]) (N:=["shape","word"]) (cl:=[]) (tgt:=.tup [0,1]) (F:=zdE) rfl ⟨rfl,by decide +kernel,by decide +kernel,rfl,rfl,by simp⟩ (S6 .tup .lst (aj 0 rfl) (aj 1 rfl) mz) (λf s3 H3=>lg rfl (cZ (cJ (i:=0) nc rfl (bG rfl)) (cZ (cJ (i:=1) nc rfl (bG rfl)) jq))) rfl
     (small (by omega)) (λd hd=>?_)) (QW shs ws))) aX) n.all rfl) (t:=true) (by show some _=some _;rw[hall true ha]))) rfl)) rfl) b_) ?_
    ·obtain⟨s,x,rfl,hp,ox⟩:=hmem d hd
     refine⟨_,rfl,λf s3 H3=>jz,λr hr' f s3 H3=>?_⟩
     have hr':some (qU (sG (QV s.tx) x))=some r:=hr';rw[DN]at hr';cases hr';exact cF C1 hr (au (aj 0 rfl) (au (aj 1 rfl) aX)) ⟨s,x,rfl,ox,.inl rfl,rfl⟩
    refine bH (dG (sU tH H_ (au (VO.ve (VO.to (jA (own:=["shape","word"]) (cap:=[]) (N:=["shape","word"]) (cl:=[]) (tgt:=.tup [0,1]) (F:=zfJ) rfl ⟨rfl,by decide +kernel,by decide +kernel,rfl,rfl,by simp⟩ (S6 .tup .lst (aj 0 rfl) (aj 1 rfl) mz) (λf s3 H3=>lg rfl (cZ (cJ (i:=0) nc rfl (bG rfl)) (cZ (cJ (i:=1) nc rfl (bG rfl)) jq))) rfl
     (small (by omega)) (λd hd=>?_)) (ZF shs ws))) aX) n.tup rfl))
    obtain⟨s,x,rfl,hp,ox⟩:=hmem d hd;refine⟨_,rfl,λf s3 H3=>jz,λr hr' f s3 H3=>?_⟩
    have hr':some (m9 (QV s.tx) x)=some r:=hr';rw[DN]at hr';cases hr';exact cF C2 hr1 (au (aj 0 rfl) (au (aj 1 rfl) aX)) ⟨s,x,rfl,ox,iC.mp ha (s,x) hp,rfl⟩
   ·have ha:=Bool.not_eq_true _▸ha
    have ev:oX shs ws=.none:=by unfold oX z8;rw[ha,Lf];rfl
    rw[ev];refine fJ (gj (VT.to (oW (k1:=false) (k2:=true) (VT.to (qu hr (dY 20 _) (dY 20 _) (pG (aj 1 rfl) n.len) (vQ (aj 0 rfl) n.len)) (by rw[hlen true (decide_eq_true hl)];rfl)) (λ_=>VT.to (u6 (qe (oh (wX rfl) L_ (au (VO.ve (VO.to (jA (own:=["shape","word"]) (cap:=[]) (N:=["shape","word"]) (cl:=[]) (tgt:=.tup [0,1]) (F:=zdE) rfl ⟨rfl,by decide +kernel,by decide +kernel,rfl,rfl,by simp⟩ (S6 .tup .lst (aj 0 rfl) (aj 1 rfl) mz) (λf s3 H3=>lg rfl (cZ (cJ (i:=0) nc rfl (bG rfl)) (cZ (cJ (i:=1) nc rfl (bG rfl)) jq))) rfl
     (small (by omega)) (λd hd=>?_)) (QW shs ws))) aX) n.all rfl) (t:=false) (by show some _=some _;rw[hall false ha]))) rfl)) rfl) (bH (dG lJ))) rfl
    obtain⟨s,x,rfl,hp,ox⟩:=hmem d hd;refine⟨_,rfl,λf s3 H3=>jz,λr hr' f s3 H3=>?_⟩
    have hr':some (qU (sG (QV s.tx) x))=some r:=hr';rw[DN]at hr';cases hr';exact cF C1 hr (au (aj 0 rfl) (au (aj 1 rfl) aX)) ⟨s,x,rfl,ox,.inl rfl,rfl⟩
  ·have ev:oX shs ws=.none:=by unfold oX z8;rw[decide_eq_false hl];rfl
   rw[ev];exact fJ (gj (VT.to (oW (k1:=true) (k2:=true) (VT.to (qu hr (dY 20 _) (dY 20 _) (pG (aj 1 rfl) n.len) (vQ (aj 0 rfl) n.len)) (by rw[hlen false (decide_eq_false hl)];rfl)) (λz=>by cases z)) rfl) (bH (dG lJ))) rfl
end
def Aa:Rl->Nat->Prop
 | .meet,n=>2<=n
 | .gather m a,_=>1<=m/\gB m/\gB a
 | .many m,_=>1<=m/\gB m
 | .rank none,_=>True
 | .rank (some b),_=>gB b
 | .turns s,n=>s.length=n/\∀z∈s,1<=z/\z<=9
 | .eldest,_=>True
theorem zdF{n:Int}(h:gB n){x:Str}(hx:Ou x≠n):gD n≠x:=λz=>hx (by rw[<-z,QS h])
theorem ZG{n:Int}(h:gB n):gD n≠"-":=λz=>by
 have hd:45∈(gD n).cps.toList:=by rw[z];decide +kernel
 have:=sZ h.1 hd;omega
theorem uU{n:Int}(h:gB n)(h1:1<=n):qD (gD n)=true:=by
 unfold qD;rw[JT h.1 h.2,decide_eq_false (zdF h (by rw[show Ou "0"=0 from by decide +kernel];omega))]
 rfl
theorem Xc{n:Int}(h1:1<=n)(h9:n<=9):sG .share (gD n)=true:=by
 have hs:gB n:=⟨by omega,by omega⟩
 show(qD (gD n)&&decide (((gD n).length:Int)=1))=true
 rw[uU hs h1];rcases(by omega:n=1\/n=2\/n=3\/n=4\/n=5\/n=6\/n=7\/n=8\/n=9)with rfl|rfl|rfl|rfl|rfl|rfl|rfl|rfl|rfl<;>decide +kernel
theorem tM{s:Sh}{n:Int}(h:gB n)(h1:s≠.name)(h2:s≠.ug):m9 s (gD n)=.int n:=by
 have e:m9 s (gD n)=if gD n="-" then .none else .int (Ou (gD n)):=by cases s<;>first|exact absurd rfl h1|exact absurd rfl h2|rfl
 rw[e,if_neg (ZG h),QS h]
theorem DP:∀s:List Int,(∀z∈s,1<=z/\z<=9)->z8 (bN s.length .share) (s.map gD)=true/\vX (bN s.length .share) (s.map gD)=s.map .int
 | [],_=>⟨rfl,rfl⟩
 |z::s,h=>by
  obtain⟨i1,i2⟩:=DP s λx hx=>h x (bD _ hx)
  obtain⟨z1,z9⟩:=h z aY;unfold z8 at i1 ⊢;unfold vX at i2 ⊢;obtain⟨j1,j2⟩:=nq.mp i1;rw[bJ,g8,aZ,qX,List.all_cons,aZ,aZ,i2];refine⟨?_,?_⟩
  ·rw[j2,show sG (Sh.share,gD z).1 (Sh.share,gD z).2=true from Xc z1 z9]
   simp
  ·rw[show m9 (Sh.share,gD z).1 (Sh.share,gD z).2=.int z from tM (s:=.share) ⟨by omega,by omega⟩ (by intro z;cases z) (by intro z;cases z)]
def Ab:Rl->List Sh
 | .rank _=>[.tL]
 | .many _=>[.count]
 | .gather _ _=>[.count,.number]
 |_=>[]
theorem QX{r:Rl}{n:Nat}(h:Aa r n)(ht:∀s,r≠.turns s):z8 (Ab r) ((zX r).map iH)=true/\vX (Ab r) ((zX r).map iH)=zX r:=by
 cases r with
 |meet=>exact⟨rfl,rfl⟩
 |eldest=>exact⟨rfl,rfl⟩
 |turns s=>exact absurd rfl (ht s)
 |many m=>
  obtain⟨h1,h2⟩:=h
  constructor
  ·show(true&&(qD (gD m)&&true))=true
   rw[uU h2 h1];rfl
  ·show [m9 .count (gD m)]=[jy m]
   rw[tM h2 (by intro z;cases z) (by intro z;cases z)]
 |gather m a=>
  obtain⟨h1,h2,h3⟩:=h
  constructor
  ·show(true&&(qD (gD m)&&(isNumber (gD a)&&true)))=true
   rw[uU h2 h1,JT h3.1 h3.2];rfl
  ·show [m9 .count (gD m),m9 .number (gD a)]=[jy m,.int a]
   rw[tM h2 (by intro z;cases z) (by intro z;cases z),tM h3 (by intro z;cases z) (by intro z;cases z)]
 |rank b=>
  cases b with
  |none=>exact⟨by decide +kernel,rfl⟩
  |some b=>
   constructor
   ·show(true&&((decide (gD b="-")||isNumber (gD b))&&true))=true
    rw[JT h.1 h.2];simp
   ·show [m9 .tL (gD b)]=[jy b]
    rw[tM h (by intro z;cases z) (by intro z;cases z)]
theorem Aa.ok{r:Rl}{n:Nat}(hn:n<=60)(h:Aa r n):JV r:=by
 cases r with
 |meet=>trivial
 |eldest=>trivial
 |gather m a=>exact h.2
 |many m=>exact h.2
 |rank b=>cases b with|none=>trivial|some b=>exact h
 |turns s=>exact⟨by have:=h.1;omega,λz hz=>by have:=h.2 z hz;exact⟨by omega,by omega⟩⟩
abbrev yH:List (Str×List Str):=[("kind",[("name":Str),"count or -"]),("gate",[("name":Str)]),("line",[("name":Str),"count"]),("time",[("name":Str),"name","count"]),("open",[("name":Str),"number","number"]),("pace",[("name":Str),"name","count","count"])]
abbrev DQ:List (Str×List Str):=[("eldest",[]),("rank",[("number or -":Str)]),("many",[("count":Str)]),("gather",[("count":Str),"number"]),("meet",[])]
structure Np(mg:Str->Option aF)(pr:Im)(K:ao):Prop extends Na mg where
 zip:mg "zip"=none
 set:mg "set"=none
 any:mg "any"=none
 mp:∃t,mg "MOST_PLACES"=some (.int 6 t)
 fo:∃g,mg "FORMS"=some (.ref g)/\GD pr K g yH
 ru:∃g,mg "RULES"=some (.ref g)/\GD pr K g DQ
theorem QZ{α:Type}(x:α):∀n,(bN n [x]).flatten=bN n x
 |0=>rfl
 |n+1=>by rw[g8,jO,QZ x n];rfl
theorem J0(x:aA)(l:List aA):L2.cutD (x::l) (some 1) none=l:=(ud (x::l) 1).trans rfl
section
variable{P:bL}{w:dB}{K:ao}{mg:Str->Option aF}{base:dW}{f:aN}{k:Nat}
abbrev zfK:List Str:=["words","many","shares","values"]
theorem ZJ:eX zfK ["words","many"] (cP (top 34)):=⟨rfl,rfl,rfl,by decide +kernel,rfl,by decide +kernel,by decide +kernel⟩
def zfL(ds:List aA)(d:aA):Prop:=∃(r:Rl)(n:Nat),ds=[iZ (fH r),.int n]/\1<=n/\n<=6/\Aa r n/\d=W3 r
theorem zfM{fd:cU}(F:rP K "rule_of" "rule_of" (top 34) f fd)(n:Np mg w.params K)(C:cG P w K mg base 5 "values_of" Nvs (mX K Rvs)):i_ P w K mg base qz 6 f fd ["words","many"] (mX K zfL):=
 qg F ZJ (λ_ _ h=>by obtain⟨_,_,rfl,_⟩:=h;rfl) λ_ _ h=>by
  obtain⟨r,m,rfl,m1,m6,hg,rfl⟩:=h;intro cdv A outer s H E hr;have nd:zfK.Nodup:=ZJ.nd;have okr:=hg.ok (by omega)
  by_cases ht:∃sh,r=.turns sh
  ·obtain⟨sh,rfl⟩:=ht
   obtain⟨hl,hz⟩:=hg;obtain⟨v1,v2⟩:=DP sh hz;have ev:oX (bN m .share) (sh.map gD)=.tuple (sh.map .int):=by unfold oX;rw[<-hl,v1,v2];rfl
   refine fJ (gj (VT.to (c7 hr bC bC (lD (aj 0 rfl) aH (cu (j:=0) rfl)) aU) (by rw[cR];exact decide_eq_true rfl)) (aO (dU 2 (d:=.tuple (sh.map .int)) (cF C hr (au (VE.to (zaY (jj (au aU aX)) (aj 1 rfl) (by omega) (by omega) (by show 1<=100;decide) (by simp)) (k:=QT (bN m .share)) (by rw[QZ];unfold QT;rw[List.map_replicate,jm];rfl)) (au (VE.to (VO.ve (n_ (aj 0 rfl) (.yes aH) .no)) (k:=iZ (sh.map gD)) (by show Hq (L2.cutD (_::_) _ _)=_;rw[J0];rfl)) aX)) ⟨bN m .share,sh.map gD,rfl,by rw[gF];omega,by rw[aq];omega,λx hx=>?_,ev.symm⟩) nd) (bH (dG (N7 (k:=false) (VT.to (lK sO xq (aj 2 rfl) lJ (jQ _)) rfl) (λz=>by cases z) (λ_=>VE.to (jj (au aU (au (aj 2 rfl) aX))) rfl)))))) rfl
   obtain⟨z,hz',rfl⟩:=aR.mp hx;have:=hz z hz';exact wG (by omega) (by omega)
  ·have hnt:∀sh,r≠.turns sh:=λsh z=>ht ⟨sh,z⟩
   obtain⟨v1,v2⟩:=QX hg hnt;have hws:fH r=wJ r::(zX r).map iH:=by
    cases r with
    |turns sh=>exact absurd rfl (hnt sh)
    |_=>rfl
   have hw:wJ r≠"turns":=by
    cases r with
    |turns sh=>exact absurd rfl (hnt sh)
    |_=>dsimp only[wJ];decide +kernel
   have oR:rY (wJ r):=by cases r<;>dsimp only[wJ,rY]<;>decide +kernel
   have hk:pW DQ (wJ r)=some ((Ab r).map Sh.tx):=by
    cases r with
    |turns sh=>exact absurd rfl (hnt sh)
    |meet=>decide +kernel
    |eldest=>decide +kernel
    |rank b=>show pW DQ "rank"=some ([Sh.tL].map Sh.tx);decide +kernel
    |many m=>show pW DQ "many"=some ([Sh.count].map Sh.tx);decide +kernel
    |gather m a=>show pW DQ "gather"=some ([Sh.count,Sh.number].map Sh.tx);decide +kernel
   have hme:decide (wJ r="meet")=true->¬(m:Int)<2:=by
    cases r with
    |meet=>intro _;have:2<=m:=hg;omega
    |turns sh=>exact absurd rfl (hnt sh)
    |eldest=>intro z;exact absurd z (by decide +kernel)
    |rank b=>intro z;exact absurd z (show ¬decide (("rank":Str)="meet")=true by decide +kernel)
    |many m=>intro z;exact absurd z (show ¬decide (("many":Str)="meet")=true by decide +kernel)
    |gather m a=>intro z;exact absurd z (show ¬decide (("gather":Str)="meet")=true by decide +kernel)
   have hal:(zX r).length<=2:=by cases r<;>simp[zX]
   have hok:=JW hnt okr;have hsl:(Ab r).length<=2:=by cases r<;>simp[Ab]
   have ev:oX (Ab r) ((zX r).map iH)=.tuple (zX r):=by unfold oX;rw[v1,v2];rfl
   rw[hws];unfold W3
   generalize hA:zX r=ra at *
   generalize hW:wJ r=yW at *
   obtain⟨g1,q1,q2⟩:=n.ru;have a0:yN ((yW::ra.map iH).map aW) 0=some (.str yW):=cu (j:=0) rfl;refine aO (cW (VT.to (c7 hr (bZ oR) bC (lD (aj 0 rfl) aH a0) aU) (by rw[cR];exact decide_eq_false hw)) b_) ?_
   refine aO (cW (VT.to (oW (k1:=false) (k2:=decide (yW="meet")&&decide ((m:Int)<2)) (VT.to (Ma q1 q2 (lD (aj 0 rfl) aH a0)) (by rw[hk];rfl)) (λ_=>qd (VT.to (c7 hr (bZ oR) bC (lD (aj 0 rfl) aH a0) aU) (by rw[cR])) (λ_=>yO (aj 1 rfl) aH))) ?_) b_) ?_
   ·cases hd:decide (yW="meet") with
    |false=>rfl
    |true=>rw[decide_eq_false (hme hd)];rfl
   refine aO (dU 3 (d:=.tuple ra) (cF C hr (au (VE.to (Vq q1 q2 (lD (aj 0 rfl) aH a0) hk) (k:=QT (Ab r)) (by unfold QT;rw[bU];rfl)) (au (VE.to (VO.ve (n_ (aj 0 rfl) (.yes aH) .no)) (k:=iZ (ra.map iH)) (by show Hq (L2.cutD (_::_) _ _)=_;rw[J0];rfl)) aX)) ⟨Ab r,ra.map iH,rfl,by omega,by rw[aq];omega,λx hx=>?_,ev.symm⟩) nd) ?_
   ·obtain⟨z,hz,rfl⟩:=aR.mp hx
    have:=hok z hz;cases z with
    |none=>exact⟨by decide,by show eN (.str ("-":Str))=true;decide +kernel⟩
    |int i=>exact wG this.1 this.2
    |str x=>
     show Gw (if x="" then "-" else x)
     split
     ·exact⟨by decide,by show eN (.str ("-":Str))=true;decide +kernel⟩
     ·rename_i hx
      exact(this.resolve_left hx).ok
    |_=>exact this.elim
   ·exact bH (dG (N7 (k:=false) (VT.to (lK sO xq (aj 3 rfl) lJ (jQ _)) rfl) (λz=>by cases z) (λ_=>VE.to (Ig (jj (au (lD (aj 0 rfl) aH a0) aX)) (aj 3 rfl) (by simp) (small (by simp only[bJ,dM];omega))) rfl)))
theorem zfN:eX ["names"] ["names"] (cP (top 35)):=⟨rfl,rfl,rfl,by decide +kernel,rfl,by decide +kernel,by decide +kernel⟩
def ZK(l:List Str):Prop:=1<=l.length/\l.length<=6/\l.Nodup/\∀x∈l,gG x
def Rap(ds:List aA)(d:aA):Prop:=∃l:List Str,ds=[.tuple (l.map .str)]/\ZK l/\d=.bool true
def zb5:aA->Option aA
 | .str x=>some (.bool (isName x))
 |_=>none
theorem Xd(l:List Str):(l.map aW).filterMap zb5=(l.map isName).map .bool:=by
 rw[dZ,bU];exact filterMap_some λk _=>rfl
theorem ziD{fd:cU}(F:rP K "are_places" "are_places" (top 35) f fd)(n:Np mg w.params K)(C:cG P w K mg base 2 "is_name" ["word"] (mX K Rna)):i_ P w K mg base qz 3 f fd ["names"] (mX K Rap):=
 qg F zfN (λ_ _ h=>by obtain⟨_,rfl,_⟩:=h;rfl) λ_ _ h=>by
  obtain⟨l,rfl,⟨l1,l6,lnd,lnm⟩,rfl⟩:=h;intro cdv A outer s H E hr;obtain⟨t,m6⟩:=n.mp;have nc:(["name"]:List Str).Nodup:=by decide +kernel
  have hdd:dd [] l=l:=Qk (by simpa using lnd)
  have hall:wW (l.map isName)=true:=by
   unfold wW;rw[Gh,iC];intro x hx;exact(lnm x hx).is
  refine bH (dG (VE.to (wD (k1:=true) (VE.to (Qz Gj Gj (Ht 1 l.length) (Ht l.length 6) aH (VE.to (vQ (aj 0 rfl) n.len) (by rw[aq])) (λ_=>Vy m6)) (by rw[decide_eq_true (by omega),decide_eq_true (by omega)];rfl)) (λ_=>wD (k1:=true) (VE.to (oh (wX rfl) L_ (au (VO.ve (VO.to (jA (own:=["name"]) (cap:=[]) (N:=["name"]) (cl:=[]) (tgt:=.one 0) (F:=zb5) (ds:=l.map aW) rfl ⟨rfl,by decide +kernel,by decide +kernel,rfl,rfl,by simp⟩ (Jo (aj 0 rfl)) (λf s3 H3=>cJ (i:=0) nc rfl (bG rfl)) rfl
   (small (by rw[aq];omega)) (λd hd=>?_)) (Xd _))) aX) n.all rfl) (by rw[hall])) (λ_=>qI (Dq hr (dY 20 _) (dY 20 _) (Qq (aj 0 rfl) (by omega) rfl n.len n.set) (vQ (aj 0 rfl) n.len))))) ?_))
  ·obtain⟨z,hz,rfl⟩:=aR.mp hd
   refine⟨_,rfl,λf s3 H3=>jz,λr hr' f s3 H3=>?_⟩
   cases hr';exact cF C hr (au (aj 0 rfl) aX) ⟨z,rfl,(lnm z hz).ok.1,rfl⟩
  ·rw[pR,hdd,aq,decide_eq_true rfl];rfl
end
inductive Ent where
 |kind (n:Str) (k:Option Int)
 |gate (n:Str)
 |line (n:Str) (r:Int)
 |desk (d:Dk)
 |time (d k:Str) (w:Int)
 |hour (d:Str) (a b:Int)
def Ent.form:Ent->Str
 | .kind _ _=>"kind"
 | .gate _=>"gate"
 | .line _ _=>"line"
 | .desk _=>"desk"
 | .time _ _ _=>"time"
 | .hour _ _ _=>"open"
def Ent.rest:Ent->List aA
 | .kind n k=>[.str n,vJ k]
 | .gate n=>[.str n]
 | .line n r=>[.str n,.int r]
 | .desk d=>[.str d.name,.str d.to,W3 d.rule,.tuple (d.places.map .str)]
 | .time d k w=>[.str d,.str k,.int w]
 | .hour d a b=>[.str d,.int a,.int b]
def T4(e:Ent):aA:=.tuple (.str e.form::e.rest)
def oY(d:Dk):List Str:=[("desk":Str),d.name,"to",iH (.str d.to),"by"]++fH d.rule ++ [("from":Str)]++d.places
def T5:Ent->List Str
 | .kind n k=>[("kind":Str),n,iH (vJ k)]
 | .gate n=>[("gate":Str),n]
 | .line n r=>[("line":Str),n,gD r]
 | .desk d=>oY d
 | .time d k w=>[("time":Str),d,k,gD w]
 | .hour d a b=>[("open":Str),d,gD a,gD b]
def T6(d:Dk):Prop:=gG d.name/\(d.to=""\/gG d.to)/\Aa d.rule d.places.length/\ZK d.places
def Bv:Ent->Prop
 | .kind n k=>gG n/\∀i,k=some i->1<=i/\gB i
 | .gate n=>gG n
 | .line n r=>gG n/\1<=r/\gB r
 | .desk d=>T6 d
 | .time d k w=>gG d/\gG k/\1<=w/\gB w
 | .hour d a b=>gG d/\gB a/\gB b/\a<b
theorem Ov{x:Str}(h:gG x):x≠"-":=λz=>by
 have hd:45∈x.cps.toList:=by rw[z];decide +kernel
 have:=h.2.2 _ hd;omega
theorem Xe{x:Str}(h:gG x):iH (.str x)=x:=by
 show(if x="" then("-":Str)else x)=x
 rw[if_neg (mO h).1]
theorem DR{d:aA}(h:TF d):Gw (iH d):=by
 have h0:Gw "-":=⟨by decide,by show eN (.str ("-":Str))=true;decide +kernel⟩
 cases d with
 |none=>exact h0
 |int i=>exact wG h.1 h.2
 |str x=>
  show Gw (if x="" then "-" else x)
  split
  ·exact h0
  ·rename_i hx
   exact(h.resolve_left hx).ok
 |_=>exact h.elim
theorem Q0{r:Rl}(h:JV r):∀x∈fH r,Gw x:=by
 intro x hx;by_cases ht:∃sh,r=.turns sh
 ·obtain⟨sh,rfl⟩:=ht
  rcases aQ.mp hx with rfl|hx
  ·exact⟨by decide,by show eN (.str ("turns":Str))=true;decide +kernel⟩
  ·obtain⟨z,hz,rfl⟩:=aR.mp hx
   exact wG (h.2 z hz).1 (h.2 z hz).2
 ·have hnt:∀sh,r≠.turns sh:=λsh z=>ht ⟨sh,z⟩
  have hws:fH r=wJ r::(zX r).map iH:=by
   cases r with
   |turns sh=>exact absurd rfl (hnt sh)
   |_=>rfl
  rw[hws]at hx;rcases aQ.mp hx with rfl|hx
  ·cases r<;>(refine⟨?_,?_⟩<;>dsimp only[wJ,rY]<;>decide +kernel)
  ·obtain⟨z,hz,rfl⟩:=aR.mp hx
   exact DR (JW hnt h z hz)
theorem ZL{r:Rl}{n:Nat}(hn:n<=6)(h:Aa r n):1<=(fH r).length/\(fH r).length<=7:=by
 cases r with
 |turns s=>have:=h.1;simp[fH];omega
 |_=>simp[fH,zX]
theorem Ow{r:Rl}(h:JV r):∀x∈(fH r).drop 1,x≠"from":=by
 have hd:∀d,TF d->(∀x,d≠.str x)->iH d≠"from":=by
  intro d hd hs;cases d with
  |none=>decide +kernel
  |int i=>
   intro z;have:102∈(gD i).cps.toList:=by
    have z:gD i="from":=z;rw[z];decide +kernel
   have:=sZ hd.1 this;omega
  |str x=>exact absurd rfl (hs x)
  |_=>exact hd.elim
 intro x hx;cases r with
 |turns s=>
  obtain⟨z,hz,rfl⟩:=aR.mp (show x∈s.map gD from hx)
  exact hd (.int z) (h.2 z hz) (by intro x z;cases z)
 |meet=>cases hx
 |eldest=>cases hx
 |gather m a=>
  simp only[fH,zX,aZ,lV,CK,rZ,aQ,cL,or_false]at hx;rcases hx with rfl|rfl
  ·exact hd (.int m) h.1 (by intro x z;cases z)
  ·exact hd (.int a) h.2 (by intro x z;cases z)
 |many m=>
  simp only[fH,zX,aZ,lV,CK,rZ,aQ,cL,or_false]at hx;rw[hx];exact hd (.int m) h (by intro x z;cases z)
 |rank b=>
  simp only[fH,zX,aZ,lV,CK,rZ,aQ,cL,or_false]at hx;rw[hx];cases b with
  |none=>exact hd .none trivial (by intro x z;cases z)
  |some b=>exact hd (.int b) h (by intro x z;cases z)
section
variable{P:bL}{w:dB}{K:ao}{mg:Str->Option aF}{base:dW}{f:aN}{k:Nat}
abbrev Nde:List Str:=["words","end","head","places","rule"]
theorem zb6:eX Nde ["words"] (cP (top 33)):=⟨rfl,rfl,rfl,by decide +kernel,rfl,by decide +kernel,by decide +kernel⟩
def Rde(ds:List aA)(d:aA):Prop:=∃q:Dk,ds=[iZ (oY q)]/\T6 q/\d=T4 (.desk q)
theorem ziE{α:Type}(l:List α)(a b:Nat)(ha:a<=b)(hb:b<=l.length):L2.cutD l (some (a:Int)) (some (b:Int))=(l.drop a).take (b-a):=by
 unfold L2.cutD;rw[HT.uK,HT.uK,uY hb,uY (show a<=l.length by omega)]
theorem Ox{l:List Str}(h:∀x∈l,Gw x):Lay 20 (iZ l):=Ib (n:=19) λd hd=>by
 obtain⟨x,hx,rfl⟩:=aR.mp hd;exact bZ (h x hx).2
theorem jx(x:Str)(l:List Str):Dp (.str x) (.list (l.map aW))=decide (x∈l):=by
 show((l.map aW).any λy=>fD y (.str x))=_
 rw[List.any_map]
 induction l with
 |nil=>rfl
 |cons y l ih=>
  rw[CZ,ih]
  show(fD (.str y) (.str x)||decide (x∈l))=_
  rw[cR,lH];simp only[Ko,decide_eq_true_eq,aQ]
  constructor
  ·rintro(h|h)
   ·exact .inl h.symm
   ·exact .inr h
  ·rintro(h|h)
   ·exact .inl h.symm
   ·exact .inr h
theorem ziF{fd:cU}(F:rP K "desk_entry" "desk_entry" (top 33) f fd)(n:Np mg w.params K)(C1:cG P w K mg base 5 "values_of" Nvs (mX K Rvs))(C2:cG P w K mg base 6 "rule_of" ["words","many"] (mX K zfL))(C3:cG P w K mg base 3 "are_places" ["names"] (mX K Rap)):i_ P w K mg base qz 7 f fd ["words"] (mX K Rde):=
 qg F zb6 (λ_ _ h=>by obtain⟨_,rfl,_⟩:=h;rfl) λ_ _ h=>by
  obtain⟨q,rfl,⟨hn,hto,hrl,hps⟩,rfl⟩:=h;intro cdv A outer s H E hr;have nd:Nde.Nodup:=zb6.nd;have ziG:=hps;obtain⟨p1,p6,pnd,pnm⟩:=ziG;have okr:=hrl.ok (by omega)
  obtain⟨r1,r7⟩:=ZL p6 hrl;have rok:=Q0 okr;have rnf:=Ow okr;have zfP:Gw (iH (.str q.to)):=DR (d:=.str q.to) hto;obtain⟨rw0,rest,hrw⟩:∃a l,fH q.rule=a::l:=by
   cases e:fH q.rule with
   |nil=>rw[e]at r1;simp at r1
   |cons a l=>exact⟨a,l,rfl⟩
  have zfQ:Gw "from":=⟨by decide,by show eN (.str ("from":Str))=true;decide +kernel⟩
  have hW:oY q=("desk":Str)::q.name::"to"::iH (.str q.to)::"by"::rw0::(rest++("from":Str)::q.places):=by
   unfold oY;rw[hrw];simp
  have ziJ:∀x∈rest,Gw x:=λx hx=>rok x (by rw[hrw];exact bD _ hx)
  have ziK:∀x∈rest,x≠"from":=λx hx=>rnf x (by rw[hrw];exact hx)
  have zmE:rest.length<=6:=by rw[hrw]at r7;simp at r7;omega
  have lit:∀x:Str,eN (.str x)=true->x.length<=100000->Gw x:=λx h1 h2=>⟨h2,h1⟩
  have hok:∀x∈oY q,Gw x:=by
   intro x hx;rw[hW]at hx;simp only[aQ,dJ]at hx;rcases hx with rfl|rfl|rfl|rfl|rfl|rfl|hx|rfl|hx
   ·exact lit _ (by decide +kernel) (by decide)
   ·exact hn.ok
   ·exact lit _ (by decide +kernel) (by decide)
   ·exact zfP
   ·exact lit _ (by decide +kernel) (by decide)
   ·exact rok _ (by rw[hrw];exact aY)
   ·exact ziJ x hx
   ·exact zfQ
   ·exact(pnm x hx).ok
  have hlay:=Ox hok;have hlen:(oY q).length=7+rest.length+q.places.length:=by rw[hW];simp;omega
  have hd6:(oY q).drop 6=rest++("from":Str)::q.places:=by rw[hW];rfl
  have zfS:L2.cutD ((oY q).map aW) (some 6) none=(rest++("from":Str)::q.places).map aW:=by rw[<-hd6,xR];exact ud _ 6
  have zfT:Lay 20 (.list ((rest++("from":Str)::q.places).map aW)):=Ox λx hx=>by
   refine hok x ?_
   rw[<-hd6]at hx;exact jD hx
  have zb7:Lay 20 (.str "from"):=bC;have hget:∀(j:Nat)(x:Str),(oY q)[j]?=some x->yN ((oY q).map aW) (j:Int)=some (.str x):=λj x h=>cu (by rw[bh,h];rfl)
  have g1:(oY q)[1]?=some q.name:=by rw[hW];rfl
  have g2:(oY q)[2]?=some ("to":Str):=by rw[hW];rfl
  have g3:(oY q)[3]?=some (iH (.str q.to)):=by rw[hW];rfl
  have g4:(oY q)[4]?=some ("by":Str):=by rw[hW];rfl
  have hend:(oY q)[6+rest.length]?=some ("from":Str):=by
   have:(oY q)[6+rest.length]?=((oY q).drop 6)[rest.length]?:=by rw[List.getElem?_drop]
   rw[this,hd6,eU (aK _),Nat.sub_self];rfl
  have hno:∀j (h:j<(oY q).length),6<=j->j<6+rest.length->(oY q)[j]≠"from":=by
   intro j h j6 jr;have:(oY q)[j]?=((oY q).drop 6)[j-6]?:=by rw[List.getElem?_drop];congr 1;omega
   rw[hd6,fu (by omega),aG h,aG (by omega)]at this
   rw[fM this];exact ziK _ (fY _)
  have zbm:L2.cutD ((oY q).map aW) (some ((6+rest.length:Nat)+1:Int)) none=q.places.map aW:=by
   rw[show((6+rest.length:Nat)+1:Int)=((6+rest.length+1:Nat):Int)from by omega,ud,<-xR]
   congr 1
   rw[show 6+rest.length+1=6+(rest.length+1)from by omega,<-List.drop_drop,hd6,List.drop_append,zc (by omega),show rest.length+1-rest.length=1 from by omega]
   rfl
  have zfU:L2.cutD ((oY q).map aW) (some 5) (some ((6+rest.length:Nat):Int))=(fH q.rule).map aW:=by
   rw[show(5:Int)=((5:Nat):Int)from rfl,ziE _ 5 (6+rest.length) (by omega) (by rw[aq];omega),<-xR,<-Px]
   congr 1
   rw[hW,hrw]
   show((rw0::(rest++("from":Str)::q.places))).take (6+rest.length-5)=rw0::rest
   rw[show 6+rest.length-5=rest.length+1 from by omega,List.take_succ_cons,List.take_left' rfl]
  refine aO (cW (VT.to (Yt (k1:=false) (k2:=false) (k3:=false) (VT.to (nZ hr rfl zb7 zfT aU (VE.to (VO.ve (n_ (aj 0 rfl) (.yes aH) .no)) (by rw[zfS]))) (by rw[jx,decide_eq_true (by simp)];rfl)) (λ_=>VT.to (qu hr bC bC (lD (aj 0 rfl) aH (hget 2 _ g2)) aU) (by rw[cR,decide_eq_true rfl];rfl)) (λ_ _=>VT.to (qu hr bC bC (lD (aj 0 rfl) aH (hget 4 _ g4)) aU) (by rw[cR,decide_eq_true rfl];rfl))) rfl) b_) ?_
  refine aO (dU 1 (d:=.int ((6+rest.length:Nat):Int)) (WL (i:=6) (j:=6+rest.length) hr (aj 0 rfl) aU aH hlay zb7 (by omega) ⟨by rw[aq];omega,?_⟩ (λj h j6 jr=>?_)) nd) ?_
  ·have:(oY q)[6+rest.length]'(by omega)="from":=by
    rw[aG (by omega)]at hend
    exact fM hend
   rw[yM,cR,this];exact decide_eq_true rfl
  ·rw[aq]at h
   rw[yM,cR];exact decide_eq_false (hno j h j6 jr)
  have hfit:oX [.name,.ug] [q.name,iH (.str q.to)]=.tuple [.str q.name,.str q.to]:=by
   have f2:sG .ug (iH (.str q.to))=true/\m9 .ug (iH (.str q.to))=.str q.to:=by
    rcases hto with h|h
    ·rw[h];exact⟨by decide +kernel,rfl⟩
    ·rw[Xe h]
     refine⟨?_,?_⟩
     ·show(decide (q.to="-")||isName q.to)=true
      rw[h.is,Gf]
     ·show aW (if q.to="-" then "" else q.to)=_
      rw[if_neg (Ov h)]
   unfold oX z8 vX
   show(if(true&&(isName q.name&&(sG .ug (iH (.str q.to))&&true)))=true then jZ [.str q.name,m9 .ug (iH (.str q.to))]else .none)=_
   rw[hn.is,f2.1,f2.2];rfl
  refine aO (dU 2 (d:=.tuple [.str q.name,.str q.to]) (cF C1 (hr.mono (by omega)) (au (VE.to (jj (au aU (au aU aX))) (k:=QT [.name,.ug]) rfl) (au (VE.to (VO.ve (jf (au (lD (aj 0 rfl) aH (hget 1 _ g1)) (au (lD (aj 0 rfl) aH (hget 3 _ g3)) aX)))) (k:=iZ [q.name,iH (.str q.to)]) rfl) aX)) ⟨_,_,rfl,by show 2<=1000;decide,by show 2<=100002;decide,λx hx=>?_,hfit.symm⟩) nd) ?_
  ·simp only[aQ,cL,or_false]at hx
   rcases hx with rfl|rfl
   ·exact hn.ok
   ·exact zfP
  refine aO (dU 3 (d:=.tuple (q.places.map .str)) (sU tH H_ (au (VE.to (VO.ve (n_ (aj 0 rfl) (.yes (iQ (aj 1 rfl) aH)) .no)) (by rw[zbm])) aX) n.tup rfl) nd) ?_
  refine aO (dU 4 (d:=W3 q.rule) (cF C2 hr (au (VE.to (VO.ve (n_ (aj 0 rfl) (.yes aH) (.yes (aj 1 rfl)))) (k:=iZ (fH q.rule)) (by rw[zfU];rfl)) (au (VE.to (vQ (aj 3 rfl) n.len) (by rw[aq])) aX)) ⟨q.rule,q.places.length,rfl,p1,p6,hrl,rfl⟩) nd) ?_
  refine aO (cW (VT.to (Yt (k1:=false) (k2:=false) (k3:=false) (VT.to (lK sO xq (aj 2 rfl) lJ (jQ _)) rfl) (λ_=>VT.to (lK sO xq (aj 4 rfl) lJ (jQ _)) rfl) (λ_ _=>VT.to (u6 (qe (cF C3 (hr.mono (by omega)) (au (aj 3 rfl) aX) ⟨q.places,rfl,hps,rfl⟩) rfl)) rfl)) rfl) b_) ?_
  exact bH (dG (VE.to (jj (au aU (au (cY (aj 2 rfl) aH (cu (j:=0) rfl)) (au (cY (aj 2 rfl) aH (cu (j:=1) rfl)) (au (aj 4 rfl) (au (aj 3 rfl) aX)))))) rfl))
abbrev Neo:List Str:=["words","form","values"]
theorem zb8:eX Neo ["words"] (cP (top 32)):=⟨rfl,rfl,rfl,by decide +kernel,rfl,by decide +kernel,by decide +kernel⟩
def Reo(ds:List aA)(d:aA):Prop:=∃e:Ent,ds=[iZ (T5 e)]/\Bv e/\d=T4 e
def Mx:Ent->List Sh
 | .kind _ _=>[.name,.tD]
 | .gate _=>[.name]
 | .line _ _=>[.name,.count]
 | .desk _=>[]
 | .time _ _ _=>[.name,.name,.count]
 | .hour _ _ _=>[.name,.number,.number]
theorem T7{e:Ent}(h:Bv e)(hd:∀q,e≠.desk q):∃ws,T5 e=e.form::ws/\ws.length<=3/\(∀x∈ws,Gw x)/\oX (Mx e) ws=.tuple e.rest/\pW yH e.form=some ((Mx e).map Sh.tx)/\e.form≠"desk"/\rY e.form:=by
 cases e with
 |desk q=>exact absurd rfl (hd q)
 |kind n k=>
  obtain⟨hn,hk⟩:=h;have ok2:Gw (iH (vJ k))/\sG .tD (iH (vJ k))=true/\m9 .tD (iH (vJ k))=vJ k:=by
   cases k with
   |none=>exact⟨DR (d:=.none) trivial,by decide +kernel,rfl⟩
   |some i=>
    obtain⟨h1,h2⟩:=hk i rfl;refine⟨wG h2.1 h2.2,?_,tM h2 (by intro z;cases z) (by intro z;cases z)⟩
    show(decide (gD i="-")||qD (gD i))=true
    rw[uU h2 h1,Gf]
  refine⟨[n,iH (vJ k)],rfl,by show 2<=3;decide,λx hx=>?_,?_,(show pW yH "kind"=some ([Sh.name,Sh.tD].map Sh.tx) by decide +kernel),(show("kind":Str)≠"desk" by decide +kernel),(show eN (.str ("kind":Str))=true by decide +kernel)⟩
  ·simp only[aQ,cL,or_false]at hx
   rcases hx with rfl|rfl
   ·exact hn.ok
   ·exact ok2.1
  ·show(if(true&&(isName n&&(sG .tD (iH (vJ k))&&true)))=true then jZ [.str n,m9 .tD (iH (vJ k))]else .none)=_
   rw[hn.is,ok2.2.1,ok2.2.2];rfl
 |gate n=>
  refine⟨[n],rfl,by show 1<=3;decide,λx hx=>?_,?_,(show pW yH "gate"=some ([Sh.name].map Sh.tx) by decide +kernel),(show("gate":Str)≠"desk" by decide +kernel),(show eN (.str ("gate":Str))=true by decide +kernel)⟩
  ·rw[bW.mp hx];exact(show gG n from h).ok
  ·show(if(true&&(isName n&&true))=true then jZ [.str n]else .none)=_
   rw[(show gG n from h).is];rfl
 |line n r=>
  obtain⟨hn,h1,h2⟩:=h;refine⟨[n,gD r],rfl,by show 2<=3;decide,λx hx=>?_,?_,(show pW yH "line"=some ([Sh.name,Sh.count].map Sh.tx) by decide +kernel),(show("line":Str)≠"desk" by decide +kernel),(show eN (.str ("line":Str))=true by decide +kernel)⟩
  ·simp only[aQ,cL,or_false]at hx
   rcases hx with rfl|rfl
   ·exact hn.ok
   ·exact wG h2.1 h2.2
  ·show(if(true&&(isName n&&(qD (gD r)&&true)))=true then jZ [.str n,m9 .count (gD r)]else .none)=_
   rw[hn.is,uU h2 h1,tM h2 (by intro z;cases z) (by intro z;cases z)];rfl
 |time d k w=>
  obtain⟨hn,hk,h1,h2⟩:=h;refine⟨[d,k,gD w],rfl,by show 3<=3;decide,λx hx=>?_,?_,(show pW yH "time"=some ([Sh.name,Sh.name,Sh.count].map Sh.tx) by decide +kernel),(show("time":Str)≠"desk" by decide +kernel),(show eN (.str ("time":Str))=true by decide +kernel)⟩
  ·simp only[aQ,cL,or_false]at hx
   rcases hx with rfl|rfl|rfl
   ·exact hn.ok
   ·exact hk.ok
   ·exact wG h2.1 h2.2
  ·show(if(true&&(isName d&&(isName k&&(qD (gD w)&&true))))=true then jZ [.str d,.str k,m9 .count (gD w)]else .none)=_
   rw[hn.is,hk.is,uU h2 h1,tM h2 (by intro z;cases z) (by intro z;cases z)];rfl
 |hour d a b=>
  obtain⟨hn,h1,h2,_⟩:=h;refine⟨[d,gD a,gD b],rfl,by show 3<=3;decide,λx hx=>?_,?_,(show pW yH "open"=some ([Sh.name,Sh.number,Sh.number].map Sh.tx) by decide +kernel),(show("open":Str)≠"desk" by decide +kernel),(show eN (.str ("open":Str))=true by decide +kernel)⟩
  ·simp only[aQ,cL,or_false]at hx
   rcases hx with rfl|rfl|rfl
   ·exact hn.ok
   ·exact wG h1.1 h1.2
   ·exact wG h2.1 h2.2
  ·show(if(true&&(isName d&&(isNumber (gD a)&&(isNumber (gD b)&&true))))=true then jZ [.str d,m9 .number (gD a),m9 .number (gD b)]else .none)=_
   rw[hn.is,JT h1.1 h1.2,JT h2.1 h2.2,tM h1 (by intro z;cases z) (by intro z;cases z),tM h2 (by intro z;cases z) (by intro z;cases z)];rfl
theorem ziL{fd:cU}(F:rP K "entry_of" "entry_of" (top 32) f fd)(n:Np mg w.params K)(C1:cG P w K mg base 5 "values_of" Nvs (mX K Rvs))(C2:cG P w K mg base 7 "desk_entry" ["words"] (mX K Rde)):i_ P w K mg base qz 8 f fd ["words"] (mX K Reo):=
 qg F zb8 (λ_ _ h=>by obtain⟨_,rfl,_⟩:=h;rfl) λ_ _ h=>by
  obtain⟨e,rfl,ok,rfl⟩:=h;intro cdv A outer s H E hr;have nd:Neo.Nodup:=zb8.nd;by_cases hd:∃q,e=.desk q
  ·obtain⟨q,rfl⟩:=hd
   refine aO (dU 1 (d:=.str "desk") (lD (aj 0 rfl) aH (cu (j:=0) rfl)) nd) ?_
   exact fJ (gj (VT.to (c7 hr bC bC (aj 1 rfl) aU) (by rw[cR];exact decide_eq_true rfl)) (bH (dG (cF C2 hr (au (aj 0 rfl) aX) ⟨q,rfl,ok,rfl⟩)))) rfl
  ·have hnd:∀q,e≠.desk q:=λq z=>hd ⟨q,z⟩
   obtain⟨ws,w1,w2,w3,w4,w5,w6,w7⟩:=T7 ok hnd;obtain⟨g1,q1,q2⟩:=n.fo;rw[w1];have hsl:(Mx e).length<=3:=by cases e<;>simp[Mx]
   refine aO (dU 1 (d:=.str e.form) (lD (aj 0 rfl) aH (cu (j:=0) rfl)) nd) ?_
   refine aO (cW (VT.to (c7 hr (bZ w7) bC (aj 1 rfl) aU) (by rw[cR];exact decide_eq_false w6)) b_) ?_
   refine aO (cW (VT.to (Ma q1 q2 (aj 1 rfl)) (by rw[w5];rfl)) b_) ?_
   refine aO (dU 2 (d:=.tuple e.rest) (cF C1 (hr.mono (by omega)) (au (VE.to (Vq q1 q2 (aj 1 rfl) w5) (k:=QT (Mx e)) (by unfold QT;rw[bU];rfl)) (au (VE.to (VO.ve (n_ (aj 0 rfl) (.yes aH) .no)) (k:=iZ ws) (by show Hq (L2.cutD (_::_) _ _)=_;rw[J0];rfl)) aX)) ⟨Mx e,ws,rfl,by omega,by omega,w3,w4.symm⟩) nd) ?_
   have hrl:e.rest.length<=4:=by cases e<;>simp[Ent.rest]
   refine aO (cW ?_ b_) (bH (dG (VE.to (Ig (jj (au (aj 1 rfl) aX)) (aj 2 rfl) (by simp) (small (by simp only[bJ,dM];omega))) rfl)))
   cases e with
   |hour d a b=>
    exact VT.to (oW (k1:=false) (k2:=false) (VT.to (lK sO xq (aj 2 rfl) lJ (jQ _)) rfl) (λ_=>VT.to (qd (k1:=true) (k2:=false) (VT.to (c7 hr (bZ w7) bC (aj 1 rfl) aU) (by rw[cR];exact decide_eq_true rfl)) (λ_=>VT.to (zbM (cY (aj 2 rfl) aH (cu (j:=1) rfl)) (cY (aj 2 rfl) aH (cu (j:=2) rfl))) (decide_eq_false (by have:=ok.2.2.2;omega)))) rfl)) rfl
   |_=>
    exact VT.to (oW (k1:=false) (k2:=false) (VT.to (lK sO xq (aj 2 rfl) lJ (jQ _)) rfl) (λ_=>VT.to (qd (k1:=false) (k2:=false) (VT.to (c7 hr (bZ w7) bC (aj 1 rfl) aU) (by rw[cR];dsimp only[Ent.form];exact decide_eq_false (by decide +kernel))) (λz=>by cases z)) rfl)) rfl
end
def yX:List (Str×List (Int×Int))->Str->Int×Int->List (Str×List (Int×Int))
 | [],n,z=>[(n,[z])]
 |q::l,n,z=>if q.1=n then(q.1,q.2 ++ [z])::l else q::yX l n z
def jU(l:List (Str×Int×Int)):List (Str×List (Int×Int)):=l.foldl (λacc q=>yX acc q.1 q.2) []
def pairD(z:Int×Int):aA:=.tuple [.int z.1,.int z.2]
def vY(p:Pl):List (Str×aA):=p.kinds.map λq=>(q.1,vJ q.2)
def vZ(p:Pl):List (Str×aA):=p.lines.map λq=>(q.1,.int q.2)
def A_(p:Pl):List ((Str×Str)×aA):=p.times.map λq=>((q.1,q.2.1),.int q.2.2)
def Ii(p:Pl):List (Str×aA):=(jU p.hours).map λq=>(q.1,.list (q.2.map pairD))
def Ba(p:Pl):List (Str×aA):=[("kinds",Cd (vY p)),("gates",iZ p.gates),("lines",Cd (vZ p)),("desks",.list (p.desks.map jP)),("times",YK (A_ p)),("hours",Cd (Ii p)),("paces",Cd [])]
def pJ(p:Pl):aA:=zaO (Ba p)
theorem DW(p:Pl):qw (Ba p) "kinds"=some (Cd (vY p)):=j_ rfl
theorem J1(p:Pl):qw (Ba p) "gates"=some (iZ p.gates):=(fP (show ¬(("kinds":Str)="gates") by decide +kernel)).trans (j_ rfl)
theorem J2(p:Pl):qw (Ba p) "lines"=some (Cd (vZ p)):=(fP (show ¬(("kinds":Str)="lines") by decide +kernel)).trans ((fP (show ¬(("gates":Str)="lines") by decide +kernel)).trans (j_ rfl))
theorem Q5(p:Pl):qw (Ba p) "desks"=some (.list (p.desks.map jP)):=(fP (show ¬(("kinds":Str)="desks") by decide +kernel)).trans ((fP (show ¬(("gates":Str)="desks") by decide +kernel)).trans ((fP (show ¬(("lines":Str)="desks") by decide +kernel)).trans (j_ rfl)))
theorem ZM(p:Pl):qw (Ba p) "times"=some (YK (A_ p)):=(fP (show ¬(("kinds":Str)="times") by decide +kernel)).trans ((fP (show ¬(("gates":Str)="times") by decide +kernel)).trans ((fP (show ¬(("lines":Str)="times") by decide +kernel)).trans ((fP (show ¬(("desks":Str)="times") by decide +kernel)).trans (j_ rfl))))
theorem pK{κ:Type}[DecidableEq κ]:∀(kvs:List (κ×aA))(x:κ),(qw kvs x).isSome=decide (x∈kvs.map (·.1))
 | [],x=>by simp[qw]
 |q::l,x=>by
  by_cases h:q.1=x
  ·rw[j_ h,decide_eq_true (by simp[h])];rfl
  ·rw[fP h,pK l x,lH,decide_eq_true_iff,decide_eq_true_iff,aZ,aQ]
   exact⟨.inr,λz=>z.resolve_left λe=>h e.symm⟩
theorem DX(p:Pl):(vY p).map (·.1)=p.kinds.map (·.1):=by unfold vY;rw[bU];rfl
theorem uQ(p:Pl):(vZ p).map (·.1)=p.lines.map (·.1):=by unfold vZ;rw[bU];rfl
theorem Oz(p:Pl):(A_ p).map (·.1)=p.times.map λq=>(q.1,q.2.1):=by unfold A_;rw[bU];rfl
def xG(p:Pl)(x:Str):Prop:=x∈p.gates\/x∈p.lines.map (·.1)
instance (p : Pl) (x : Str) : Decidable (xG p x) := by unfold xG; infer_instance
def yI(p:Pl)(x:Str):Prop:=x∈p.desks.map (·.name)
instance (p : Pl) (x : Str) : Decidable (yI p x) := by unfold yI; infer_instance
def Q6(p:Pl)(x:Str):Prop:=∃q∈p.desks,x∈q.places
def J3(p:Pl):Ent->Prop
 | .kind n _=>n∉p.kinds.map (·.1)
 | .gate n=>¬xG p n
 | .line n _=>¬xG p n
 | .desk d=>¬yI p d.name/\(∀x∈d.places,¬Q6 p x)/\(∀x∈d.places,xG p x)/\(d.to=""\/∃r:Int,qw (vZ p) d.to=some (.int r)/\mY d.rule d.places.length<=r)
 | .time d k _=>(d,k)∉p.times.map (λq=>(q.1,q.2.1))/\yI p d/\k∈p.kinds.map (·.1)
 | .hour d _ _=>yI p d
section
variable{P:bL}{w:dB}{K:ao}{mg:Str->Option aF}{base:dW}{f:aN}{k:Nat}
abbrev Npn:List Str:=["plant","name"]
abbrev Npp:List Str:=["plant","place"]
theorem zfV:eX Npn Npn (cP (top 41)):=⟨rfl,rfl,rfl,by decide +kernel,rfl,by decide +kernel,by decide +kernel⟩
theorem zfW:eX Npn Npn (cP (top 42)):=⟨rfl,rfl,rfl,by decide +kernel,rfl,by decide +kernel,by decide +kernel⟩
theorem zfX:eX Npp Npp (cP (top 43)):=⟨rfl,rfl,rfl,by decide +kernel,rfl,by decide +kernel,by decide +kernel⟩
def Rip(ds:List aA)(d:aA):Prop:=∃(p:Pl)(x:Str),ds=[pJ p,.str x]/\nU p/\rY x/\d=.bool (decide (xG p x))
def Rid(ds:List aA)(d:aA):Prop:=∃(p:Pl)(x:Str),ds=[pJ p,.str x]/\nU p/\rY x/\d=.bool (decide (yI p x))
def J4(p:Pl)(x:Str):List Dk:=p.desks.filter λq=>decide (x∈q.places)
def Rit(ds es:List aA):Prop:=∃(p:Pl)(x:Str),ds=[pJ p,.str x]/\nU p/\rY x/\es=(J4 p x).map jP
theorem T8{p:Pl}{x:Str}(h:¬Q6 p x):J4 p x=[]:=by
 unfold J4;rw[List.filter_eq_nil_iff];intro q hq z;exact h ⟨q,hq,of_decide_eq_true z⟩
theorem oH{l:List Str}(h:∀x∈l,gG x):Lay 20 (.list (l.map aW)):=Ox λx hx=>(h x hx).ok
theorem ziO{fd:cU}(F:rP K "is_place" "is_place" (top 41) f fd):i_ P w K mg base qz 1 f fd Npn (mX K Rip):=
 qg F zfV (λ_ _ h=>by obtain⟨_,_,rfl,_⟩:=h;rfl) λ_ _ h=>by
  obtain⟨p,x,rfl,ok,ox,rfl⟩:=h;intro cdv A outer s H E hr;refine bH (dG (VE.to (Dt (zbO hr rfl (bZ ox) (oH ok.gates) (aj 1 rfl) (sV (aj 0 rfl) (J1 p))) (λ_=>qI (SQ hr (aj 1 rfl) (sV (aj 0 rfl) (J2 p))))) ?_))
  rw[jx,pK,uQ]
  congr 1
  rw[lH];simp only[Ko,decide_eq_true_eq];exact Iff.rfl
def Fdn:aA->Option aA
 | .tuple (x::_)=>some x
 |_=>none
theorem zbn(l:List Dk):(l.map jP).filterMap Fdn=(l.map (·.name)).map .str:=by
 rw[dZ,bU];exact filterMap_some λk _=>rfl
theorem ziP{fd:cU}(F:rP K "is_desk" "is_desk" (top 42) f fd):i_ P w K mg base qz 1 f fd Npn (mX K Rid):=
 qg F zfW (λ_ _ h=>by obtain⟨_,_,rfl,_⟩:=h;rfl) λ_ _ h=>by
  obtain⟨p,x,rfl,ok,ox,rfl⟩:=h;intro cdv A outer s H E hr;have nc:(["desk"]:List Str).Nodup:=by decide +kernel
  have hn:=ok.dn;refine bH (dG (VE.to (zbO hr rfl (bZ ox) (oH (l:=p.desks.map (·.name)) λy hy=>?_) (aj 1 rfl) (VO.ve (VO.to (jA (own:=["desk"]) (cap:=[]) (N:=["desk"]) (cl:=[]) (tgt:=.one 0) (F:=Fdn) (ds:=p.desks.map jP) rfl ⟨rfl,by decide +kernel,by decide +kernel,rfl,rfl,by simp⟩ (lN (sV (aj 0 rfl) (Q5 p))) (λf s3 H3=>cJ (i:=0) nc rfl (bG rfl)) rfl
   (small (by rw[aq];omega)) (λd hd=>?_)) (zbn _)))) ?_))
  ·obtain⟨q,hq,rfl⟩:=aR.mp hy
   exact(ok.desks q hq).1
  ·obtain⟨z,hz,rfl⟩:=aR.mp hd
   refine⟨_,rfl,λf s3 H3=>jz,λr hr' f s3 H3=>?_⟩
   cases hr';exact cY (aj 0 rfl) aH (cu (j:=0) rfl)
  ·rw[jx];rfl
theorem GF(x:Str)(l:List Str):Dp (.str x) (.tuple (l.map aW))=decide (x∈l):=jx x l
def ZP(x:Str):aA->Bool
 | .tuple [_,_,_,.tuple l]=>l.any λy=>fD y (.str x)
 |_=>false
def Fin(x:Str)(d:aA):Option aA:=if ZP x d=true then some d else none
theorem Ac(x:Str)(q:Dk):ZP x (jP q)=decide (x∈q.places):=GF x q.places
theorem zbo(x:Str)(l:List Dk):(l.map jP).filterMap (Fin x)=(l.filter λq=>decide (x∈q.places)).map jP:=by
 induction l with
 |nil=>rfl
 |cons q l ih=>
  rw[aZ,yL];by_cases h:x∈q.places
  ·rw[iD (f:=Fin x) (b:=jP q) (by unfold Fin;rw[Ac,if_pos (decide_eq_true h)]),ih,if_pos (decide_eq_true h),aZ]
  ·rw[nD (f:=Fin x) (by unfold Fin;rw[Ac,if_neg (by rw[decide_eq_false h];decide)]),ih,if_neg (by rw[decide_eq_false h];decide)]
theorem ziQ{fd:cU}(F:rP K "takers_of" "takers_of" (top 43) f fd):i_ P w K mg base qz 1 f fd Npp (LK K Rit):=
 Qi F zfX (λ_ _ h=>by obtain⟨_,_,rfl,_⟩:=h;rfl) λ_ _ h=>by
  obtain⟨p,x,rfl,ok,ox,rfl⟩:=h;intro cdv A outer s H E hr;have nc:(["desk","place"]:List Str).Nodup:=by decide +kernel
  have hn:=ok.dn;refine bH (Ia (VO.to (jA (own:=["desk"]) (cap:=[1]) (N:=["desk","place"]) (tgt:=.one 0) (F:=Fin x) (ds:=p.desks.map jP) rfl ⟨rfl,by decide +kernel,by decide +kernel,rfl,rfl,?_⟩ (lN (sV (aj 0 rfl) (Q5 p))) (λf s3 H3=>cJ (i:=0) nc rfl (bG rfl)) rfl
   (small (by rw[aq];omega)) (λd hd=>?_)) (zbo x _)))
  ·intro j hj
   rcases aQ.mp hj with rfl|hj
   ·exact⟨(by show(1:Nat)<2;decide),bG rfl,rfl⟩
   ·cases hj
  ·obtain⟨z,hz,rfl⟩:=aR.mp hd
   refine⟨_,rfl,λf s3 H3=>?_,λr hr' f s3 H3=>?_⟩
   ·refine N8 (VT.to (ze5 hr rfl (bZ ox) (Oa (n:=19) λd hd=>by obtain⟨y,hy,rfl⟩:=aR.mp hd;exact bZ ((ok.desks z hz).2.2.2.2 y hy).ok.2) (aj 1 rfl) (cY (d:=.tuple (z.places.map .str)) (aj 0 rfl) aH (cu (j:=3) rfl))) ?_)
    unfold Fin;rw[Ac,GF];by_cases h:x∈z.places
    ·rw[decide_eq_true h];rfl
    ·rw[decide_eq_false h];rfl
   ·unfold Fin at hr'
    split at hr'
    ·cases hr';exact aj 0 rfl
    ·cases hr'
def zfY:Rl->Bool
 | .many _=>true
 | .gather _ _=>true
 |_=>false
theorem zfZ:eX ["rule","many"] ["rule","many"] (cP (top 22)):=⟨rfl,rfl,rfl,by decide +kernel,rfl,by decide +kernel,by decide +kernel⟩
theorem ziR{fd:cU}(F:rP K "greatest_load" "greatest_load" (top 22) f fd):i_ P w K mg base qz 1 f fd ["rule","many"] (mX K Rgr):=
 qg F zfZ (λ_ _ h=>by obtain⟨_,_,rfl,_⟩:=h;rfl) λ_ _ h=>by
  obtain⟨r,m,rfl,rfl⟩:=h;intro cdv A outer s H E hr;have oR:rY (wJ r):=by cases r<;>dsimp only[wJ,rY]<;>decide +kernel
  have h0:yN (aW (wJ r)::zX r) 0=some (.str (wJ r)):=cu (j:=0) rfl;have hmg:(decide (wJ r="many")||decide (wJ r="gather"))=zfY r:=by
   cases r with
   |meet=>decide +kernel
   |eldest=>decide +kernel
   |many m=>exact(show(decide (("many":Str)="many")||decide (("many":Str)="gather"))=true by decide +kernel)
   |gather m a=>exact(show(decide (("gather":Str)="many")||decide (("gather":Str)="gather"))=true by decide +kernel)
   |rank b=>exact(show(decide (("rank":Str)="many")||decide (("rank":Str)="gather"))=false by decide +kernel)
   |turns l=>exact(show(decide (("turns":Str)="many")||decide (("turns":Str)="gather"))=false by decide +kernel)
  by_cases h1:zfY r=true
  ·refine fJ (gj (VT.to (oW (c7 hr (bZ oR) bC (cY (aj 0 rfl) aH h0) aU) (λ_=>c7 hr (bZ oR) bC (cY (aj 0 rfl) aH h0) aU)) (by rw[cR,cR,hmg,h1])) (bH (dG (cY (aj 0 rfl) aH ?_)))) rfl
   cases r with
   |many m=>exact cu (j:=1) rfl
   |gather m a=>exact cu (j:=1) rfl
   |_=>cases h1
  ·have h1:=Bool.not_eq_true _▸h1
   refine aO (cW (VT.to (oW (c7 hr (bZ oR) bC (cY (aj 0 rfl) aH h0) aU) (λ_=>c7 hr (bZ oR) bC (cY (aj 0 rfl) aH h0) aU)) (by rw[cR,cR,hmg,h1])) b_) ?_
   by_cases h2:wJ r="meet"
   ·refine fJ (gj (VT.to (c7 hr (bZ oR) bC (cY (aj 0 rfl) aH h0) aU) (by rw[cR];exact decide_eq_true h2)) (bH (dG (VE.to (aj 1 rfl) ?_)))) rfl
    cases r with
    |meet=>rfl
    |many m=>cases h1
    |gather m a=>cases h1
    |eldest=>exact absurd h2 (by decide +kernel)
    |rank b=>exact absurd h2 (show ¬(("rank":Str)="meet") by decide +kernel)
    |turns l=>exact absurd h2 (show ¬(("turns":Str)="meet") by decide +kernel)
   ·refine aO (cW (VT.to (c7 hr (bZ oR) bC (cY (aj 0 rfl) aH h0) aU) (by rw[cR];exact decide_eq_false h2)) b_) ?_
    refine bH (dG (VE.to aH ?_))
    cases r with
    |meet=>exact absurd rfl h2
    |many m=>cases h1
    |gather m a=>cases h1
    |_=>rfl
end
theorem gJ(e:Ent):rY e.form:=by cases e<;>(dsimp only[Ent.form,rY];decide +kernel)
theorem Bb(e:Ent):yN (aW e.form::e.rest) 0=some (.str e.form):=cu (j:=0) rfl
def Ent.name:Ent->Str
 | .kind n _=>n
 | .gate n=>n
 | .line n _=>n
 | .desk d=>d.name
 | .time d _ _=>d
 | .hour d _ _=>d
theorem VL(e:Ent):yN (aW e.form::e.rest) 1=some (.str e.name):=by cases e<;>exact cu (j:=1) rfl
theorem VN{e:Ent}(h:Bv e):gG e.name:=by
 cases e with
 |gate n=>exact h
 |_=>exact h.1
theorem kZ{a b:Str}(h:a≠b):fD (.str a) (.str b)=false:=by rw[cR];exact decide_eq_false h
theorem nW(a:Str):fD (.str a) (.str a)=true:=by rw[cR];exact decide_eq_true rfl
section
variable{P:bL}{w:dB}{K:ao}{mg:Str->Option aF}{base:dW}{f:aN}{k:Nat}
abbrev Q7:List Str:=["plant","entry"]
def Rtt(ds:List aA)(d:aA):Prop:=∃(p:Pl)(e:Ent),ds=[pJ p,T4 e]/\nU p/\Bv e/\J3 p e/\d=.bool false
def T9:aA->Option aA:=λ_=>some (.bool false)
theorem J5:∀l:List aA,l.filterMap T9=(bN l.length false).map .bool
 | []=>rfl
 |d::l=>by rw[iD (f:=T9) (b:=.bool false) rfl,J5 l];rfl
theorem Xf(n:Nat):Jw (bN n false)=false:=by
 unfold Jw;rw[Gg];intro z;obtain⟨b,hb,h⟩:=HD.mp z;rw[(oF.mp hb).2]at h;cases h
abbrev Ntt:List Str:=["plant","entry","form","name"]
theorem zb9:eX Ntt Q7 (cP (top 38)):=⟨rfl,rfl,rfl,by decide +kernel,rfl,by decide +kernel,by decide +kernel⟩
theorem ziS{fd:cU}(F:rP K "tells_twice" "tells_twice" (top 38) f fd)(n:Np mg w.params K)(C1:cG P w K mg base 1 "is_place" Npn (mX K Rip))(C2:cG P w K mg base 1 "is_desk" Npn (mX K Rid))(C3:cG P w K mg base 1 "takers_of" Npp (LK K Rit)):i_ P w K mg base qz 2 f fd Q7 (mX K Rtt):=
 qg F zb9 (λ_ _ h=>by obtain⟨_,_,rfl,_⟩:=h;rfl) λ_ _ h=>by
  obtain⟨p,e,rfl,ok,oe,oa,rfl⟩:=h;intro cdv A outer s H E hr;have nd:Ntt.Nodup:=zb9.nd;have onm:=(VN oe).ok.2;have ofm:=gJ e;refine aO (dU 2 (d:=.str e.form) (cY (aj 1 rfl) aH (Bb e)) nd) ?_
  refine aO (dU 3 (d:=.str e.name) (cY (aj 1 rfl) aH (VL e)) nd) ?_
  cases e with
  |kind m k=>
   refine fJ (gj (VT.to (c7 hr (bZ (gJ _)) bC (aj 2 rfl) aU) (nW _)) (bH (dG (VE.to (SQ hr (aj 3 rfl) (sV (aj 0 rfl) (DW p))) ?_)))) rfl
   rw[pK,DX];exact congrArg qU (decide_eq_false oa)
  |gate m=>
   refine aO (cW (VT.to (c7 hr (bZ (gJ _)) bC (aj 2 rfl) aU) (kZ (show("gate":Str)≠"kind" by decide +kernel))) b_) ?_
   exact fJ (gj (VT.to (oW (k1:=true) (k2:=true) (VT.to (c7 hr (bZ (gJ _)) bC (aj 2 rfl) aU) (nW _)) (λz=>by cases z)) rfl) (bH (dG (cF C1 hr (au (aj 0 rfl) (au (aj 3 rfl) aX)) ⟨p,m,rfl,ok,onm,by rw[decide_eq_false oa]⟩)))) rfl
  |line m r=>
   refine aO (cW (VT.to (c7 hr (bZ (gJ _)) bC (aj 2 rfl) aU) (kZ (show("line":Str)≠"kind" by decide +kernel))) b_) ?_
   exact fJ (gj (VT.to (oW (k1:=false) (k2:=true) (VT.to (c7 hr (bZ (gJ _)) bC (aj 2 rfl) aU) (kZ (show("line":Str)≠"gate" by decide +kernel))) (λ_=>VT.to (c7 hr (bZ (gJ _)) bC (aj 2 rfl) aU) (nW _))) rfl) (bH (dG (cF C1 hr (au (aj 0 rfl) (au (aj 3 rfl) aX)) ⟨p,m,rfl,ok,onm,by rw[decide_eq_false oa]⟩)))) rfl
  |desk q=>
   refine aO (cW (VT.to (c7 hr (bZ (gJ _)) bC (aj 2 rfl) aU) (kZ (show("desk":Str)≠"kind" by decide +kernel))) b_) ?_
   refine aO (cW (VT.to (oW (k1:=false) (k2:=false) (VT.to (c7 hr (bZ (gJ _)) bC (aj 2 rfl) aU) (kZ (show("desk":Str)≠"gate" by decide +kernel))) (λ_=>VT.to (c7 hr (bZ (gJ _)) bC (aj 2 rfl) aU) (kZ (show("desk":Str)≠"line" by decide +kernel)))) rfl) b_) ?_
   have nc:(["place","plant"]:List Str).Nodup:=by decide +kernel
   obtain⟨a1,a2,a3,a4⟩:=oa;have l6:=oe.2.2.2.2.1;refine fJ (gj (VT.to (c7 hr (bZ (gJ _)) bC (aj 2 rfl) aU) (nW _)) (bH (dG (VE.to (Dt (cF C2 hr (au (aj 0 rfl) (au (aj 3 rfl) aX)) ⟨p,q.name,rfl,ok,onm,rfl⟩) (λ_=>qI (oh (Y5 rfl) zfj (au (VO.ve (VO.to (jA (own:=["place"]) (cap:=[0]) (N:=["place","plant"]) (tgt:=.one 0) (F:=T9) (ds:=q.places.map .str) rfl ⟨rfl,by decide +kernel,by decide +kernel,rfl,rfl,?_⟩ (Jo (cY (d:=.tuple (q.places.map .str)) (aj 1 rfl) aH (cu (j:=4) rfl))) (λf s3 H3=>cJ (i:=0) nc rfl (bG rfl)) rfl
    (small (by rw[aq];omega)) (λd hd=>?_)) (J5 _))) aX) n.any rfl))) ?_)))) rfl
   ·intro j hj
    rcases aQ.mp hj with rfl|hj
    ·exact⟨(by show(0:Nat)<4;decide),bG rfl,rfl⟩
    ·cases hj
   ·obtain⟨z,hz,rfl⟩:=aR.mp hd
    refine⟨_,rfl,λf s3 H3=>jz,λr hr' f s3 H3=>?_⟩
    cases hr';exact VE.to (YD hr Vk Vk (VE.to (VO.ve (rC C3 hr (au (aj 1 rfl) (au (aj 0 rfl) aX)) ⟨p,z,rfl,ok,(oe.2.2.2.2.2.2 z hz).ok.2,rfl⟩)) (by rw[T8 (a2 z hz)];rfl)) (VO.ve (jf (ds:=[]) aX))) rfl
   ·rw[decide_eq_false a1,Xf];rfl
  |time d k wk=>
   refine aO (cW (VT.to (c7 hr (bZ (gJ _)) bC (aj 2 rfl) aU) (kZ (show("time":Str)≠"kind" by decide +kernel))) b_) ?_
   refine aO (cW (VT.to (oW (k1:=false) (k2:=false) (VT.to (c7 hr (bZ (gJ _)) bC (aj 2 rfl) aU) (kZ (show("time":Str)≠"gate" by decide +kernel))) (λ_=>VT.to (c7 hr (bZ (gJ _)) bC (aj 2 rfl) aU) (kZ (show("time":Str)≠"line" by decide +kernel)))) rfl) b_) ?_
   refine aO (cW (VT.to (c7 hr (bZ (gJ _)) bC (aj 2 rfl) aU) (kZ (show("time":Str)≠"desk" by decide +kernel))) b_) ?_
   refine fJ (gj (VT.to (c7 hr (bZ (gJ _)) bC (aj 2 rfl) aU) (nW _)) (bH (dG (VE.to (zaP hr (aj 3 rfl) (cY (aj 1 rfl) aH (cu (j:=2) rfl)) (sV (aj 0 rfl) (ZM p))) ?_)))) rfl
   refine congrArg qU ?_
   rw[pK,Oz];rw[Gg];intro z;exact oa.1 (@of_decide_eq_true _ (_) z)
  |hour d a b=>
   refine aO (cW (VT.to (c7 hr (bZ (gJ _)) bC (aj 2 rfl) aU) (kZ (show("open":Str)≠"kind" by decide +kernel))) b_) ?_
   refine aO (cW (VT.to (oW (k1:=false) (k2:=false) (VT.to (c7 hr (bZ (gJ _)) bC (aj 2 rfl) aU) (kZ (show("open":Str)≠"gate" by decide +kernel))) (λ_=>VT.to (c7 hr (bZ (gJ _)) bC (aj 2 rfl) aU) (kZ (show("open":Str)≠"line" by decide +kernel)))) rfl) b_) ?_
   refine aO (cW (VT.to (c7 hr (bZ (gJ _)) bC (aj 2 rfl) aU) (kZ (show("open":Str)≠"desk" by decide +kernel))) b_) ?_
   refine aO (cW (VT.to (c7 hr (bZ (gJ _)) bC (aj 2 rfl) aU) (kZ (show("open":Str)≠"time" by decide +kernel))) b_) ?_
   exact bH (dG (VE.to (wD (k1:=false) (k2:=false) (VE.to (Dq hr (bZ (gJ _)) bC (aj 2 rfl) aU) (congrArg qU (kZ (show("open":Str)≠"pace" by decide +kernel)))) (λz=>by cases z)) rfl))
abbrev Nln:List Str:=["plant","entry","form","into_line"]
theorem zca:eX Nln Q7 (cP (top 39)):=⟨rfl,rfl,rfl,by decide +kernel,rfl,by decide +kernel,by decide +kernel⟩
theorem ziT{fd:cU}(F:rP K "lacks_name" "lacks_name" (top 39) f fd)(n:Np mg w.params K)(C1:cG P w K mg base 1 "is_place" Npn (mX K Rip))(C2:cG P w K mg base 1 "is_desk" Npn (mX K Rid)):i_ P w K mg base qz 2 f fd Q7 (mX K Rtt):=
 qg F zca (λ_ _ h=>by obtain⟨_,_,rfl,_⟩:=h;rfl) λ_ _ h=>by
  obtain⟨p,e,rfl,ok,oe,oa,rfl⟩:=h;intro cdv A outer s H E hr;have nd:Nln.Nodup:=zca.nd;have onm:=(VN oe).ok.2;refine aO (dU 2 (d:=.str e.form) (cY (aj 1 rfl) aH (Bb e)) nd) ?_
  have pac:∀(e:Ent),e.form≠"pace":=λe=>by cases e<;>(dsimp only[Ent.form];decide +kernel)
  cases e with
  |desk q=>
   obtain⟨a1,a2,a3,a4⟩:=oa;have nc:(["place","plant"]:List Str).Nodup:=by decide +kernel
   have oto:rY q.to:=by
    rcases oe.2.1 with h|h
    ·rw[h];show eN (.str ("":Str))=true;decide +kernel
    ·exact h.ok.2
   have l6:=oe.2.2.2.2.1;refine fJ (gj (VT.to (c7 hr (bZ (gJ _)) bC (aj 2 rfl) aU) (nW _)) (aO (dU 3 (d:=.bool true) (VE.to (Dt (Dq hr (bZ oto) bC (cY (aj 1 rfl) aH (cu (j:=2) rfl)) aU) (λ_=>qI (SQ hr (cY (aj 1 rfl) aH (cu (j:=2) rfl)) (sV (aj 0 rfl) (J2 p))))) ?_) nd) (bH (dG (VE.to (Dt (k1:=false) (k2:=false) (VE.to (Dv (aj 3 rfl)) rfl) (λ_=>qI (VE.to (Dv (oh (wX rfl) L_ (au (VO.ve (VO.to (jA (own:=["place"]) (cap:=[0]) (N:=["place","plant"]) (tgt:=.one 0) (F:=Fal) (ds:=q.places.map .str) rfl ⟨rfl,by decide +kernel,by decide +kernel,rfl,rfl,?_⟩ (Jo (cY (d:=.tuple (q.places.map .str)) (aj 1 rfl) aH (cu (j:=4) rfl))) (λf s3 H3=>cJ (i:=0) nc rfl (bG rfl)) rfl
    (small (by rw[aq];omega)) (λd hd=>?_)) (VF _))) aX) n.all rfl)) (by rw[W5];rfl)))) rfl))))) rfl
   ·rw[cR,pK,uQ]
    congr 1
    rcases a4 with h|⟨r,h,_⟩
    ·rw[decide_eq_true h];rfl
    ·have:(qw (vZ p) q.to).isSome=true:=by rw[h];rfl
     rw[pK,uQ]at this;rw[this,Gf]
   ·intro j hj
    rcases aQ.mp hj with rfl|hj
    ·exact⟨(by show(0:Nat)<4;decide),bG rfl,rfl⟩
    ·cases hj
   ·obtain⟨z,hz,rfl⟩:=aR.mp hd
    refine⟨_,rfl,λf s3 H3=>jz,λr hr' f s3 H3=>?_⟩
    cases hr';exact cF C1 hr (au (aj 1 rfl) (au (aj 0 rfl) aX)) ⟨p,z,rfl,ok,(oe.2.2.2.2.2.2 z hz).ok.2,by rw[decide_eq_true (a3 z hz)]⟩
  |time d k wk=>
   refine aO (cW (VT.to (c7 hr (bZ (gJ _)) bC (aj 2 rfl) aU) (kZ (show("time":Str)≠"desk" by decide +kernel))) b_) ?_
   refine fJ (gj (VT.to (c7 hr (bZ (gJ _)) bC (aj 2 rfl) aU) (nW _)) (bH (dG (VE.to (Dt (k1:=false) (VE.to (Dv (cF C2 hr (au (aj 0 rfl) (au (cY (aj 1 rfl) aH (cu (j:=1) rfl)) aX)) ⟨p,d,rfl,ok,onm,rfl⟩)) (by rw[decide_eq_true oa.2.1];rfl)) (λ_=>qI (Ww hr (cY (aj 1 rfl) aH (cu (j:=2) rfl)) (sV (aj 0 rfl) (DW p))))) ?_)))) rfl
   rw[pK,DX,decide_eq_true oa.2.2];rfl
  |hour d a b=>
   refine aO (cW (VT.to (c7 hr (bZ (gJ _)) bC (aj 2 rfl) aU) (kZ (show("open":Str)≠"desk" by decide +kernel))) b_) ?_
   refine aO (cW (VT.to (c7 hr (bZ (gJ _)) bC (aj 2 rfl) aU) (kZ (show("open":Str)≠"time" by decide +kernel))) b_) ?_
   exact fJ (gj (VT.to (c7 hr (bZ (gJ _)) bC (aj 2 rfl) aU) (nW _)) (bH (dG (VE.to (Dv (cF C2 hr (au (aj 0 rfl) (au (cY (aj 1 rfl) aH (cu (j:=1) rfl)) aX)) ⟨p,d,rfl,ok,onm,rfl⟩)) (by rw[decide_eq_true (show yI p d from oa)];rfl))))) rfl
  |_=>
   refine aO (cW (VT.to (c7 hr (bZ (gJ _)) bC (aj 2 rfl) aU) (by rw[cR];dsimp only[Ent.form];exact decide_eq_false (by decide +kernel))) b_) ?_
   refine aO (cW (VT.to (c7 hr (bZ (gJ _)) bC (aj 2 rfl) aU) (by rw[cR];dsimp only[Ent.form];exact decide_eq_false (by decide +kernel))) b_) ?_
   refine aO (cW (VT.to (c7 hr (bZ (gJ _)) bC (aj 2 rfl) aU) (by rw[cR];dsimp only[Ent.form];exact decide_eq_false (by decide +kernel))) b_) ?_
   exact bH (dG (VE.to (wD (k1:=false) (k2:=false) (VE.to (Dq hr (bZ (gJ _)) bC (aj 2 rfl) aU) (by rw[cR];exact congrArg qU (decide_eq_false (pac _)))) (λz=>by cases z)) rfl))
theorem zdG:eX Q7 Q7 (cP (top 40)):=⟨rfl,rfl,rfl,by decide +kernel,rfl,by decide +kernel,by decide +kernel⟩
theorem zf0{fd:cU}(F:rP K "lacks_room" "lacks_room" (top 40) f fd)(n:Np mg w.params K)(C1:cG P w K mg base 1 "greatest_load" ["rule","many"] (mX K Rgr)):i_ P w K mg base qz 2 f fd Q7 (mX K Rtt):=
 qg F zdG (λ_ _ h=>by obtain⟨_,_,rfl,_⟩:=h;rfl) λ_ _ h=>by
  obtain⟨p,e,rfl,ok,oe,oa,rfl⟩:=h;intro cdv A outer s H E hr;by_cases hd:∃q,e=.desk q
  ·obtain⟨q,rfl⟩:=hd
   obtain⟨a1,a2,a3,a4⟩:=oa;have oto:rY q.to:=by
    rcases oe.2.1 with h|h
    ·rw[h];show eN (.str ("":Str))=true;decide +kernel
    ·exact h.ok.2
   by_cases ht:q.to=""
   ·exact fJ (gj (VT.to (oW (k1:=false) (k2:=true) (VT.to (qu hr (bZ (gJ _)) bC (cY (aj 1 rfl) aH (Bb _)) aU) (congrArg (λb=>!b) (nW _))) (λ_=>VT.to (c7 hr (bZ oto) bC (cY (aj 1 rfl) aH (cu (j:=2) rfl)) aU) (by rw[cR];exact decide_eq_true ht))) rfl) (bH (dG Gq))) rfl
   ·obtain⟨r,h1,h2⟩:=a4.resolve_left ht
    refine aO (cW (VT.to (oW (k1:=false) (k2:=false) (VT.to (qu hr (bZ (gJ _)) bC (cY (aj 1 rfl) aH (Bb _)) aU) (congrArg (λb=>!b) (nW _))) (λ_=>VT.to (c7 hr (bZ oto) bC (cY (aj 1 rfl) aH (cu (j:=2) rfl)) aU) (by rw[cR];exact decide_eq_false ht))) rfl) b_) ?_
    exact bH (dG (VE.to (ze4 (cF C1 hr (au (cY (d:=W3 q.rule) (aj 1 rfl) aH (cu (j:=3) rfl)) (au (VE.to (vQ (ds:=q.places.map .str) (cY (aj 1 rfl) aH (cu (j:=4) rfl)) n.len) (by rw[aq])) aX)) ⟨q.rule,q.places.length,rfl,rfl⟩) (jX hr (sV (aj 0 rfl) (J2 p)) (cY (aj 1 rfl) aH (cu (j:=2) rfl)) h1)) (congrArg qU (decide_eq_false (by omega)))))
  ·have hf:e.form≠"desk":=by
    cases e with
    |desk q=>exact absurd ⟨q,rfl⟩ hd
    |_=>dsimp only[Ent.form];decide +kernel
   exact fJ (gj (VT.to (oW (k1:=true) (k2:=true) (VT.to (qu hr (bZ (gJ e)) bC (cY (aj 1 rfl) aH (Bb _)) aU) (by rw[cR,decide_eq_false hf];rfl)) (λz=>by cases z)) rfl) (bH (dG Gq))) rfl
theorem zf1:eX Q7 Q7 (cP (top 36)):=⟨rfl,rfl,rfl,by decide +kernel,rfl,by decide +kernel,by decide +kernel⟩
def Rfo(ds:List aA)(d:aA):Prop:=∃(p:Pl)(e:Ent),ds=[pJ p,T4 e]/\nU p/\Bv e/\J3 p e/\d=.str ""
theorem ziU{fd:cU}(F:rP K "fault_of" "fault_of" (top 36) f fd)(C1:cG P w K mg base 2 "tells_twice" Q7 (mX K Rtt))(C2:cG P w K mg base 2 "lacks_name" Q7 (mX K Rtt))(C3:cG P w K mg base 2 "lacks_room" Q7 (mX K Rtt)):i_ P w K mg base qz 3 f fd Q7 (mX K Rfo):=
 qg F zf1 (λ_ _ h=>by obtain⟨_,_,rfl,_⟩:=h;rfl) λ_ _ h=>by
  obtain⟨p,e,rfl,ok,oe,oa,rfl⟩:=h;intro cdv A outer s H E hr;refine aO (cW (VT.to (lK sO xq (aj 1 rfl) lJ (jQ _)) rfl) b_) ?_
  refine aO (cW (qe (cF C1 hr (au (aj 0 rfl) (au (aj 1 rfl) aX)) ⟨p,e,rfl,ok,oe,oa,rfl⟩) rfl) b_) ?_
  refine aO (cW (qe (cF C2 hr (au (aj 0 rfl) (au (aj 1 rfl) aX)) ⟨p,e,rfl,ok,oe,oa,rfl⟩) rfl) b_) ?_
  refine aO (cW (qe (cF C3 hr (au (aj 0 rfl) (au (aj 1 rfl) aX)) ⟨p,e,rfl,ok,oe,oa,rfl⟩) rfl) b_) ?_
  exact bH (dG aU)
end
def zbp:Option Int->V
 |none=>.non
 |some i=>.int i
theorem ZQ{K:ao}{H:Hp}(o:Option Int):Rep K H (zbp o) (vJ o):=by
 cases o with
 |none=>exact .non
 |some i=>exact .int i
theorem Rep.zbq{K:ao}{H:Hp}{v:V}{o:Option Int}(r:Rep K H v (vJ o)):v=zbp o:=by
 cases o with
 |none=>cases r;rfl
 |some i=>cases r;rfl
def Cu(p:Pl):List (Key×V):=p.kinds.map λq=>(dN q.1,zbp q.2)
def Cv(p:Pl):List (Key×V):=p.lines.map λq=>(dN q.1,V.int q.2)
def Cw(p:Pl):List (List Key×V):=p.times.map λq=>(Fq (q.1,q.2.1),V.int q.2.2)
def lO(h:List (Str×List (Int×Int)))(cs:List aN):List (Key×V):=(h.zip cs).map λz=>(dN z.1.1,V.ref z.2)
abbrev fsN:List Str:=["kinds","gates","lines","desks","times","hours","paces"]
def fsV(ak ag al ad at_ ah ap:aN):List (Str×V):=[("kinds",.ref ak),("gates",.ref ag),("lines",.ref al),("desks",.ref ad),("times",.ref at_),("hours",.ref ah),("paces",.ref ap)]
structure PlW(K:ao)(p:aN)(st:Pl)(H0 H:Hp)(C dx ak ag al ad at_ ah ap:aN)(cs:List aN)(xd:List V):Prop where
 ins:H p=some (.ins C dx (fsV ak ag al ad at_ ah ap))
 cls:Cls K C
 Bj:∀f∈fsN,jG K C f
 ki:H ak=some (.dK (Cu st))
 ga:H ag=some (.lst (st.gates.map V.str))
 li:H al=some (.dK (Cv st))
 de:H ad=some (.lst xd)
 dr:fX K H0 xd (st.desks.map jP)
 ti:H at_=some (.dT (Cw st))
 ho:H ah=some (.dK (lO (jU st.hours) cs))
 hl:cs.length=(jU st.hours).length
 pa:H ap=some (.dK [])
 ce:∀(i:Nat)c q,cs[i]?=some c->(jU st.hours)[i]?=some q->∃xs,H c=some (.lst xs)/\fX K H0 xs (q.2.map pairD)
def OD(K:ao)(p:aN)(st:Pl):OR:=λH0 H as=>∃C dx ak ag al ad at_ ah ap cs xd,as=p::ak::ag::al::ad::at_::ah::ap::cs/\as.Nodup/\PlW K p st H0 H C dx ak ag al ad at_ ah ap cs xd
theorem OD.mono{K:ao}{p:aN}{st:Pl}:JB (OD K p st):=by
 rintro H0 H Ha Hb as ⟨C,dx,ak,ag,al,ad,at_,ah,ap,cs,xd,rfl,nd,W⟩ s e
 refine⟨C,dx,ak,ag,al,ad,at_,ah,ap,cs,xd,rfl,nd,?_⟩
 exact⟨by rw[e p (by simp)];exact W.ins,W.cls,W.Bj,by rw[e ak (by simp)];exact W.ki,by rw[e ag (by simp)];exact W.ga,by rw[e al (by simp)];exact W.li,by rw[e ad (by simp)];exact W.de,W.dr.mono s,by rw[e at_ (by simp)];exact W.ti,by rw[e ah (by simp)];exact W.ho,W.hl,by rw[e ap (by simp)];exact W.pa,λi c q e1 e2=>by
  obtain⟨xs,h1,h2⟩:=W.ce i c q e1 e2;refine⟨xs,?_,h2.mono s⟩
  rw[e c (by simp[dw e1])]
  exact h1⟩
theorem DY{K:ao}{H:Hp}{α:Type}{f:α->V}{g:α->aA}:∀{l:List α},(∀x∈l,Rep K H (f x) (g x))->fX K H (l.map f) (l.map g)
 | [],_=>.nil
 |x::l,h=>.cons (h x aY) (DY λy hy=>h y (bD _ hy))
theorem Q8{K:ao}{H:Hp}{α:Type}{g:α->aA}:∀{l:List α}{cs:List aN},cs.length=l.length->(∀(i:Nat)c q,cs[i]?=some c->l[i]?=some q->Rep K H (.ref c) (g q))->fX K H (cs.map V.ref) (l.map g)
 | [],[],_,_=>.nil
 | [],_::_,h,_=>by cases h
 |_::_,[],h,_=>by cases h
 |q::l,c::cs,h,k=>.cons (k 0 c q rfl rfl) (Q8 (by simpa using h) λi c' q' e1 e2=>k (i+1) c' q' (by simpa using e1) (by simpa using e2))
theorem GJ:∀{h:List (Str×List (Int×Int))}{cs:List aN},cs.length=h.length->(lO h cs).map (·.1)=h.map λq=>(dN q.1:Key)
 | [],[],_=>rfl
 | [],_::_,e=>by cases e
 |_::_,[],e=>by cases e
 |q::h,c::cs,e=>by
  have:=GJ (h:=h) (cs:=cs) (by simpa using e)
  unfold lO at this ⊢;rw[qX,aZ,aZ,this];rfl
theorem GK:∀{h:List (Str×List (Int×Int))}{cs:List aN},cs.length=h.length->(lO h cs).map (·.2)=cs.map V.ref
 | [],[],_=>rfl
 | [],_::_,e=>by cases e
 |_::_,[],e=>by cases e
 |q::h,c::cs,e=>by
  have:=GK (h:=h) (cs:=cs) (by simpa using e)
  unfold lO at this ⊢;rw[qX,aZ,aZ,this];rfl
theorem OD.rep{K:ao}{p:aN}{st:Pl}(Ha Hb:Hp)(as:List aN)(sb:Same Ha Hb)(h:OD K p st Ha Hb as):Rep K (Fw as Hb Ha) (.ref p) (pJ st):=by
 obtain⟨C,dx,ak,ag,al,ad,at_,ah,ap,cs,xd,rfl,nd,W⟩:=h;have sm:=JC (as:=p::ak::ag::al::ad::at_::ah::ap::cs) sb
 generalize hM:Fw (p::ak::ag::al::ad::at_::ah::ap::cs) Hb Ha=M at *
 have mm:∀a∈p::ak::ag::al::ad::at_::ah::ap::cs,M a=Hb a:=λa ha=>by rw[<-hM];exact Oe ha
 refine Rep.obj (fs:=fsV ak ag al ad at_ ah ap) (by rw[mm p (by simp)];exact W.ins) W.cls W.Bj rfl ?_
 refine .cons ?_ (.cons ?_ (.cons ?_ (.cons ?_ (.cons ?_ (.cons ?_ (.cons ?_ .nil))))))
 ·refine .dct (by rw[mm ak (by simp)];exact W.ki) ?_ ?_
  ·unfold vY Cu;simp only[bU];rfl
  ·unfold vY Cu;simp only[bU];exact DY λq _=>ZQ q.2
 ·exact .lst (rW.of (by rw[mm ag (by simp)];exact W.ga)) (Ft _)
 ·refine .dct (by rw[mm al (by simp)];exact W.li) ?_ ?_
  ·unfold vZ Cv;simp only[bU];rfl
  ·unfold vZ Cv;simp only[bU];exact DY λq _=>.int q.2
 ·exact .lst (rW.of (by rw[mm ad (by simp)];exact W.de)) (W.dr.mono sm)
 ·refine .dcT (by rw[mm at_ (by simp)];exact W.ti) ?_ ?_
  ·unfold A_ Cw;simp only[bU];rfl
  ·unfold A_ Cw;simp only[bU];exact DY λq _=>.int q.2.2
 ·refine .dct (by rw[mm ah (by simp)];exact W.ho) ?_ ?_
  ·have:=GJ W.hl
   have e:(lO (jU st.hours) cs).map (λq=>N5 q.1)=((lO (jU st.hours) cs).map (·.1)).map N5:=by rw[bU];rfl
   rw[e,this];unfold Ii;simp only[bU];rfl
  ·rw[GK W.hl]
   have e:((Ii st).map λq=>(aW q.1,q.2)).map (·.2)=(jU st.hours).map λq=>Hq (q.2.map pairD):=by
    unfold Ii;simp only[bU];rfl
   rw[e];exact Q8 W.hl λi c q e1 e2=>by
    obtain⟨xs,h1,h2⟩:=W.ce i c q e1 e2;exact .lst (rW.of (by rw[mm c (by simp[dw e1])];exact h1)) (h2.mono sm)
 ·exact .dct (kvs:=[]) (by rw[mm ap (by simp)];exact W.pa) rfl .nil
structure Mid(H H1:Hp)(p C dx:aN)(fs:List (Str×V))(os:List (aN×HO)):Prop where
 ins:H1 p=some (.ins C dx fs)
 ob:∀q∈os,H1 q.1=some q.2
 nd:(p::os.map (·.1)).Nodup
 fresh:∀q∈os,H q.1=none
 old:∀b o,H b=some o->b≠p->H1 b=some o
theorem Mid.step{H H1:Hp}{p C dx d:aN}{fs fs':List (Str×V)}{os:List (aN×HO)}{o:HO}(m:Mid H H1 p C dx fs os)(hd:H1 d=none):Mid H (upd (upd H1 d o) p (.ins C dx fs')) p C dx fs' (os ++ [(d,o)]):=by
 have hpd:d≠p:=λz=>by subst z;rw[m.ins]at hd;cases hd
 have hds:d∉os.map (·.1):=λz=>by
  obtain⟨q,hq,rfl⟩:=aR.mp z;rw[m.ob q hq]at hd;cases hd
 have hps:p∉os.map (·.1):=(lG.mp m.nd).1
 refine⟨cQ,λq hq=>?_,?_,λq hq=>?_,λb o' e hb=>?_⟩
 ·rcases dJ.mp hq with hq|hq
  ·have h1:q.1≠p:=λz=>hps (by rw[<-z];exact aR.mpr ⟨q,hq,rfl⟩)
   have h2:q.1≠d:=λz=>hds (by rw[<-z];exact aR.mpr ⟨q,hq,rfl⟩)
   rw[bf h1,bf h2];exact m.ob q hq
  ·rw[bW.mp hq,bf hpd];exact cQ
 ·rw[bO,<-List.cons_append,iJ]
  refine⟨m.nd,by simp,λx hx y hy=>?_⟩
  rw[vL,bW]at hy;subst hy;rcases aQ.mp hx with rfl|hx
  ·exact cH hpd
  ·exact λz=>hds (by rw[<-z];exact hx)
 ·rcases dJ.mp hq with hq|hq
  ·exact m.fresh q hq
  ·rw[bW.mp hq]
   cases e:H d with
   |none=>rfl
   |some o'=>have:=m.old d o' e hpd;rw[hd]at this;cases this
 ·have h2:b≠d:=λz=>by subst z;have:=m.old b o' e hb;rw[hd]at this;cases this
  rw[bf hb,bf h2];exact m.old b o' e hb
theorem uh{f:Str}{v:V}:∀{fs:List (Str×V)},f∉fs.map (·.1)->qW f v fs=fs ++ [(f,v)]
 | [],_=>rfl
 |(g,x)::fs,h=>by
  have h1:g≠f:=λz=>h (by rw[z];simp)
  show(if g=f then(g,v)::fs else(g,x)::qW f v fs)=_
  rw[if_neg h1,uh λz=>h (by simp[z])]
  rfl
abbrev J6:mj:=inClass (top 27) 0
def ZR(C:aN):Sp:=λvs H Q _=>∃p dx,vs=[.ref p]/\H p=some (.ins C dx [])/\∀ak ag al ad at_ ah ap H',Mid H H' p C dx (fsV ak ag al ad at_ ah ap) [(ak,.dK []),(ag,.lst []),(al,.dK []),(ad,.lst []),(at_,.dT []),(ah,.dK []),(ap,.dK [])]->Q .non H'
section
variable{P:bL}{w:dB}{K:ao}{mg:Str->Option aF}{base:dW}{f:aN}{k:Nat}
theorem zf2:eX ["self"] ["self"] (cP J6):=⟨rfl,rfl,rfl,by decide +kernel,rfl,by decide +kernel,by decide +kernel⟩
theorem ziV{C:aN}{fd:cU}(F:rP K "__init__" "Plant.__init__" J6 f fd)(cl:Cls K C)(na:∀f∈fsN,jG K C f):i_ P w K mg base qz 1 f fd ["self"] (ZR C):=by
 refine F.ok zf2 (λvs H Q E h=>?_) (λcdv A outer s H vs Q E hr h=>?_)
 ·obtain⟨p,dx,rfl,_⟩:=h
  rfl
 ·obtain⟨p,dx,rfl,hp,q⟩:=h
  refine⟨_,q_ (BX (pv 0) Dj rfl) (q_ (BX (pv 0) (Nx je) rfl) (q_ (BX (pv 0) Dj rfl) (q_ (BX (pv 0) (Nx je) rfl) (q_ (BX (pv 0) Yi rfl) (q_ (BX (pv 0) Dj rfl) (HJ (BX (pv 0) Dj rfl))))))),?_⟩
  have m0:Mid H H p C dx [] []:=⟨hp,λq hq=>(by cases hq),by simp,λq hq=>(by cases hq),λb o e _=>e⟩
  intro ak hak;have p1:(upd H ak (.dK [])) p=some (.ins C dx []):=by rw[bf (bV hp hak)];exact hp
  refine⟨_,rfl,p,C,dx,_,rfl,p1,cl,na _ (by decide +kernel),by show 0<1000;decide,?_⟩
  have e1:qW "kinds" (.ref ak) ([]:List (Str×V))=[(("kinds":Str),V.ref ak)]:=uh (show("kinds":Str)∉([]:List Str) by decide +kernel)
  have m1:=m0.step (o:=.dK []) (fs':=[(("kinds":Str),V.ref ak)]) hak;rw[e1];refine⟨cC _,λag hag=>?_⟩
  refine⟨_,rfl,p,C,dx,_,rfl,by rw[bf (bV m1.ins hag)];exact m1.ins,cl,na _ (by decide +kernel),by show 1<1000;decide,?_⟩
  have e2:qW "gates" (.ref ag) ([(("kinds":Str),V.ref ak)]:List (Str×V))=[(("kinds":Str),V.ref ak),("gates",V.ref ag)]:=uh (show("gates":Str)∉(["kinds"]:List Str) by decide +kernel)
  have m2:=m1.step (o:=.lst []) (fs':=[(("kinds":Str),V.ref ak),("gates",V.ref ag)]) hag;rw[e2];intro al hal;refine⟨_,rfl,p,C,dx,_,rfl,by rw[bf (bV m2.ins hal)];exact m2.ins,cl,na _ (by decide +kernel),by show 2<1000;decide,?_⟩
  have e3:qW "lines" (.ref al) ([(("kinds":Str),V.ref ak),("gates",V.ref ag)]:List (Str×V))=[(("kinds":Str),V.ref ak),("gates",V.ref ag),("lines",V.ref al)]:=uh (show("lines":Str)∉(["kinds","gates"]:List Str) by decide +kernel)
  have m3:=m2.step (o:=.dK []) (fs':=[(("kinds":Str),V.ref ak),("gates",V.ref ag),("lines",V.ref al)]) hal;rw[e3];refine⟨cC _,λad had=>?_⟩
  refine⟨_,rfl,p,C,dx,_,rfl,by rw[bf (bV m3.ins had)];exact m3.ins,cl,na _ (by decide +kernel),by show 3<1000;decide,?_⟩
  have e4:qW "desks" (.ref ad) ([(("kinds":Str),V.ref ak),("gates",V.ref ag),("lines",V.ref al)]:List (Str×V))=[(("kinds":Str),V.ref ak),("gates",V.ref ag),("lines",V.ref al),("desks",V.ref ad)]:=uh (show("desks":Str)∉(["kinds","gates","lines"]:List Str) by decide +kernel)
  have m4:=m3.step (o:=.lst []) (fs':=[(("kinds":Str),V.ref ak),("gates",V.ref ag),("lines",V.ref al),("desks",V.ref ad)]) had;rw[e4];intro at_ hat;refine⟨_,rfl,p,C,dx,_,rfl,by rw[bf (bV m4.ins hat)];exact m4.ins,cl,na _ (by decide +kernel),by show 4<1000;decide,?_⟩
  have e5:qW "times" (.ref at_) ([(("kinds":Str),V.ref ak),("gates",V.ref ag),("lines",V.ref al),("desks",V.ref ad)]:List (Str×V))=[(("kinds":Str),V.ref ak),("gates",V.ref ag),("lines",V.ref al),("desks",V.ref ad),("times",V.ref at_)]:=uh (show("times":Str)∉(["kinds","gates","lines","desks"]:List Str) by decide +kernel)
  have m5:=m4.step (o:=.dT []) (fs':=[(("kinds":Str),V.ref ak),("gates",V.ref ag),("lines",V.ref al),("desks",V.ref ad),("times",V.ref at_)]) hat;rw[e5];intro ah hah;refine⟨_,rfl,p,C,dx,_,rfl,by rw[bf (bV m5.ins hah)];exact m5.ins,cl,na _ (by decide +kernel),by show 5<1000;decide,?_⟩
  have e6:qW "hours" (.ref ah) ([(("kinds":Str),V.ref ak),("gates",V.ref ag),("lines",V.ref al),("desks",V.ref ad),("times",V.ref at_)]:List (Str×V))=[(("kinds":Str),V.ref ak),("gates",V.ref ag),("lines",V.ref al),("desks",V.ref ad),("times",V.ref at_),("hours",V.ref ah)]:=uh (show("hours":Str)∉(["kinds","gates","lines","desks","times"]:List Str) by decide +kernel)
  have m6:=m5.step (o:=.dK []) (fs':=[(("kinds":Str),V.ref ak),("gates",V.ref ag),("lines",V.ref al),("desks",V.ref ad),("times",V.ref at_),("hours",V.ref ah)]) hah;rw[e6];intro ap hap;refine⟨_,rfl,p,C,dx,_,rfl,by rw[bf (bV m6.ins hap)];exact m6.ins,cl,na _ (by decide +kernel),by show 6<1000;decide,?_⟩
  have e7:qW "paces" (.ref ap) ([(("kinds":Str),V.ref ak),("gates",V.ref ag),("lines",V.ref al),("desks",V.ref ad),("times",V.ref at_),("hours",V.ref ah)]:List (Str×V))=[(("kinds":Str),V.ref ak),("gates",V.ref ag),("lines",V.ref al),("desks",V.ref ad),("times",V.ref at_),("hours",V.ref ah),("paces",V.ref ap)]:=uh (show("paces":Str)∉(["kinds","gates","lines","desks","times","hours"]:List Str) by decide +kernel)
  have m7:=m6.step (o:=.dK []) (fs':=[(("kinds":Str),V.ref ak),("gates",V.ref ag),("lines",V.ref al),("desks",V.ref ad),("times",V.ref at_),("hours",V.ref ah),("paces",V.ref ap)]) hap;rw[e7];exact q ak ag al ad at_ ah ap _ m7
end
def Ad(p:Pl):Ent->Pl
 | .kind n k=>{ p with kinds:=p.kinds ++ [(n,k)] }
 | .gate n=>{ p with gates:=p.gates ++ [n] }
 | .line n r=>{ p with lines:=p.lines ++ [(n,r)] }
 | .desk d=>{ p with desks:=p.desks ++ [d] }
 | .time d k w=>{ p with times:=p.times ++ [(d,k,w)] }
 | .hour d a b=>{ p with hours:=p.hours ++ [(d,a,b)] }
def zcb(st:Pl)(d:aA)(st':Pl):Prop:=∃e,d=T4 e/\nU st/\Bv e/\J3 st e/\st'=Ad st e
theorem D_{κ:Type}[DecidableEq κ]:∀{kvs:List (κ×V)}{k:κ},(∀q∈kvs,q.1≠k)->oM kvs k=none
 | [],_,_=>rfl
 |q::l,k,h=>by rw[tW (h q aY)];exact D_ λx hx=>h x (bD _ hx)
theorem J7(z:Int×Int)(n:Str):∀{h:List (Str×List (Int×Int))}{cs:List aN},cs.length=h.length->
  (oM (lO h cs) (dN n)=none/\yX h n z=h ++ [(n,[z])])\/∃i c q,h[i]?=some q/\cs[i]?=some c/\oM (lO h cs) (dN n)=some (.ref c)/\yX h n z=h.set i (q.1,q.2 ++ [z])
 | [],[],_=>.inl ⟨rfl,rfl⟩
 | [],_::_,e=>by cases e
 |_::_,[],e=>by cases e
 |q::h,c::cs,e=>by
  have hv:lO (q::h) (c::cs)=(dN q.1,V.ref c)::lO h cs:=rfl;by_cases hn:q.1=n
  ·refine .inr ⟨0,c,q,rfl,rfl,?_,?_⟩
   ·rw[hv];exact wO (by show(dN q.1:Key)=dN n;rw[hn])
   ·show(if q.1=n then(q.1,q.2 ++ [z])::h else q::yX h n z)=_
    rw[if_pos hn];rfl
  ·have ne:¬(dN q.1:Key)=dN n:=λw=>hn (by injection w)
   have ea:yX (q::h) n z=q::yX h n z:=by
    show(if q.1=n then(q.1,q.2 ++ [z])::h else q::yX h n z)=_
    rw[if_neg hn]
   rcases J7 z n (h:=h) (cs:=cs) (by simpa using e) with⟨h1,h2⟩|⟨i,c',q',h1,h2,h3,h4⟩
   ·exact .inl ⟨by rw[hv,tW ne];exact h1,by rw[ea,h2];rfl⟩
   ·exact .inr ⟨i+1,c',q',by simpa using h1,by simpa using h2,by rw[hv,tW ne];exact h3,by rw[ea,h4];rfl⟩
theorem GP:∀{h h':List (Str×List (Int×Int))}{cs:List aN},h'.map (·.1)=h.map (·.1)->lO h' cs=lO h cs
 | [],[],_,_=>rfl
 | [],_::_,_,e=>by cases e
 |_::_,[],_,e=>by cases e
 |q::h,q'::h',cs,e=>by
  obtain⟨e1,e2⟩:=pZ e;cases cs with
  |nil=>rfl
  |cons c cs=>
   show(dN q'.1,V.ref c)::lO h' cs=(dN q.1,V.ref c)::lO h cs
   rw[show q'.1=q.1 from e1,GP e2]
theorem T_{h:List (Str×List (Int×Int))}{cs:List aN}(e:cs.length=h.length)(q:Str×List (Int×Int))(c:aN):lO (h ++ [q]) (cs ++ [c])=lO h cs ++ [(dN q.1,V.ref c)]:=by
 unfold lO;rw[List.zip_append (by omega),bO]
 rfl
theorem Ua(l:List (Str×Int×Int))(q:Str×Int×Int):jU (l ++ [q])=yX (jU l) q.1 q.2:=by
 unfold jU;rw[lA];rfl
theorem Q9(z:Int×Int)(n:Str):∀h,(yX h n z).length<=h.length+1
 | []=>aK _
 |q::h=>by
  show(if q.1=n then(q.1,q.2 ++ [z])::h else q::yX h n z).length<=_
  split
  ·simp
  ·have:=Q9 z n h
   simp only[bJ];omega
theorem Ub(l:List (Str×Int×Int)):(jU l).length<=l.length:=by
 have go:∀(l:List (Str×Int×Int))(acc:List (Str×List (Int×Int))),(l.foldl (λacc q=>yX acc q.1 q.2) acc).length<=acc.length+l.length:=by
  intro l
  induction l with
  |nil=>intro acc;exact aK _
  |cons q l ih=>
   intro acc;have h1:=ih (yX acc q.1 q.2);have h2:=Q9 q.2 q.1 acc;rw[uT,bJ];omega
 have:=go l [];rw[dM,G_]at this;exact this
theorem J8(z:Int×Int)(n:Str):∀(h:List (Str×List (Int×Int)))(b:Nat),(∀q∈h,q.2.length<=b)->∀q∈yX h n z,q.2.length<=b+1
 | [],b,_,q,hq=>by rw[bW.mp hq];simp
 |p::h,b,hb,q,hq=>by
  have hq:q∈(if p.1=n then(p.1,p.2 ++ [z])::h else p::yX h n z):=hq
  split at hq
  ·rcases aQ.mp hq with rfl|hq
   ·have:=hb p aY
    rw[bK];simp;omega
   ·have:=hb q (bD _ hq);omega
  ·rcases aQ.mp hq with rfl|hq
   ·have:=hb q aY;omega
   ·exact J8 z n h b (λx hx=>hb x (bD _ hx)) q hq
theorem Q_(l:List (Str×Int×Int)):∀q∈jU l,q.2.length<=l.length:=by
 have go:∀(l:List (Str×Int×Int))(acc:List (Str×List (Int×Int)))(b:Nat),(∀q∈acc,q.2.length<=b)->∀q∈l.foldl (λacc q=>yX acc q.1 q.2) acc,q.2.length<=b+l.length:=by
  intro l
  induction l with
  |nil=>intro acc b hb q hq;exact hb q hq
  |cons q0 l ih=>
   intro acc b hb q hq;have:=ih (yX acc q0.1 q0.2) (b+1) (J8 q0.2 q0.1 acc b hb) q hq;rw[bJ];omega
 intro q hq;have:=go l [] 0 (λq hq=>by cases hq) q hq
 omega
section
variable{P:bL}{w:dB}{K:ao}{mg:Str->Option aF}{base:dW}{f:aN}{k:Nat}
abbrev Nae:List Str:=["plant","entry","form","name"]
theorem zcc:eX Nae Q7 (cP (top 44)):=⟨rfl,rfl,rfl,by decide +kernel,rfl,by decide +kernel,by decide +kernel⟩
theorem zf3{ak ag al ad at_ ah ap:aN}:(fsV ak ag al ad at_ ah ap).lookup ("kinds":Str)=some (.ref ak)/\(fsV ak ag al ad at_ ah ap).lookup ("gates":Str)=some (.ref ag)/\(fsV ak ag al ad at_ ah ap).lookup ("lines":Str)=some (.ref al)/\(fsV ak ag al ad at_ ah ap).lookup ("desks":Str)=some (.ref ad)/\(fsV ak ag al ad at_ ah ap).lookup ("times":Str)=some (.ref at_)/\(fsV ak ag al ad at_ ah ap).lookup ("hours":Str)=some (.ref ah):=⟨rfl,rfl,rfl,rfl,rfl,rfl⟩
theorem ziX{fd:cU}(F:rP K "add_entry" "add_entry" (top 44) f fd):i_ P w K mg base qz 1 f fd Q7 (Y7 K Pl (OD K) zcb):=by
 refine F.ok zcc (λvs H Q E h=>?_) (λcdv A outer s H vs Q E hr h=>?_)
 ·obtain⟨_,_,_,_,_,_,_,rfl,_⟩:=h
  rfl
 ·obtain⟨H0,p,v,as,st,st',d,rfl,sm,rv,own,W0,⟨e,rfl,ok,oe,oa,rfl⟩,q⟩:=h
  refine⟨_,tY,?_⟩
  have nd:Nae.Nodup:=zcc.nd;have f0:kj K H0 H H0 H (start Nae [.ref p,v]) [.ref p,.val (T4 e),.un,.un]:=by
   refine⟨.refl sm,rfl,λi sl hi=>?_,λi j a b p' _ h1=>?_⟩
   ·match i,hi with
    |0,hi=>cases hi;exact rfl
    |1,hi=>cases hi;exact⟨v,rfl,rv⟩
    |2,hi=>cases hi;exact trivial
    |3,hi=>cases hi;exact trivial
    |i+4,hi=>simp at hi
   ·match i,h1 with
    |0,h1=>cases h1
    |1,h1=>cases h1
    |2,h1=>cases h1
    |3,h1=>cases h1
    |i+4,h1=>simp at h1
  refine gk (Fx f0 (dU 2 (d:=.str e.form) (cY (aj 1 rfl) aH (Bb e)) nd) λσ1 H1 gY s1 f1=>?_)
  refine gk (Fx f1 (dU 3 (d:=.str e.name) (cY (aj 1 rfl) aH (VL e)) nd) λσ2 H2 nA s2 f2=>?_)
  have W2:=OD.mono _ _ _ _ _ W0 f2.ent.j9 (λa ha=>f2.ent.big.eq (own a ha).2)
  obtain⟨C,dx,ak,ag,al,ad,at_,ah,ap,cs,xd,rfl,nda,W⟩:=W2;have o2:∀a∈p::ak::ag::al::ad::at_::ah::ap::cs,∃o,H a=some o/\H0 a=none:=λa ha=>by
   obtain⟨z1,z2⟩:=own a ha;cases e:H a with
   |none=>exact absurd e z2
   |some o=>exact⟨o,rfl,z1⟩
  have zf4:=nda;simp only[lG,aQ,not_or]at zf4;obtain⟨⟨pk,pg,pl,pd,pt,ph,pp,pc⟩,⟨kg,kl,kd,kt,kh,kp,kc⟩,⟨gl,gd,gt,gh,gp,gc⟩,⟨ld,lt,lh,lp,lc⟩,⟨dt,dh,dp,dc⟩,⟨th,tp,tc⟩,⟨hp,hc⟩,apc,ncs⟩:=zf4;have fin:∀(Ha Hb:Hp)(a:aN)(o:HO),gR H0 H Ha Hb->a∈p::ak::ag::al::ad::at_::ah::ap::cs->(∀xd',xd'=xd->OD K p (Ad st e) Ha (upd Hb a o) (p::ak::ag::al::ad::at_::ah::ap::cs))->Q .non (upd Hb a o):=λHa Hb a o g ha hW=>by
   have fr:∀b∈p::ak::ag::al::ad::at_::ah::ap::cs,Ha b=none/\Hb b≠none:=λb hb=>by
    obtain⟨ob,e1,e2⟩:=o2 b hb;exact⟨g.still e2 e1,by rw[g.big _ _ e1];simp⟩
   refine q Ha (upd Hb a o) _ g.j9 (λb u e=>?_) g.new (λb hb=>⟨(fr b hb).1,?_,.inl hb⟩) (λb u e hb=>?_) (hW xd rfl)
   ·rw[bf (bV e (fr a ha).1)];exact g.sub b u e
   ·by_cases hba:b=a
    ·subst hba;rw[cQ];simp
    ·rw[bf hba];exact(fr b hb).2
   ·rw[bf (λz=>hb (by rw[z];exact ha))];exact g.big b u e
  have Wg:∀Ha Hb,gR H2 nA Ha Hb->PlW K p st Ha Hb C dx ak ag al ad at_ ah ap cs xd:=λHa Hb g=>by
   have M:=OD.mono (K:=K) (p:=p) (st:=st) H2 nA Ha Hb (p::ak::ag::al::ad::at_::ah::ap::cs) ⟨C,dx,ak,ag,al,ad,at_,ah,ap,cs,xd,rfl,nda,W⟩ g.j9 (λa ha=>by
    obtain⟨o,e1,_⟩:=o2 a ha;exact g.big.eq (by rw[f2.ent.big _ _ e1];simp))
   exact⟨g.big _ _ W.ins,W.cls,W.Bj,g.big _ _ W.ki,g.big _ _ W.ga,g.big _ _ W.li,g.big _ _ W.de,W.dr.mono g.j9,g.big _ _ W.ti,g.big _ _ W.ho,W.hl,g.big _ _ W.pa,λi c q e1 e2=>by
    obtain⟨xs,h1,h2⟩:=W.ce i c q e1 e2;exact⟨xs,g.big _ _ h1,h2.mono g.j9⟩⟩
  obtain⟨lk1,lk2,lk3,lk4,lk5,lk6⟩:=zf3 (ak:=ak) (ag:=ag) (al:=al) (ad:=ad) (at_:=at_) (ah:=ah) (ap:=ap);have lf:=bZ (n:=20) (gJ e);cases e with
  |kind m kk=>
   refine gU (JD f2 (VT.to (c7 hr lf bC (aj 2 rfl) aU) (nW _)) λHa Hb g=>?_)
   have Wa:=Wg Ha Hb g;have hz:(Cu st).length<sizeLine:=oN (by unfold Cu;rw[aq];have:=ok.kn;omega)
   refine gU (zbR (f2.grow g) hr 0 rfl Wa.ins Wa.cls (Wa.Bj _ (by decide +kernel)) lk1 Wa.ki (aj 3 rfl) (cY (aj 1 rfl) aH (cu (j:=2) rfl)) hz λv Hc Hd g2 r=>?_)
   have Wd:=Wg Hc Hd (g.trans g2);have hv:=Rep.zbq r;subst hv;refine fin Hc Hd ak _ (f2.ent.trans (g.trans g2)) (by simp) λ_ _=>⟨C,dx,ak,ag,al,ad,at_,ah,ap,cs,xd,rfl,nda,?_⟩
   have hn:oM (Cu st) (dN m)=none:=D_ λq' hq'=>by
    obtain⟨q0,h0,rfl⟩:=aR.mp hq';intro z
    injection z with z
    exact oa (by rw[<-z];exact aR.mpr ⟨q0,h0,rfl⟩)
   refine⟨by rw[bf pk];exact Wd.ins,Wd.cls,Wd.Bj,?_,by rw[bf (cH kg)];exact Wd.ga,by rw[bf (cH kl)];exact Wd.li,by rw[bf (cH kd)];exact Wd.de,Wd.dr,by rw[bf (cH kt)];exact Wd.ti,by rw[bf (cH kh)];exact Wd.ho,Wd.hl,by rw[bf (cH kp)];exact Wd.pa,λi c q' e1 e2=>?_⟩
   ·rw[cQ]
    show some (HO.dK (putK (Cu st) (dN m) (zbp kk)))=some (.dK ((st.kinds ++ [(m,kk)]).map _));rw[Di _ hn,bO];rfl
   ·obtain⟨xs,h1,h2⟩:=Wd.ce i c q' e1 e2
    exact⟨xs,by rw[bf (λz=>kc (by rw[<-z];exact dw e1))];exact h1,h2⟩
  |gate m=>
   refine gU (uH f2 (VT.to (c7 hr lf bC (aj 2 rfl) aU) (kZ (show("gate":Str)≠"kind" by decide +kernel))) λHa1 Hb1 g1=>?_)
   have VR:=f2.grow g1;have gg1:=g1;refine gU (JD VR (VT.to (c7 hr lf bC (aj 2 rfl) aU) (nW _)) λHa2 Hb2 g2=>?_)
   have Xg:=VR.grow g2;have ZS:=gg1.trans g2;have Wa:=Wg Ha2 Hb2 ZS;have hz:(st.gates.map V.str).length<sizeLine:=oN (by rw[aq];have:=ok.gn;omega)
   refine gU (Qs Xg 0 rfl Wa.ins Wa.cls (Wa.Bj _ (by decide +kernel)) lk2 Wa.ga (aj 3 rfl) hz λv Hc Hd g9 r=>?_)
   have Wd:=Wg Hc Hd (ZS.trans g9);cases r;refine fin Hc Hd ag _ (f2.ent.trans (ZS.trans g9)) (by simp) λ_ _=>⟨C,dx,ak,ag,al,ad,at_,ah,ap,cs,xd,rfl,nda,?_⟩
   refine⟨by rw[bf (pg)];exact Wd.ins,Wd.cls,Wd.Bj,by rw[bf (kg)];exact Wd.ki,?_,by rw[bf (cH gl)];exact Wd.li,by rw[bf (cH gd)];exact Wd.de,Wd.dr,by rw[bf (cH gt)];exact Wd.ti,by rw[bf (cH gh)];exact Wd.ho,Wd.hl,by rw[bf (cH gp)];exact Wd.pa,λi c q' e1 e2=>?_⟩
   ·rw[cQ]
    show some (HO.lst (st.gates.map V.str ++ [V.str m]))=some (.lst ((st.gates ++ [m]).map V.str));rw[bO];rfl
   ·obtain⟨xs,h1,h2⟩:=Wd.ce i c q' e1 e2
    exact⟨xs,by rw[bf (λz=>gc (by rw[<-z];exact dw e1))];exact h1,h2⟩
  |line m rr=>
   refine gU (uH f2 (VT.to (c7 hr lf bC (aj 2 rfl) aU) (kZ (show("line":Str)≠"kind" by decide +kernel))) λHa1 Hb1 g1=>?_)
   have VR:=f2.grow g1;have gg1:=g1;refine gU (uH VR (VT.to (c7 hr lf bC (aj 2 rfl) aU) (kZ (show("line":Str)≠"gate" by decide +kernel))) λHa2 Hb2 g2=>?_)
   have Xg:=VR.grow g2;have ZS:=gg1.trans g2;refine gU (JD Xg (VT.to (c7 hr lf bC (aj 2 rfl) aU) (nW _)) λHa3 Hb3 g3=>?_)
   have ff3:=Xg.grow g3;have gg3:=ZS.trans g3;have Wa:=Wg Ha3 Hb3 gg3;have hz:(Cv st).length<sizeLine:=oN (by unfold Cv;rw[aq];have:=ok.ln;omega)
   refine gU (zbR ff3 hr 0 rfl Wa.ins Wa.cls (Wa.Bj _ (by decide +kernel)) lk3 Wa.li (aj 3 rfl) (cY (aj 1 rfl) aH (cu (j:=2) rfl)) hz λv Hc Hd g9 r=>?_)
   have Wd:=Wg Hc Hd (gg3.trans g9);cases r;refine fin Hc Hd al _ (f2.ent.trans (gg3.trans g9)) (by simp) λ_ _=>⟨C,dx,ak,ag,al,ad,at_,ah,ap,cs,xd,rfl,nda,?_⟩
   have hn:oM (Cv st) (dN m)=none:=D_ λq' hq'=>by
    obtain⟨q0,h0,rfl⟩:=aR.mp hq';intro z
    injection z with z
    exact oa (.inr (by rw[<-z];exact aR.mpr ⟨q0,h0,rfl⟩))
   refine⟨by rw[bf (pl)];exact Wd.ins,Wd.cls,Wd.Bj,by rw[bf (kl)];exact Wd.ki,by rw[bf (gl)];exact Wd.ga,?_,by rw[bf (cH ld)];exact Wd.de,Wd.dr,by rw[bf (cH lt)];exact Wd.ti,by rw[bf (cH lh)];exact Wd.ho,Wd.hl,by rw[bf (cH lp)];exact Wd.pa,λi c q' e1 e2=>?_⟩
   ·rw[cQ]
    show some (HO.dK (putK (Cv st) (dN m) (V.int rr)))=some (.dK ((st.lines ++ [(m,rr)]).map _));rw[Di _ hn,bO];rfl
   ·obtain⟨xs,h1,h2⟩:=Wd.ce i c q' e1 e2
    exact⟨xs,by rw[bf (λz=>lc (by rw[<-z];exact dw e1))];exact h1,h2⟩
  |desk q0=>
   refine gU (uH f2 (VT.to (c7 hr lf bC (aj 2 rfl) aU) (kZ (show("desk":Str)≠"kind" by decide +kernel))) λHa1 Hb1 g1=>?_)
   have VR:=f2.grow g1;have gg1:=g1;refine gU (uH VR (VT.to (c7 hr lf bC (aj 2 rfl) aU) (kZ (show("desk":Str)≠"gate" by decide +kernel))) λHa2 Hb2 g2=>?_)
   have Xg:=VR.grow g2;have ZS:=gg1.trans g2;refine gU (uH Xg (VT.to (c7 hr lf bC (aj 2 rfl) aU) (kZ (show("desk":Str)≠"line" by decide +kernel))) λHa3 Hb3 g3=>?_)
   have ff3:=Xg.grow g3;have gg3:=ZS.trans g3;refine gU (JD ff3 (VT.to (c7 hr lf bC (aj 2 rfl) aU) (nW _)) λHa4 Hb4 g4=>?_)
   have ff4:=ff3.grow g4;have gg4:=gg3.trans g4;have Wa:=Wg Ha4 Hb4 gg4;have hxl:=Wa.dr.length;rw[aq]at hxl;have hz:xd.length<sizeLine:=oN (by have:=ok.dn;omega)
   have ZD:L2.cutD (aW "desk"::Ent.rest (.desk q0)) (some 1) none=Ent.rest (.desk q0):=(ud (aW "desk"::Ent.rest (.desk q0)) 1).trans rfl;refine gU (Qs (d:=jP q0) ff4 0 rfl Wa.ins Wa.cls (Wa.Bj _ (by decide +kernel)) lk4 Wa.de (VE.to (Fo (aj 1 rfl) (.yes aH) .no ?_) (by show jZ (L2.cutD (aW "desk"::Ent.rest (.desk q0)) (some 1) none)=_;rw[ZD];rfl)) hz λv Hc Hd g9 r=>?_)
   ·intro z
    have:=z.1;rw[show(1:Int)=((1:Nat):Int)from rfl,HT.uK]at this
    exact absurd this (by show ¬(min 1 5=0);decide)
   have Wd:=Wg Hc Hd (gg4.trans g9);refine fin Hc Hd ad _ (f2.ent.trans (gg4.trans g9)) (by simp) λ_ _=>⟨C,dx,ak,ag,al,ad,at_,ah,ap,cs,xd ++ [v],rfl,nda,?_⟩
   refine⟨by rw[bf (pd)];exact Wd.ins,Wd.cls,Wd.Bj,by rw[bf (kd)];exact Wd.ki,by rw[bf (gd)];exact Wd.ga,by rw[bf (ld)];exact Wd.li,cQ,?_,by rw[bf (cH dt)];exact Wd.ti,by rw[bf (cH dh)];exact Wd.ho,Wd.hl,by rw[bf (cH dp)];exact Wd.pa,λi c q' e1 e2=>?_⟩
   ·show fX K Hc (xd ++ [v]) ((st.desks ++ [q0]).map jP)
    rw[bO];exact Wd.dr.append (.cons r .nil)
   ·obtain⟨xs,h1,h2⟩:=Wd.ce i c q' e1 e2
    exact⟨xs,by rw[bf (λz=>dc (by rw[<-z];exact dw e1))];exact h1,h2⟩
  |time dk kd2 wk=>
   refine gU (uH f2 (VT.to (c7 hr lf bC (aj 2 rfl) aU) (kZ (show("time":Str)≠"kind" by decide +kernel))) λHa1 Hb1 g1=>?_)
   have VR:=f2.grow g1;have gg1:=g1;refine gU (uH VR (VT.to (c7 hr lf bC (aj 2 rfl) aU) (kZ (show("time":Str)≠"gate" by decide +kernel))) λHa2 Hb2 g2=>?_)
   have Xg:=VR.grow g2;have ZS:=gg1.trans g2;refine gU (uH Xg (VT.to (c7 hr lf bC (aj 2 rfl) aU) (kZ (show("time":Str)≠"line" by decide +kernel))) λHa3 Hb3 g3=>?_)
   have ff3:=Xg.grow g3;have gg3:=ZS.trans g3;refine gU (uH ff3 (VT.to (c7 hr lf bC (aj 2 rfl) aU) (kZ (show("time":Str)≠"desk" by decide +kernel))) λHa4 Hb4 g4=>?_)
   have ff4:=ff3.grow g4;have gg4:=gg3.trans g4;refine gU (JD ff4 (VT.to (c7 hr lf bC (aj 2 rfl) aU) (nW _)) λHa5 Hb5 g5=>?_)
   have ff5:=ff4.grow g5;have gg5:=gg4.trans g5;have Wa:=Wg Ha5 Hb5 gg5;have hz:(Cw st).length<sizeLine:=oN (by unfold Cw;rw[aq];have:=ok.tn;omega)
   refine gU (zdi ff5 hr 0 rfl Wa.ins Wa.cls (Wa.Bj _ (by decide +kernel)) lk5 Wa.ti (aj 3 rfl) (cY (aj 1 rfl) aH (cu (j:=2) rfl)) (cY (aj 1 rfl) aH (cu (j:=3) rfl)) hz λv t Hc Hd g9 ht r=>?_)
   have gt9:gR H2 nA Hc (upd Hd t (.tup [.str dk,.str kd2])):=(gg5.trans g9).trans (.loose g9.sub ht);have Wd:=Wg Hc _ gt9;cases r;refine fin Hc _ at_ _ (f2.ent.trans gt9) (by simp) λ_ _=>⟨C,dx,ak,ag,al,ad,at_,ah,ap,cs,xd,rfl,nda,?_⟩
   have hn:oM (Cw st) (Fq (dk,kd2))=none:=D_ λq' hq'=>by
    obtain⟨q0,h0,rfl⟩:=aR.mp hq';intro z;have:=Qn z;exact oa.1 (by rw[<-this];exact aR.mpr ⟨q0,h0,rfl⟩)
   refine⟨by rw[bf (pt)];exact Wd.ins,Wd.cls,Wd.Bj,by rw[bf (kt)];exact Wd.ki,by rw[bf (gt)];exact Wd.ga,by rw[bf (lt)];exact Wd.li,by rw[bf (dt)];exact Wd.de,Wd.dr,?_,by rw[bf (cH th)];exact Wd.ho,Wd.hl,by rw[bf (cH tp)];exact Wd.pa,λi c q' e1 e2=>?_⟩
   ·rw[cQ]
    show some (HO.dT (putK (Cw st) (Fq (dk,kd2)) (V.int wk)))=some (.dT ((st.times ++ [(dk,kd2,wk)]).map _));rw[Di _ hn,bO];rfl
   ·obtain⟨xs,h1,h2⟩:=Wd.ce i c q' e1 e2
    exact⟨xs,by rw[bf (λz=>tc (by rw[<-z];exact dw e1))];exact h1,h2⟩
  |hour dk ha hb=>
   refine gU (uH f2 (VT.to (c7 hr lf bC (aj 2 rfl) aU) (kZ (show("open":Str)≠"kind" by decide +kernel))) λHa1 Hb1 g1=>?_)
   have VR:=f2.grow g1;have gg1:=g1;refine gU (uH VR (VT.to (c7 hr lf bC (aj 2 rfl) aU) (kZ (show("open":Str)≠"gate" by decide +kernel))) λHa2 Hb2 g2=>?_)
   have Xg:=VR.grow g2;have ZS:=gg1.trans g2;refine gU (uH Xg (VT.to (c7 hr lf bC (aj 2 rfl) aU) (kZ (show("open":Str)≠"line" by decide +kernel))) λHa3 Hb3 g3=>?_)
   have ff3:=Xg.grow g3;have gg3:=ZS.trans g3;refine gU (uH ff3 (VT.to (c7 hr lf bC (aj 2 rfl) aU) (kZ (show("open":Str)≠"desk" by decide +kernel))) λHa4 Hb4 g4=>?_)
   have ff4:=ff3.grow g4;have gg4:=gg3.trans g4;refine gU (uH ff4 (VT.to (c7 hr lf bC (aj 2 rfl) aU) (kZ (show("open":Str)≠"time" by decide +kernel))) λHa5 Hb5 g5=>?_)
   have ff5:=ff4.grow g5;have gg5:=gg4.trans g5;refine gU (JD ff5 (VT.to (c7 hr lf bC (aj 2 rfl) aU) (nW _)) λHa6 Hb6 g6=>?_)
   have ff6:=ff5.grow g6;have gg6:=gg5.trans g6;have Wa:=Wg Ha6 Hb6 gg6;have hll:=Ub st.hours;have hcl:=Q_ st.hours;have okh:=ok.hn;have hz:(lO (jU st.hours) cs).length<sizeLine:=oN (by unfold lO;rw[aq,List.length_zip];omega)
   have ZD:L2.cutD (aW "open"::Ent.rest (.hour dk ha hb)) (some 2) none=[.int ha,.int hb]:=(ud (aW "open"::Ent.rest (.hour dk ha hb)) 2).trans rfl;have ha0:Ha6 ah=none:=by
    obtain⟨o,e1,e2⟩:=o2 ah (by simp)
    exact(f2.ent.trans gg6).still e2 e1
   have hnew:jU (st.hours ++ [(dk,ha,hb)])=yX (jU st.hours) dk (ha,hb):=Ua _ _;have hfind:=J7 (ha,hb) dk W.hl;refine gU (Y9 (d:=pairD (ha,hb)) ff6 0 rfl Wa.ins Wa.cls (Wa.Bj _ (by decide +kernel)) lk6 Wa.ho (aj 3 rfl) (VE.to (Fo (aj 1 rfl) (.yes aH) .no ?_) (by show jZ (L2.cutD (aW "open"::Ent.rest (.hour dk ha hb)) (some 2) none)=_;rw[ZD];rfl)) hz rfl ha0 (λv hv=>?_) (λc xs v t Hc Hd hv1 hcc htt g9 ht0 r=>?_) (λv c Hc Hd hv1 hcn s9 s10 nw old hda hdc hc0 ha9 r=>?_))
   ·intro z
    have:=z.1;rw[show(2:Int)=((2:Nat):Int)from rfl,HT.uK]at this
    exact absurd this (by show ¬(min 2 4=0);decide)
   ·rcases hfind with⟨h1,_⟩|⟨i,c,q',h1,h2,h3,h4⟩
    ·have hv:oM (lO (jU st.hours) cs) (dN dk)=some v:=hv
     rw[h1]at hv;cases hv
    ·have hv:some v=some (V.ref c):=hv.symm.trans h3
     cases hv;obtain⟨xs,x1,x2⟩:=Wa.ce i c q' h2 h1;refine⟨c,xs,rfl,x1,oN ?_⟩
     have:=x2.length;rw[aq]at this;have:=hcl q' (dw h1);omega
   ·rcases hfind with⟨h1,_⟩|⟨i,c',q',h1,h2,h3,h4⟩
    ·have hv1:oM (lO (jU st.hours) cs) (dN dk)=some (V.ref c):=hv1
     rw[h1]at hv1;cases hv1
    ·have hv1:some (V.ref c')=some (V.ref c):=h3.symm.trans hv1
     cases hv1;have Wd:=Wg Hc Hd (gg6.trans g9);have hcs:c∈cs:=dw h2;obtain⟨xs',x1,x2⟩:=Wd.ce i c q' h2 h1;have ex:xs'=xs:=by
      have:=g9.big _ _ hcc;rw[this]at x1;cases x1;rfl
     subst ex;have hil:i<(jU st.hours).length:=(aV.mp h1).1;have Uc:jU (Ad st (.hour dk ha hb)).hours=(jU st.hours).set i (q'.1,q'.2 ++ [(ha,hb)]):=by
      show jU (st.hours ++ [(dk,ha,hb)])=_;rw[hnew,h4]
     refine fin Hc Hd c _ (f2.ent.trans (gg6.trans g9)) (by simp[hcs]) λ_ _=>⟨C,dx,ak,ag,al,ad,at_,ah,ap,cs,xd,rfl,nda,?_⟩
     have nc:∀x,x∉cs->x≠c:=λx hx z=>hx (by rw[z];exact hcs)
     refine⟨by rw[bf (nc _ pc)];exact Wd.ins,Wd.cls,Wd.Bj,by rw[bf (nc _ kc)];exact Wd.ki,by rw[bf (nc _ gc)];exact Wd.ga,by rw[bf (nc _ lc)];exact Wd.li,by rw[bf (nc _ dc)];exact Wd.de,Wd.dr,by rw[bf (nc _ tc)];exact Wd.ti,?_,?_,by rw[bf (nc _ apc)];exact Wd.pa,λj c2 q2 e1 e2=>?_⟩
     ·rw[bf (nc _ hc),Wd.ho,Uc]
      congr 2
      refine(GP ?_).symm
      rw[RB];refine su λn=>?_
      by_cases hn:n=i
      ·subst hn;rw[bF (by rw[aq];exact hil),bh,h1];rfl
      ·rw[bB (cH hn)]
     ·rw[Uc,uR];exact Wd.hl
     ·rw[Uc]at e2
      by_cases hj:j=i
      ·subst hj
       rw[h2]at e1;cases e1;rw[bF hil]at e2;cases e2;refine⟨xs' ++ [v],cQ,?_⟩
       show fX K Hc (xs' ++ [v]) ((q'.2 ++ [(ha,hb)]).map pairD);rw[bO];exact x2.append (.cons r .nil)
      ·rw[bB (cH hj)]at e2
       obtain⟨ys,y1,y2⟩:=Wd.ce j c2 q2 e1 e2;have hne:c2≠c:=λz=>by
        subst z;have l1:=aV.mp e1;have l2:=aV.mp h2;obtain⟨l1a,l1b⟩:=l1;obtain⟨l2a,l2b⟩:=l2;rcases Nat.lt_or_gt_of_ne hj with hlt|hlt
        ·exact wI.mp ncs j i l1a l2a hlt (by rw[l1b,l2b])
        ·exact wI.mp ncs i j l2a l1a hlt (by rw[l1b,l2b])
       exact⟨ys,by rw[bf hne];exact y1,y2⟩
   ·rcases hfind with⟨h1,h4⟩|⟨i,c',q',h1,h2,h3,h4⟩
    ·have gH:=f2.ent.trans gg6
     have hcH:H c=none:=gH.big.free hcn;have zbv:c∉p::ak::ag::al::ad::at_::ah::ap::cs:=λz=>by
      obtain⟨o,e1,_⟩:=o2 c z;rw[hcH]at e1;cases e1
     have Uc:jU (Ad st (.hour dk ha hb)).hours=jU st.hours ++ [(dk,[(ha,hb)])]:=by
      show jU (st.hours ++ [(dk,ha,hb)])=_;rw[hnew,h4]
     have zi2:∀x∈p::ak::ag::al::ad::at_::ah::ap::cs,Hc x=none:=λx hx=>by
      obtain⟨o,e1,e2⟩:=o2 x hx;have:Ha6 x=none:=gH.still e2 e1;cases e:Hc x with
      |none=>rfl
      |some u=>
       rcases nw x (by rw[e];simp)with z|z
       ·exact absurd this z
       ·rw[gH.big _ _ e1]at z;cases z
     have hbx:∀x∈p::ak::ag::al::ad::at_::ah::ap::cs,x≠ah->∀u,Hb6 x=some u->(upd Hd c (.lst [v])) x=some u:=λx hx hxa u e=>by
      rw[bf (λz=>zbv (by rw[<-z];exact hx))];exact old x u e hxa
     refine q Hc (upd Hd c (.lst [v])) (p::ak::ag::al::ad::at_::ah::ap::(cs ++ [c])) (gH.j9.trans s9) (λb u e=>?_) (λb z=>?_) (λx hx=>?_) (λb u e hb'=>?_) ⟨C,dx,ak,ag,al,ad,at_,ah,ap,cs ++ [c],xd,rfl,?_,?_⟩
     ·rw[bf (bV e hc0)];exact s10 b u e
     ·rcases nw b z with z|z
      ·exact gH.new b z
      ·exact .inr (gH.big.free z)
     ·have hx:x∈(p::ak::ag::al::ad::at_::ah::ap::cs) ++ [c]:=by simpa using hx
      rcases dJ.mp hx with hx|hx
      ·refine⟨zi2 x hx,?_,.inl hx⟩
       rw[bf (λz=>zbv (by rw[<-z];exact hx))]
       obtain⟨o,e1,_⟩:=o2 x hx;by_cases hxa:x=ah
       ·rw[hxa,hda];simp
       ·rw[old x o (gH.big _ _ e1) hxa];simp
      ·rw[bW.mp hx]
       exact⟨hc0,by rw[cQ];simp,.inr hcH⟩
     ·have hbc:b≠c:=λz=>by rw[z,hcH]at e;cases e
      rw[bf hbc];exact old b u (gH.big _ _ e) (λz=>hb' (by rw[z];simp))
     ·have:(p::ak::ag::al::ad::at_::ah::ap::(cs ++ [c]))=(p::ak::ag::al::ad::at_::ah::ap::cs) ++ [c]:=by simp
      rw[this,iJ];exact⟨nda,by simp,λx hx y hy z=>zbv (by rw[<-bW.mp hy,<-z];exact hx)⟩
     ·refine⟨hbx p (by simp) ph _ Wa.ins,Wa.cls,Wa.Bj,hbx ak (by simp) kh _ Wa.ki,hbx ag (by simp) gh _ Wa.ga,hbx al (by simp) lh _ Wa.li,hbx ad (by simp) dh _ Wa.de,Wa.dr.mono s9,hbx at_ (by simp) th _ Wa.ti,?_,?_,hbx ap (by simp) (cH hp) _ Wa.pa,λj c2 q2 e1 e2=>?_⟩
      ·have hda:Hd ah=some (.dK (putK (lO (jU st.hours) cs) (dN dk) (.ref c))):=hda
       rw[bf (λz=>zbv (by rw[<-z];simp)),hda,Uc,Di _ h1,T_ W.hl]
      ·rw[Uc,bK,bK,W.hl];rfl
      ·rw[Uc]at e2
       by_cases hj:j<cs.length
       ·rw[fu hj]at e1
        rw[fu (by rw[<-W.hl];exact hj)]at e2
        obtain⟨ys,y1,y2⟩:=Wa.ce j c2 q2 e1 e2;have hm:c2∈cs:=dw e1;exact⟨ys,hbx c2 (by simp[hm]) (λz=>hc (by rw[<-z];exact hm)) _ y1,y2.mono s9⟩
       ·have hl:=W.hl
        have hj2:j=cs.length:=by
         have:=(aV.mp e1).1;rw[bK,tU]at this;omega
        subst hj2;rw[eU (aK _),Nat.sub_self]at e1;rw[eU (by omega),show cs.length-(jU st.hours).length=0 from by omega]at e2
        cases e1;cases e2;exact⟨[v],cQ,.cons r .nil⟩
    ·have hv1:oM (lO (jU st.hours) cs) (dN dk)=none:=hv1
     rw[h3]at hv1;cases hv1
end
def Ud:Pl:=⟨[],[],[],[],[],[]⟩
def FT(es:List Ent)(i:Nat):Pl:=(es.take i).foldl Ad Ud
theorem Xh{es:List Ent}{i:Nat}{e:Ent}(h:es[i]?=some e):FT es (i+1)=Ad (FT es i) e:=by
 unfold FT;rw[gP,h,lA];rfl
theorem ZV(es:List Ent):FT es es.length=es.foldl Ad Ud:=by unfold FT;rw[lX]
structure zga(es:List Ent):Prop where
 ent:∀e∈es,Bv e
 pl:∀i,i<=es.length->nU (FT es i)
 add:∀(i:Nat)e,es[i]?=some e->J3 (FT es i) e
section
variable{P:bL}{w:dB}{K:ao}{mg:Str->Option aF}{base:dW}{f:aN}{k:Nat}
structure PlC(P:bL)(w:dB)(K:ao)(mg:Str->Option aF)(base:dW):Prop where
 ex:∃C fi fd,mg "Plant"=some (.ref C)/\Cls K C/\(∀f∈fsN,jG K C f)/\Mk K C fi/\i_ P w K mg base qz 1 fi fd ["self"] (ZR C)/\Binds K fd ["self"] []
abbrev Nrp:List Str:=["text","plant","number","words","entry","word"]
theorem zcd:eX Nrp ["text"] (cP (top 28)):=⟨rfl,rfl,rfl,by decide +kernel,rfl,by decide +kernel,by decide +kernel⟩
def Rrp(ds:List aA)(d:aA):Prop:=∃(x:Str)(es:List Ent),ds=[.str x]/\Gw x/\(rowsOf x).map (·.2)=es.map T5/\zga es/\d=pJ (es.foldl Ad Ud)
theorem zi3{fd:cU}(F:rP K "read_plant" "read_plant" (top 28) f fd)(n:Np mg w.params K)(T:PlC P w K mg base)(C1:cG P w K mg base 2 "rows_of" ["text"] (LK K Rro))(C2:cG P w K mg base 8 "entry_of" ["words"] (mX K Reo))(C3:cG P w K mg base 3 "fault_of_plants" Q7 (mX K Rfo))(C4:cG P w K mg base 1 "add_entry" Q7 (Y7 K Pl (OD K) zcb)):i_ P w K mg base qz 9 f fd ["text"] (mX K Rrp):=
 qg F zcd (λ_ _ h=>by obtain⟨_,_,rfl,_⟩:=h;rfl) λ_ _ h=>by
  obtain⟨x,es,rfl,ox,zce,zdL,rfl⟩:=h;intro cdv A outer s H E hr;have nd:Nrp.Nodup:=zcd.nd;obtain⟨C,fi,fdi,mC,cl,na,M,FI,bI⟩:=T.ex;have hlen:(rowsOf x).length=es.length:=by have:=congrArg nY zce;simpa using this
  refine Qp λB0 B σ H0 Hh D fr okD=>?_
  refine gk (zdh 1 M FI (hr.mono (by omega)) mC bI (λp dx E' hp hdx hpd=>?_) nd)
  refine⟨p,dx,rfl,cQ,λak ag al ad at_ ah ap H' mid=>⟨rfl,?_⟩⟩
  have hst:∀b,(upd (upd Hh dx (.own p)) p (.ins C dx [])) b=none->Hh b=none:=λb hb=>by
   have h1:b≠p:=λz=>by rw[z,cQ]at hb;cases hb
   rw[bf h1]at hb;have h2:b≠dx:=λz=>by rw[z,cQ]at hb;cases hb
   rw[bf h2]at hb;exact hb
  have hkeep:∀b o,Hh b=some o->H' b=some o:=λb o e=>by
   have h1:b≠p:=bV e hp;refine mid.old b o ?_ h1
   rw[bf h1,bf (bV e hdx)];exact e
  have G0:OF K B0 B (OD K p (FT es 0)) H0 H' (σ.set 1 (some (.ref p))) [.val (.str x),.ref p,.un,.un,.un,.un]:=by
   have g:gR H0 Hh H0 H':=⟨hkeep,Same.refl _,λb u e=>hkeep b u (fr.sub b u e),λ_ z=>.inl z⟩
   refine⟨(fr.grow g).SN (i:=1) (v:=.ref p) (sl:=.ref p) rfl rfl,rfl,[p,ak,ag,al,ad,at_,ah,ap],λa ha=>?_,C,dx,ak,ag,al,ad,at_,ah,ap,[],[],rfl,by simpa using mid.nd,?_⟩
   ·have hnone:Hh a=none/\H' a≠none:=by
     rcases aQ.mp ha with rfl|ha
     ·exact⟨hp,by rw[mid.ins];simp⟩
     ·have ha':∃q∈[(ak,HO.dK []),(ag,.lst []),(al,.dK []),(ad,.lst []),(at_,.dT []),(ah,.dK []),(ap,.dK [])],q.1=a:=by
       simp only[aQ,cL,or_false]at ha;rcases ha with rfl|rfl|rfl|rfl|rfl|rfl|rfl<;>simp
      obtain⟨q,hq,rfl⟩:=ha';exact⟨hst _ (mid.fresh q hq),by rw[mid.ob q hq];simp⟩
    exact⟨fr.sub.free hnone.1,fr.ent.big.free hnone.1,hnone.2⟩
   ·exact⟨mid.ins,cl,na,mid.ob (ak,.dK []) (by simp),mid.ob (ag,.lst []) (by simp),mid.ob (al,.dK []) (by simp),mid.ob (ad,.lst []) (by simp),.nil,mid.ob (at_,.dT []) (by simp),mid.ob (ah,.dK []) (by simp),rfl,mid.ob (ap,.dK []) (by simp),λi c q e1=>by simp at e1⟩
  refine gk (zfm (tgt:=.tup [2,3]) (ds:=(rowsOf x).map JH) (λi=>OD K p (FT es i)) (λi=>OD.mono) G0 gA rfl (lN (VO.ve (rC C1 (hr.mono (by omega)) (au (aj 0 rfl) aX) ⟨x,rfl,ox,rfl⟩)))
   (lg rfl (cZ (cJ (i:=2) nd rfl (bG rfl)) (cZ (cJ (i:=3) nd rfl (bG rfl)) jq))) (λi d hd=>?_) (λσ2 Ha Hb G=>?_))
  ·obtain⟨r,hri,rfl⟩:∃r,(rowsOf x)[i]?=some r/\d=JH r:=by
    rw[bh]at hd;cases e:(rowsOf x)[i]? with
    |none=>rw[e]at hd;cases hd
    |some r=>rw[e]at hd;cases hd;exact⟨r,rfl,rfl⟩
   have hil:i<(rowsOf x).length:=(aV.mp hri).1;have hei:es[i]?=some es[i]:=aG (by omega)
   have hw:r.2=T5 es[i]:=by
    have h1:((rowsOf x).map (·.2))[i]?=some r.2:=by rw[bh,hri];rfl
    rw[zce,bh,hei]at h1;exact(fM h1).symm
   have oe:=zdL.ent _ (fY (by omega:i<es.length))
   have oa:=zdL.add i _ hei;have op:=zdL.pl i (by omega)
   have hsucc:=Xh hei
   generalize es[i]=e at *
   refine⟨[.val (.str x),.ref p,.val (.int (r.1:Nat)),.val (.list (r.2.map .str)),.un,.un],rfl,rfl,λD C0 σ' iM gY G q=>?_⟩
   refine gk (Y6 OD.mono G (dU 4 (d:=T4 e) (cF C2 hr (au (aj 3 rfl) aX) ⟨e,by rw[hw];rfl,oe,rfl⟩) nd) rfl λσ1 Ha1 Hb1 G1=>?_)
   refine gk (zdg OD.mono G1 1 5 (d:=.str "") rfl OD.rep (cF C3 (hr.mono (by omega)) (au (aj 1 rfl) (au (aj 4 rfl) aX)) ⟨FT es i,e,rfl,op,oe,oa,rfl⟩) rfl rfl (λσ2 Ha2 Hb2 G2=>?_) nd)
   refine gk (Y6 OD.mono G2 (cW (VT.to (qu hr bC bC (aj 5 rfl) aU) (congrArg (λb=>!b) (nW _))) b_) rfl λσ3 Ha3 Hb3 G3=>?_)
   refine gU (zfo (s:=FT es i) (s':=FT es (i+1)) C4 (hr.mono (by omega)) G3 OD.mono 1 rfl (aj 4 rfl) ⟨e,rfl,op,oe,oa,hsucc⟩ λHa4 Hb4 G4=>?_)
   exact q _ _ _ (G4.forget OD.mono ⟨.inr rfl,.inr rfl,.inl rfl,.inl rfl,.inl rfl,.inl rfl,trivial⟩ rfl)
  ·have e:FT es ((rowsOf x).map JH).length=es.foldl Ad Ud:=by rw[aq,hlen,ZV]
   rw[e]at G;exact gU (zfn G 1 rfl OD.rep okD)
end
end Mg
namespace Mg
open L2 PySem PyProof.Rows
structure Ue(p:Pl):Prop where
 kn:(p.kinds.map (·.1)).Nodup
 pn:(p.gates++p.lines.map (·.1)).Nodup
 dn:(p.desks.map (·.name)).Nodup
 dk:∀d∈p.desks,T6 d/\(∀x∈d.places,x∈p.gates++p.lines.map (·.1))/\(d.to=""\/∃r,(d.to,r)∈p.lines/\mY d.rule d.places.length<=r)
 dj:(p.desks.map (·.places)).flatten.Nodup
 tn:(p.times.map λq=>(q.1,q.2.1)).Nodup
 tm:∀q∈p.times,q.1∈p.desks.map (·.name)/\q.2.1∈p.kinds.map (·.1)/\1<=q.2.2
 hr:∀q∈p.hours,q.1∈p.desks.map (·.name)/\q.2.1<q.2.2
 kk:∀q∈p.kinds,∀i,q.2=some i->1<=i/\gB i
 ll:∀q∈p.lines,1<=q.2
def Ra(p:Pl):List Ent:=p.kinds.map (λq=>Ent.kind q.1 q.2)++p.gates.map Ent.gate++p.lines.map (λq=>Ent.line q.1 q.2)++p.desks.map Ent.desk++p.times.map (λq=>Ent.time q.1 q.2.1 q.2.2)++p.hours.map (λq=>Ent.hour q.1 q.2.1 q.2.2)
def Bw:Pl->List Ent->Prop
 |st,[]=>nU st
 |st,e::es=>nU st/\Bv e/\J3 st e/\Bw (Ad st e) es
theorem Bw.app:∀{A B:List Ent}{st:Pl},Bw st A->Bw (A.foldl Ad st) B->Bw st (A++B)
 | [],_,_,_,h=>h
 |_::_,_,_,⟨h1,h2,h3,h4⟩,h=>⟨h1,h2,h3,h4.app h⟩
theorem Bw.es:∀{es:List Ent}{st:Pl},Bw st es->(∀e∈es,Bv e)/\(∀i,i<=es.length->nU ((es.take i).foldl Ad st))/\∀(i:Nat)e,es[i]?=some e->J3 ((es.take i).foldl Ad st) e
 | [],st,h=>⟨λe he=>(by cases he),λi hi=>by rw[List.take_nil];exact h,λi e he=>by simp at he⟩
 |e::es,st,⟨h1,h2,h3,h4⟩=>by
  obtain⟨a,b,c⟩:=h4.es;refine⟨λx hx=>?_,λi hi=>?_,λi x hx=>?_⟩
  ·rcases aQ.mp hx with rfl|hx
   ·exact h2
   ·exact a x hx
  ·cases i with
   |zero=>exact h1
   |succ i=>exact b i (by simpa using hi)
  ·cases i with
   |zero=>cases hx;exact h3
   |succ i=>exact c i x (by simpa using hx)
theorem seg{α:Type}(mk:α->Ent)(put:List α->Pl)(h1:∀l x,Ad (put l) (mk x)=put (l ++ [x]))(l:List α)(hok:∀pre x post,l=pre++x::post->nU (put pre)/\Bv (mk x)/\J3 (put pre) (mk x))(hfin:nU (put l)):
  Bw (put []) (l.map mk)/\(l.map mk).foldl Ad (put [])=put l:=by
 have go:∀(rest pre:List α),l=pre++rest->Bw (put pre) (rest.map mk)/\(rest.map mk).foldl Ad (put pre)=put l:=by
  intro rest
  induction rest with
  |nil=>intro pre e;rw[gK]at e;subst e;exact⟨hfin,rfl⟩
  |cons x rest ih=>
   intro pre e;obtain⟨a,b,c⟩:=hok pre x rest e;obtain⟨i1,i2⟩:=ih (pre ++ [x]) (by rw[e];simp)
   rw[aZ];refine⟨⟨a,b,c,?_⟩,?_⟩
   ·rw[h1];exact i1
   ·rw[uT,h1];exact i2
 exact go l [] rfl
theorem rJ{p q:Pl}(h:nU p)(k1:q.kinds.length<=p.kinds.length)(k2:∀x∈q.kinds,x∈p.kinds)(g1:q.gates.length<=p.gates.length)(g2:∀x∈q.gates,x∈p.gates)(l1:q.lines.length<=p.lines.length)(l2:∀x∈q.lines,x∈p.lines)(d1:q.desks.length<=p.desks.length)(d2:∀x∈q.desks,x∈p.desks)(t1:q.times.length<=p.times.length)(t2:∀x∈q.times,x∈p.times)(h1:q.hours.length<=p.hours.length)(h2:∀x∈q.hours,x∈p.hours):nU q:=
 ⟨dD k1 h.kn,dD g1 h.gn,dD l1 h.ln,dD d1 h.dn,dD t1 h.tn,dD h1 h.hn,λx hx=>h.kinds x (k2 x hx),λx hx=>h.gates x (g2 x hx),λx hx=>h.lines x (l2 x hx),λx hx=>h.desks x (d2 x hx),λx hx=>h.times x (t2 x hx),λx hx=>h.hours x (h2 x hx)⟩
theorem Rb{κ:Type}[DecidableEq κ]:∀{kvs:List (κ×aA)}{k:κ}{v:aA},(kvs.map (·.1)).Nodup->(k,v)∈kvs->qw kvs k=some v
 | [],_,_,_,h=>by cases h
 |q::l,k,v,nd,h=>by
  rw[aZ,lG]at nd;rcases aQ.mp h with rfl|h
  ·exact j_ rfl
  ·rw[fP (λe=>nd.1 (by rw[e];exact aR.mpr ⟨(k,v),h,rfl⟩))]
   exact Rb nd.2 h
theorem FW{α:Type}{l pre post:List α}{x:α}(e:l=pre++x::post):pre.length<=l.length/\∀y∈pre,y∈l:=by
 subst e;exact⟨by rw[bK];omega,λy hy=>jB _ hy⟩
theorem tE{α β:Type}{f:α->β}{l pre post:List α}{x:α}(nd:(l.map f).Nodup)(e:l=pre++x::post):f x∉pre.map f:=by
 subst e;rw[bO,aZ,iJ]at nd;intro z;exact nd.2.2 _ z _ aY rfl
theorem ZW{p:Pl}(ok:nU p)(g:Ue p):Bw Ud (Ra p)/\(Ra p).foldl Ad Ud=p:=by
 have n0:∀{α:Type}(x:α),x∈([]:List α)->False:=λx h=>by cases h
 have s1:=seg (λq:Str×Option Int=>Ent.kind q.1 q.2) (λl=>⟨l,[],[],[],[],[]⟩) (λ_ _=>rfl) p.kinds (λpre x post e=>by
  obtain⟨e1,e2⟩:=FW e;have hx:x∈p.kinds:=by rw[e];simp
  exact⟨rJ ok e1 e2 (cC _) (λx h=>(n0 x h).elim) (cC _) (λx h=>(n0 x h).elim) (cC _) (λx h=>(n0 x h).elim) (cC _) (λx h=>(n0 x h).elim) (cC _) (λx h=>(n0 x h).elim),⟨(ok.kinds x hx).1,g.kk x hx⟩,tE g.kn e⟩)
  (rJ ok (aK _) (λ_ h=>h) (cC _) (λx h=>(n0 x h).elim) (cC _) (λx h=>(n0 x h).elim) (cC _) (λx h=>(n0 x h).elim) (cC _) (λx h=>(n0 x h).elim) (cC _) (λx h=>(n0 x h).elim))
 have pn:=g.pn;rw[iJ]at pn;have s2:=seg Ent.gate (λl=>⟨p.kinds,l,[],[],[],[]⟩) (λ_ _=>rfl) p.gates (λpre x post e=>by
  obtain⟨e1,e2⟩:=FW e;have hx:x∈p.gates:=by rw[e];simp
  refine⟨rJ ok (aK _) (λ_ h=>h) e1 e2 (cC _) (λx h=>(n0 x h).elim) (cC _) (λx h=>(n0 x h).elim) (cC _) (λx h=>(n0 x h).elim) (cC _) (λx h=>(n0 x h).elim),ok.gates x hx,?_⟩
  rintro(h|h)
  ·have:=tE (f:=id) (by simpa using pn.1) e
   exact this (by simpa using h)
  ·cases h)
  (rJ ok (aK _) (λ_ h=>h) (aK _) (λ_ h=>h) (cC _) (λx h=>(n0 x h).elim) (cC _) (λx h=>(n0 x h).elim) (cC _) (λx h=>(n0 x h).elim) (cC _) (λx h=>(n0 x h).elim))
 have s3:=seg (λq:Str×Int=>Ent.line q.1 q.2) (λl=>⟨p.kinds,p.gates,l,[],[],[]⟩) (λ_ _=>rfl) p.lines (λpre x post e=>by
  obtain⟨e1,e2⟩:=FW e;have hx:x∈p.lines:=by rw[e];simp
  refine⟨rJ ok (aK _) (λ_ h=>h) (aK _) (λ_ h=>h) e1 e2 (cC _) (λx h=>(n0 x h).elim) (cC _) (λx h=>(n0 x h).elim) (cC _) (λx h=>(n0 x h).elim),⟨(ok.lines x hx).1,g.ll x hx,(ok.lines x hx).2⟩,?_⟩
  rintro(h|h)
  ·exact pn.2.2 _ h _ (aR.mpr ⟨x,hx,rfl⟩) rfl
  ·exact tE pn.2.1 e h)
  (rJ ok (aK _) (λ_ h=>h) (aK _) (λ_ h=>h) (aK _) (λ_ h=>h) (cC _) (λx h=>(n0 x h).elim) (cC _) (λx h=>(n0 x h).elim) (cC _) (λx h=>(n0 x h).elim))
 have s4:=seg Ent.desk (λl=>⟨p.kinds,p.gates,p.lines,l,[],[]⟩) (λ_ _=>rfl) p.desks (λpre x post e=>by
  obtain⟨e1,e2⟩:=FW e;have hx:x∈p.desks:=by rw[e];simp
  obtain⟨q1,q2,q3⟩:=g.dk x hx;refine⟨rJ ok (aK _) (λ_ h=>h) (aK _) (λ_ h=>h) (aK _) (λ_ h=>h) e1 e2 (cC _) (λx h=>(n0 x h).elim) (cC _) (λx h=>(n0 x h).elim),q1,tE g.dn e,λy hy hz=>?_,λy hy=>dJ.mp (q2 y hy),?_⟩
  ·obtain⟨d,hd,hyd⟩:=hz
   have dj:=g.dj;rw[e,bO,List.flatten_append,iJ]at dj;exact dj.2.2 y (List.mem_flatten.mpr ⟨d.places,aR.mpr ⟨d,hd,rfl⟩,hyd⟩) y (List.mem_flatten.mpr ⟨x.places,by simp,hy⟩) rfl
  ·rcases q3 with h|⟨r,h,hr⟩
   ·exact .inl h
   ·refine .inr ⟨r,Rb ?_ (aR.mpr ⟨(x.to,r),h,rfl⟩),hr⟩
    rw[uQ];exact pn.2.1)
  (rJ ok (aK _) (λ_ h=>h) (aK _) (λ_ h=>h) (aK _) (λ_ h=>h) (aK _) (λ_ h=>h) (cC _) (λx h=>(n0 x h).elim) (cC _) (λx h=>(n0 x h).elim))
 have s5:=seg (λq:Str×Str×Int=>Ent.time q.1 q.2.1 q.2.2) (λl=>⟨p.kinds,p.gates,p.lines,p.desks,l,[]⟩) (λ_ _=>rfl) p.times (λpre x post e=>by
  obtain⟨e1,e2⟩:=FW e;have hx:x∈p.times:=by rw[e];simp
  obtain⟨q1,q2,q3⟩:=g.tm x hx;obtain⟨r1,r2,r3⟩:=ok.times x hx;exact⟨rJ ok (aK _) (λ_ h=>h) (aK _) (λ_ h=>h) (aK _) (λ_ h=>h) (aK _) (λ_ h=>h) e1 e2 (cC _) (λx h=>(n0 x h).elim),⟨r1,r2,q3,r3⟩,tE (f:=λq:Str×Str×Int=>(q.1,q.2.1)) g.tn e,q1,q2⟩)
  (rJ ok (aK _) (λ_ h=>h) (aK _) (λ_ h=>h) (aK _) (λ_ h=>h) (aK _) (λ_ h=>h) (aK _) (λ_ h=>h) (cC _) (λx h=>(n0 x h).elim))
 have s6:=seg (λq:Str×Int×Int=>Ent.hour q.1 q.2.1 q.2.2) (λl=>⟨p.kinds,p.gates,p.lines,p.desks,p.times,l⟩) (λ_ _=>rfl) p.hours (λpre x post e=>by
  obtain⟨e1,e2⟩:=FW e;have hx:x∈p.hours:=by rw[e];simp
  obtain⟨q1,q2⟩:=g.hr x hx;obtain⟨r1,r2,r3⟩:=ok.hours x hx;exact⟨rJ ok (aK _) (λ_ h=>h) (aK _) (λ_ h=>h) (aK _) (λ_ h=>h) (aK _) (λ_ h=>h) (aK _) (λ_ h=>h) e1 e2,⟨r1,r2,r3,q2⟩,q1⟩)
  ok
 unfold Ra;simp only[jh];refine⟨s1.1.app ?_,?_⟩
 ·rw[s1.2]
  refine s2.1.app ?_
  rw[s2.2];refine s3.1.app ?_
  rw[s3.2];refine s4.1.app ?_
  rw[s4.2];refine s5.1.app ?_
  rw[s5.2];exact s6.1
 ·rw[lA,show Ud=⟨[],[],[],[],[],[]⟩from rfl,s1.2,lA,s2.2,lA,s3.2,lA,s4.2,lA,s5.2,s6.2]
theorem zgb{p:Pl}(ok:nU p)(g:Ue p):zga (Ra p):=by
 obtain⟨a,b,c⟩:=(ZW ok g).1.es;exact⟨a,b,c⟩
theorem lF{x y:Str}{c:Nat}(h1:c∉x.cps.toList)(h2:c∉y.cps.toList):c∉(x++y).cps.toList:=by rw[add_list,dJ];exact λz=>z.elim h1 h2
theorem Ea{c:Nat}{y:Str}(hy:c∉y.cps.toList):∀{l:List Str},(∀x∈l,c∉x.cps.toList)->c∉(fQ y l).cps.toList
 | [],_=>by show c∉([]:List Nat);simp
 | [x],h=>h x aY
 |x::z::l,h=>by
  show c∉(x++y++fQ y (z::l)).cps.toList;exact lF (lF (h x aY) hy) (Ea hy λu hu=>h u (bD _ hu))
theorem Ug{p:Pl}(ok:nU p):(∀r∈iz p,10∉r.cps.toList)/\(iz p).map wordsOf=(Ra p).map T5:=by
 have nn:∀{x:Str},gG x->10∉x.cps.toList:=λh=>(mO h).2.2
 have dn:∀{d:aA},TF d->10∉(iH d).cps.toList:=λh=>(Az h).2.2
 have nm:∀{i:Int},gB i->10∉(gD i).cps.toList:=λh=>(vd h.1 h.2).2.2
 constructor
 ·intro r hr
  unfold iz vm at hr;simp only[dJ,aR]at hr;rcases hr with((((⟨q,hq,rfl⟩|⟨q,hq,rfl⟩)|⟨q,hq,rfl⟩)|⟨q,hq,rfl⟩)|⟨q,hq,rfl⟩)|⟨q,hq,rfl⟩
  ·obtain⟨h1,h2⟩:=ok.kinds q hq
   exact lF (lF (lF (by decide +kernel) (nn h1)) (by decide +kernel)) (dn h2)
  ·exact lF (by decide +kernel) (nn (ok.gates q hq))
  ·obtain⟨h1,h2⟩:=ok.lines q hq
   exact lF (lF (lF (by decide +kernel) (nn h1)) (by decide +kernel)) (nm h2)
  ·obtain⟨h1,h2,h3,h4,h5⟩:=ok.desks q hq
   refine lF (lF (lF (lF (lF (lF (lF (by decide +kernel) (nn h1)) (by decide +kernel)) (dn (d:=.str q.to) h2)) (by decide +kernel)) (Ea (by decide +kernel) λx hx=>(Cr h3 x hx).2.2)) (by decide +kernel)) (Ea (by decide +kernel) λx hx=>nn (h5 x hx))
  ·obtain⟨h1,h2,h3⟩:=ok.times q hq
   refine Ea (by decide +kernel) λx hx=>?_
   simp only[aQ,cL,or_false]at hx;rcases hx with rfl|rfl|rfl|rfl
   ·decide +kernel
   ·exact nn h1
   ·exact nn h2
   ·exact nm h3
  ·obtain⟨h1,h2,h3⟩:=ok.hours q hq
   refine Ea (by decide +kernel) λx hx=>?_
   simp only[aQ,cL,or_false]at hx;rcases hx with rfl|rfl|rfl|rfl
   ·decide +kernel
   ·exact nn h1
   ·exact nm h2
   ·exact nm h3
 ·unfold iz vm Ra
  simp only[bO,bU]
  congr 1
  congr 1
  congr 1
  congr 1
  congr 1
  ·exact nO λq hq=>TJ (ok.kinds q hq)
  ·exact nO λq hq=>TQ (ok.gates q hq)
  ·exact nO λq hq=>TV (ok.lines q hq)
  ·exact nO λq hq=>TX (ok.desks q hq)
  ·exact nO λq hq=>TY (ok.times q hq)
  ·exact nO λq hq=>T3 (ok.hours q hq)
theorem zbw(e:Ent):(T5 e).isEmpty=false:=by cases e<;>rfl
theorem Xi(l:List Str):∀k,((l.zipIdx k).filterMap λp=>if(wordsOf p.1).isEmpty then none else some (p.2,wordsOf p.1)).map (·.2)=(l.map wordsOf).filter λws=>!ws.isEmpty:=by
 induction l with
 |nil=>intro k;rfl
 |cons x l ih=>
  intro k;rw[HB,aZ,yL];cases hx:(wordsOf x).isEmpty with
  |true=>rw[nD (by simp only[hx];rfl),ih];rfl
  |false=>rw[iD (b:=(k,wordsOf x)) (by simp only[hx];rfl),aZ,ih];rfl
theorem Rf{p:Pl}(ok:nU p)(hk:p.kinds≠[]):(rowsOf (Ay p)).map (·.2)=(Ra p).map T5:=by
 obtain⟨h1,h2⟩:=Ug ok;unfold Ay;rw[Xa (λz=>?_) h1,Xi,h2,List.filter_eq_self.mpr]
 ·intro ws hws
  obtain⟨e,_,rfl⟩:=aR.mp hws;rw[zbw];rfl
 ·unfold iz vm at z
  cases hkk:p.kinds with
  |nil=>exact hk hkk
  |cons q l=>rw[hkk]at z;simp at z
theorem Uh(m:Int)(k:Nat):(nameB m k).cps.toList=(stemOf m).cps.toList.take (m/624%(1+m/78%8)).toNat++(97+((m/3+5*k)%26).toNat)::(stemOf m).cps.toList.drop (m/624%(1+m/78%8)+1).toNat:=by
 have hs:=Fy m;have hl:(stemOf m).cps.toList.length=(1+m/78%8).toNat:=by rw[hs,gF]
 have b1:0<=m/78%8:=bY _ (by decide)
 have b2:m/78%8<8:=cj _ (by decide)
 have p1:0<=m/624%(1+m/78%8):=bY _ (by omega)
 have p2:m/624%(1+m/78%8)<1+m/78%8:=cj _ (by omega)
 have e1:ni (stemOf m) none (some (m/624%(1+m/78%8)))=_:=PB (x:=stemOf m) ⟨p1,by rw[hl];omega⟩
 have e2:ni (stemOf m) (some (m/624%(1+m/78%8)+1)) none=_:=Nj (x:=stemOf m) ⟨by omega,by rw[hl];omega⟩
 unfold nameB;rw[e1,e2]
 show((_++_++_:Array Nat)).toList=_
 simp only[Uy,rZ,Int.sub_zero,QF,one];rw[gw (l:=List.drop _ _) (by rw[fG];omega),jh]
 rfl
theorem GQ{β:Type}{f:Nat->β}:∀{n:Nat},(∀i j,i<n->j<n->f i=f j->i=j)->((dF n).map f).Nodup:=by
 intro n h;rw[List.Nodup,List.pairwise_map,wI];intro i j hi hj hij e;rw[iK]at hi hj;rw[List.getElem_range,List.getElem_range]at e;exact absurd (h i j hi hj e) (by omega)
theorem wH(cell:Int){many:Nat}(hm:many<=26):(namesOf cell many).Nodup:=by
 unfold namesOf
 split
 ·refine GQ λi j hi hj e=>?_
  have e1:∀k,(nameA (eE cell 3) many k).cps.toList=bN (many-k) (97+(eE cell 3/3%26).toNat):=λk=>Oj _ _
  have:=congrArg (λx:Str=>x.cps.toList.length) e
  simp only[e1,gF]at this;omega
 ·refine GQ λi j hi hj e=>?_
  have:=congrArg (λx:Str=>x.cps.toList) e
  simp only[Uh]at this;have:=List.append_cancel_left this;have:=(pZ this).1
  generalize eE cell 3/3=a at *
  omega
theorem Cy(l:List Str):(dF l.length).map (λk=>l.getD k "")=l:=by
 refine su λi=>?_
 rw[bh];by_cases h:i<l.length
 ·rw[uX h,aG h]
  show some (l.getD i "")=_;rw[aP,aG h];rfl
 ·rw[mG (by simpa using h),mG (by simpa using h)];rfl
theorem GR{α:Type}:∀(L:List (List α))(i:Nat)(j:Nat)(y:α),i<L.length->(L.set i (vI (L.getD i []) j y)).flatten.Perm (y::L.flatten)
 | [],i,_,_,h=>by simp at h
 |r::L,0,j,y,_=>by
  show(vI r j y++L.flatten).Perm (y::(r++L.flatten))
  have:(vI r j y).Perm (y::r):=by
   unfold vI;exact List.perm_middle.trans (by rw[o7])
  exact this.append_right _
 |r::L,i+1,j,y,h=>by
  have ih:=GR L i j y (by simpa using h)
  show(r++(L.set i (vI (L.getD i []) j y)).flatten).Perm (y::(r++L.flatten))
  exact(ih.append_left r).trans List.perm_middle
theorem J9(cell:Int){nn:Nat}(h1:1<=nn)(places:List Str):∀k,k<=places.length->(gW cell nn places k).flatten.Perm (places.take k)
 |0,_=>by
  show(bN nn ([]:List Str)).flatten.Perm []
  rw[List.flatten_replicate_nil]
 |k+1,hk=>by
  have ih:=J9 cell h1 places k (by omega)
  have hl:jR cell nn k<(gW cell nn places k).length:=by rw[lW];exact Mu cell h1 k
  have e:places.take (k+1)=places.take k ++ [places.getD k ""]:=by
   rw[gP,aG (by omega),aP,aG (by omega)];rfl
  rw[e];refine(GR _ _ _ _ hl).trans ?_
  refine(ih.cons _).trans ?_
  exact(List.perm_append_singleton _ _).symm
theorem Eb(cell:Int){nn:Nat}(h1:1<=nn)(places:List Str):∀k,∀j,j<k->j<nn->(gW cell nn places k).getD j []≠[]
 |0,_,h,_=>by omega
 |k+1,j,hj,hn=>by
  have hl:=lW cell nn places k;have ex:∀(L:List (List Str))(i:Nat)(r:List Str),L.length=nn->(L.set i r).getD j []=if i=j then r else L.getD j []:=λL i r e=>by
   rw[aP,List.getElem?_set]
   by_cases hij:i=j
   ·subst hij;rw[if_pos rfl,if_pos (by omega),if_pos rfl];rfl
   ·rw[if_neg hij,if_neg hij,aP]
  show((gW cell nn places k).set (jR cell nn k) (vI _ _ _)).getD j []≠[]
  rw[ex _ _ _ hl]
  split
  ·intro z
   have:=congrArg nY z;rw[Gz]at this;simp at this
  ·rename_i hne
   by_cases hjk:j<k
   ·exact Eb cell h1 places k j hjk hn
   ·exfalso
    apply hne;have:j=k:=by omega
    subst this;unfold jR;rw[if_pos hn]
theorem Xj(m:Int){many:Nat}:Aa (rE m many) many:=by
 unfold rE
 split
 ·rename_i h;exact h.2
 ·split
  ·exact⟨by omega,lU _ 1 (by decide) (by decide) (by decide),vp _ (by decide) (by decide)⟩
  ·split
   ·exact⟨by omega,lU _ 1 (by decide) (by decide) (by decide)⟩
   ·split
    ·split
     ·trivial
     ·exact vp _ (by decide) (by decide)
    ·split
     ·refine⟨by simp,λz hz=>?_⟩
      obtain⟨k,_,rfl⟩:=aR.mp hz;unfold Ol;omega
     ·trivial
theorem Rg(cell:Int)(places lines:List Str):(dg cell places lines).map (·.name)=namesOf (eE cell 31) (qO cell places.length):=by
 unfold dg;rw[bU];have:=Cy (namesOf (eE cell 31) (qO cell places.length));rw[jl]at this;exact this
theorem OJ(cell:Int)(places lines:List Str):(dg cell places lines).map (·.places)=gW cell (qO cell places.length) places places.length:=by
 unfold dg;rw[bU];have hl:=lW cell (qO cell places.length) places places.length;refine su λi=>?_
 rw[bh];by_cases h:i<qO cell places.length
 ·rw[uX h]
  show some ((gW cell (qO cell places.length) places places.length).getD i [])=_;rw[aP,aG (by omega)];rfl
 ·rw[mG (by simpa using h),mG (by omega)];rfl
theorem J_(c:Int)(mH:List Dk)(kinds:List (Str×Option Int))(hk:(kinds.map (·.1)).Nodup)(hd:(mH.map (·.name)).Nodup):∀i,i<=mH.length->((kW c mH kinds i).map λq=>(q.1,q.2.1)).Nodup/\∀q∈kW c mH kinds i,q.1∈(mH.take i).map (·.name)/\q.2.1∈kinds.map (·.1)/\1<=q.2.2
 |0,_=>⟨by simp[kW],λq hq=>by simp[kW]at hq⟩
 |i+1,hi=>by
  obtain⟨a,b⟩:=J_ c mH kinds hk hd i (by omega)
  have hg:mH[i]?=some mH[i]:=aG (by omega)
  rw[yw hg,gP,hg];have row:∀j,((jT (eE c (110+i)) mH[i].name kinds j).map λq=>(q.1,q.2.1)).Nodup/\∀q∈jT (eE c (110+i)) mH[i].name kinds j,q.1=mH[i].name/\q.2.1∈(kinds.take j).map (·.1)/\1<=q.2.2:=by
   intro j
   induction j with
   |zero=>exact⟨by simp[jT],λq hq=>by simp[jT]at hq⟩
   |succ j ih=>
    by_cases hj:j<kinds.length
    ·have hkj:kinds[j]?=some kinds[j]:=aG hj
     rw[Bu hkj,gP,hkj];unfold Ck
     split
     ·rw[bO]
      refine⟨?_,λq hq=>?_⟩
      ·rw[iJ]
       refine⟨ih.1,by simp,λx hx y hy z=>?_⟩
       obtain⟨q,hq,rfl⟩:=aR.mp hx;have h2:=(ih.2 q hq).2.1;have hy:y=(mH[i].name,kinds[j].1):=by simpa using hy
       rw[hy]at z;have z2:q.2.1=kinds[j].1:=congrArg (λw:Str×Str=>w.2) z
       rw[z2]at h2;have:kinds=kinds.take j++kinds[j]::kinds.drop (j+1):=by rw[RD,o7]
       exact tE hk this h2
      ·rcases dJ.mp hq with hq|hq
       ·obtain⟨h1,h2,h3⟩:=ih.2 q hq
        exact⟨h1,by rw[bO];exact jB _ h2,h3⟩
       ·have hq:q=(mH[i].name,kinds[j].1,1+eE c (110+i)/((j:Int)*j+2)%6):=by simpa using hq
        rw[hq];refine⟨rfl,by rw[bO];exact eG _ (aR.mpr ⟨kinds[j],bW.mpr rfl,rfl⟩),?_⟩
        have:=bY (eE c (110+i)/((j:Int)*j+2)) (b:=6) (by decide)
        show 1<=1+eE c (110+i)/((j:Int)*j+2)%6;omega
     ·refine⟨by simpa using ih.1,λq hq=>?_⟩
      obtain⟨h1,h2,h3⟩:=ih.2 q (by simpa using hq)
      exact⟨h1,by rw[bO];exact jB _ h2,h3⟩
    ·have e1:jT (eE c (110+i)) mH[i].name kinds (j+1)=jT (eE c (110+i)) mH[i].name kinds j:=by
      unfold jT;rw[gw (by simp;omega),gw (by simp;omega)]
     rw[e1,gw (by omega)]
     rw[gw (by omega)]at ih
     exact ih
  obtain⟨r1,r2⟩:=row kinds.length;rw[lX]at r2;have hnew:mH[i].name∉(mH.take i).map (·.name):=by
   have:mH=mH.take i++mH[i]::mH.drop (i+1):=by rw[RD,o7]
   exact tE hd this
  refine⟨?_,λq hq=>?_⟩
  ·rw[bO,iJ]
   refine⟨a,r1,λx hx y hy z=>?_⟩
   obtain⟨q,hq,rfl⟩:=aR.mp hx;obtain⟨q2,hq2,rfl⟩:=aR.mp hy;have z1:q.1=q2.1:=congrArg (λw:Str×Str=>w.1) z
   have:=(b q hq).1;rw[z1,(r2 q2 hq2).1]at this;exact hnew this
  ·rcases dJ.mp hq with hq|hq
   ·obtain⟨h1,h2,h3⟩:=b q hq
    exact⟨by rw[bO];exact jB _ h1,h2,h3⟩
   ·obtain⟨h1,h2,h3⟩:=r2 q hq
    exact⟨by rw[h1,bO];exact eG _ (aR.mpr ⟨mH[i],bW.mpr rfl,rfl⟩),h2,h3⟩
theorem Kc{α:Type}:∀{L:List (List α)},L.flatten.Nodup->∀r∈L,r.Nodup
 | [],_,r,h=>by cases h
 |x::L,nd,r,h=>by
  rw[jO,iJ]at nd;rcases aQ.mp h with rfl|h
  ·exact nd.1
  ·exact Kc nd.2.1 r h
theorem Xk(ns:List Int):Ue (kY ns):=by
 obtain⟨k1,k4⟩:=uc (lE ns);obtain⟨g1,g3⟩:=pI (cX ns);obtain⟨p1,p6⟩:=rG (cX ns);have hol:(orderOf (cX ns)).length=(placesOf (cX ns)).length:=by
  unfold orderOf;rw[bK,fG,dO];have:=Aw (cX ns) (n:=(placesOf (cX ns)).length) (by omega)
  omega
 have hpl:=wF (cX ns);have pnd:(placesOf (cX ns)).Nodup:=wH _ (by omega)
 have hpm:(orderOf (cX ns)).Perm (placesOf (cX ns)):=by
  unfold orderOf;exact List.perm_append_comm.trans (by rw[o7])
 have zdM:(kindsOf (lE ns)).map (·.1)=namesOf (lE ns) (ou (lE ns)):=by
  unfold kindsOf;rw[bU];have:=Cy (namesOf (lE ns) (ou (lE ns)));rw[jl]at this;exact this
 have knd:((kindsOf (lE ns)).map (·.1)).Nodup:=by rw[zdM];exact wH _ (by omega)
 obtain⟨m1,m4,mp⟩:=t_ (jM ns) (n:=(orderOf (cX ns)).length) (by omega)
 have dnm:=Rg (jM ns) (orderOf (cX ns)) (linesOf (cX ns));have dpl:=OJ (jM ns) (orderOf (cX ns)) (linesOf (cX ns));have dnd:((dg (jM ns) (orderOf (cX ns)) (linesOf (cX ns))).map (·.name)).Nodup:=by rw[dnm];exact wH _ (by omega)
 have tp:=J9 (jM ns) m1 (orderOf (cX ns)) _ (aK _);rw[lX]at tp;have dj:((dg (jM ns) (orderOf (cX ns)) (linesOf (cX ns))).map (·.places)).flatten.Nodup:=by
  rw[dpl];exact(tp.trans hpm).nodup_iff.mpr pnd
 have hdk:∀d∈dg (jM ns) (orderOf (cX ns)) (linesOf (cX ns)),_:=λd hd=>VH (by omega) (by omega) hd
 have hfill:∀d∈dg (jM ns) (orderOf (cX ns)) (linesOf (cX ns)),d.places≠[]/\d.places.Nodup/\Aa d.rule d.places.length:=λd hd=>by
  refine⟨?_,?_,?_⟩
  ·obtain⟨k,hk,rfl⟩:=aR.mp hd
   have hk:=gq.mp hk;exact Eb (jM ns) m1 (orderOf (cX ns)) _ k (by omega) hk
  ·exact Kc dj _ (aR.mpr ⟨d,hd,rfl⟩)
  ·obtain⟨k,hk,rfl⟩:=aR.mp hd
   exact Xj _
 have hln:∀x∈linesOf (cX ns),gG x:=λx hx=>pH (jD (show x∈(placesOf (cX ns)).drop _ from hx))
 have tk:=J_ (jM ns) (dg (jM ns) (orderOf (cX ns)) (linesOf (cX ns))) (kindsOf (lE ns)) knd dnd _ (aK _)
 generalize hD:dg (jM ns) (orderOf (cX ns)) (linesOf (cX ns))=mH at *
 have e0:kY ns=⟨kindsOf (lE ns),rF (cX ns),(dF (linesOf (cX ns)).length).map (roomAt (cX ns) mH (linesOf (cX ns))),mH,kW (jM ns) mH (kindsOf (lE ns)) mH.length,nF (jM ns) mH mH.length⟩:=by rw[<-hD];rfl
 have lnm:((dF (linesOf (cX ns)).length).map (roomAt (cX ns) mH (linesOf (cX ns)))).map (·.1)=linesOf (cX ns):=by
  rw[bU];exact Cy _
 have gl:rF (cX ns)++linesOf (cX ns)=placesOf (cX ns):=o7 _ _;rw[e0];rw[lX]at tk;refine⟨knd,by rw[lnm,gl];exact pnd,dnd,λd hd=>?_,dj,tk.1,tk.2,λq hq=>?_,λq hq i hi=>?_,λq hq=>?_⟩
 ·obtain⟨a1,a2,a3,a4,a5,a6⟩:=hdk d hd
  obtain⟨f1,f2,f3⟩:=hfill d hd;have hpx:∀x∈d.places,x∈placesOf (cX ns):=λx hx=>hpm.mem_iff.mp (a5 x hx)
  refine⟨⟨a1,?_,f3,?_,by omega,f2,λx hx=>pH (hpx x hx)⟩,λx hx=>by rw[lnm,gl];exact hpx x hx,?_⟩
  ·rcases dJ.mp a2 with h|h
   ·exact .inr (hln _ h)
   ·exact .inl (bW.mp h)
  ·cases hp:d.places with
   |nil=>exact absurd hp f1
   |cons _ _=>simp
  ·rcases dJ.mp a2 with h|h
   ·obtain⟨k,hk,he⟩:=List.mem_iff_getElem.mp h
    have hgd:(linesOf (cX ns)).getD k ""=d.to:=by rw[aP,aG hk,he];rfl
    refine .inr ⟨(roomAt (cX ns) mH (linesOf (cX ns)) k).2,aR.mpr ⟨k,gq.mpr hk,?_⟩,?_⟩
    ·show roomAt (cX ns) mH (linesOf (cX ns)) k=(d.to,_)
     rw[<-hgd];rfl
    ·show _<=maxOf (oA mH ((linesOf (cX ns)).getD k ""))+eE (cX ns) (20+k)%3
     have:=(yu (oA mH ((linesOf (cX ns)).getD k ""))).2 (mY d.rule d.places.length) (bD _ (oE.mpr ⟨d,hd,by rw[hgd,decide_eq_true rfl];rfl⟩))
     have h2:=bY (eE (cX ns) (20+k)) (b:=3) (by decide)
     omega
   ·exact .inl (bW.mp h)
 ·obtain⟨⟨d,i⟩,hd,hq⟩:=HF.mp hq
  have hdm:d∈mH:=pU (jC hd);unfold qx at hq
  split at hq
  ·rcases aQ.mp hq with rfl|hq
   ·exact⟨aR.mpr ⟨d,hdm,rfl⟩,by show _%9<9+_%20;omega⟩
   ·rw[bW.mp hq]
    exact⟨aR.mpr ⟨d,hdm,rfl⟩,by show 25+_%20<50+_%40;omega⟩
  ·cases hq
 ·obtain⟨k,hk,rfl⟩:=aR.mp hq
  have hi:Cj (eE (lE ns) (10+k))=some i:=hi;unfold Cj at hi
  split at hi
  ·cases hi
   exact⟨by omega,lU _ 1 (by decide) (by decide) (by decide)⟩
  ·cases hi
 ·obtain⟨k,hk,rfl⟩:=aR.mp hq
  show 1<=maxOf _+_%3;have:=(yu (oA mH ((linesOf (cX ns)).getD k ""))).2 1 aY;have h2:=bY (eE (cX ns) (20+k)) (b:=3) (by decide)
  omega
theorem Ui(ns:List Int):(kY ns).kinds≠[]/\(kY ns).gates≠[]:=by
 obtain⟨k1,k4⟩:=uc (lE ns);obtain⟨g1,g3⟩:=pI (cX ns);obtain⟨p1,p6⟩:=rG (cX ns);refine⟨λz=>?_,λz=>?_⟩
 ·have:=congrArg nY z
  have:(kindsOf (lE ns)).length=0:=this;simp only[kindsOf,aq,iK]at this;omega
 ·have:=congrArg nY z
  have:(rF (cX ns)).length=0:=this;unfold rF at this;rw[dO]at this;omega
end Mg
namespace Mg
open L2 PySem PyProof.Rows
seal L2.VE L2.VS L2.Em L2.VT L2.VO L2.VTs
theorem mV(x y:Str):(x++y).length=x.length+y.length:=by simp only[dI]
theorem lZ{x y:Str}(h1:rY x)(h2:rY y):rY (x++y):=(rD _).mpr λc hc=>by
 rw[add_list]at hc;rcases dJ.mp hc with hc|hc
 ·exact(rD _).mp h1 c hc
 ·exact(rD _).mp h2 c hc
theorem xH{y:Str}(hy:rY y):∀{l:List Str},(∀x∈l,rY x)->rY (fQ y l)
 | [],_=>(rD _).mpr λc hc=>by cases hc
 | [x],h=>h x aY
 |x::z::l,h=>lZ (lZ (h x aY) hy) (xH hy λu hu=>h u (bD _ hu))
theorem nG{x:Str}(h:eN (.str x)=true:=by decide +kernel):rY x:=h
theorem Xl{p:Pl}(ok:nU p):∀r∈iz p,rY r/\r.length<=1400:=by
 intro r hr;have nn:∀{x:Str},gG x->rY x/\x.length<=8:=λh=>⟨h.ok.2,h.short⟩
 have dn:∀{d:aA},TF d->rY (iH d)/\(iH d).length<=8:=λh=>⟨(DR h).2,qJ h⟩
 have nm:∀{i:Int},gB i->rY (gD i)/\(gD i).length<=6:=λh=>⟨(wG h.1 h.2).2,mQ h⟩
 unfold iz vm at hr;simp only[dJ,aR]at hr;rcases hr with((((⟨q,hq,rfl⟩|⟨q,hq,rfl⟩)|⟨q,hq,rfl⟩)|⟨q,hq,rfl⟩)|⟨q,hq,rfl⟩)|⟨q,hq,rfl⟩
 ·obtain⟨h1,h2⟩:=ok.kinds q hq
  refine⟨lZ (lZ (lZ nG (nn h1).1) nG) (dn h2).1,?_⟩
  have a:=(nn h1).2;have b:=(dn h2).2;unfold yE;rw[mV,mV,mV,show("kind ":Str).length=5 from by decide,show(" ":Str).length=1 from by decide]
  omega
 ·have h1:=ok.gates q hq
  refine⟨lZ nG (nn h1).1,?_⟩
  have a:=(nn h1).2;unfold uN;rw[mV,show("gate ":Str).length=5 from by decide]
  omega
 ·obtain⟨h1,h2⟩:=ok.lines q hq
  refine⟨lZ (lZ (lZ nG (nn h1).1) nG) (nm h2).1,?_⟩
  have a:=(nn h1).2;have b:=(nm h2).2;unfold uO;rw[mV,mV,mV,show("line ":Str).length=5 from by decide,show(" ":Str).length=1 from by decide]
  omega
 ·obtain⟨h1,h2,h3,h4,h5⟩:=ok.desks q hq
  refine⟨lZ (lZ (lZ (lZ (lZ (lZ (lZ nG (nn h1).1) nG) (dn (d:=.str q.to) h2).1) nG) (xH nG λx hx=>(Q0 h3 x hx).2)) nG) (xH nG λx hx=>(nn (h5 x hx)).1),?_⟩
  have a:=(nn h1).2;have b:=(dn (d:=.str q.to) h2).2;have c:=vh h3;have d:=m8 (y:=(" ":Str)) (by decide) (l:=q.places) (b:=8) λx hx=>(nn (h5 x hx)).2
  unfold tK vf;rw[mV,mV,mV,mV,mV,mV,mV,show("desk ":Str).length=5 from by decide,show(" to ":Str).length=4 from by decide,show(" by ":Str).length=4 from by decide,show(" from ":Str).length=6 from by decide]
  omega
 ·obtain⟨h1,h2,h3⟩:=ok.times q hq
  have hx4:∀x∈[("time":Str),q.1,q.2.1,gD q.2.2],rY x/\x.length<=8:=λx hx=>by
   simp only[aQ,cL,or_false]at hx;rcases hx with rfl|rfl|rfl|rfl
   ·exact⟨nG,by decide⟩
   ·exact nn h1
   ·exact nn h2
   ·exact⟨(nm h3).1,by have:=(nm h3).2;omega⟩
  refine⟨xH nG λx hx=>(hx4 x hx).1,?_⟩
  have:=m8 (y:=(" ":Str)) (by decide) λx hx=>(hx4 x hx).2
  unfold uP;simp only[bJ,dM]at this;omega
 ·obtain⟨h1,h2,h3⟩:=ok.hours q hq
  have hx4:∀x∈[("open":Str),q.1,gD q.2.1,gD q.2.2],rY x/\x.length<=8:=λx hx=>by
   simp only[aQ,cL,or_false]at hx;rcases hx with rfl|rfl|rfl|rfl
   ·exact⟨nG,by decide⟩
   ·exact nn h1
   ·exact⟨(nm h2).1,by have:=(nm h2).2;omega⟩
   ·exact⟨(nm h3).1,by have:=(nm h3).2;omega⟩
  refine⟨xH nG λx hx=>(hx4 x hx).1,?_⟩
  have:=m8 (y:=(" ":Str)) (by decide) λx hx=>(hx4 x hx).2
  unfold vW;simp only[bJ,dM]at this;omega
theorem Xm(ns:List Int):(iz (kY ns)).length<=44:=by
 obtain⟨k1,k4⟩:=uc (lE ns);obtain⟨p1,p6⟩:=rG (cX ns);have hol:(orderOf (cX ns)).length=(placesOf (cX ns)).length:=by
  unfold orderOf;rw[bK,fG,dO];have:=Aw (cX ns) (n:=(placesOf (cX ns)).length) (by have:=(pI (cX ns)).1;omega)
  omega
 have g1:=(pI (cX ns)).1;have hkl:(kindsOf (lE ns)).length=ou (lE ns):=by simp[kindsOf]
 have hdl:(dg (jM ns) (orderOf (cX ns)) (linesOf (cX ns))).length<=4:=by rw[yD];exact(t_ (jM ns) (by omega)).2.1
 have htl:=yx (jM ns) (dg (jM ns) (orderOf (cX ns)) (linesOf (cX ns))) (kindsOf (lE ns)) (by omega) _ (aK _)
 have hhl:=yC (jM ns) (dg (jM ns) (orderOf (cX ns)) (linesOf (cX ns))) _ (aK _)
 generalize hD:dg (jM ns) (orderOf (cX ns)) (linesOf (cX ns))=mH at *
 have e0:kY ns=⟨kindsOf (lE ns),rF (cX ns),(dF (linesOf (cX ns)).length).map (roomAt (cX ns) mH (linesOf (cX ns))),mH,kW (jM ns) mH (kindsOf (lE ns)) mH.length,nF (jM ns) mH mH.length⟩:=by rw[<-hD];rfl
 have hg:(rF (cX ns)).length+(linesOf (cX ns)).length<=6:=by unfold rF linesOf;rw[dO,fG];omega
 rw[e0];unfold iz vm;simp only[bK,aq,iK];omega
theorem Xn(ns:List Int):Gw (Ay (kY ns)):=by
 have hr:=Xl (VJ ns);refine⟨?_,xH nG λx hx=>(hr x hx).1⟩
 have:=m8 (y:=("\n":Str)) (by decide) λx hx=>(hr x hx).2
 have h2:=Xm ns;unfold Ay;have:(iz (kY ns)).length*(1400+1)<=44*1401:=nR h2 (aK _);omega
end Mg
namespace Mg
open L2 PySem PyProof.Rows
structure zgd(K:ao)(mg:Str->Option aF)(M:aN):Prop where
 mg:mg "MergeError"=some (.ref M)
 rd:Hj K M (.type "type")=true
 fc:Ho K (.ref M) (.type "type") "__init__"=some (.val (.builtin "ValueError.__init__"))
 sp:oU K (.ref M) "__getattribute__"=some (some (.builtin "type.__getattribute__"))
abbrev sIX:mj:=inClass (top 3) 0
abbrev Nix:List Str:=["self","place","word"]
section
variable{P:bL}{w:dB}{K:ao}{mg:Str->Option aF}{base:dW}{f C M:aN}{k:Nat}
theorem zge:eX Nix Nix (cP sIX):=⟨rfl,rfl,rfl,by decide +kernel,rfl,by decide +kernel,by decide +kernel⟩
theorem zi4{fd:cU}(F:rP K "__init__" "BadDay.__init__" sIX f fd)(c:Te K C)(n1:jG K C "place")(n2:jG K C "word")(S:zgd K mg M):i_ P w K mg base qz 1 f fd Nix (Oh C):=by
 refine F.ok zge (λvs H Q E h=>by obtain⟨_,_,_,rfl,_⟩:=h;rfl) (λcdv A outer s H vs Q E hr h=>⟨_,tY,?_⟩)
 obtain⟨e,v1,x2,rfl,hl,ge,q⟩:=h;have hx:(iy++("bad day: ":Str)).length<=sizeLine:=by rw[fK];decide +kernel
 have hxy:∀y:Str,y.length<=1000->(iy++("bad day: ":Str)++y).length<=sizeLine:=λy hy=>by
  rw[fK,dI];have:(iy++("bad day: ":Str)).length<=100:=by decide +kernel
  omega
 refine gk (λpins s1 I=>Al (zdn (pl:=_) (by rfl) S.mg S.rd S.fc S.sp (eV (j8 (i:=0) rfl (bG rfl)) (eV (za1 (j8 (i:=2) rfl (bG rfl)) hx) je))) rfl pins s1 _ _ _ I ?_)
 refine⟨.ref e,rfl,.str x2,rfl,x2,rfl,dD hl (by rw[fK];decide),hxy x2 hl,e,C,none,_,rfl,ge,c,?_⟩
 refine gk (λpins s1 I=>Za (j8 (i:=0) rfl (bG rfl)) (j8 (i:=1) rfl (bG rfl)) rfl pins s1 _ _ _ I ⟨v1,rfl,.ref e,rfl,e,C,rfl,ge,c,n1,λdx h1 h2=>?_⟩)
 exact gU (λpins s1 I=>Zb (j8 (i:=0) rfl (bG rfl)) (j8 (i:=2) rfl (bG rfl)) rfl pins s1 _ _ _ I ⟨.str x2,rfl,.ref e,rfl,e,C,dx,_,rfl,cQ,by rw[bf h2,cQ],h2,c,n2,(by show 1<50;decide),q dx h1 h2⟩)
end
structure XKd(K:ao)(mg:Str->Option aF)(C:aN):Prop where
 own:mg "BadDay"=some (.ref C)
 oth:∃M1 M2 M3,mg "BadBook"=some (.ref M1)/\mg "BadPlant"=some (.ref M2)/\mg "NoBound"=some (.ref M3)/\Iv K (.ref C) [.ref M1,.ref M2,.ref M3]=some false
 kc:dR K (.ref C) (.ref C)=some true
 kv:dR K (.ref C) (.type "ValueError")=some true
 ve:mg "ValueError"=none
 gt:Tg K C
 np:jG K C "place"
 nw:jG K C "word"
def zgf(K:ao)(C:aN):Sp:=λvs H Q _=>∃H0 e p wd v,vs=[.ref e,v]/\Same H0 H/\u9 K H e C p wd/\Rep K H0 v (.tuple [.int p,.str wd])/\rY wd/\∀iM H',gR H0 H iM H'->Q (.bl true) H'
abbrev Nrf:List Str:=["_law_caught","_law_due_here"]
section
variable{P:bL}{w:dB}{K:ao}{mg:Str->Option aF}{base:dW}{f C M:aN}{k:Nat}
theorem zgg:eX Nrf Nrf (cP (top 60)):=⟨rfl,rfl,rfl,by decide +kernel,rfl,by decide +kernel,by decide +kernel⟩
theorem zi5{fd:cU}(F:rP K "_law_is_refused" "_law_is_refused" (top 60) f fd)(n:Na mg)(kt:Ka K)(S:XKd K mg C):i_ P w K mg base qz 1 f fd Nrf (zgf K C):=by
 refine F.ok zgg (λvs H Q E h=>by obtain⟨_,_,_,_,_,rfl,_⟩:=h;rfl) (λcdv A outer s H vs Q E hr h=>⟨_,tY,?_⟩)
 obtain⟨H0,e,p,wd,v,rfl,sm,c,rv,ow,q⟩:=h;obtain⟨M1,M2,M3,o1,o2,o3,ka⟩:=S.oth;refine gk (λpins s1 I=>Gi (PW.pt (pw_or (EY (BW (rm za9 (by rfl) n.isi rfl (eV (j8 (i:=0) rfl (bG rfl)) (eV (vN (v:=.ref C) (by rfl) S.own rfl) je))))) (pw_or1 (EY (BW (rm zdu (by rfl) n.isi rfl (eV (j8 (i:=0) rfl (bG rfl)) (eV (Dd (v:=.ty "ValueError") (by rfl) S.ve rfl rfl) je)))))))) pO Ak pins s1 _ _ _ I ?_)
 refine⟨.ref e,rfl,e,C,p,wd,C,true,rfl,c,S.kc,true,rfl,NQ ⟨.ref e,rfl,e,C,p,wd,"ValueError",true,rfl,c,S.kv,true,rfl,NQ ?_⟩⟩
 refine gk (λpins s1 I=>Gi (BW (rm zba (by rfl) n.isi rfl (eV (j8 (i:=0) rfl (bG rfl)) (eV (Jc (eV (vN (v:=.ref M1) (by rfl) o1 rfl) (eV (vN (v:=.ref M2) (by rfl) o2 rfl) (eV (vN (v:=.ref M3) (by rfl) o3 rfl) je)))) je)))) pO Ak pins s1 _ _ _ I ?_)
 refine⟨.ref e,rfl,(by show 3<=sizeLine;rw[fK];decide),λt ht=>?_⟩
 have g1:gR H0 H H0 (upd H t (.tup [.ref M1,.ref M2,.ref M3])):=gR.loose sm ht;have c1:=c.mono g1.big;refine⟨e,C,p,wd,t,M1,M2,M3,false,rfl,c1,cQ,ka,false,rfl,NQ ?_⟩
 generalize upd H t (.tup [.ref M1,.ref M2,.ref M3])=Hb at *
 have lp:(Dy p wd).lookup ("place":Str)=some (.int p):=rfl;have lw:(Dy p wd).lookup ("word":Str)=some (.str wd):=rfl;refine gk (λpins s1 I=>Gi (PW.pt (pw_or (EY (BW (rm (Vi (d:=.int p) (tn:="int") rfl kt.ii) (by rfl) n.isi rfl (eV (Dz (i:=0) rfl (bG rfl) rfl) (eV (Dd (v:=.ty "int") (by rfl) n.int rfl rfl) je)))))
  (pw_or (BW (rm (Vi (d:=.int p) (tn:="bool") rfl kt.ib) (by rfl) n.isi rfl (eV (Dz (i:=0) rfl (bG rfl) rfl) (eV (Dd (v:=.ty "bool") (by rfl) n.bool rfl rfl) je))))
   (pw_or1 (EY (BW (rm (Vi (d:=.str wd) (tn:="str") rfl kt.ss) (by rfl) n.isi rfl (eV (Dz (i:=0) rfl (bG rfl) rfl) (eV (Dd (v:=.ty "str") (by rfl) n.str rfl rfl) je))))))))) pO Ak pins s1 _ _ _ I ?_)
 refine⟨e,C,p,wd,.int p,rfl,c1,S.np,lp,.int p,rfl,.int p,true,rfl,NQ ⟨e,C,p,wd,.int p,rfl,c1,S.np,lp,.int p,rfl,.int p,false,rfl,NQ ⟨e,C,p,wd,.str wd,rfl,c1,S.nw,lw,.str wd,rfl,.str wd,true,rfl,NQ ?_⟩⟩⟩
 have hL:Lay 20 (.tuple [.int p,.str wd]):=Oa (n:=19) λd hd=>by
  simp only[aQ,cL,or_false]at hd;rcases hd with rfl|rfl
  ·exact dY 19 _
  ·exact bZ ow
 refine gU (λpins s1 I=>IK (U3 (Sv (KR hr)) (Jc (eV (Dz (i:=0) rfl (bG rfl) rfl) (eV (Dz (i:=0) rfl (bG rfl) rfl) je))) (j8 (i:=1) rfl (bG rfl)) (jQ _)) pins s1 _ _ _ I ?_)
 refine⟨e,C,p,wd,.int p,rfl,c1,S.np,lp,e,C,p,wd,.str wd,rfl,c1,S.nw,lw,(by show 2<=sizeLine;rw[fK];decide),λt2 ht2=>?_⟩
 have g2:=gR.laid g1.sub (o:=.tup [.int p,.str wd]) ht2;refine⟨v,rfl,Qf hL hL (.ref t2) v _ _ _ g2.sub (.tup (xZ.of cQ) (.cons (.int p) (.cons (.str wd) .nil))) ((rv.mono g1.j9).mono g2.j9) λx Ha Hx g3 rx=>?_⟩
 rw[KJ _ hL.1]at rx;cases rx;exact q Ha Hx ((g1.trans g2).trans g3)
end
end Mg
namespace Mg
open L2 PySem PyProof.Rows
seal L2.VE L2.VS L2.Em L2.VT L2.VO L2.VTs
structure okG(g:rH):Prop where
 gt:rY g.2.1
 kd:rY g.2.2.1
 pa:rY g.2.2.2
 ln:g.2.2.2.length<=100000
def oO(p:Pl)(g:rH)(t:Int):Str:=
 if g.1<t then "time" else if g.2.1∉p.gates then "gate" else if g.2.2.1∉p.kinds.map (·.1)then "kind" else if g.2.2.2≠""/\isName g.2.2.2=false then "parcel" else ""
theorem Rh(p:Pl)(g:rH)(t:Int):oO p g t="time"\/oO p g t="gate"\/oO p g t="kind"\/oO p g t="parcel"\/oO p g t="":=by
 unfold oO
 split
 ·exact .inl rfl
 ·split
  ·exact .inr (.inl rfl)
  ·split
   ·exact .inr (.inr (.inl rfl))
   ·split
    ·exact .inr (.inr (.inr (.inl rfl)))
    ·exact .inr (.inr (.inr (.inr rfl)))
theorem Ri(p:Pl)(g:rH)(t:Int):rY (oO p g t)/\(oO p g t).length<=1000:=by
 rcases Rh p g t with e|e|e|e|e<;>rw[e]<;>exact⟨by show eN _=true;decide +kernel,by decide +kernel⟩
section
variable{P:bL}{w:dB}{K:ao}{mg:Str->Option aF}{base:dW}{f:aN}{k:Nat}
theorem zgh:eX ["time"] ["time"] (cP (top 20)):=⟨rfl,rfl,rfl,by decide +kernel,rfl,by decide +kernel,by decide +kernel⟩
def Riw(ds:List aA)(d:aA):Prop:=∃i:Int,ds=[.int i]/\d=.bool true
theorem zi6{fd:cU}(F:rP K "is_whole" "is_whole" (top 20) f fd)(n:Na mg)(kt:Ka K):i_ P w K mg base qz 1 f fd ["time"] (mX K Riw):=
 qg F zgh (λ_ _ h=>by obtain⟨_,rfl,_⟩:=h;rfl) λ_ _ h=>by
  obtain⟨i,rfl,rfl⟩:=h;intro cdv A outer s H E hr;exact bH (dG (VE.to (wD (N_ (tn:="int") (aj 0 rfl) rfl kt.ii rfl n.isi n.int rfl) (λ_=>qI (Dv (N_ (tn:="bool") (aj 0 rfl) rfl kt.ib rfl n.isi n.bool rfl)))) rfl))
abbrev Nfd:List Str:=["plant","good","ahead"]
theorem zgj:eX Nfd Nfd (cP (top 18)):=⟨rfl,rfl,rfl,by decide +kernel,rfl,by decide +kernel,by decide +kernel⟩
def Rfd(ds:List aA)(d:aA):Prop:=∃(p:Pl)(g:rH)(t:Int),ds=[pJ p,jt g,.int t]/\nU p/\okG g/\d=.str (oO p g t)
theorem zi8{fd:cU}(F:rP K "fault_of" "fault_of" (top 18) f fd)(n:Na mg)(kt:Ka K)(C1:cG P w K mg base 1 "is_whole" ["time"] (mX K Riw))(C2:cG P w K mg base 2 "is_name" ["word"] (mX K Rna)):i_ P w K mg base qz 3 f fd Nfd (mX K Rfd):=
 qg F zgj (λ_ _ h=>by obtain⟨_,_,_,rfl,_⟩:=h;rfl) λ_ _ h=>by
  obtain⟨p,g,t,rfl,hp,hg,rfl⟩:=h;intro cdv A outer s H E hr;have hkk:(vY p).map (λq=>aW q.1)=(p.kinds.map (·.1)).map .str:=by unfold vY;simp only[bU];rfl
  have lk:Lay 20 (.list ((p.kinds.map (·.1)).map aW)):=oH (l:=p.kinds.map (·.1)) λx hx=>by
   obtain⟨q,hq,rfl⟩:=aR.mp hx;exact(hp.kinds q hq).1
  unfold oO;by_cases h1:g.1<t
  ·rw[if_pos h1]
   exact fJ (gj (VT.to (VT.to (oW (k1:=false) (k2:=decide (g.1<t)) (VT.to (u6 (qe (cF C1 (hr.mono (by omega)) (au (cY (aj 1 rfl) aH (cu (j:=0) rfl)) aX) ⟨g.1,rfl,rfl⟩) rfl)) rfl) (λ_=>yO (cY (aj 1 rfl) aH (cu (j:=0) rfl)) (aj 2 rfl))) rfl) (by rw[decide_eq_true h1];rfl)) (bH (dG aU))) rfl
  rw[if_neg h1];refine aO (cW (VT.to (VT.to (oW (k1:=false) (k2:=decide (g.1<t)) (VT.to (u6 (qe (cF C1 (hr.mono (by omega)) (au (cY (aj 1 rfl) aH (cu (j:=0) rfl)) aX) ⟨g.1,rfl,rfl⟩) rfl)) rfl) (λ_=>yO (cY (aj 1 rfl) aH (cu (j:=0) rfl)) (aj 2 rfl))) rfl) (by rw[decide_eq_false h1];rfl)) b_) ?_
  by_cases h2:g.2.1∉p.gates
  ·rw[if_pos h2]
   exact fJ (gj (VT.to (nZ hr rfl (bZ hg.gt) (oH hp.gates) (cY (aj 1 rfl) aH (cu (j:=1) rfl)) (sV (aj 0 rfl) (J1 p))) (by rw[jx,decide_eq_false h2];rfl)) (bH (dG aU))) rfl
  rw[if_neg h2];have h2:g.2.1∈p.gates:=vC.mp h2;refine aO (cW (VT.to (nZ hr rfl (bZ hg.gt) (oH hp.gates) (cY (aj 1 rfl) aH (cu (j:=1) rfl)) (sV (aj 0 rfl) (J1 p))) (by rw[jx,decide_eq_true h2];rfl)) b_) ?_
  by_cases h3:g.2.2.1∉p.kinds.map (·.1)
  ·rw[if_pos h3]
   exact fJ (gj (VT.to (nZ hr rfl (bZ hg.kd) lk (cY (aj 1 rfl) aH (cu (j:=2) rfl)) (VE.to (VO.ve (qM (zU rfl) Vt (au (sV (aj 0 rfl) (DW p)) aX) n.lst rfl)) (by rw[hkk]))) (by rw[jx,decide_eq_false h3];rfl)) (bH (dG aU))) rfl
  rw[if_neg h3];have h3:g.2.2.1∈p.kinds.map (·.1):=vC.mp h3
  refine aO (cW (VT.to (nZ hr rfl (bZ hg.kd) lk (cY (aj 1 rfl) aH (cu (j:=2) rfl)) (VE.to (VO.ve (qM (zU rfl) Vt (au (sV (aj 0 rfl) (DW p)) aX) n.lst rfl)) (by rw[hkk]))) (by rw[jx,decide_eq_true h3];rfl)) b_) ?_
  by_cases h4:g.2.2.2≠""/\isName g.2.2.2=false
  ·rw[if_pos h4]
   exact fJ (gj (VT.to (qd (k1:=!decide (g.2.2.2="")) (k2:=!(true&&isName g.2.2.2)) (VT.to (qu hr (bZ hg.pa) bC (cY (aj 1 rfl) aH (cu (j:=3) rfl)) aU) (by rw[cR])) (λ_=>u6 (qd (k1:=true) (k2:=isName g.2.2.2) (qe (N_ (tn:="str") (cY (d:=.str g.2.2.2) (aj 1 rfl) aH (cu (j:=3) rfl)) rfl kt.ss rfl n.isi n.str rfl) rfl) (λ_=>qe (cF C2 (hr.mono (by omega)) (au (cY (d:=.str g.2.2.2) (aj 1 rfl) aH (cu (j:=3) rfl)) aX) ⟨g.2.2.2,rfl,hg.ln,rfl⟩) rfl)))) (by rw[decide_eq_false h4.1,h4.2];rfl)) (bH (dG aU))) rfl
  ·rw[if_neg h4]
   refine aO (cW (VT.to (qd (k1:=!decide (g.2.2.2="")) (k2:=!(true&&isName g.2.2.2)) (VT.to (qu hr (bZ hg.pa) bC (cY (aj 1 rfl) aH (cu (j:=3) rfl)) aU) (by rw[cR])) (λ_=>u6 (qd (k1:=true) (k2:=isName g.2.2.2) (qe (N_ (tn:="str") (cY (d:=.str g.2.2.2) (aj 1 rfl) aH (cu (j:=3) rfl)) rfl kt.ss rfl n.isi n.str rfl) rfl) (λ_=>qe (cF C2 (hr.mono (by omega)) (au (cY (d:=.str g.2.2.2) (aj 1 rfl) aH (cu (j:=3) rfl)) aX) ⟨g.2.2.2,rfl,hg.ln,rfl⟩) rfl)))) ?_) b_) (bH (dG aU))
   by_cases h5:g.2.2.2=""
   ·rw[decide_eq_true h5];rfl
   ·have:isName g.2.2.2=true:=by
     cases h6:isName g.2.2.2 with
     |true=>rfl
     |false=>exact absurd ⟨h5,h6⟩ h4
    rw[decide_eq_false h5,this];rfl
end
def GX:rH:=(0,"","","")
def ju(day:List rH):Nat->Int
 |0=>0
 |i+1=>(day.getD i GX).1
def tQ(p:Pl)(day:List rH)(i:Nat):Str:=oO p (day.getD i GX) (ju day i)
structure O1(p:Pl)(day:List rH)(m:Nat)(wd:Str):Prop where
 lt:m<day.length
 pre:∀i,i<m->tQ p day i=""
 at_:tQ p day m=wd
 ne:wd≠""
def NoF(p:Pl)(day:List rH):Prop:=∀i,i<day.length->tQ p day i=""
theorem ZX(p:Pl)(day:List rH):NoF p day\/∃m wd,O1 p day m wd:=by
 have go:∀n,n<=day.length->(∀i,i<n->tQ p day i="")\/∃m wd,O1 p day m wd:=by
  intro n
  induction n with
  |zero=>intro _;exact .inl λi h=>absurd h (Nat.not_lt_zero _)
  |succ n ih=>
   intro hn;rcases ih (by omega)with h|h
   ·by_cases e:tQ p day n=""
    ·refine .inl λi hi=>?_
     by_cases hin:i=n
     ·rw[hin];exact e
     ·exact h i (by omega)
    ·exact .inr ⟨n,_,by omega,h,rfl,e⟩
   ·exact .inr h
 rcases go day.length (aK _)with h|h
 ·exact .inl h
 ·exact .inr h
structure Rj(day:List rH):Prop where
 len:day.length<=100
 ok:∀g∈day,okG g
theorem Rj.at{day:List rH}(h:Rj day){i:Nat}(hi:i<day.length):okG (day.getD i GX):=by
 rw[aP,aG hi];exact h.ok _ (fY hi)
theorem v7{day:List rH}{i:Nat}(hi:i<day.length):(day.map jt)[i]?=some (jt (day.getD i GX)):=by
 rw[bh,aG hi,aP,aG hi];rfl
section
variable{P:bL}{w:dB}{K:ao}{mg:Str->Option aF}{base:dW}{f C fI:aN}{k:Nat}
abbrev Nld:List Str:=["plant","day","ahead","number","good","word"]
theorem V0:eX Nld ["plant","day"] (cP (top 17)):=⟨rfl,rfl,rfl,by decide +kernel,rfl,by decide +kernel,by decide +kernel⟩
def Rld(ds:List aA)(d:aA):Prop:=∃(p:Pl)(day:List rH),ds=[pJ p,.list (day.map jt)]/\nU p/\Rj day/\NoF p day/\d=.bool true
def zgl(ds:List aA)(pl:Int)(wd:Str):Prop:=∃(p:Pl)(day:List rH)(m:Nat),ds=[pJ p,.list (day.map jt)]/\nU p/\Rj day/\O1 p day m wd/\pl=m
theorem zja{fd:cU}(F:rP K "look_day" "look_day" (top 17) f fd)(n:Na mg)(C1:cG P w K mg base 3 "fault_of_days" Nfd (mX K Rfd)):i_ P w K mg base qz 4 f fd ["plant","day"] (mX K Rld):=
 qg F V0 (λ_ _ h=>by obtain⟨_,_,rfl,_⟩:=h;rfl) λ_ _ h=>by
  obtain⟨p,day,rfl,hp,hd,hno,rfl⟩:=h;intro cdv A outer s H E hr;have nd:Nld.Nodup:=V0.nd;refine aO (dU 2 aH nd) ?_
  refine aO (rB (tgt:=.tup [3,4]) (o:=.nx [.val (pJ p),.val (.list (day.map jt)),.val (.int (ju day day.length)),.un,.un,.un]) gA rfl (qC (ds:=day.map jt) (aj 1 rfl) n.Wu)
   (lg rfl (cZ (cJ (i:=3) nd rfl (bG rfl)) (cZ (cJ (i:=4) nd rfl (bG rfl)) jq))) (λi=>[.val (pJ p),.val (.list (day.map jt)),.val (.int (ju day i)),.un,.un,.un]) day.length rfl (by rw[fB,aq];exact aK _) (λi d hi hd'=>?_) (.inl ⟨by rw[fB,aq],rfl⟩)) (bH (dG Gq))
  obtain⟨x,hx,rfl⟩:=kJ hd';have hf:=hno i hi;have hg:=hd.at hi;rw[v7 hi]at hx;cases hx;have ea:ju day (i+1)=(day.getD i GX).1:=rfl;unfold tQ at hf;rw[ea]
  generalize day.getD i GX=g at *
  refine⟨_,rfl,?_⟩
  refine aO (dU 5 (d:=.str "") (VE.to (cF C1 hr (au (aj 0 rfl) (au (aj 4 rfl) (au (aj 2 rfl) aX))) ⟨p,g,ju day i,rfl,hp,hg,rfl⟩) (by rw[hf])) nd) ?_
  refine aO (cW (VT.to (qu hr bC bC (aj 5 rfl) aU) (congrArg (λb=>!b) (nW _))) b_) ?_
  exact mU (bH (dU 2 (d:=.int g.1) (cY (aj 4 rfl) aH (cu (j:=0) rfl)) nd)) ⟨.inr rfl,.inr rfl,.inr rfl,.inl rfl,.inl rfl,.inl rfl,trivial⟩
theorem zgm{fd fdI:cU}(F:rP K "look_day" "look_day" (top 17) f fd)(n:Na mg)(C1:cG P w K mg base 3 "fault_of_days" Nfd (mX K Rfd))(mC:mg "BadDay"=some (.ref C))(M:MkX K C fI)(FI:i_ P w K mg base qz 1 fI fdI Nix (Oh C))(bI:Binds K fdI Nix []):
  i_ P w K mg base (CXe P w) 4 f fd ["plant","day"] (spX K C zgl):=by
 obtain⟨oc,od,kV,doc,pm,an,cdv,ct,osl,rfl,lk,hcd⟩:=F.ex;refine zbJ lk hcd V0 (λvs H Q E h=>?_) λA outer s H vs Q E hr h=>⟨_,tY,?_⟩
 ·obtain⟨H0,ds,pl,wd,_,r,⟨p,day,m,rfl,_⟩,_⟩:=h
  exact r.length
 obtain⟨H0,ds,pl,wd,sm,r,⟨p,day,m,rfl,hp,hd,hF,rfl⟩,q⟩:=h;have nd:Nld.Nodup:=V0.nd;have fr:kj K H0 H H0 H _ (Ca Nld [pJ p,.list (day.map jt)]):=.start sm r;refine gk (Fx (X:=cxE P w K mg base Nld "look_day" (cP (top 17)) f cdv A outer s H E) fr (dU 2 aH nd) λσ1 Ha Hb _ f1=>?_)
 have hml:=hF.lt;refine gk (zdo (tgt:=.tup [3,4]) (m:=m) f1 M4.leaving rfl (qC (ds:=day.map jt) (aj 1 rfl) n.Wu)
   (lg rfl (cZ (cJ (i:=3) nd rfl (bG rfl)) (cZ (cJ (i:=4) nd rfl (bG rfl)) jq))) (λi=>[.val (pJ p),.val (.list (day.map jt)),.val (.int (ju day i)),.un,.un,.un]) rfl (by rw[fB,aq];exact hml) (λi d hi hd'=>?_) (λd hd'=>?_))
 ·obtain⟨x,hx,rfl⟩:=kJ hd'
  have hf:=hF.pre i hi;have hg:=hd.at (i:=i) (by omega)
  rw[v7 (by omega)]at hx
  cases hx;have ea:ju day (i+1)=(day.getD i GX).1:=rfl;unfold tQ at hf;rw[ea]
  generalize day.getD i GX=g at *
  refine⟨_,rfl,?_⟩
  refine aO (dU 5 (d:=.str "") (VE.to (cF C1 hr (au (aj 0 rfl) (au (aj 4 rfl) (au (aj 2 rfl) aX))) ⟨p,g,ju day i,rfl,hp,hg,rfl⟩) (by rw[hf])) nd) ?_
  refine aO (cW (VT.to (qu hr bC bC (aj 5 rfl) aU) (congrArg (λb=>!b) (nW _))) b_) ?_
  exact mU (bH (dU 2 (d:=.int g.1) (cY (aj 4 rfl) aH (cu (j:=0) rfl)) nd)) ⟨.inr rfl,.inr rfl,.inr rfl,.inl rfl,.inl rfl,.inl rfl,trivial⟩
 ·obtain⟨x,hx,rfl⟩:=kJ hd'
  have hf:=hF.at_;have hg:=hd.at hml;rw[v7 hml]at hx;cases hx;unfold tQ at hf;have hok:=Ri p (day.getD m GX) (ju day m);rw[hf]at hok
  generalize day.getD m GX=g at *
  refine⟨_,rfl,λD' σ' Hc Hd f2=>?_⟩
  refine gk (Fx f2 (dU 5 (d:=.str wd) (VE.to (cF C1 hr (au (aj 0 rfl) (au (aj 4 rfl) (au (aj 2 rfl) aX))) ⟨p,g,ju day m,rfl,hp,hg,rfl⟩) (by rw[hf])) nd) λσ3 He Hf _ f3=>?_)
  refine gk (JD f3 (VT.to (qu hr (bZ hok.1) bC (aj 5 rfl) aU) (by rw[cR,decide_eq_false hF.ne];rfl)) λHg Hh g4=>?_)
  refine gU (za4 (f3.grow g4) M FI (hr.mono (by omega)) bI (by rfl) mC (aj 3 rfl) (aj 5 rfl) hok.2 (λpins σ H2 s2 e dx I2 ge se wi=>?_) (λpins σ H2 s2 I2=>(JG I2).2.1) hr.hd)
  exact Zd I2 ge se λT nT ne=>q e T dx _ (wi.fly nT ne)
end
structure Uj(p:Pl)(g:rH):Prop where
 tm:gB g.1
 gt:g.2.1∈p.gates
 kd:g.2.2.1∈p.kinds.map (·.1)
 pa:g.2.2.2=""\/gG g.2.2.2
theorem Uj.gn{p:Pl}{g:rH}(hp:nU p)(h:Uj p g):gG g.2.1:=hp.gates _ h.gt
theorem Uj.kn{p:Pl}{g:rH}(hp:nU p)(h:Uj p g):gG g.2.2.1:=by
 obtain⟨q,hq,e⟩:=aR.mp h.kd;rw[<-e];exact(hp.kinds q hq).1
theorem Uj.ps{p:Pl}{g:rH}(h:Uj p g):rY g.2.2.2:=by
 rcases h.pa with e|e
 ·rw[e];show eN (.str ("":Str))=true;decide +kernel
 ·exact e.ok.2
def rising:Int->List rH->Prop
 |_,[]=>True
 |t,g::l=>t<=g.1/\rising g.1 l
structure Mz(p:Pl)(day:List rH):Prop where
 len:day.length<=100
 gd:∀g∈day,Uj p g
 ri:rising 0 day
theorem FZ:∀{day:List rH}{t:Int},rising t day->∀(i:Nat)(h:i<day.length),(match i with | 0=>t|j+1=>(day.getD j GX).1)<=day[i].1
 | [],_,_,i,h=>by simp at h
 |g::l,t,hr,0,_=>hr.1
 |g::l,t,hr,1,h=>by
  have:=FZ hr.2 0 (by simpa using h)
  exact this
 |g::l,t,hr,i+2,h=>by
  have:=FZ hr.2 (i+1) (by simp only[bJ]at h;omega)
  exact this
theorem Z0{day:List rH}(h:rising 0 day){i:Nat}(hi:i<day.length):ju day i<=day[i].1:=by
 have:=FZ h i hi;cases i with
 |zero=>exact this
 |succ i=>exact this
abbrev PAR:List Str:=["","p","q","pp","r"]
def tG(x:Str):Nat:=if x="" then 0 else if x="p" then 1 else if x="q" then 2 else if x="pp" then 3 else 4
theorem Xo{x:Str}(h:x∈PAR):PAR[tG x]?=some x/\∀m,m<tG x->∀y,PAR[m]?=some y->y≠x:=by
 simp only[aQ,cL,or_false]at h;rcases h with rfl|rfl|rfl|rfl|rfl
 ·exact⟨by decide +kernel,λm hm=>absurd hm (by rw[show tG ""=0 from by decide +kernel];omega)⟩
 ·refine⟨by decide +kernel,λm hm y hy=>?_⟩
  rw[show tG "p"=1 from by decide +kernel]at hm
  match m,hm,hy with
  |0,_,hy=>cases hy;decide +kernel
 ·refine⟨by decide +kernel,λm hm y hy=>?_⟩
  rw[show tG "q"=2 from by decide +kernel]at hm
  match m,hm,hy with
  |0,_,hy=>cases hy;decide +kernel
  |1,_,hy=>cases hy;decide +kernel
 ·refine⟨by decide +kernel,λm hm y hy=>?_⟩
  rw[show tG "pp"=3 from by decide +kernel]at hm
  match m,hm,hy with
  |0,_,hy=>cases hy;decide +kernel
  |1,_,hy=>cases hy;decide +kernel
  |2,_,hy=>cases hy;decide +kernel
 ·refine⟨by decide +kernel,λm hm y hy=>?_⟩
  rw[show tG "r"=4 from by decide +kernel]at hm
  match m,hm,hy with
  |0,_,hy=>cases hy;decide +kernel
  |1,_,hy=>cases hy;decide +kernel
  |2,_,hy=>cases hy;decide +kernel
  |3,_,hy=>cases hy;decide +kernel
theorem MF(x:Str):tG x<5:=by unfold tG;split<;>(try split)<;>(try split)<;>(try split)<;>omega
def vq(m:Int):List Str:=""::namesOf m 4
def vA(m:Int):Int:=if m%4=2 then 7 else if m%4=3 then 1+m/4%1400 else 1
theorem zdQ(m:Int):yN [jy 1,.int 1,.int 7,.int (1+m/4%1400)] (m%4)=some (.int (vA m)):=by
 unfold vA;rcases(by omega:m%4=0\/m%4=1\/m%4=2\/m%4=3)with e|e|e|e<;>rw[e]<;>rfl
theorem MJ(m:Int):1<=vA m/\vA m<=1400:=by unfold vA;split<;>(try split)<;>omega
def V1(m:Int)(g:rH):rH:=(g.1*vA m,g.2.1,g.2.2.1,(vq m).getD (tG g.2.2.2) "")
def v8(p:Pl)(cells:List Int)(m:Int):List rH:=(qP p cells).map (V1 m)
theorem Uk(m:Int):(vq m).length=5:=by unfold vq;rw[bJ,jl]
theorem zbx(m:Int){i:Nat}(h:i<5):(vq m).getD i ""=""\/gG ((vq m).getD i ""):=by
 cases i with
 |zero=>exact .inl rfl
 |succ i=>
  refine .inr ?_
  show gG ((namesOf m 4).getD i "");exact pH (getD_mem (by rw[jl];omega))
theorem Ec(m:Int):0<=sX m/\sX m<=11:=by unfold sX;split<;>(try split)<;>(try split)<;>omega
theorem yJ(cells:List Int):∀k:Nat,0<=mZ cells k/\mZ cells k<=11*k
 |0=>⟨Int.le_refl _,Int.le_refl _⟩
 |k+1=>by
  obtain⟨a,b⟩:=yJ cells k;obtain⟨c,d⟩:=Ec (eE (cells.getD k 0) k);show 0<=mZ cells k+sX _/\mZ cells k+sX _<=11*((k+1:Nat):Int);omega
theorem Ed(f:Nat->rH)(hf:∀k,(f k).1<=(f (k+1)).1):∀(n s:Nat)(t:Int),t<=(f s).1->rising t ((List.range' s n).map f)
 |0,_,_,_=>trivial
 |n+1,s,t,h=>⟨h,Ed f hf n (s+1) (f s).1 (hf s)⟩
theorem Xp(m:Int):u_ m∈PAR:=by
 unfold u_;have a1:0<=m/10000%5:=bY _ (by omega)
 have a2:m/10000%5<5:=cj _ (by omega)
 exact getD_mem (by show _<5;omega)
theorem Z1{p:Pl}(ok:nU p)(hk:p.kinds≠[])(hg:p.gates≠[]){cells:List Int}(hc:cells.length<=59)(m:Int):Mz p (v8 p cells m):=by
 have k1:1<=p.kinds.length:=by cases h:p.kinds with|nil=>exact absurd h hk|cons _ _=>simp
 have g1:1<=p.gates.length:=by cases h:p.gates with|nil=>exact absurd h hg|cons _ _=>simp
 obtain⟨f1,f2⟩:=MJ m;refine⟨by unfold v8 qP;rw[aq,aq,iK];omega,λg hgm=>?_,?_⟩
 ·obtain⟨g0,h0,rfl⟩:=aR.mp hgm
  obtain⟨k,hk',rfl⟩:=aR.mp h0;have hk':=gq.mp hk';obtain⟨t1,t2⟩:=yJ cells (k+1);have t3:mZ cells (k+1)<=649:=by omega
  refine⟨⟨?_,?_⟩,(uM (d:=("":Str)) (F:=aW) g1 _).2,aR.mpr ⟨_,(uM (d:=(("",none):Str×Option Int)) (F:=pX) k1 (eE (cells.getD k 0) k/1000)).2,rfl⟩,zbx m (MF _)⟩
  ·show 0<=mZ cells (k+1)*vA m
   exact BR t1 (by omega)
  ·show mZ cells (k+1)*vA m<1000000
   have:=Nk t3 f2 (by omega) (by omega)
   omega
 ·unfold v8 qP
  rw[bU,List.range_eq_range'];refine Ed _ (λk=>?_) _ _ _ ?_
  ·show mZ cells (k+1)*vA m<=mZ cells (k+1+1)*vA m
   refine Int.mul_le_mul_of_nonneg_right ?_ (by omega)
   have:=(Ec (eE (cells.getD (k+1) 0) ((k+1:Nat):Int))).1;show mZ cells (k+1)<=mZ cells (k+1)+sX _;omega
  ·show 0<=mZ cells (0+1)*vA m
   exact BR (yJ cells 1).1 (by omega)
section
variable{P:bL}{w:dB}{K:ao}{mg:Str->Option aF}{base:dW}{f:aN}{k:Nat}
abbrev Ngo:List Str:=["_law_h","_law_cells","_law_m","_law_some","_law_far","_law_day_here","_law_t","_law_gate","_law_kind","_law_parcel"]
theorem zcf:eX Ngo ["_law_h","_law_cells","_law_m"] (cP (top 57)):=⟨rfl,rfl,rfl,by decide +kernel,rfl,by decide +kernel,by decide +kernel⟩
def Rgo(ds es:List aA):Prop:=∃(p:Pl)(cells:List Int)(m:Int),ds=[jw p,qN cells,.int m]/\1<=p.gates.length/\1<=p.kinds.length/\cells.length<=59/\es=(v8 p cells m).map jt
theorem zjb{fd:cU}(F:rP K "_law_goods" "_law_goods" (top 57) f fd)(n:Ng mg)(C1:cG P w K mg base 2 "_law_names" ["_law_cell","_law_many"] (LK K Rnm))(C2:cG P w K mg base 2 "_law_day" ["_law_h","_law_cells"] (LK K Rdy)):i_ P w K mg base qz 3 f fd ["_law_h","_law_cells","_law_m"] (LK K Rgo):=
 Qi F zcf (λ_ _ h=>by obtain⟨_,_,_,rfl,_⟩:=h;rfl) λ_ _ h=>by
  obtain⟨p,cells,m,rfl,hg,hk,hc,rfl⟩:=h;intro cdv A outer s H E hr;have nd:Ngo.Nodup:=zcf.nd;refine aO (dU 3 (d:=iZ (vq m)) (VE.to (VO.ve (ux (VO.ve (jf (au aU aX))) (VO.ve (rC C1 hr (au (aj 2 rfl) (au aH aX)) ⟨m,4,rfl,by decide,rfl⟩)) (small (by simp only[aq,bJ,dM,jl];omega)))) rfl) nd) ?_
  refine aO (dU 4 (d:=.int (vA m)) (lD (VO.ve (jf (au aH (au aH (au aH (au (iQ aH (eZ (jJ (aj 2 rfl) aH ⟨by decide,by decide⟩) aH (by decide))) aX)))))) (eZ (aj 2 rfl) aH (by decide)) (zdQ m)) nd) ?_
  refine aO (rA 5 (jf aX) nd) ?_
  have hdl:(qP p cells).length=cells.length:=by unfold qP;rw[aq,iK]
  refine aO (rB (tgt:=.tup [6,7,8,9]) (o:=.nx [.val (jw p),.val (qN cells),.val (.int m),.val (iZ (vq m)),.val (.int (vA m)),.own ((v8 p cells m).map jt),.un,.un,.un,.un]) gA rfl (lN (ds:=(qP p cells).map jt) (VO.ve (rC C2 hr (au (aj 0 rfl) (au (aj 1 rfl) aX)) ⟨p,cells,rfl,hg,hk,by omega,rfl⟩)))
   (lg rfl (cZ (cJ (i:=6) nd rfl (bG rfl)) (cZ (cJ (i:=7) nd rfl (bG rfl)) (cZ (cJ (i:=8) nd rfl (bG rfl)) (cZ (cJ (i:=9) nd rfl (bG rfl)) jq))))) (λi=>[.val (jw p),.val (qN cells),.val (.int m),.val (iZ (vq m)),.val (.int (vA m)),.own (((qP p cells).take i).map λg=>jt (V1 m g)),.un,.un,.un,.un]) (qP p cells).length rfl (by rw[aq];exact aK _) (λi d hi hd=>?_) (.inl ⟨by rw[aq],by rw[lX];unfold v8;rw[bU];rfl⟩)) (bH (Dr 5 rfl))
  have hgi:(qP p cells)[i]?=some (qP p cells)[i]:=aG hi;have hpar:(qP p cells)[i].2.2.2∈PAR:=by
   have:=fY hi;obtain⟨k,_,e⟩:=aR.mp (show(qP p cells)[i]∈(dF cells.length).map (Oq p cells)from this)
   rw[<-e];exact Xp _
  rw[bh,hgi]at hd;cases hd;have ht:(qP p cells).take (i+1)=(qP p cells).take i ++ [(qP p cells)[i]]:=by rw[gP,hgi];rfl
  rw[ht,bO,vL];have hlt:((qP p cells).take i).length<=i:=by rw[dO];omega
  generalize(qP p cells)[i]=g at *
  obtain⟨f1,f2⟩:=MJ m;obtain⟨i1,i2⟩:=Xo hpar;have hil:=MF g.2.2.2;have zjc:Lay 20 (.list (PAR.map aW)):=⟨by decide +kernel,by decide +kernel⟩
  have zgn:rY g.2.2.2:=by
   have:∀x∈PAR,rY x:=λx hx=>by
    simp only[aQ,cL,or_false]at hx;rcases hx with rfl|rfl|rfl|rfl|rfl<;>(show eN (.str _)=true)<;>decide +kernel
   exact this _ hpar
  have hgs:yN ((vq m).map aW) ((tG g.2.2.2:Nat):Int)=some (.str ((vq m).getD (tG g.2.2.2) "")):=cu (by
   rw[bh,aP,aG (by rw[Uk];exact hil)];rfl)
  refine⟨[.val (jw p),.val (qN cells),.val (.int m),.val (iZ (vq m)),.val (.int (vA m)),.own (((qP p cells).take i).map λg=>jt (V1 m g)),.val (.int g.1),.val (.str g.2.1),.val (.str g.2.2.1),.val (.str g.2.2.2)],rfl,?_⟩
  refine mU (bH (oG 5 rfl (d:=jt (V1 m g)) (VE.to (jj (au (zP (aj 6 rfl) (aj 4 rfl) (.inr ⟨by omega,by omega⟩)) (au (aj 7 rfl) (au (aj 8 rfl) (au (lD (aj 3 rfl) (Yw (j:=tG g.2.2.2) hr (VE.to (VO.ve (jf (au aU (au aU (au aU (au aU (au aU aX))))))) (k:=.list (PAR.map aW)) rfl) (aj 9 rfl) zjc (bZ zgn) ⟨by rw[aq];exact hil,?_⟩ (λj hj hjl=>?_)) hgs) aX))))) rfl) (oN (by rw[aq];omega)))) ⟨.inr rfl,.inr rfl,.inr rfl,.inr rfl,.inr rfl,.inr rfl,.inl rfl,.inl rfl,.inl rfl,.inl rfl,trivial⟩
  ·rw[yM,cR]
   rw[aG hil]at i1;exact decide_eq_true (fM i1)
  ·rw[yM,cR]
   rw[aq]at hj;exact decide_eq_false (i2 j hjl _ (aG hj))
end
theorem Mz.zgo{p:Pl}(hp:nU p){day:List rH}(h:Mz p day):Rj day:=
 ⟨h.len,λg hg=>by
  have ok:=h.gd g hg;exact⟨(ok.gn hp).ok.2,(ok.kn hp).ok.2,ok.ps,by
   rcases ok.pa with e|e
   ·rw[e];decide
   ·have:=e.short;omega⟩⟩
theorem Mz.nof{p:Pl}{day:List rH}(h:Mz p day):NoF p day:=λi hi=>by
 unfold tQ;have ea:=Z0 h.ri hi;have eg:day.getD i GX=day[i]:=by rw[aP,aG hi];rfl
 have ok:=h.gd _ (fY hi);rw[eg]
 generalize day[i]=g at *
 unfold oO;rw[if_neg (by omega),if_neg (λz=>z ok.gt),if_neg (λz=>z ok.kd),if_neg]
 rintro⟨z1,z2⟩
 rcases ok.pa with e|e
 ·exact z1 e
 ·rw[e.is]at z2;cases z2
def Fkd:aA->Option aA
 | .tuple (x::_)=>some x
 |_=>none
theorem O2(l:List (Str×Option Int)):(l.map pX).filterMap Fkd=(l.map (·.1)).map .str:=by
 rw[dZ,bU];exact filterMap_some λc _=>rfl
def V2:mj->List mj
 | .For _ _ b _ _=>b
 |_=>[]
theorem Xq(l:List (Str×Int)):(l.map vU).filterMap Fkd=(l.map (·.1)).map .str:=by
 rw[dZ,bU];exact filterMap_some λc _=>rfl
section
variable{P:bL}{w:dB}{K:ao}{mg:Str->Option aF}{base:dW}{f:aN}{k:Nat}
theorem zdR:eX ["_law_word"] ["_law_word"] (cP (top 58)):=⟨rfl,rfl,rfl,by decide +kernel,rfl,by decide +kernel,by decide +kernel⟩
theorem zgp{fd:cU}(F:rP K "_law_is_name" "_law_is_name" (top 58) f fd)(n:Na mg):i_ P w K mg base qz 1 f fd ["_law_word"] (mX K Rna):=
 qg F zdR (λ_ _ h=>by obtain⟨_,rfl,_⟩:=h;rfl) λ_ _ h=>by
  obtain⟨x,rfl,hx,rfl⟩:=h;intro cdv A outer s H E hr;have nc:(["_law_sign"]:List Str).Nodup:=by decide +kernel
  have hl:(uy x).length<=100000:=by unfold uy;rw[aq,dX];exact hx
  cases hb:(decide (1<=(x.length:Int))&&decide ((x.length:Int)<=8)) with
  |false=>
   refine fJ (gj (VT.to (u6 (Ql Gj Gj (Ht 1 x.length) (Ht x.length 8) aH (Ie (aj 0 rfl) (small (by omega)) n.len) (λ_=>aH))) (by rw[hb];rfl)) (bH (dG (VE.to Gq ?_)))) rfl
   unfold isName uz;rw[hb];rfl
  |true=>
   refine aO (cW (VT.to (u6 (Ql Gj Gj (Ht 1 x.length) (Ht x.length 8) aH (Ie (aj 0 rfl) (small (by omega)) n.len) (λ_=>aH))) (by rw[hb];rfl)) b_) ?_
   refine bH (dG (VE.to (oh (wX rfl) L_ (au (VO.ve (VO.to (jA (own:=["_law_sign"]) (cap:=[]) (N:=["_law_sign"]) (cl:=[]) (tgt:=.one 0) (F:=Zm "abcdefghijklmnopqrstuvwxyz") (ds:=uy x) rfl ⟨rfl,by decide +kernel,by decide +kernel,rfl,rfl,by simp⟩ (YH (aj 0 rfl)) (λf s3 H3=>cJ (i:=0) nc rfl (bG rfl)) rfl
    (small (by omega)) (λd hd=>?_)) (Mt _ x))) aX) n.all rfl) ?_))
   ·obtain⟨c,_,rfl⟩:=aR.mp hd
    exact⟨_,rfl,λf s3 H3=>jz,λr hr' f s3 H3=>by cases hr';exact YJ (aj 0 rfl) aU⟩
   ·unfold isName uz wW
    rw[hb,Gh];rfl
abbrev Ndu:List Str:=["_law_h","_law_day_here","_law_last","_law_k","_law_one"]
theorem zcg:eX Ndu ["_law_h","_law_day_here"] (cP (top 59)):=⟨rfl,rfl,rfl,by decide +kernel,rfl,by decide +kernel,by decide +kernel⟩
def zjd(ds:List aA)(d:aA):Prop:=∃(p:Pl)(day:List rH),ds=[jw p,.list (day.map jt)]/\nU p/\Rj day/\NoF p day/\d=.none
def zje(ds:List aA)(d:aA):Prop:=∃(p:Pl)(day:List rH)(m:Nat)(wd:Str),ds=[jw p,.list (day.map jt)]/\nU p/\Rj day/\O1 p day m wd/\d=.tuple [.int m,.str wd]
def Rdu(ds:List aA)(d:aA):Prop:=zjd ds d\/zje ds d
theorem zjf{fd:cU}(F:rP K "_law_due" "_law_due" (top 59) f fd)(n:Na mg)(C2:cG P w K mg base 1 "_law_is_name" ["_law_word"] (mX K Rna)):i_ P w K mg base qz 2 f fd ["_law_h","_law_day_here"] (mX K Rdu):=
 qg F zcg (λ_ _ h=>by rcases h with⟨_,_,rfl,_⟩|⟨_,_,_,_,rfl,_⟩<;>rfl) λ_ _ h=>by
  intro cdv A outer s H E hr;have nd:Ndu.Nodup:=zcg.nd;have nc:(["_law_kind"]:List Str).Nodup:=by decide +kernel
  have turn:∀(p:Pl)(day:List rH)(g:rH)(t:Int)(i:Nat),nU p->okG g->(oO p g t=""->Em (Jd qz P w K mg base Ndu "_law_due" (cP (top 59)) f cdv A outer s H E).nox (V2 ((pQ (top 59)).getD 1 (.Pass ⟨0,0,0,0⟩))) [.val (jw p),.val (.list (day.map jt)),.val (.int t),.val (.int i),.val (jt g)] (.nx [.val (jw p),.val (.list (day.map jt)),.val (.int g.1),.un,.un]))/\
    (oO p g t≠""->Em (Jd qz P w K mg base Ndu "_law_due" (cP (top 59)) f cdv A outer s H E).nox (V2 ((pQ (top 59)).getD 1 (.Pass ⟨0,0,0,0⟩))) [.val (jw p),.val (.list (day.map jt)),.val (.int t),.val (.int i),.val (jt g)] (.rt (.tuple [.int i,.str (oO p g t)]))):=by
   intro p day g t i hp hg;have lk:Lay 20 (.list ((p.kinds.map (·.1)).map aW)):=oH (l:=p.kinds.map (·.1)) λx hx=>by
    obtain⟨q,hq,rfl⟩:=aR.mp hx;exact(hp.kinds q hq).1
   have hkn:=hp.kn;unfold oO;by_cases h1:g.1<t
   ·rw[if_pos h1]
    refine⟨λz=>absurd z (by decide +kernel),λ_=>?_⟩
    exact fJ (gj (VT.to (yO (cY (aj 4 rfl) aH (cu (j:=0) rfl)) (aj 2 rfl)) (decide_eq_true h1)) (bH (dG (jj (au (aj 3 rfl) (au aU aX)))))) rfl
   rw[if_neg h1];by_cases h2:g.2.1∉p.gates
   ·rw[if_pos h2]
    refine⟨λz=>absurd z (by decide +kernel),λ_=>?_⟩
    refine aO (cW (VT.to (yO (cY (aj 4 rfl) aH (cu (j:=0) rfl)) (aj 2 rfl)) (decide_eq_false h1)) b_) ?_
    exact fJ (gj (VT.to (nZ hr rfl (bZ hg.gt) (oH hp.gates) (cY (aj 4 rfl) aH (cu (j:=1) rfl)) (jX hr (aj 0 rfl) aU (uf p))) (by rw[jx,decide_eq_false h2];rfl)) (bH (dG (jj (au (aj 3 rfl) (au aU aX)))))) rfl
   rw[if_neg h2];have h2:g.2.1∈p.gates:=vC.mp h2;by_cases h3:g.2.2.1∉p.kinds.map (·.1)
   ·rw[if_pos h3]
    refine⟨λz=>absurd z (by decide +kernel),λ_=>?_⟩
    refine aO (cW (VT.to (yO (cY (aj 4 rfl) aH (cu (j:=0) rfl)) (aj 2 rfl)) (decide_eq_false h1)) b_) ?_
    refine aO (cW (VT.to (nZ hr rfl (bZ hg.gt) (oH hp.gates) (cY (aj 4 rfl) aH (cu (j:=1) rfl)) (jX hr (aj 0 rfl) aU (uf p))) (by rw[jx,decide_eq_true h2];rfl)) b_) ?_
    exact fJ (gj (VT.to (nZ hr rfl (bZ hg.kd) lk (cY (aj 4 rfl) aH (cu (j:=2) rfl)) (VO.ve (VO.to (jA (own:=["_law_kind"]) (cap:=[]) (N:=["_law_kind"]) (cl:=[]) (tgt:=.one 0) (F:=Fkd) (ds:=p.kinds.map pX) rfl ⟨rfl,by decide +kernel,by decide +kernel,rfl,rfl,by simp⟩ (lN (jX hr (aj 0 rfl) aU (xg p))) (λf s3 H3=>cJ (i:=0) nc rfl (bG rfl)) rfl (small (by rw[aq];omega)) (λd hd=>by obtain⟨q,_,rfl⟩:=aR.mp hd;exact⟨_,rfl,λf s3 H3=>jz,λr hr' f s3 H3=>by cases hr';exact cY (aj 0 rfl) aH (cu (j:=0) rfl)⟩)) (O2 p.kinds)))) (by rw[jx,decide_eq_false h3];rfl)) (bH (dG (jj (au (aj 3 rfl) (au aU aX)))))) rfl
   rw[if_neg h3];have h3:g.2.2.1∈p.kinds.map (·.1):=vC.mp h3
   by_cases h4:g.2.2.2≠""/\isName g.2.2.2=false
   ·rw[if_pos h4]
    refine⟨λz=>absurd z (by decide +kernel),λ_=>?_⟩
    refine aO (cW (VT.to (yO (cY (aj 4 rfl) aH (cu (j:=0) rfl)) (aj 2 rfl)) (decide_eq_false h1)) b_) ?_
    refine aO (cW (VT.to (nZ hr rfl (bZ hg.gt) (oH hp.gates) (cY (aj 4 rfl) aH (cu (j:=1) rfl)) (jX hr (aj 0 rfl) aU (uf p))) (by rw[jx,decide_eq_true h2];rfl)) b_) ?_
    refine aO (cW (VT.to (nZ hr rfl (bZ hg.kd) lk (cY (aj 4 rfl) aH (cu (j:=2) rfl)) (VO.ve (VO.to (jA (own:=["_law_kind"]) (cap:=[]) (N:=["_law_kind"]) (cl:=[]) (tgt:=.one 0) (F:=Fkd) (ds:=p.kinds.map pX) rfl ⟨rfl,by decide +kernel,by decide +kernel,rfl,rfl,by simp⟩ (lN (jX hr (aj 0 rfl) aU (xg p))) (λf s3 H3=>cJ (i:=0) nc rfl (bG rfl)) rfl (small (by rw[aq];omega)) (λd hd=>by obtain⟨q,_,rfl⟩:=aR.mp hd;exact⟨_,rfl,λf s3 H3=>jz,λr hr' f s3 H3=>by cases hr';exact cY (aj 0 rfl) aH (cu (j:=0) rfl)⟩)) (O2 p.kinds)))) (by rw[jx,decide_eq_true h3];rfl)) b_) ?_
    exact fJ (gj (VT.to (qd (k1:=!decide (g.2.2.2="")) (k2:=!isName g.2.2.2) (VT.to (qu hr (bZ hg.pa) bC (cY (aj 4 rfl) aH (cu (j:=3) rfl)) aU) (by rw[cR])) (λ_=>u6 (qe (cF C2 (hr.mono (by omega)) (au (cY (d:=.str g.2.2.2) (aj 4 rfl) aH (cu (j:=3) rfl)) aX) ⟨g.2.2.2,rfl,hg.ln,rfl⟩) rfl))) (by rw[decide_eq_false h4.1,h4.2];rfl)) (bH (dG (jj (au (aj 3 rfl) (au aU aX)))))) rfl
   rw[if_neg h4];refine⟨λ_=>?_,λz=>absurd rfl z⟩
   refine aO (cW (VT.to (yO (cY (aj 4 rfl) aH (cu (j:=0) rfl)) (aj 2 rfl)) (decide_eq_false h1)) b_) ?_
   refine aO (cW (VT.to (nZ hr rfl (bZ hg.gt) (oH hp.gates) (cY (aj 4 rfl) aH (cu (j:=1) rfl)) (jX hr (aj 0 rfl) aU (uf p))) (by rw[jx,decide_eq_true h2];rfl)) b_) ?_
   refine aO (cW (VT.to (nZ hr rfl (bZ hg.kd) lk (cY (aj 4 rfl) aH (cu (j:=2) rfl)) (VO.ve (VO.to (jA (own:=["_law_kind"]) (cap:=[]) (N:=["_law_kind"]) (cl:=[]) (tgt:=.one 0) (F:=Fkd) (ds:=p.kinds.map pX) rfl ⟨rfl,by decide +kernel,by decide +kernel,rfl,rfl,by simp⟩ (lN (jX hr (aj 0 rfl) aU (xg p))) (λf s3 H3=>cJ (i:=0) nc rfl (bG rfl)) rfl (small (by rw[aq];omega)) (λd hd=>by obtain⟨q,_,rfl⟩:=aR.mp hd;exact⟨_,rfl,λf s3 H3=>jz,λr hr' f s3 H3=>by cases hr';exact cY (aj 0 rfl) aH (cu (j:=0) rfl)⟩)) (O2 p.kinds)))) (by rw[jx,decide_eq_true h3];rfl)) b_) ?_
   refine aO (cW (VT.to (qd (k1:=!decide (g.2.2.2="")) (k2:=!isName g.2.2.2) (VT.to (qu hr (bZ hg.pa) bC (cY (aj 4 rfl) aH (cu (j:=3) rfl)) aU) (by rw[cR])) (λ_=>u6 (qe (cF C2 (hr.mono (by omega)) (au (cY (d:=.str g.2.2.2) (aj 4 rfl) aH (cu (j:=3) rfl)) aX) ⟨g.2.2.2,rfl,hg.ln,rfl⟩) rfl))) ?_) b_) ?_
   ·by_cases h5:g.2.2.2=""
    ·rw[decide_eq_true h5];rfl
    ·have:isName g.2.2.2=true:=by
      cases h6:isName g.2.2.2 with
      |true=>rfl
      |false=>exact absurd ⟨h5,h6⟩ h4
     rw[decide_eq_false h5,this];rfl
   exact mU (bH (dU 2 (d:=.int g.1) (cY (aj 4 rfl) aH (cu (j:=0) rfl)) nd)) ⟨.inr rfl,.inr rfl,.inr rfl,.inl rfl,.inl rfl,trivial⟩
  rcases h with⟨p,day,rfl,hp,hd,hno,rfl⟩|⟨p,day,m,wd,rfl,hp,hd,hF,rfl⟩
  ·refine aO (dU 2 aH nd) ?_
   refine aO (rB (tgt:=.tup [3,4]) (o:=.nx [.val (jw p),.val (.list (day.map jt)),.val (.int (ju day day.length)),.un,.un]) gA rfl (qC (ds:=day.map jt) (aj 1 rfl) n.Wu)
    (lg rfl (cZ (cJ (i:=3) nd rfl (bG rfl)) (cZ (cJ (i:=4) nd rfl (bG rfl)) jq))) (λi=>[.val (jw p),.val (.list (day.map jt)),.val (.int (ju day i)),.un,.un]) day.length rfl (by rw[fB,aq];exact aK _) (λi d hi hd'=>?_) (.inl ⟨by rw[fB,aq],rfl⟩)) (bH (dG lJ))
   obtain⟨x,hx,rfl⟩:=kJ hd';rw[v7 hi]at hx;cases hx;exact⟨_,rfl,(turn p day (day.getD i GX) (ju day i) i hp (hd.at hi)).1 (hno i hi)⟩
  ·refine aO (dU 2 aH nd) ?_
   have hml:=hF.lt;refine fJ (rB (tgt:=.tup [3,4]) (o:=.rt (.tuple [.int m,.str wd])) gA rfl (qC (ds:=day.map jt) (aj 1 rfl) n.Wu)
    (lg rfl (cZ (cJ (i:=3) nd rfl (bG rfl)) (cZ (cJ (i:=4) nd rfl (bG rfl)) jq))) (λi=>[.val (jw p),.val (.list (day.map jt)),.val (.int (ju day i)),.un,.un]) m rfl (by rw[fB,aq];omega) (λi d hi hd'=>?_) (.inr ⟨.tuple [.int m,jt (day.getD m GX)],[.val (jw p),.val (.list (day.map jt)),.val (.int (ju day m)),.val (.int m),.val (jt (day.getD m GX))],?_,rfl,rfl,?_⟩)) rfl
   ·obtain⟨x,hx,rfl⟩:=kJ hd'
    rw[v7 (by omega)]at hx
    cases hx;exact⟨_,rfl,(turn p day (day.getD i GX) (ju day i) i hp (hd.at (by omega))).1 (hF.pre i hi)⟩
   ·rw[YC (v7 hml)]
   ·have e:=hF.at_
    have:=(turn p day (day.getD m GX) (ju day m) m hp (hd.at hml)).2 (by show tQ p day m≠"";rw[e];exact hF.ne)
    rw[show oO p (day.getD m GX) (ju day m)=wd from e]at this
    exact this
end
theorem MK{x:Str}(h:rY x)(l u:Option Int):rY (ni x l u):=by
 rw[rD]at h ⊢;unfold ni
 split
 ·exact h
 ·intro c hc
  have hc:c∈List.filterMap (λi:Nat=>x.cps[i]?) (wL.Str.strSliceIndices l u 1 x.length):=by simpa using hc
  obtain⟨i,_,e⟩:=oE.mp hc;exact h c (by rw[RL];exact Array.mem_of_getElem? e)
structure Ul(n:Nat)(g:rH):Prop where
 gt:rY g.2.1
 kd:rY g.2.2.1
 pa:rY g.2.2.2
 gl:g.2.1.length<=n
 kl:g.2.2.1.length<=n
 pl:g.2.2.2.length<=n
theorem Ul.ok{n:Nat}{g:rH}(h:Ul n g)(hn:n<=100):okG g:=⟨h.gt,h.kd,h.pa,by have:=h.pl;omega⟩
theorem Ul.up{n m:Nat}{g:rH}(h:Ul n g)(hn:n<=m):Ul m g:=⟨h.gt,h.kd,h.pa,dD h.gl hn,dD h.kl hn,dD h.pl hn⟩
def O4(last:Int):List Int:=[-1,last-1,999999,-999999]
def uD(p:Pl)(x:Str):List Str:=([""]:List Str)++p.lines.map (·.1) ++ [x++"x",ni x (some 1) none,"Gate","7"]
def Ae(p:Pl)(x:Str):List Str:=["",x++"x",ni x (some 1) none,p.gates.getD 0 "","Kind"]
def vB:List Str:=["P","a b","abcdefghi","-","p7","q."]
def xJ(p:Pl)(g:rH)(last m:Int):rH:=
 if m%4=0 then(pickOf (O4 last) 0 (m/4),g.2.1,g.2.2.1,g.2.2.2)
 else if m%4=1 then(g.1,pickOf (uD p g.2.1) "" (m/4),g.2.2.1,g.2.2.2)
 else if m%4=2 then(g.1,g.2.1,pickOf (Ae p g.2.2.1) "" (m/4),g.2.2.2)
 else(g.1,g.2.1,g.2.2.1,pickOf vB "" (m/4))
theorem Ef{x:Str}{n:Nat}(h:(x.cps.toList.all λc=>decide (c<0x110000))=true)(hl:x.length<=n):rY x/\x.length<=n:=⟨(rD x).mpr λc hc=>of_decide_eq_true (iC.mp h c hc),hl⟩
theorem Xr{p:Pl}(hp:nU p){x:Str}{n:Nat}(ox:rY x)(hx:x.length<=n)(hn:9<=n):∀y∈uD p x,rY y/\y.length<=n+1:=by
 intro y hy;unfold uD at hy;simp only[dJ,aQ,cL,or_false]at hy;rcases hy with(rfl|hy)|rfl|rfl|rfl|rfl
 ·exact Ef (by decide +kernel) (by show 0<=_;omega)
 ·obtain⟨q,hq,rfl⟩:=aR.mp hy
  have:=(hp.lines q hq).1;exact⟨this.ok.2,by have:=this.short;omega⟩
 ·exact⟨lZ ox (Ef (n:=1) (by decide +kernel) (by decide +kernel)).1,by rw[dI,show("x":Str).length=1 from by decide +kernel];omega⟩
 ·exact⟨MK ox _ _,by have:=zE x (some 1) none;omega⟩
 ·exact Ef (by decide +kernel) (by show 4<=_;omega)
 ·exact Ef (by decide +kernel) (by show 1<=_;omega)
theorem Xu{p:Pl}(hp:nU p){x:Str}{n:Nat}(ox:rY x)(hx:x.length<=n)(hn:9<=n):∀y∈Ae p x,rY y/\y.length<=n+1:=by
 intro y hy;unfold Ae at hy;simp only[aQ,cL,or_false]at hy;rcases hy with rfl|rfl|rfl|rfl|rfl
 ·exact Ef (by decide +kernel) (by show 0<=_;omega)
 ·exact⟨lZ ox (Ef (n:=1) (by decide +kernel) (by decide +kernel)).1,by rw[dI,show("x":Str).length=1 from by decide +kernel];omega⟩
 ·exact⟨MK ox _ _,by have:=zE x (some 1) none;omega⟩
 ·cases e:p.gates with
  |nil=>exact Ef (by decide +kernel) (by show 0<=_;omega)
  |cons g l=>
   have:=hp.gates g (by rw[e];exact aY)
   exact⟨this.ok.2,by have:=this.short;show g.length<=_;omega⟩
 ·exact Ef (by decide +kernel) (by show 4<=_;omega)
theorem Rk{n:Nat}(hn:9<=n):∀y∈vB,rY y/\y.length<=n+1:=by
 intro y hy;unfold vB at hy;simp only[aQ,cL,or_false]at hy;rcases hy with rfl|rfl|rfl|rfl|rfl|rfl
 ·exact Ef (by decide +kernel) (by show 1<=_;omega)
 ·exact Ef (by decide +kernel) (by show 3<=_;omega)
 ·exact Ef (by decide +kernel) (by show 9<=_;omega)
 ·exact Ef (by decide +kernel) (by show 1<=_;omega)
 ·exact Ef (by decide +kernel) (by show 2<=_;omega)
 ·exact Ef (by decide +kernel) (by show 2<=_;omega)
theorem Kd{α:Type}{l:List α}{d:α}(h:1<=l.length)(j:Int):pickOf l d j∈l:=(uM (F:=λ_=>aA.none) h j).2
theorem Ke(p:Pl)(x:Str):(uD p x).length=p.lines.length+5:=by unfold uD;simp only[bK,bJ,dM,aq];omega
theorem Xv{p:Pl}(hp:nU p){g:rH}{n:Nat}(h:Ul n g)(hn:9<=n)(last m:Int):Ul (n+1) (xJ p g last m):=by
 have h':=h.up (k_ n);unfold xJ
 split
 ·exact⟨h'.gt,h'.kd,h'.pa,h'.gl,h'.kl,h'.pl⟩
 ·split
  ·have:=Xr hp h.gt h.gl hn _ (Kd (l:=uD p g.2.1) (d:="") (by rw[Ke];omega) (m/4))
   exact⟨this.1,h'.kd,h'.pa,this.2,h'.kl,h'.pl⟩
  ·split
   ·have:=Xu hp h.kd h.kl hn _ (Kd (l:=Ae p g.2.2.1) (d:="") (by show 1<=5;decide) (m/4))
    exact⟨h'.gt,this.1,h'.pa,h'.gl,this.2,h'.pl⟩
   ·have:=Rk hn _ (Kd (l:=vB) (d:="") (by show 1<=6;decide) (m/4))
    exact⟨h'.gt,h'.kd,this.1,h'.gl,h'.kl,this.2⟩
section
variable{P:bL}{w:dB}{K:ao}{mg:Str->Option aF}{base:dW}{f:aN}{k:Nat}
abbrev Nfa:List Str:=["_law_one","_law_last","_law_h","_law_m","_law_way","_law_some","_law_t","_law_gate","_law_kind","_law_parcel","_law_gates","_law_kinds"]
theorem zch:eX Nfa ["_law_one","_law_last","_law_h","_law_m"] (cP (top 61)):=⟨rfl,rfl,rfl,by decide +kernel,rfl,by decide +kernel,by decide +kernel⟩
def Rfa(ds:List aA)(d:aA):Prop:=∃(p:Pl)(g:rH)(last m:Int),ds=[jt g,.int last,jw p,.int m]/\nU p/\1<=p.gates.length/\Ul 1000 g/\d=jt (xJ p g last m)
theorem zjg{fd:cU}(F:rP K "_law_faulty" "_law_faulty" (top 61) f fd)(n:Na mg):i_ P w K mg base qz 1 f fd ["_law_one","_law_last","_law_h","_law_m"] (mX K Rfa):=
 qg F zch (λ_ _ h=>by obtain⟨_,_,_,_,rfl,_⟩:=h;rfl) λ_ _ h=>by
  obtain⟨p,g,last,m,rfl,hp,hg1,hg,rfl⟩:=h;intro cdv A outer s H E hr;have nd:Nfa.Nodup:=zch.nd;have nc:(["_law_line"]:List Str).Nodup:=by decide +kernel
  have hgl:=hg.gl;have hkl:=hg.kl;have hln:=hp.ln;refine aO (dU 4 (eZ (aj 3 rfl) aH (by decide)) nd) ?_
  refine aO (dU 5 (jJ (aj 3 rfl) aH ⟨by decide,by decide⟩) nd) ?_
  refine aO (Yy (.tup [6,7,8,9]) (aj 0 rfl) (lg rfl (cZ (cJ (i:=6) nd rfl (bG rfl)) (cZ (cJ (i:=7) nd rfl (bG rfl)) (cZ (cJ (i:=8) nd rfl (bG rfl)) (cZ (cJ (i:=9) nd rfl (bG rfl)) jq))))) rfl) ?_
  unfold xJ;have gx:∀{x:Str},x.length<=1000->x.length+("x":Str).length<=sizeLine:=λh=>small (by rw[show("x":Str).length=1 from by decide +kernel];omega)
  by_cases h0:m%4=0
  ·rw[if_pos h0]
   have pt:yN ((O4 last).map jy) (m/4%4)=some (.int (pickOf (O4 last) 0 (m/4))):=(uM (d:=(0:Int)) (F:=jy) (by show 1<=4;decide) (m/4)).1
   refine fJ (gj (VT.to (c7 hr (dY 20 _) (dY 20 _) (aj 4 rfl) aH) (by rw[pR];exact decide_eq_true h0)) (bH (dG (VE.to (jj (au (lD (VE.to (VO.ve (jf (au (Yx aH) (au (Sw (aj 1 rfl) aH) (au aH (au (Yx aH) aX)))))) (k:=.list ((O4 last).map jy)) rfl) (eZ (aj 5 rfl) aH (by decide)) pt) (au (aj 7 rfl) (au (aj 8 rfl) (au (aj 9 rfl) aX))))) rfl)))) rfl
  rw[if_neg h0];refine aO (cW (VT.to (c7 hr (dY 20 _) (dY 20 _) (aj 4 rfl) aH) (by rw[pR];exact decide_eq_false h0)) b_) ?_
  by_cases h1:m%4=1
  ·rw[if_pos h1]
   have hgf:=Ke p g.2.1;have pt:=(uM (l:=uD p g.2.1) (d:=("":Str)) (F:=aW) (by omega) (m/4)).1
   have vg:iZ (uD p g.2.1)=.list ([aW ""]++(p.lines.map (·.1)).map aW ++ [.str (g.2.1++"x"),.str (ni g.2.1 (some 1) none),.str "Gate",.str "7"]):=by
    unfold iZ uD;rw[bO,bO];rfl
   refine fJ (gj (VT.to (c7 hr (dY 20 _) (dY 20 _) (aj 4 rfl) aH) (by rw[pR];exact decide_eq_true h1)) (aO (dU 10 (d:=iZ (uD p g.2.1)) (VE.to (VO.ve (ux (VO.ve (ux (VO.ve (jf (au aU aX))) (VO.ve (VO.to (jA (own:=["_law_line"]) (cap:=[]) (N:=["_law_line"]) (cl:=[]) (tgt:=.one 0) (F:=Fkd) (ds:=p.lines.map vU) rfl ⟨rfl,by decide +kernel,by decide +kernel,rfl,rfl,by simp⟩ (lN (jX hr (aj 2 rfl) aU (QJ p))) (λf s3 H3=>cJ (i:=0) nc rfl (bG rfl)) rfl (small (by rw[aq];omega)) (λd hd=>?_)) (Xq p.lines))) (small (by simp only[bJ,dM,aq];omega)))) (VO.ve (jf (au (lY (aj 7 rfl) aU (gx hgl)) (au (Ar (aj 7 rfl) (small (by omega)) (.yes aH) .no) (au aU (au aU aX)))))) (small (by simp only[bK,bJ,dM,aq];omega)))) vg.symm) nd)
    (bH (dG (VE.to (jj (au (aj 6 rfl) (au (lD (ds:=(uD p g.2.1).map aW) (aj 10 rfl) (VE.to (eZ (aj 5 rfl) (pG (ds:=(uD p g.2.1).map aW) (aj 10 rfl) n.len) (by rw[aq];omega)) (by rw[aq])) pt) (au (aj 8 rfl) (au (aj 9 rfl) aX))))) rfl))))) rfl
   obtain⟨q,_,rfl⟩:=aR.mp hd;exact⟨_,rfl,λf s3 H3=>jz,λr hr' f s3 H3=>by cases hr';exact cY (aj 0 rfl) aH (cu (j:=0) rfl)⟩
  rw[if_neg h1];refine aO (cW (VT.to (c7 hr (dY 20 _) (dY 20 _) (aj 4 rfl) aH) (by rw[pR];exact decide_eq_false h1)) b_) ?_
  by_cases h2:m%4=2
  ·rw[if_pos h2]
   have pt:yN ((Ae p g.2.2.1).map aW) (m/4%5)=some (.str (pickOf (Ae p g.2.2.1) "" (m/4))):=(uM (d:=("":Str)) (F:=aW) (by show 1<=5;decide) (m/4)).1
   have g0:yN (p.gates.map aW) 0=some (.str (p.gates.getD 0 "")):=by
    cases e:p.gates with
    |nil=>rw[e]at hg1;cases hg1
    |cons a l=>exact cu (j:=0) rfl
   exact fJ (gj (VT.to (c7 hr (dY 20 _) (dY 20 _) (aj 4 rfl) aH) (by rw[pR];exact decide_eq_true h2)) (aO (dU 11 (d:=iZ (Ae p g.2.2.1)) (VE.to (VO.ve (jf (au aU (au (lY (aj 8 rfl) aU (gx hkl)) (au (Ar (aj 8 rfl) (small (by omega)) (.yes aH) .no) (au (lD (jX hr (aj 2 rfl) aU (uf p)) aH g0) (au aU aX))))))) rfl) nd)
    (bH (dG (VE.to (jj (au (aj 6 rfl) (au (aj 7 rfl) (au (lD (ds:=(Ae p g.2.2.1).map aW) (aj 11 rfl) (eZ (aj 5 rfl) aH (by decide)) pt) (au (aj 9 rfl) aX))))) rfl))))) rfl
  rw[if_neg h2];refine aO (cW (VT.to (c7 hr (dY 20 _) (dY 20 _) (aj 4 rfl) aH) (by rw[pR];exact decide_eq_false h2)) b_) ?_
  have pt:yN (vB.map aW) (m/4%6)=some (.str (pickOf vB "" (m/4))):=(uM (d:=("":Str)) (F:=aW) (by show 1<=6;decide) (m/4)).1
  exact bH (dG (VE.to (jj (au (aj 6 rfl) (au (aj 7 rfl) (au (aj 8 rfl) (au (lD (ds:=vB.map aW) (VE.to (VO.ve (jf (au aU (au aU (au aU (au aU (au aU (au aU aX)))))))) rfl) (eZ (aj 5 rfl) aH (by decide)) pt) aX))))) rfl))
end
def atF(bad:List rH)(number:Int):Nat:=(number/7%(bad.length:Int)).toNat
def v9(p:Pl)(bad:List rH)(number:Int):List rH:=
 if bad=[]then bad else bad.set (atF bad number) (xJ p (bad.getD (atF bad number) GX) (ju bad (atF bad number)) (number/640))
def pL(p:Pl)(day:List rH)(ms:List Int):List rH:=ms.foldl (v9 p) day
theorem Rm(p:Pl)(bad:List rH)(m:Int):(v9 p bad m).length=bad.length:=by
 unfold v9
 split
 ·rfl
 ·rw[uR]
theorem Z2{bad:List rH}(h:bad≠[])(m:Int):atF bad m<bad.length/\m/7%(bad.length:Int)=(atF bad m:Nat):=by
 have h1:1<=bad.length:=by cases bad with|nil=>exact absurd rfl h|cons _ _=>simp
 have a1:0<=m/7%(bad.length:Int):=bY _ (by omega)
 have a2:m/7%(bad.length:Int)<bad.length:=cj _ (by omega)
 unfold atF;omega
theorem V3{bad:List rH}{i:Nat}(h:i<bad.length):bad.getD i GX∈bad:=by
 rw[aP,aG h];exact fY h
theorem Um{p:Pl}(hp:nU p){bad:List rH}{n:Nat}(hn:9<=n)(h:∀g∈bad,Ul n g)(m:Int):∀g∈v9 p bad m,Ul (n+1) g:=by
 intro g hg;unfold v9 at hg
 split at hg
 ·exact(h g hg).up (k_ n)
 ·rename_i hne
  rcases Nq hg with hg|rfl
  ·exact(h g hg).up (k_ n)
  ·exact Xv hp (h _ (V3 (Z2 hne m).1)) hn _ _
theorem Gb{p:Pl}(hp:nU p):∀(ms:List Int){day:List rH}{n:Nat},9<=n->(∀g∈day,Ul n g)->(pL p day ms).length=day.length/\∀g∈pL p day ms,Ul (n+ms.length) g
 | [],_,_,_,h=>⟨rfl,h⟩
 |m::ms,day,n,hn,h=>by
  obtain⟨a,b⟩:=Gb hp ms (day:=v9 p day m) (n:=n+1) (by omega) (Um hp hn h m)
  refine⟨a.trans (Rm p day m),λg hg=>?_⟩
  have:=b g hg;rw[bJ];exact this.up (by omega)
theorem Rn(p:Pl)(day:List rH){ms:List Int}{i:Nat}{m:Int}(h:ms[i]?=some m):pL p day (ms.take (i+1))=v9 p (pL p day (ms.take i)) m:=by
 unfold pL;rw[gP,h,lA];rfl
def Ro(m n:Int):List Int:=L2.cutD [m,n] none (some (1+m/3%2))
theorem Rp(m n:Int):(Ro m n).length<=2:=by
 unfold Ro L2.cutD;rw[dO,fG];simp only[bJ,dM];omega
theorem zdT{g:rH}(h:okG g):Lay 19 (jt g):=Oa (n:=18) λd hd=>by
 simp only[aQ,cL,or_false]at hd;rcases hd with rfl|rfl|rfl|rfl
 ·exact dY 18 _
 ·exact bZ h.gt
 ·exact bZ h.kd
 ·exact bZ h.pa
theorem V4{day:List rH}(h:∀g∈day,okG g):Lay 20 (.list (day.map jt)):=Ib (n:=19) λd hd=>by
 obtain⟨g,hg,rfl⟩:=aR.mp hd;exact zdT (h g hg)
theorem Rq:Lay 20 (.list []):=Ib (n:=19) λd hd=>by cases hd
section
variable{P:bL}{w:dB}{K:ao}{mg:Str->Option aF}{base:dW}{f:aN}{k:Nat}
abbrev Nsp:List Str:=["_law_h","_law_day_here","_law_m","_law_n","_law_bad","_law_number","_law_at","_law_last"]
theorem zci:eX Nsp ["_law_h","_law_day_here","_law_m","_law_n"] (cP (top 62)):=⟨rfl,rfl,rfl,by decide +kernel,rfl,by decide +kernel,by decide +kernel⟩
def Rsp(ds es:List aA):Prop:=∃(p:Pl)(day:List rH)(m n:Int),ds=[jw p,.list (day.map jt),.int m,.int n]/\nU p/\1<=p.gates.length/\day.length<=100/\(∀g∈day,Ul 9 g)/\es=(pL p day (Ro m n)).map jt
theorem zjh{fd:cU}(F:rP K "_law_spoilt" "_law_spoilt" (top 62) f fd)(n:Na mg)(C1:cG P w K mg base 1 "_law_faulty" ["_law_one","_law_last","_law_h","_law_m"] (mX K Rfa)):i_ P w K mg base qz 2 f fd ["_law_h","_law_day_here","_law_m","_law_n"] (LK K Rsp):=
 Qi F zci (λ_ _ h=>by obtain⟨_,_,_,_,rfl,_⟩:=h;rfl) λ_ _ h=>by
  obtain⟨p,day,m,nn,rfl,hp,hg1,hdl,hok,rfl⟩:=h;intro cdv A outer s H E hr;have nd:Nsp.Nodup:=zci.nd;refine aO (rA 4 (qM pP Jl (au (aj 1 rfl) aX) n.lst rfl) nd) ?_
  have hml:=Rp m nn;have ems:L2.cutD [jy m,.int nn] none (some (1+m/3%2))=(Ro m nn).map .int:=Ax jy [m,nn] _ _
  generalize Ro m nn=ms at *
  refine aO (rB (tgt:=.one 5) (o:=.nx [.val (jw p),.val (.list (day.map jt)),.val (.int m),.val (.int nn),.own ((pL p day ms).map jt),.un,.un,.un]) gA rfl (lN (ds:=ms.map .int) (VE.to (VO.ve (n_ (ds:=[jy m,.int nn]) (VO.ve (jf (au (aj 2 rfl) (au (aj 3 rfl) aX)))) .no (.yes (iQ aH (eZ (jJ (aj 2 rfl) aH ⟨by decide,by decide⟩) aH (by decide)))))) (by rw[ems])))
   (cJ (i:=5) nd rfl (bG rfl)) (λi=>[.val (jw p),.val (.list (day.map jt)),.val (.int m),.val (.int nn),.own ((pL p day (ms.take i)).map jt),.un,.un,.un]) ms.length rfl (by rw[aq];exact aK _) (λi d hi hd=>?_) (.inl ⟨by rw[aq],by rw[lX]⟩)) (bH (Dr 4 rfl))
  obtain⟨m1,hm1,rfl⟩:∃m1,ms[i]?=some m1/\d=.int m1:=by
   rw[bh,aG hi]at hd;cases hd;exact⟨_,aG hi,rfl⟩
  rw[Rn p day hm1];obtain⟨hbl,hbk⟩:=Gb hp (ms.take i) (aK 9) hok;have hti:(ms.take i).length<=2:=by rw[dO];omega
  generalize pL p day (ms.take i)=bad at *
  have hbk:∀g∈bad,Ul 1000 g:=λg hg=>(hbk g hg).up (by omega)
  have hL:=V4 (day:=day) λg hg=>(hok g hg).ok (by omega)
  refine⟨_,rfl,?_⟩
  unfold v9;by_cases hb:bad=[]
  ·rw[if_pos hb]
   have hd0:day=[]:=ji (by rw[<-hbl,hb];rfl)
   subst hd0;exact mU (bH (cW (VT.to (qu hr hL Rq (aj 1 rfl) (VO.ve (jf aX))) rfl) b_)) ⟨.inr rfl,.inr rfl,.inr rfl,.inr rfl,.inr rfl,.inl rfl,.inl rfl,.inl rfl,trivial⟩
  rw[if_neg hb];have hd0:day≠[]:=λz=>hb (ji (by rw[hbl,z];rfl))
  have hne:fD (.list (day.map jt)) (.list [])=false:=by
   cases day with
   |nil=>exact absurd rfl hd0
   |cons a l=>rfl
  obtain⟨ha,ea⟩:=Z2 hb m1;rw[hbl]at ea
  generalize atF bad m1=a at *
  have hga:(bad.map jt)[a]?=some (jt (bad.getD a GX)):=v7 ha;have okg:=hbk _ (V3 ha);have zmW:(day.length:Int)≠0:=by
   intro z;exact hd0 (ji (by omega))
  have hda:(day.length:Int)>=1:=by omega
  refine mU (δ':=[.val (jw p),.val (.list (day.map jt)),.val (.int m),.val (.int nn),.own ((bad.map jt).set a (jt (xJ p (bad.getD a GX) (ju bad a) (m1/640)))),.val (.int m1),.val (.int a),.val (.int (ju bad a))]) (bH (gj (VT.to (qu hr hL Rq (aj 1 rfl) (VO.ve (jf aX))) (by rw[hne];rfl)) ?_)) ⟨.inr rfl,.inr rfl,.inr rfl,.inr rfl,.inr (by rw[RB]),.inl rfl,.inl rfl,.inl rfl,trivial⟩
  refine aO (dU 6 (d:=.int (a:Nat)) (VE.to (eZ (jJ (aj 5 rfl) aH ⟨by decide,by decide⟩) (pG (ds:=day.map jt) (aj 1 rfl) n.len) (by rw[aq];omega)) (by rw[aq,ea])) nd) ?_
  refine aO (dU 7 aH nd) ?_
  refine aO (δ':=[.val (jw p),.val (.list (day.map jt)),.val (.int m),.val (.int nn),.own (bad.map jt),.val (.int m1),.val (.int a),.val (.int (ju bad a))]) ?_ (bH (Zi 4 rfl (aj 6 rfl) (by rw[aq];exact ha) (cF C1 hr (au (Zh 4 rfl (aj 6 rfl) hga) (au (aj 7 rfl) (au (aj 0 rfl) (au (jJ (aj 5 rfl) aH ⟨by decide,by decide⟩) aX)))) ⟨p,_,_,_,rfl,hp,hg1,okg,rfl⟩)))
  cases a with
  |zero=>exact cW (VT.to (Lz (aj 6 rfl) aH) rfl) b_
  |succ j=>
   have hgj:(bad.map jt)[j]?=some (jt (bad.getD j GX)):=v7 (by omega)
   exact gj (VT.to (Lz (aj 6 rfl) aH) (decide_eq_true (by omega))) (bH (dU 7 (d:=.int (bad.getD j GX).1) (cY (Zh 4 rfl (VE.to (Sw (aj 6 rfl) aH) (k:=.int (j:Nat)) (by congr 1;omega)) hgj) aH (cu (j:=0) rfl)) nd))
end
theorem Xw(ns:List Int):(L2.cutD ns (some 5) (some 63)).length<=58:=by
 unfold L2.cutD;rw[dO,fG,show(5:Int)=((5:Nat):Int)from rfl,show(63:Int)=((63:Nat):Int)from rfl,HT.uK,HT.uK]
 omega
structure LawC(P:bL)(w:dB)(K:ao)(mg:Str->Option aF)(base:dW)(C M:aN):Prop where
 n:Na mg
 ca:cG P w K mg base 1 "_law_cell_at" ["_law_script","_law_k"] (mX K VB)
 mx:cG P w K mg base 1 "_law_mix" ["_law_cell","_law_k"] (mX K Tt)
 pl:cG P w K mg base 4 "_law_plant" ["_law_script"] (mX K Rpl)
 pt:cG P w K mg base 3 "_law_plant_text" ["_law_h"] (mX K Rpt)
 rp:cG P w K mg base 9 "read_plant" ["text"] (mX K Rrp)
 go:cG P w K mg base 3 "_law_goods" ["_law_h","_law_cells","_law_m"] (LK K Rgo)
 sp:cG P w K mg base 2 "_law_spoilt" ["_law_h","_law_day_here","_law_m","_law_n"] (LK K Rsp)
 du:cG P w K mg base 2 "_law_due" ["_law_h","_law_day_here"] (mX K Rdu)
 ld:cG P w K mg base 4 "look_day" ["plant","day"] (mX K Rld)
 lx:Ms P w K mg base 4 "look_day" ["plant","day"] C zgl
 rf:cG P w K mg base 1 "_law_is_refused" Nrf (zgf K C)
 me:mg "MergeError"=some (.ref M)
 sub:za5 K C M
 gt:Tg K C
 np:jG K C "place"
 nw:jG K C "word"
section
variable{P:bL}{w:dB}{K:ao}{mg:Str->Option aF}{base:dW}{f C M:aN}{k:Nat}
abbrev zby:List Str:=["_law_script","_law_h","_law_m","_law_n","_law_plant_here","_law_day_here","_law_bad","_law_handed","_law_told","_law_caught","error","_law_due_here"]
theorem Z4:eX zby ["_law_script"] (cP (top 63)):=⟨rfl,rfl,rfl,by decide +kernel,rfl,by decide +kernel,by decide +kernel⟩
theorem zbz{p:Pl}(hp:nU p){day:List rH}(h:Mz p day):∀g∈day,Ul 9 g:=λg hg=>by
 have ok:=h.gd g hg;refine⟨(ok.gn hp).ok.2,(ok.kn hp).ok.2,ok.ps,?_,?_,?_⟩
 ·have:=(ok.gn hp).short;omega
 ·have:=(ok.kn hp).short;omega
 ·rcases ok.pa with e|e
  ·rw[e];decide
  ·have:=e.short;omega
theorem zgr(C0:LawC P w K mg base C M){ns:List Int}(hn:ns.length<=63):∀cdv A outer s H E,jH 9 (A.deeper (envOfC "law" (cP (top 63)) s.heap.objs.size f cdv))->∀B0 B σ H0 Hh D,kj K B0 B H0 Hh σ (Ca zby [qN ns])->(∀v iM H',gR B0 B iM H'->Rep K iM v (.bool true)->D.rt v H')->
  Vg (Jd qz P w K mg base zby "law" (cP (top 63)) f cdv A outer s H E).nox (pQ (top 63)) D σ Hh:=by
 intro cdv A outer s H E hr B0 B σ H0 Hh D fr okD;have n:=C0.n;have nd:zby.Nodup:=Z4.nd;have hr1:jH 1 _:=hr.mono (by omega)
 have hr2:jH 2 _:=hr.mono (by omega)
 have hr3:jH 3 _:=hr.mono (by omega)
 have hr4:jH 4 _:=hr.mono (by omega)
 refine gk (Fx fr (dU 1 (d:=jw (kY ns)) (cF C0.pl hr4 (au (aj 0 rfl) aX) ⟨ns,rfl,rfl⟩) nd) λσ1 Ha Hb _ f1=>?_)
 refine gk (Fx f1 (Yz 2 3 (d1:=.int (eE (ns.getD 3 0) 7)) (d2:=.int (eE (ns.getD 4 0) 8)) (cF C0.mx hr1 (au (cF C0.ca hr1 (au (aj 0 rfl) (au aH aX)) ⟨ns,3,rfl,rfl⟩) (au aH aX)) ⟨ns.getD 3 0,7,rfl,by decide,by decide,rfl⟩) (cF C0.mx hr1 (au (cF C0.ca hr1 (au (aj 0 rfl) (au aH aX)) ⟨ns,4,rfl,rfl⟩) (au aH aX)) ⟨ns.getD 4 0,8,rfl,by decide,by decide,rfl⟩) rfl nd (by decide)) λσ2 Ha2 Hb2 _ f2=>?_)
 have RJ:=VJ ns;have gdp:=Xk ns;obtain⟨hk0,hg0⟩:=Ui ns;have otx:=Xn ns
 generalize eE (ns.getD 3 0) 7=m at *
 generalize eE (ns.getD 4 0) 8=m2 at *
 generalize kY ns=p at *
 have hk1:1<=p.kinds.length:=by cases h:p.kinds with|nil=>exact absurd h hk0|cons _ _=>simp
 have hg1:1<=p.gates.length:=by cases h:p.gates with|nil=>exact absurd h hg0|cons _ _=>simp
 refine gk (Fx f2 (dU 4 (d:=pJ p) (cF C0.rp hr (au (cF C0.pt hr3 (au (aj 1 rfl) aX) ⟨p,rfl,RJ,rfl⟩) aX) ⟨Ay p,Ra p,rfl,otx,Rf RJ hk0,zgb RJ gdp,by rw[(ZW RJ gdp).2]⟩) nd) λσ3 Ha3 Hb3 _ f3=>?_)
 have hcl:=Xw ns;refine gk (Fx f3 (dU 5 (d:=.list ((v8 p (L2.cutD ns (some 5) (some 63)) m).map jt)) (VO.ve (rC C0.go hr3 (au (aj 1 rfl) (au (VO.ve (VO.to (n_ (ds:=ns.map jy) (aj 0 rfl) (.yes aH) (.yes aH)) (Ax _ _ _ _))) (au (aj 2 rfl) aX))) ⟨p,_,m,rfl,hg1,hk1,by omega,rfl⟩)) nd) λσ4 Ha4 Hb4 _ f4=>?_)
 have hd:=Z1 RJ hk0 hg0 (by omega:(L2.cutD ns (some 5) (some 63)).length<=59) m
 generalize v8 p (L2.cutD ns (some 5) (some 63)) m=day at *
 have hok:=zbz RJ hd;have hdl:=hd.len;refine gk (Fx f4 (dU 6 (d:=.list ((pL p day (Ro m2 m)).map jt)) (VO.ve (rC C0.sp hr2 (au (aj 1 rfl) (au (aj 5 rfl) (au (aj 3 rfl) (au (aj 2 rfl) aX)))) ⟨p,day,m2,m,rfl,RJ,hg1,hdl,hok,rfl⟩)) nd) λσ5 Ha5 Hb5 _ f5=>?_)
 obtain⟨hbl,hbk⟩:=Gb RJ (Ro m2 m) (aK 9) hok;have hml:=Rp m2 m
 generalize pL p day (Ro m2 m)=bad at *
 have hbg:Rj bad:=⟨by rw[hbl];exact hdl,λg hg=>(hbk g hg).ok (by omega)⟩
 have hLb:=V4 hbg.ok;refine gk (Fx f5 (dU 7 (d:=.list (bad.map jt)) (VO.ve (qM pP Jl (au (aj 6 rfl) aX) n.lst rfl)) nd) λσ6 Ha6 Hb6 _ f6=>?_)
 have rl:Rld [pJ p,.list (day.map jt)] (.bool true):=⟨p,day,rfl,RJ,hd.zgo RJ,hd.nof,rfl⟩;refine gk (Fx f6 (cW (VT.to (lK Qy Vw (cF C0.ld hr4 (au (aj 4 rfl) (au (VO.ve (qM pP Jl (au (aj 5 rfl) aX) n.lst rfl)) aX)) rl) Gq (jQ _)) rfl) b_) λσ7 Ha7 Hb7 _ f7=>?_)
 refine gk (Fx f7 (Yy (.tup [8,9]) (jj (au lJ (au lJ aX))) (lg rfl (cZ (cJ (i:=8) nd rfl (bG rfl)) (cZ (cJ (i:=9) nd rfl (bG rfl)) jq))) rfl) λσ8 Ha8 Hb8 _ f8=>?_)
 clear f7 f6 f5 f4 f3 f2 f1 fr
 rcases ZX p bad with hno|⟨mf,wd,hF⟩
 ·refine gk (zdr (λ_ _ z=>z) (Fx f8 (dU 8 (d:=.bool true) (cF C0.ld hr4 (au (aj 4 rfl) (au (aj 7 rfl) aX)) ⟨p,bad,rfl,RJ,hbg,hno,rfl⟩) nd) λσ9 Ha9 Hb9 _ f9=>?_))
  refine Y_ ?_ f9 okD
  refine aO (dU 11 (d:=.none) (cF C0.du hr2 (au (aj 1 rfl) (au (aj 6 rfl) aX)) (.inl ⟨p,bad,rfl,RJ,hbg,hno,rfl⟩)) nd) ?_
  refine aO (cW (VT.to (oW (k1:=false) (k2:=false) (VT.to (qu hr hLb hLb (aj 7 rfl) (aj 6 rfl)) (by rw[KJ _ hLb.1];rfl)) (λ_=>VT.to (qd (k1:=true) (k2:=false) (VT.to (lK sO xq (aj 11 rfl) lJ (jQ _)) rfl) (λ_=>VT.to (lK Qy Vw (aj 8 rfl) Gq (jQ _)) rfl)) rfl)) rfl) b_) ?_
  refine aO (cW (VT.to (qd (k1:=false) (k2:=false) (lK U0 (Vx rfl) (aj 11 rfl) lJ (jQ _)) (λz=>by cases z)) rfl) b_) ?_
  exact bH (dG (VE.to (B_ Zg zbT (cF C0.ld hr4 (au (aj 4 rfl) (au (VO.ve (qM pP Jl (au (aj 5 rfl) aX) n.lst rfl)) aX)) rl) Gq (jQ _)) rfl))
 ·obtain⟨fx,fdx,FX,mx,kx,bx⟩:=C0.lx
  refine gk (zds (jn:=10) (jc:=9) (M:=M) f8 (λ_ _ z=>z) rfl rfl rfl (λ_=>hr.hd) FX hr4 bx (by rfl) mx kx (au (aj 4 rfl) (au (aj 7 rfl) aX)) ⟨p,bad,mf,rfl,RJ,hbg,hF,rfl⟩ (by rfl) C0.me C0.sub nd rfl rfl rfl (bG rfl) (.inr rfl) (by decide) λe dx T σ9 Ha9 Hb9 f9 ge gd ae ad be bd hne=>?_)
  have c0:u9 K Hb9 e C mf wd:=⟨⟨dx,T,ge,gd,hne⟩,C0.gt,C0.np,C0.nw⟩
  clear ge gd
  have f9:kj K B0 B Ha9 Hb9 σ9 [.val (qN ns),.val (jw p),.val (.int m),.val (.int m2),.val (pJ p),.val (.list (day.map jt)),.val (.list (bad.map jt)),.val (.list (bad.map jt)),.val .none,.ref e,.un,.un]:=f9;refine gk (zdv 11 f9 (d:=.tuple [.int mf,.str wd]) (cF C0.du hr2 (au (aj 1 rfl) (au (aj 6 rfl) aX)) (.inr ⟨p,bad,mf,wd,rfl,RJ,hbg,hF,rfl⟩)) nd λσ10 zmY zmZ g10 f10=>?_)
  have c1:=c0.mono g10.big;refine gk (uH f10 (VT.to (oW (k1:=false) (k2:=false) (VT.to (qu hr hLb hLb (aj 7 rfl) (aj 6 rfl)) (by rw[KJ _ hLb.1];rfl)) (λ_=>VT.to (qd (k1:=false) (k2:=false) (VT.to (lK sO xq (aj 11 rfl) lJ (jQ _)) rfl) (λz=>by cases z)) rfl)) rfl) λzm1 zm2 g11=>λpins s1 I=>Ak pins s1 _ _ _ I ?_)
  have c2:=c1.mono g11.big;have f11:=f10.grow g11;obtain⟨fr',fdr,FR,mr,kr,br⟩:=C0.rf;have hwd:=Ri p (bad.getD mf GX) (ju bad mf);rw[show oO p (bad.getD mf GX) (ju bad mf)=wd from hF.at_]at hwd
  refine gk (Zj 9 f11 (lK (k:=true) U0 (Vx rfl) (aj 11 rfl) lJ (jQ _)) (aj 11 rfl) FR hr1 mr kr br rfl (λzjj zm3 v g12 rv Q hQ=>⟨zjj,e,mf,wd,v,rfl,g12.sub,c2.mono g12.big,rv,hwd.1,hQ⟩) λzm4 zm5 g13 f13=>?_)
  refine Y_ ?_ f13 okD
  exact bH (dG (VE.to (B_ Zg zbT (cF C0.ld hr4 (au (aj 4 rfl) (au (VO.ve (qM pP Jl (au (aj 5 rfl) aX) n.lst rfl)) aX)) rl) Gq (jQ _)) rfl))
def zcj(K:ao):Sp:=λvs H Q _=>∃(a:aN)(ns:List Int),vs=[.ref a]/\rW K H a (ns.map V.int)/\ns.length<=63/\∀H',Q (.bl true) H'
theorem MN{K:ao}{H:Hp}:∀ns:List Int,fX K H (ns.map V.int) (ns.map jy)
 | []=>.nil
 |n::ns=>.cons (.int n) (MN ns)
theorem zgt{fd:cU}(F:rP K "law" "law" (top 63) f fd)(C0:LawC P w K mg base C M):i_ P w K mg base qz 10 f fd ["_law_script"] (zcj K):=by
 refine F.ok Z4 (λvs H Q E h=>?_) (λcdv A outer s H vs Q E hr h=>?_)
 ·obtain⟨a,ns,rfl,_⟩:=h
  rfl
 ·obtain⟨a,ns,rfl,hS,hn,q⟩:=h
  exact⟨_,tY,zgr C0 hn cdv A outer s H E hr H H _ H H _ (.start (Same.refl _) (.cons (.lst hS (MN ns)) .nil)) λv iM H' g r=>by cases r;exact q H'⟩
end
end Mg
namespace Mg
open L2 PySem PyProof.Rows
structure iW(K:ao)(mg:Str->Option aF)(g x:Str)(st:mj)(ps:List Str):Prop where
 ex:∃f fd,rP K x x st f fd/\mg g=some (.ref f)/\∀us:List aF,us.length=ps.length->bindArgs fd ⟨us,[]⟩=pure (ps.zip us)
theorem gQ{K:ao}{h:dW}{mg:Str->Option aF}{g x:Str}{st:mj}{ps:List Str}{f:aN}{oc:aF}{od an:Option aN}{osl:Array (Option aF)}{kV doc pm cdv ct:aF}(X:K.In h)(G:h.Ns mainGlobals mg)
  (hb:∀(kV doc pm:aF)(an:Option aN)(cdv ct:aF)(us:List aF),us.length=ps.length->bindArgs (mR x x (vO st) (pQ st) (cP st) .none kV doc pm an cdv ct) ⟨us,[]⟩=pure (ps.zip us))
  (a:pN K mainGlobals g=some (some (.ref f)))(l:K.lookup f=some ⟨oc,od,.func (mR x x (vO st) (pQ st) (cP st) .none kV doc pm an cdv ct),osl⟩)
  (c:qZ K cdv x=true)(k:gZ K (.ref f)=true):iW K mg g x st ps:=
 ⟨f,_,Sd l c k,iR X G a,hb kV doc pm an cdv ct⟩
section
variable{P:bL}{w:dB}{K:ao}{mg:Str->Option aF}{base:dW}{f:aN}{k:Nat}
theorem iW.call{g x:Str}{st:mj}{ps:List Str}{sp:Sp}(D:iW K mg g x st ps)(h:∀f fd,rP K x x st f fd->i_ P w K mg base qz k f fd ps sp):cG P w K mg base k g ps sp:=by
 obtain⟨f,fd,F,hm,hb⟩:=D.ex;exact⟨f,fd,h f fd F,hm,F.kp,.all hb⟩
theorem rK{g:aN}{ws:List Str}{od:Option aN}{its:Array aF}{n:Nat}{sl:Array (Option aF)}(l:K.lookup g=some ⟨.type "tuple",od,.seq its n,sl⟩)(hs:its.size<=100)(hv:Vals (ws.map V.str) its.toList):KTup K g ws:=
 ⟨_,_,_,l,rfl,rfl,small (by omega),hv⟩
theorem zck{pr:Im}{g:aN}{kvs:List (Str×List Str)}{es:Array M_}{ep:Nat}(nm:(g==sysModules)=false)(nd:(kvs.map (·.1)).Nodup)(l:K.lookup g=some ⟨.type "dict",none,.dict es ep,#[]⟩)(ge:GE pr K es.toList kvs):GD pr K g kvs:=
 ⟨nm,nd,_,es,ep,l,⟨rfl,rfl,rfl⟩,rfl,ge⟩
structure zbA(K:ao)(mg:Str->Option aF):Prop where
 ex:∃C fi fd,mg "Plant"=some (.ref C)/\Cls K C/\(∀f∈fsN,jG K C f)/\Mk K C fi/\rP K "__init__" "Plant.__init__" J6 fi fd/\Binds K fd ["self"] []
theorem zgu{h:dW}{C f:aN}{oc:aF}{od an:Option aN}{osl:Array (Option aF)}{kV doc pm cdv ct:aF}(X:K.In h)(G:h.Ns mainGlobals mg)(aC:pN K mainGlobals "Plant"=some (some (.ref C)))
  (a1:cV K (.ref C) "__init__"=some (some (.ref f)))(i1:xX K (.ref f)=true)(l:K.lookup f=some ⟨oc,od,.func (mR "__init__" "Plant.__init__" (vO J6) (pQ J6) (cP J6) .none kV doc pm an cdv ct),osl⟩)(c:qZ K cdv "Plant.__init__"=true)(k:gZ K (.ref f)=true)
  (pg:wK K C iy=true)(hd:kE K C=true)(po:CT K C=true)(sa:cV K (.ref C) "__setattr__"=some (some (.builtin "object.__setattr__")))(mk:G7 K C=true)(kc:gZ K (.ref C)=true)
  (z1:cV K (.ref C) "kinds"=some none)(z2:cV K (.ref C) "gates"=some none)(z3:cV K (.ref C) "lines"=some none)(z4:cV K (.ref C) "desks"=some none)(z5:cV K (.ref C) "times"=some none)(z6:cV K (.ref C) "hours"=some none)(z7:cV K (.ref C) "paces"=some none):zbA K mg:=by
 have F:=Sd (st:=J6) l c k;refine⟨C,f,_,iR X G aC,⟨pg,hd,po,sa⟩,λf hf=>?_,⟨mk,a1,i1,kc⟩,F,F.binds (ps:=["self"]) λ_ _ _ _ _ _ us hl=>match us,hl with | [_],_=>rfl⟩
 simp only[aQ,cL,or_false]at hf;rcases hf with rfl|rfl|rfl|rfl|rfl|rfl|rfl
 ·exact z1
 ·exact z2
 ·exact z3
 ·exact z4
 ·exact z5
 ·exact z6
 ·exact z7
theorem zbA.pc(T:zbA K mg):PlC P w K mg base:=by
 obtain⟨C,fi,fd,h1,h2,h3,h4,h5,h6⟩:=T.ex;exact⟨C,fi,fd,h1,h2,h3,h4,ziV h5 h2 h3,h6⟩
structure XAt(K:ao)(mg:Str->Option aF):Prop where
 ex:∃C M fi fd,MkX K C fi/\rP K "__init__" "BadDay.__init__" sIX fi fd/\Binds K fd Nix []/\zgd K mg M/\XKd K mg C/\za5 K C M
theorem zdU{h:dW}{C M M1 M2 M3 f:aN}{oc:aF}{od an:Option aN}{osl:Array (Option aF)}{kV doc pm cdv ct:aF}{nm q N bs bm hdct sn sub ab col dd k0 k1 k2 k3 k5 nm' q' N' bs' bm' Vv sn' sub' ab' col' Sq k0' k1' k2' k3' k5'}(X:K.In h)(G:h.Ns mainGlobals mg)
  (aC:pN K mainGlobals "BadDay"=some (some (.ref C)))(aM:pN K mainGlobals "MergeError"=some (some (.ref M)))(b1:pN K mainGlobals "BadBook"=some (some (.ref M1)))(b2:pN K mainGlobals "BadPlant"=some (some (.ref M2)))(b3:pN K mainGlobals "NoBound"=some (some (.ref M3)))(bv:pN K mainGlobals "ValueError"=some none)
  (a1:cV K (.ref C) "__init__"=some (some (.ref f)))(i1:xX K (.ref f)=true)(l:K.lookup f=some ⟨oc,od,.func (mR "__init__" "BadDay.__init__" (vO sIX) (pQ sIX) (cP sIX) .none kV doc pm an cdv ct),osl⟩)(c:qZ K cdv "BadDay.__init__"=true)(k:gZ K (.ref f)=true)
  (lC:K.lookup C=some (excClassObj nm q C N bs bm hdct sn sub ab col dd k0 k1 k2 k3 k5 "ValueError.__new__"))(lM:K.lookup M=some (excClassObj nm' q' M N' bs' bm' Vv sn' sub' ab' col' Sq k0' k1' k2' k3' k5' "ValueError.__new__"))
  (e1:(bR C::bm).contains (.type "ValueError")=true)(e2:(bR C::bm).contains (.type "AttributeError")=false)(e3:(bR C::bm).contains (.type "NameError")=false)(e4:(bR C::bm).contains (.type "BaseException")=true)(e5:(bR C::bm).contains (.ref M)=true)(e6:(bR M::bm').contains (.type "BaseException")=true)
  (sa:cV K (.ref C) "__setattr__"=some (some (.builtin "object.__setattr__")))(po:zV bm=Mi)(hd:kE K C=true)(kp:gZ K (.ref C)=true)(z1:cV K (.ref C) "place"=some none)(z2:cV K (.ref C) "word"=some none)
  (rd:Hj K M (.type "type")=true)(fc:Ho K (.ref M) (.type "type") "__init__"=some (.val (.builtin "ValueError.__init__")))(sp:oU K (.ref M) "__getattribute__"=some (some (.builtin "type.__getattribute__")))
  (ka:Iv K (.ref C) [.ref M1,.ref M2,.ref M3]=some false)(kc:dR K (.ref C) (.ref C)=some true)(kv:dR K (.ref C) (.type "ValueError")=some true)
  (ga:cV K (.ref C) "__getattribute__"=some (some (.builtin "BaseException.__getattribute__")))(gh:cV K (.ref C) "__getattr__"=some none)(mb:Bm K C (.type "BaseException")=some true)(cl:cV K (.ref C) "__class__"=some (some (.builtin "object.__class__")))(cg:oU K (.builtin "object.__class__") "__get__"=some (some (.builtin "getset_descriptor.__get__")))(ct':PySem.W.takesIn K (.builtin "object.__class__")=some true)(mo:Bm K C (.type "object")=some true):XAt K mg:=by
 have F:=Sd (st:=sIX) l c k;exact⟨C,M,f,_,⟨⟨⟨_,_,_,_,_,_,_,_,_,_,_,_,_,_,_,_,lC,e1,e2,e3,e4⟩,sa,⟨_,by unfold PySem.W.clsIn;rw[lC],po⟩,hd,kp⟩,a1,i1⟩,F,F.binds (ps:=Nix) (λ_ _ _ _ _ _ us hl=>match us,hl with | [_,_,_],_=>rfl),⟨iR X G aM,rd,fc,sp⟩,⟨iR X G aC,⟨M1,M2,M3,iR X G b1,iR X G b2,iR X G b3,ka⟩,kc,kv,dH X G bv,⟨ga,gh,mb,hd,cl,cg,ct',mo⟩,z1,z2⟩,
  ⟨_,_,_,_,_,_,_,_,_,_,_,_,_,_,_,_,_,_,_,_,_,_,_,_,_,_,_,_,_,_,_,_,lC,lM,e5,e6⟩⟩
structure Defs(K:ao)(mg:Str->Option aF)(pr:Im):Prop where
 n:Np mg pr K
 nw:Nw mg
 kt:Ka K
 pa:zbA K mg
 xa:XAt K mg
 d0:iW K mg "is_made_of" "is_made_of" (top 11) ["signs","longest","word"]
 d1:iW K mg "is_name" "is_name" (top 12) ["word"]
 d2:iW K mg "is_number" "is_number" (top 13) ["word"]
 d3:iW K mg "words_of" "words_of" (top 14) ["row"]
 d4:iW K mg "rows_of" "rows_of" (top 15) ["text"]
 d5:iW K mg "look_day" "look_day" (top 17) ["plant","day"]
 d6:iW K mg "fault_of_days" "fault_of" (top 18) ["plant","good","ahead"]
 d7:iW K mg "is_whole" "is_whole" (top 20) ["time"]
 d8:iW K mg "greatest_load" "greatest_load" (top 22) ["rule","many"]
 d9:iW K mg "read_plant" "read_plant" (top 28) ["text"]
 d10:iW K mg "fits" "fits" (top 29) ["shape","word"]
 d11:iW K mg "value_of" "value_of" (top 30) ["shape","word"]
 d12:iW K mg "values_of" "values_of" (top 31) ["shapes","words"]
 d13:iW K mg "entry_of" "entry_of" (top 32) ["words"]
 d14:iW K mg "desk_entry" "desk_entry" (top 33) ["words"]
 d15:iW K mg "rule_of" "rule_of" (top 34) ["words","many"]
 d16:iW K mg "are_places" "are_places" (top 35) ["names"]
 d17:iW K mg "fault_of_plants" "fault_of" (top 36) ["plant","entry"]
 d18:iW K mg "tells_twice" "tells_twice" (top 38) ["plant","entry"]
 d19:iW K mg "lacks_name" "lacks_name" (top 39) ["plant","entry"]
 d20:iW K mg "lacks_room" "lacks_room" (top 40) ["plant","entry"]
 d21:iW K mg "is_place" "is_place" (top 41) ["plant","name"]
 d22:iW K mg "is_desk" "is_desk" (top 42) ["plant","name"]
 d23:iW K mg "takers_of" "takers_of" (top 43) ["plant","place"]
 d24:iW K mg "add_entry" "add_entry" (top 44) ["plant","entry"]
 d25:iW K mg "_law_cell_at" "_law_cell_at" (top 46) ["_law_script","_law_k"]
 d26:iW K mg "_law_mix" "_law_mix" (top 47) ["_law_cell","_law_k"]
 d27:iW K mg "_law_names" "_law_names" (top 48) ["_law_cell","_law_many"]
 d28:iW K mg "_law_rule" "_law_rule" (top 49) ["_law_m","_law_many"]
 d29:iW K mg "_law_greatest" "_law_greatest" (top 50) ["_law_rule_here","_law_many"]
 d30:iW K mg "_law_desks" "_law_desks" (top 51) ["_law_cell","_law_places","_law_lines"]
 d31:iW K mg "_law_plant" "_law_plant" (top 52) ["_law_script"]
 d32:iW K mg "_law_dash" "_law_dash" (top 53) ["_law_thing"]
 d33:iW K mg "_law_rule_text" "_law_rule_text" (top 54) ["_law_rule_here"]
 d34:iW K mg "_law_plant_text" "_law_plant_text" (top 55) ["_law_h"]
 d35:iW K mg "_law_day" "_law_day" (top 56) ["_law_h","_law_cells"]
 d36:iW K mg "_law_goods" "_law_goods" (top 57) ["_law_h","_law_cells","_law_m"]
 d37:iW K mg "_law_is_name" "_law_is_name" (top 58) ["_law_word"]
 d38:iW K mg "_law_due" "_law_due" (top 59) ["_law_h","_law_day_here"]
 d39:iW K mg "_law_is_refused" "_law_is_refused" (top 60) ["_law_caught","_law_due_here"]
 d40:iW K mg "_law_faulty" "_law_faulty" (top 61) ["_law_one","_law_last","_law_h","_law_m"]
 d41:iW K mg "_law_spoilt" "_law_spoilt" (top 62) ["_law_h","_law_day_here","_law_m","_law_n"]
theorem Defs.all(D:Defs K mg w.params):∃C M,LawC P w K mg base C M:=by
 have n:=D.n;have nw:=D.nw;have pc:=D.pa.pc (P:=P) (w:=w) (base:=base);obtain⟨C,M,fi,fdi,mk,Fi,bI,S,xk,sub⟩:=D.xa.ex;have FI:=zi4 (P:=P) (w:=w) (base:=base) Fi mk.toTe xk.np xk.nw S;have Eh:=D.d0.call (P:=P) (w:=w) (base:=base) λ_ _ F=>zif F nw
 have Bc:=D.d1.call (P:=P) (w:=w) (base:=base) λ_ _ F=>zig F nw Eh
 have GZ:=D.d2.call (P:=P) (w:=w) (base:=base) λ_ _ F=>zih F nw Eh
 have Uo:=D.d3.call (P:=P) (w:=w) (base:=base) λ_ _ F=>zii F
 have Xx:=D.d4.call (P:=P) (w:=w) (base:=base) λ_ _ F=>zij F nw Uo
 have Uq:=D.d7.call (P:=P) (w:=w) (base:=base) λ_ _ F=>zi6 F n.toNa D.kt
 have yQ:=D.d6.call (P:=P) (w:=w) (base:=base) λ_ _ F=>zi8 F n.toNa D.kt Uq Bc
 have Ur:=D.d5.call (P:=P) (w:=w) (base:=base) λ_ _ F=>zja F n.toNa yQ
 have Hu:=D.d8.call (P:=P) (w:=w) (base:=base) λ_ _ F=>ziR F
 have zbB:=D.d10.call (P:=P) (w:=w) (base:=base) λ_ _ F=>zfG F n.toNa Bc GZ
 have zdV:=D.d10.call (P:=P) (w:=w) (base:=base) λ_ _ F=>ziA F n.toNa Bc GZ zbB
 have Us:=D.d11.call (P:=P) (w:=w) (base:=base) λ_ _ F=>ziB F n.toNa
 have Af:=D.d12.call (P:=P) (w:=w) (base:=base) λ_ _ F=>ziC F n.toNa n.zip zdV Us
 have Xy:=D.d15.call (P:=P) (w:=w) (base:=base) λ_ _ F=>zfM F n Af
 have O5:=D.d16.call (P:=P) (w:=w) (base:=base) λ_ _ F=>ziD F n Bc
 have O6:=D.d14.call (P:=P) (w:=w) (base:=base) λ_ _ F=>ziF F n Af Xy O5
 have Ut:=D.d13.call (P:=P) (w:=w) (base:=base) λ_ _ F=>ziL F n Af O6
 have Kf:=D.d21.call (P:=P) (w:=w) (base:=base) λ_ _ F=>ziO F
 have MP:=D.d22.call (P:=P) (w:=w) (base:=base) λ_ _ F=>ziP F
 have Rr:=D.d23.call (P:=P) (w:=w) (base:=base) λ_ _ F=>ziQ F
 have K6:=D.d18.call (P:=P) (w:=w) (base:=base) λ_ _ F=>ziS F n Kf MP Rr
 have O7:=D.d19.call (P:=P) (w:=w) (base:=base) λ_ _ F=>ziT F n Kf MP
 have O8:=D.d20.call (P:=P) (w:=w) (base:=base) λ_ _ F=>zf0 F n Hu
 have Ei:=D.d17.call (P:=P) (w:=w) (base:=base) λ_ _ F=>ziU F K6 O7 O8
 have Rt:=D.d24.call (P:=P) (w:=w) (base:=base) λ_ _ F=>ziX F
 have O9:=D.d9.call (P:=P) (w:=w) (base:=base) λ_ _ F=>zi3 F n pc Xx Ut Ei Rt
 have Bx:=D.d25.call (P:=P) (w:=w) (base:=base) λ_ _ F=>zdz F n.len
 have xK:=D.d26.call (P:=P) (w:=w) (base:=base) λ_ _ F=>zfA F
 have Ag:=D.d27.call (P:=P) (w:=w) (base:=base) λ_ _ F=>zik F n.toNm xK
 have Uu:=D.d28.call (P:=P) (w:=w) (base:=base) λ_ _ F=>zil F n.toNm
 have Kg:=D.d29.call (P:=P) (w:=w) (base:=base) λ_ _ F=>zim F
 have Ru:=D.d30.call (P:=P) (w:=w) (base:=base) λ_ _ F=>zio F n.toNm xK Ag Uu
 have Rv:=D.d31.call (P:=P) (w:=w) (base:=base) λ_ _ F=>zir F n.toNm Bx xK Ag Kg Ru
 have Kh:=D.d32.call (P:=P) (w:=w) (base:=base) λ_ _ F=>zix F n.toNa
 have Hv:=D.d33.call (P:=P) (w:=w) (base:=base) λ_ _ F=>ziy F n.toNa Kh
 have Gd:=D.d34.call (P:=P) (w:=w) (base:=base) λ_ _ F=>ziz F n.toNa Kh Hv
 have Xz:=D.d35.call (P:=P) (w:=w) (base:=base) λ_ _ F=>ziv F n.toNm xK
 have Rw:=D.d36.call (P:=P) (w:=w) (base:=base) λ_ _ F=>zjb F n.toNm Ag Xz
 have K7:=D.d37.call (P:=P) (w:=w) (base:=base) λ_ _ F=>zgp F n.toNa
 have XC:=D.d38.call (P:=P) (w:=w) (base:=base) λ_ _ F=>zjf F n.toNa K7
 have Ge:=D.d39.call (P:=P) (w:=w) (base:=base) λ_ _ F=>zi5 F n.toNa D.kt xk
 have O_:=D.d40.call (P:=P) (w:=w) (base:=base) λ_ _ F=>zjg F n.toNa
 have Pa:=D.d41.call (P:=P) (w:=w) (base:=base) λ_ _ F=>zjh F n.toNa O_
 obtain⟨flx,zm7,F,zjP,zjQ⟩:=D.d5.ex;have lx:Ms P w K mg base _ "look_day" ["plant","day"] C _:=⟨_,_,zgm F n.toNa yQ xk.own mk FI bI,zjP,F.kp,.all zjQ⟩;exact⟨C,M,n.toNa,Bx,xK,Rv,Gd,O9,Rw,Pa,XC,Ur,lx,Ge,S.mg,sub,xk.gt,xk.np,xk.nw⟩
end
theorem walk{l:PySem.W.OpenLaw}{q:bL}{loose:List Str}{XP:(Str->Option aF)->dW->Prop}{YP:dB->dW->Prop}{d:DefRec}{K:Im->ao}(hn:l.most=some 63)(hdf:d.params.defaults=[])(hdn:d.name="law")
  (hY:∀(w:dB)(h:dW),YP w h->(K w.params).In h)
  (F:∀(w:dB)(mg:Str->Option aF)(h:dW),(K w.params).In h->h.Ns mainGlobals mg->Defs (K w.params) mg w.params/\iW (K w.params) mg "law" "law" (top 63) ["_law_script"]):
  PySem.W.WalkO q loose XP YP l.row.toRowW d [] (λf vs=>PySem.call f vs):=
 L2.zat (n:=63) (k:=10) (x:="_law_script") (CX:=λ_=>qz) (sp:=λw=>zcj (K w.params)) hn (by decide) hdf ⟨rfl,by decide,by decide⟩ hY (λw mg fa h X G hmg=>by
  obtain⟨D,L⟩:=F w mg h X G;obtain⟨f,fd,Fl,hm,hb⟩:=L.ex;rw[hdn]at hmg;rw[hm]at hmg;cases hmg;exact⟨fd,λs v=>.of_eq (hb [v] rfl),λbase _ _=>(by obtain⟨_,_,L0⟩:=D.all (base:=base);exact zgt Fl L0)⟩) (λ_ _ a ns hl _ hS=>⟨a,ns,rfl,hS,hl,λ_=>rfl⟩) λ_ _ _ _ _ z=>z
end Mg
namespace PySem.W.Fast
def tw10033762867641468393:=()
def tw10036762974350899202:=()
def tw10070959147707193699:=()
def tw10156641587061613339:=()
def tw10176994920348295297:=()
def tw10194441883878868769:=()
def tw10217026933715064058:=()
def tw10552316698623733042:=()
def tw10654990044376758257:=()
def tw10672257588091335007:=()
def tw10717556482137628367:=()
def tw10728041336179138879:=()
def tw10950032269289594133:=()
def tw10971994951616996582:=()
def tw11027928887794340304:=()
def tw11034551733379482001:=()
def tw11067813780594275465:=()
def tw11073846463756091327:=()
def tw11079826149608803140:=()
def tw11123110970566924194:=()
def tw11147990984002857240:=()
def tw11220502230617276860:=()
def tw1122816032645684393:=()
def tw11242281875138833574:=()
def tw11313489821348016881:=()
def tw11423705453079938810:=()
def tw11517019231720723342:=()
def tw11519474652227625707:=()
def tw11560525682133352798:=()
def tw11624179228682618364:=()
def tw11663687653986573168:=()
def tw1169449461432415309:=()
def tw1195118532694124535:=()
def tw11956226844691441166:=()
def tw11958911644087551151:=()
def tw1200024961252055806:=()
def tw1200883305393364117:=()
def tw12014671237377570957:=()
def tw12031858728735836065:=()
def tw12053753971735494428:=()
def tw12061635214170895988:=()
def tw12085537568306151556:=()
def tw12098410986641088346:=()
def tw12123847727815330016:=()
def tw12130938967591725091:=()
def tw12223793546479252442:=()
def tw12263900165067450890:=()
def tw12342689213779099937:=()
def tw12345222020593572738:=()
def tw12422170974560495047:=()
def tw12481075860374701457:=()
def tw12499918571467594883:=()
def tw12673975633444779018:=()
def tw1267792730483284097:=()
def tw12750205355158086460:=()
def tw12784881077637210484:=()
def tw1280278264870451214:=()
def tw12941221396993996738:=()
def tw12952246636664368433:=()
def tw13030214646033619311:=()
def tw13103710678839766051:=()
def tw1314879566769523087:=()
def tw13239901359666737750:=()
def tw13286148324437192964:=()
def tw13303385213316647661:=()
def tw13311828005708869691:=()
def tw13332865556912883037:=()
def tw13376321801007326471:=()
def tw13404692401215564486:=()
def tw13590590783309502108:=()
def tw13601637947966144640:=()
def tw13703335936186823161:=()
def tw13805816036220766946:=()
def tw138500024677842558:=()
def tw13946565567622862729:=()
def tw13953176870954791033:=()
def tw13969227007035651390:=()
def tw13975110668027002220:=()
def tw1397707039795704248:=()
def tw14006176460609645092:=()
def tw1406197506771645396:=()
def tw14113014766430684269:=()
def tw14153531955692073809:=()
def tw14160767798401450040:=()
def tw14164232118501530259:=()
def tw14255497076158478835:=()
def tw14318706288251213970:=()
def tw14353545770582395039:=()
def tw14358684697280110999:=()
def tw14368792345219703682:=()
def tw14377156371696104723:=()
def tw14456128284614856563:=()
def tw14481923217455703418:=()
def tw14509353684958019938:=()
def tw1453092569396803894:=()
def tw14583125864049069260:=()
def tw14632889213736109824:=()
def tw14666297647127568472:=()
def tw14694303638842432330:=()
def tw14741649280718790186:=()
def tw14745177073220727650:=()
def tw14784871542080989105:=()
def tw14788926340268217939:=()
def tw1483598641352008197:=()
def tw14906658742946443582:=()
def tw14913101067351614719:=()
def tw14987713558281497531:=()
def tw15008324919760579429:=()
def tw15059481458090253421:=()
def tw15099137847596039624:=()
def tw15102222706264152583:=()
def tw1513180074199436615:=()
def tw15282184496985724200:=()
def tw1529544811622032684:=()
def tw153249321637382440:=()
def tw15331973764662365217:=()
def tw15425574045060219179:=()
def tw15482923304174798080:=()
def tw15507439910646512524:=()
def tw15555727439483981751:=()
def tw15560181374028826248:=()
def tw15571780511777554142:=()
def tw1559131077754787488:=()
def tw15633802639206111853:=()
def tw15653553326345733760:=()
def tw15750831575474467138:=()
def tw15810092284438768156:=()
def tw15815517133100334601:=()
def tw15860102689694118479:=()
def tw15885885128394386573:=()
def tw16080163192062990619:=()
def tw16097682189858298657:=()
def tw16123735065349263233:=()
def tw1616329530400010928:=()
def tw16197015235873394313:=()
def tw16245406393013927205:=()
def tw162633438309618947:=()
def tw16291143654780646096:=()
def tw16301371235261011070:=()
def tw16317111791847083436:=()
def tw16319621656546770765:=()
def tw16362362082640441431:=()
def tw16469538687918660506:=()
def tw16532713961822102396:=()
def tw16578305262141982146:=()
def tw16579247218629968901:=()
def tw16696073309680568428:=()
def tw1677794574418699209:=()
def tw16813921772039872343:=()
def tw1682923346756780383:=()
def tw16938755201366823243:=()
def tw16948652389518896925:=()
def tw16964256304958330689:=()
def tw17060081625992221008:=()
def tw17088132666277029390:=()
def tw17157664248039975021:=()
def tw17195279197385329018:=()
def tw1723731767782165735:=()
def tw17394014262713952968:=()
def tw17411556744114054825:=()
def tw17420100249500033927:=()
def tw17451043789251026247:=()
def tw17459320996022386487:=()
def tw17517699113256633052:=()
def tw1752884317638088780:=()
def tw17585450517634840315:=()
def tw17603940760332025663:=()
def tw17616527647217366535:=()
def tw17706101000823313616:=()
def tw17813487530315493098:=()
def tw17856970585626983021:=()
def tw17956680737447855583:=()
def tw17994255241763100149:=()
def tw18014485423735102798:=()
def tw18043324622831726744:=()
def tw18046098261948567764:=()
def tw18072815193585734902:=()
def tw18131086637131828224:=()
def tw1823468435048748411:=()
def tw18322319944381793074:=()
def tw18335576190817311021:=()
def tw18419995656342505356:=()
def tw1857614390189965939:=()
def tw1863066220855108763:=()
def tw1889939093722276961:=()
def tw1941049557707862609:=()
def tw2022450697638020612:=()
def tw2052438945472485721:=()
def tw2086740813630023861:=()
def tw2130340644235085958:=()
def tw213472415987364039:=()
def tw2155877124833974742:=()
def tw2173682327217195790:=()
def tw2177142257128699312:=()
def tw2226338639848100003:=()
def tw2306758121383162821:=()
def tw2312641408701738460:=()
def tw2359945594642393272:=()
def tw2387915013418417497:=()
def tw2390615849882460192:=()
def tw24199929157446465:=()
def tw2428761297180574704:=()
def tw2440946552965082677:=()
def tw2471729987298405664:=()
def tw248780206271124638:=()
def tw2500569759505761520:=()
def tw2500865007869515006:=()
def tw2575348246425227397:=()
def tw2613983641225158486:=()
def tw2627457629134948083:=()
def tw2629987947954063118:=()
def tw270039160363392979:=()
def tw2732254956017886840:=()
def tw2813941084543080571:=()
def tw2868202111316964446:=()
def tw2884848420097848071:=()
def tw294397556419724337:=()
def tw3049943701528048749:=()
def tw3090960139340735840:=()
def tw3109861800385888471:=()
def tw3123822742926847997:=()
def tw3124885726616825350:=()
def tw3150506054837509031:=()
def tw3190375160151316730:=()
def tw3197715594985531049:=()
def tw3223324372086802053:=()
def tw3323070390896072268:=()
def tw3348932152058053777:=()
def tw3390882624758148481:=()
def tw339287045550577848:=()
def tw3399406590893554834:=()
def tw3441394868614278024:=()
def tw3465563592617392609:=()
def tw3509833884319053897:=()
def tw3530700654478158462:=()
def tw353198518154718024:=()
def tw358017245099104952:=()
def tw358167610038898823:=()
def tw3636124456664848747:=()
def tw3654686694978154980:=()
def tw366677032932090769:=()
def tw3667372369317530377:=()
def tw3675053141450614182:=()
def tw3689934693515859508:=()
def tw3727463963967904001:=()
def tw3915327479899499563:=()
def tw3938052860945373232:=()
def tw394776870999615771:=()
def tw4133846470698767536:=()
def tw4140315024571582894:=()
def tw4188365709673117663:=()
def tw4222816504890878193:=()
def tw4302734590463430951:=()
def tw43921002726538368:=()
def tw4424734402443642728:=()
def tw4503471091616457368:=()
def tw4576952077297236058:=()
def tw4592965173254029504:=()
def tw4599160361139712932:=()
def tw4599816675595224815:=()
def tw467072797300478791:=()
def tw4715514757324006992:=()
def tw4738660043148883374:=()
def tw478736165933491060:=()
def tw4822660481741945812:=()
def tw4840373927790173499:=()
def tw4847567178981057058:=()
def tw4858224112650712673:=()
def tw4929445447443754220:=()
def tw4975505060592254429:=()
def tw5107054230822690660:=()
def tw5148676147120433373:=()
def tw5164938825903824197:=()
def tw5181724077328303316:=()
def tw5202150877792531787:=()
def tw5258457292508003252:=()
def tw5345540822600843485:=()
def tw5364263395471740648:=()
def tw5422616945675889166:=()
def tw5442069500305087093:=()
def tw5445474914431630976:=()
def tw5464477466926799597:=()
def tw5487597211148160769:=()
def tw553631990448877374:=()
def tw5599417036747875598:=()
def tw5629203660072887135:=()
def tw5715403176945182073:=()
def tw5749667269105504272:=()
def tw594433404098170292:=()
def tw6024064247735995672:=()
def tw6101530409920850120:=()
def tw6209124259226224659:=()
def tw6211758303115396453:=()
def tw6267629007931867177:=()
def tw6286206118572023875:=()
def tw6305851789813281150:=()
def tw635780343763135712:=()
def tw6381715348174059698:=()
def tw6387069176665501747:=()
def tw6491833311134955244:=()
def tw6566922486642242487:=()
def tw6575983529850643714:=()
def tw6712372793816013351:=()
def tw6773861859781659080:=()
def tw6802978799707579475:=()
def tw6808503295363769968:=()
def tw6846316813699503272:=()
def tw6861901795356811735:=()
def tw6994310338850568863:=()
def tw7053269706500891316:=()
def tw7084097949759980793:=()
def tw7161056483074024963:=()
def tw7303974068870671933:=()
def tw741391919187868698:=()
def tw7453931402573218551:=()
def tw7463486838302136100:=()
def tw7472154565010765726:=()
def tw7540556846799313811:=()
def tw7638663176897102291:=()
def tw7713095010473933798:=()
def tw776166738319941736:=()
def tw7771553293945247235:=()
def tw7775636980223737279:=()
def tw7848216081053965484:=()
def tw7849977631586247927:=()
def tw787188772019393898:=()
def tw7879242613006297008:=()
def tw7952398740983174052:=()
def tw796494585800927100:=()
def tw8008941914508222488:=()
def tw8017785657375467693:=()
def tw8054105575475400366:=()
def tw8062621723574524516:=()
def tw8141991248836728876:=()
def tw8211810272410288023:=()
def tw8355106837981361122:=()
def tw8363191190363314329:=()
def tw8440345486098664119:=()
def tw849361095843609384:=()
def tw8515468798828147784:=()
def tw8570788428239992951:=()
def tw8578001152077627298:=()
def tw8602976246928730694:=()
def tw8635508162596083953:=()
def tw8650319816510218626:=()
def tw8655876385924144532:=()
def tw8731842516027392914:=()
def tw8751084171331563497:=()
def tw8769731663264917529:=()
def tw8795165074639981900:=()
def tw8887173458223150380:=()
def tw8904394509571065543:=()
def tw8961460317861702129:=()
def tw8966032773968319462:=()
def tw8989507457072557046:=()
def tw9019430200584492737:=()
def tw9064264378314371873:=()
def tw9130803097608639577:=()
def tw9145786929442432729:=()
def tw9155487433711930154:=()
def tw9182994102570117767:=()
def tw9226800399728418697:=()
def tw9249700454119819501:=()
def tw927481172600391482:=()
def tw9276024232479555502:=()
def tw9295087333911063812:=()
def tw9398855070421803687:=()
def tw9420794594083058746:=()
def tw9489069264377345813:=()
def tw9502230467595710355:=()
def tw9594359413215617444:=()
def tw9599551956400021931:=()
def tw963089097400472705:=()
def tw9635284371602323282:=()
def tw9654361061730014992:=()
def tw9720073503982361770:=()
def tw9744923594860730849:=()
def tw9825427747992627711:=()
def tw9830648701521418684:=()
def tw9868150652550402349:=()
def tw9890066148702970338:=()
end PySem.W.Fast
open PySem PySem.W PyProof.Rows
theorem PySem.Challenge.cw_mergeline_k11_days_looked_at_holds : PySem.Challenge.rw_mergeline_k11_days_looked_at.Holds := by
 w_on;o_law;k_head;(case hw=>w_witness2)
 k_fill
 refine Mg.walk (l:=PySem.Challenge.rw_mergeline_k11_days_looked_at) rfl rfl rfl (λw h Y=>PySem.W.kIn_of Y) ?F
 case F=>
  intro w mg h KX G;refine⟨⟨⟨⟨⟨?n1,?n2,?n3,?n4,?n5,?n6,?n7,?n8,?n9,?n10,?n11,?n12⟩,?n13,?n14⟩,?y1,?y2,?y3,?ymp,?yfo,?yru⟩,⟨?w1,?w2,?w3,?xa,?xb,?xc,?xd⟩,⟨?t0,?t1,?t2,?t3,?t4,?t5,?t6,?t7,?t8,?t9,?t10,?t11⟩,?ypl,?yxa,?d0,?d1,?d2,?d3,?d4,?d5,?d6,?d7,?d8,?d9,?d10,?d11,?d12,?d13,?d14,?d15,?d16,?d17,?d18,?d19,?d20,?d21,?d22,?d23,?d24,?d25,?d26,?d27,?d28,?d29,?d30,?d31,?d32,?d33,?d34,?d35,?d36,?d37,?d38,?d39,?d40,?d41⟩,?law⟩
  case n1=>exact dH KX G (by k_is)
  case n2=>exact dH KX G (by k_is)
  case n3=>exact dH KX G (by k_is)
  case n4=>exact dH KX G (by k_is)
  case n5=>exact dH KX G (by k_is)
  case n6=>exact dH KX G (by k_is)
  case n7=>exact dH KX G (by k_is)
  case n8=>exact dH KX G (by k_is)
  case n9=>exact dH KX G (by k_is)
  case n10=>exact dH KX G (by k_is)
  case n11=>exact dH KX G (by k_is)
  case n12=>exact dH KX G (by k_is)
  case n13=>exact dH KX G (by k_is)
  case n14=>exact dH KX G (by k_is)
  case y1=>exact dH KX G (by k_is)
  case y2=>exact dH KX G (by k_is)
  case y3=>exact dH KX G (by k_is)
  case w1=>exact dH KX G (by k_is)
  case w2=>exact dH KX G (by k_is)
  case w3=>exact dH KX G (by k_is)
  case ymp=>exact⟨_,iR KX G (by k_is)⟩
  case xa=>exact⟨_,iR KX G (by k_is)⟩
  case xb=>exact⟨_,iR KX G (by k_is)⟩
  case xc=>exact⟨_,iR KX G (by k_is)⟩
  case xd=>exact⟨_,iR KX G (by k_is)⟩
  case yfo=>refine⟨_,iR KX G (by k_is),Mg.zck (by decide) (by decide +kernel) (by k_is) (.cons rfl (Mg.rK (by k_is) (by decide) (.cons ⟨_,rfl⟩ (.cons ⟨_,rfl⟩ .nil))) (.cons rfl (Mg.rK (by k_is) (by decide) (.cons ⟨_,rfl⟩ .nil)) (.cons rfl (Mg.rK (by k_is) (by decide) (.cons ⟨_,rfl⟩ (.cons ⟨_,rfl⟩ .nil))) (.cons rfl (Mg.rK (by k_is) (by decide) (.cons ⟨_,rfl⟩ (.cons ⟨_,rfl⟩ (.cons ⟨_,rfl⟩ .nil)))) (.cons rfl (Mg.rK (by k_is) (by decide) (.cons ⟨_,rfl⟩ (.cons ⟨_,rfl⟩ (.cons ⟨_,rfl⟩ .nil)))) (.cons rfl (Mg.rK (by k_is) (by decide) (.cons ⟨_,rfl⟩ (.cons ⟨_,rfl⟩ (.cons ⟨_,rfl⟩ (.cons ⟨_,rfl⟩ .nil))))) .nil))))))⟩
  case yru=>refine⟨_,iR KX G (by k_is),Mg.zck (by decide) (by decide +kernel) (by k_is) (.cons rfl (Mg.rK (by k_is) (by decide) .nil) (.cons rfl (Mg.rK (by k_is) (by decide) (.cons ⟨_,rfl⟩ .nil)) (.cons rfl (Mg.rK (by k_is) (by decide) (.cons ⟨_,rfl⟩ .nil)) (.cons rfl (Mg.rK (by k_is) (by decide) (.cons ⟨_,rfl⟩ (.cons ⟨_,rfl⟩ .nil))) (.cons rfl (Mg.rK (by k_is) (by decide) .nil) .nil)))))⟩
  case t0=>kit_is
  case t1=>kit_is
  case t2=>kit_is
  case t3=>kit_is
  case t4=>kit_is
  case t5=>kit_is
  case t6=>kit_is
  case t7=>kit_is
  case t8=>kit_is
  case t9=>kit_is
  case t10=>kit_is
  case t11=>kit_is
  case ypl=>refine' Mg.zgu KX G ?aC ?a1 ?i1 ?l ?c ?k ?pg ?hd ?po ?sa ?mk ?kc ?z1 ?z2 ?z3 ?z4 ?z5 ?z6 ?z7;(case aC=>k_is);(case a1=>k_is);(case i1=>k_is);(case l=>k_is);(case c=>k_is);(case k=>k_is);(case pg=>k_is);(case hd=>k_is);(case po=>k_is);(case sa=>k_is);(case mk=>k_is);(case kc=>k_is);(case z1=>k_is);(case z2=>k_is);(case z3=>k_is);(case z4=>k_is);(case z5=>k_is);(case z6=>k_is);(case z7=>k_is)
  case yxa=>refine' Mg.zdU KX G ?xaC ?xaM ?xb1 ?xb2 ?xb3 ?xbv ?xa1 ?xi1 ?xl ?xc ?xk ?xlC ?xlM ?xe1 ?xe2 ?xe3 ?xe4 ?xe5 ?xe6 ?xsa ?xpo ?xhd ?xkp ?xz1 ?xz2 ?xrd ?xfc ?xsp ?xka ?xkc ?xkv ?xga ?xgh ?xmb ?xcl ?xcg ?zjR ?xmo;(case xaC=>k_is);(case xaM=>k_is);(case xb1=>k_is);(case xb2=>k_is);(case xb3=>k_is);(case xbv=>k_is);(case xa1=>k_is);(case xi1=>k_is);(case xl=>k_is);(case xc=>k_is);(case xk=>k_is);(case xlC=>k_is);(case xlM=>k_is);(case xe1=>rfl);(case xe2=>rfl);(case xe3=>rfl);(case xe4=>rfl);(case xe5=>rfl);(case xe6=>rfl);(case xsa=>k_is);(case xpo=>rfl);(case xhd=>k_is);(case xkp=>k_is);(case xz1=>k_is);(case xz2=>k_is);(case xrd=>k_is);(case xfc=>k_is);(case xsp=>k_is);(case xka=>kit_is);(case xkc=>kit_is);(case xkv=>kit_is);(case xga=>k_is);(case xgh=>k_is);(case xmb=>k_is);(case xcl=>k_is);(case xcg=>k_is);(case zjR=>k_is);(case xmo=>k_is)
  case d0=>refine' Mg.gQ KX G (λ_ _ _ _ _ _ us hl=>match us,hl with | [_,_,_],_=>rfl) ?a ?l ?c ?k;(case a=>k_is);(case l=>k_is);(case c=>k_is);(case k=>k_is)
  case d1=>refine' Mg.gQ KX G (λ_ _ _ _ _ _ us hl=>match us,hl with | [_],_=>rfl) ?a ?l ?c ?k;(case a=>k_is);(case l=>k_is);(case c=>k_is);(case k=>k_is)
  case d2=>refine' Mg.gQ KX G (λ_ _ _ _ _ _ us hl=>match us,hl with | [_],_=>rfl) ?a ?l ?c ?k;(case a=>k_is);(case l=>k_is);(case c=>k_is);(case k=>k_is)
  case d3=>refine' Mg.gQ KX G (λ_ _ _ _ _ _ us hl=>match us,hl with | [_],_=>rfl) ?a ?l ?c ?k;(case a=>k_is);(case l=>k_is);(case c=>k_is);(case k=>k_is)
  case d4=>refine' Mg.gQ KX G (λ_ _ _ _ _ _ us hl=>match us,hl with | [_],_=>rfl) ?a ?l ?c ?k;(case a=>k_is);(case l=>k_is);(case c=>k_is);(case k=>k_is)
  case d5=>refine' Mg.gQ KX G (λ_ _ _ _ _ _ us hl=>match us,hl with | [_,_],_=>rfl) ?a ?l ?c ?k;(case a=>k_is);(case l=>k_is);(case c=>k_is);(case k=>k_is)
  case d6=>refine' Mg.gQ KX G (λ_ _ _ _ _ _ us hl=>match us,hl with | [_,_,_],_=>rfl) ?a ?l ?c ?k;(case a=>k_is);(case l=>k_is);(case c=>k_is);(case k=>k_is)
  case d7=>refine' Mg.gQ KX G (λ_ _ _ _ _ _ us hl=>match us,hl with | [_],_=>rfl) ?a ?l ?c ?k;(case a=>k_is);(case l=>k_is);(case c=>k_is);(case k=>k_is)
  case d8=>refine' Mg.gQ KX G (λ_ _ _ _ _ _ us hl=>match us,hl with | [_,_],_=>rfl) ?a ?l ?c ?k;(case a=>k_is);(case l=>k_is);(case c=>k_is);(case k=>k_is)
  case d9=>refine' Mg.gQ KX G (λ_ _ _ _ _ _ us hl=>match us,hl with | [_],_=>rfl) ?a ?l ?c ?k;(case a=>k_is);(case l=>k_is);(case c=>k_is);(case k=>k_is)
  case d10=>refine' Mg.gQ KX G (λ_ _ _ _ _ _ us hl=>match us,hl with | [_,_],_=>rfl) ?a ?l ?c ?k;(case a=>k_is);(case l=>k_is);(case c=>k_is);(case k=>k_is)
  case d11=>refine' Mg.gQ KX G (λ_ _ _ _ _ _ us hl=>match us,hl with | [_,_],_=>rfl) ?a ?l ?c ?k;(case a=>k_is);(case l=>k_is);(case c=>k_is);(case k=>k_is)
  case d12=>refine' Mg.gQ KX G (λ_ _ _ _ _ _ us hl=>match us,hl with | [_,_],_=>rfl) ?a ?l ?c ?k;(case a=>k_is);(case l=>k_is);(case c=>k_is);(case k=>k_is)
  case d13=>refine' Mg.gQ KX G (λ_ _ _ _ _ _ us hl=>match us,hl with | [_],_=>rfl) ?a ?l ?c ?k;(case a=>k_is);(case l=>k_is);(case c=>k_is);(case k=>k_is)
  case d14=>refine' Mg.gQ KX G (λ_ _ _ _ _ _ us hl=>match us,hl with | [_],_=>rfl) ?a ?l ?c ?k;(case a=>k_is);(case l=>k_is);(case c=>k_is);(case k=>k_is)
  case d15=>refine' Mg.gQ KX G (λ_ _ _ _ _ _ us hl=>match us,hl with | [_,_],_=>rfl) ?a ?l ?c ?k;(case a=>k_is);(case l=>k_is);(case c=>k_is);(case k=>k_is)
  case d16=>refine' Mg.gQ KX G (λ_ _ _ _ _ _ us hl=>match us,hl with | [_],_=>rfl) ?a ?l ?c ?k;(case a=>k_is);(case l=>k_is);(case c=>k_is);(case k=>k_is)
  case d17=>refine' Mg.gQ KX G (λ_ _ _ _ _ _ us hl=>match us,hl with | [_,_],_=>rfl) ?a ?l ?c ?k;(case a=>k_is);(case l=>k_is);(case c=>k_is);(case k=>k_is)
  case d18=>refine' Mg.gQ KX G (λ_ _ _ _ _ _ us hl=>match us,hl with | [_,_],_=>rfl) ?a ?l ?c ?k;(case a=>k_is);(case l=>k_is);(case c=>k_is);(case k=>k_is)
  case d19=>refine' Mg.gQ KX G (λ_ _ _ _ _ _ us hl=>match us,hl with | [_,_],_=>rfl) ?a ?l ?c ?k;(case a=>k_is);(case l=>k_is);(case c=>k_is);(case k=>k_is)
  case d20=>refine' Mg.gQ KX G (λ_ _ _ _ _ _ us hl=>match us,hl with | [_,_],_=>rfl) ?a ?l ?c ?k;(case a=>k_is);(case l=>k_is);(case c=>k_is);(case k=>k_is)
  case d21=>refine' Mg.gQ KX G (λ_ _ _ _ _ _ us hl=>match us,hl with | [_,_],_=>rfl) ?a ?l ?c ?k;(case a=>k_is);(case l=>k_is);(case c=>k_is);(case k=>k_is)
  case d22=>refine' Mg.gQ KX G (λ_ _ _ _ _ _ us hl=>match us,hl with | [_,_],_=>rfl) ?a ?l ?c ?k;(case a=>k_is);(case l=>k_is);(case c=>k_is);(case k=>k_is)
  case d23=>refine' Mg.gQ KX G (λ_ _ _ _ _ _ us hl=>match us,hl with | [_,_],_=>rfl) ?a ?l ?c ?k;(case a=>k_is);(case l=>k_is);(case c=>k_is);(case k=>k_is)
  case d24=>refine' Mg.gQ KX G (λ_ _ _ _ _ _ us hl=>match us,hl with | [_,_],_=>rfl) ?a ?l ?c ?k;(case a=>k_is);(case l=>k_is);(case c=>k_is);(case k=>k_is)
  case d25=>refine' Mg.gQ KX G (λ_ _ _ _ _ _ us hl=>match us,hl with | [_,_],_=>rfl) ?a ?l ?c ?k;(case a=>k_is);(case l=>k_is);(case c=>k_is);(case k=>k_is)
  case d26=>refine' Mg.gQ KX G (λ_ _ _ _ _ _ us hl=>match us,hl with | [_,_],_=>rfl) ?a ?l ?c ?k;(case a=>k_is);(case l=>k_is);(case c=>k_is);(case k=>k_is)
  case d27=>refine' Mg.gQ KX G (λ_ _ _ _ _ _ us hl=>match us,hl with | [_,_],_=>rfl) ?a ?l ?c ?k;(case a=>k_is);(case l=>k_is);(case c=>k_is);(case k=>k_is)
  case d28=>refine' Mg.gQ KX G (λ_ _ _ _ _ _ us hl=>match us,hl with | [_,_],_=>rfl) ?a ?l ?c ?k;(case a=>k_is);(case l=>k_is);(case c=>k_is);(case k=>k_is)
  case d29=>refine' Mg.gQ KX G (λ_ _ _ _ _ _ us hl=>match us,hl with | [_,_],_=>rfl) ?a ?l ?c ?k;(case a=>k_is);(case l=>k_is);(case c=>k_is);(case k=>k_is)
  case d30=>refine' Mg.gQ KX G (λ_ _ _ _ _ _ us hl=>match us,hl with | [_,_,_],_=>rfl) ?a ?l ?c ?k;(case a=>k_is);(case l=>k_is);(case c=>k_is);(case k=>k_is)
  case d31=>refine' Mg.gQ KX G (λ_ _ _ _ _ _ us hl=>match us,hl with | [_],_=>rfl) ?a ?l ?c ?k;(case a=>k_is);(case l=>k_is);(case c=>k_is);(case k=>k_is)
  case d32=>refine' Mg.gQ KX G (λ_ _ _ _ _ _ us hl=>match us,hl with | [_],_=>rfl) ?a ?l ?c ?k;(case a=>k_is);(case l=>k_is);(case c=>k_is);(case k=>k_is)
  case d33=>refine' Mg.gQ KX G (λ_ _ _ _ _ _ us hl=>match us,hl with | [_],_=>rfl) ?a ?l ?c ?k;(case a=>k_is);(case l=>k_is);(case c=>k_is);(case k=>k_is)
  case d34=>refine' Mg.gQ KX G (λ_ _ _ _ _ _ us hl=>match us,hl with | [_],_=>rfl) ?a ?l ?c ?k;(case a=>k_is);(case l=>k_is);(case c=>k_is);(case k=>k_is)
  case d35=>refine' Mg.gQ KX G (λ_ _ _ _ _ _ us hl=>match us,hl with | [_,_],_=>rfl) ?a ?l ?c ?k;(case a=>k_is);(case l=>k_is);(case c=>k_is);(case k=>k_is)
  case d36=>refine' Mg.gQ KX G (λ_ _ _ _ _ _ us hl=>match us,hl with | [_,_,_],_=>rfl) ?a ?l ?c ?k;(case a=>k_is);(case l=>k_is);(case c=>k_is);(case k=>k_is)
  case d37=>refine' Mg.gQ KX G (λ_ _ _ _ _ _ us hl=>match us,hl with | [_],_=>rfl) ?a ?l ?c ?k;(case a=>k_is);(case l=>k_is);(case c=>k_is);(case k=>k_is)
  case d38=>refine' Mg.gQ KX G (λ_ _ _ _ _ _ us hl=>match us,hl with | [_,_],_=>rfl) ?a ?l ?c ?k;(case a=>k_is);(case l=>k_is);(case c=>k_is);(case k=>k_is)
  case d39=>refine' Mg.gQ KX G (λ_ _ _ _ _ _ us hl=>match us,hl with | [_,_],_=>rfl) ?a ?l ?c ?k;(case a=>k_is);(case l=>k_is);(case c=>k_is);(case k=>k_is)
  case d40=>refine' Mg.gQ KX G (λ_ _ _ _ _ _ us hl=>match us,hl with | [_,_,_,_],_=>rfl) ?a ?l ?c ?k;(case a=>k_is);(case l=>k_is);(case c=>k_is);(case k=>k_is)
  case d41=>refine' Mg.gQ KX G (λ_ _ _ _ _ _ us hl=>match us,hl with | [_,_,_,_],_=>rfl) ?a ?l ?c ?k;(case a=>k_is);(case l=>k_is);(case c=>k_is);(case k=>k_is)
  case law=>refine' Mg.gQ KX G (λ_ _ _ _ _ _ us hl=>match us,hl with | [_],_=>rfl) ?a ?l ?c ?k;(case a=>k_is);(case l=>k_is);(case c=>k_is);(case k=>k_is)
